/- Plain arithmetic of numbers as rows of binary digits, the lowest first: what a row of digits is worth, its digits, and rows without noughts above. No program is named here. -/
namespace Go.Proofs.Ytfmllfolpcimpaa

def val : List Nat → Nat
  | [] => 0
  | b :: r => b + 2 * val r
def bit (a i : Nat) : Nat := a / 2 ^ i % 2
def Bin (l : List Nat) : Prop := ∀ b ∈ l, b < 2
def Tight (l : List Nat) : Prop := ∀ k, val l < 2 ^ k → l.length ≤ k

theorem bit_lt (a i : Nat) : bit a i < 2 := Nat.mod_lt _ (by decide)
theorem bit_le (a i : Nat) : bit a i ≤ 1 := by have := bit_lt a i; omega

theorem Bin.nil : Bin [] := by intro b hb; cases hb
theorem Bin.cons_inv {b : Nat} {l : List Nat} (h : Bin (b :: l)) : b < 2 ∧ Bin l :=
  ⟨h b List.mem_cons_self, fun x hx => h x (List.mem_cons_of_mem _ hx)⟩
theorem Bin.cons {b : Nat} {l : List Nat} (hb : b < 2) (h : Bin l) : Bin (b :: l) := by
  intro x hx
  rcases List.mem_cons.1 hx with rfl | hx
  · exact hb
  · exact h x hx
theorem Bin.append {l m : List Nat} (h : Bin l) (g : Bin m) : Bin (l ++ m) := by
  intro b hb
  rcases List.mem_append.1 hb with hb | hb
  · exact h b hb
  · exact g b hb
theorem Bin.one {b : Nat} (h : b < 2) : Bin [b] := Bin.cons h Bin.nil
theorem Bin.take {l : List Nat} (h : Bin l) (k : Nat) : Bin (l.take k) := fun b hb => h b (List.mem_of_mem_take hb)
theorem Bin.drop {l : List Nat} (h : Bin l) (k : Nat) : Bin (l.drop k) := fun b hb => h b (List.mem_of_mem_drop hb)
theorem Bin.zeros (k : Nat) : Bin (List.replicate k 0) := fun b hb => by rw [(List.mem_replicate.1 hb).2]; decide

theorem val_cons (b : Nat) (l : List Nat) : val (b :: l) = b + 2 * val l := rfl
theorem val_nil : val [] = 0 := rfl
theorem val_one (b : Nat) : val [b] = b := by simp [val]
theorem val_append (l m : List Nat) : val (l ++ m) = val l + 2 ^ l.length * val m := by
  induction l with
  | nil => simp [val]
  | cons b l ih =>
    rw [List.cons_append, val_cons, val_cons, ih, List.length_cons, Nat.pow_succ, Nat.mul_add, Nat.mul_comm (2 ^ l.length) 2, Nat.mul_assoc]
    omega
theorem val_snoc (l : List Nat) (b : Nat) : val (l ++ [b]) = val l + 2 ^ l.length * b := by rw [val_append, val_one]
theorem val_lt (l : List Nat) (h : Bin l) : val l < 2 ^ l.length := by
  induction l with
  | nil => simp [val]
  | cons b l ih =>
    have hb := h.cons_inv.1
    have hl := ih h.cons_inv.2
    rw [val_cons, List.length_cons, Nat.pow_succ]
    omega
theorem val_zeros (k : Nat) : val (List.replicate k 0) = 0 := by
  induction k with
  | zero => rfl
  | succ k ih => rw [List.replicate_succ, val_cons, ih]
theorem val_zero_append (k : Nat) (l : List Nat) : val (List.replicate k 0 ++ l) = 2 ^ k * val l := by
  rw [val_append, val_zeros, List.length_replicate, Nat.zero_add]

theorem pow_pos2 (k : Nat) : 0 < 2 ^ k := Nat.pow_pos (by decide)

/-- The first k digits, and the others. -/
theorem val_split (l : List Nat) (h : Bin l) (k : Nat) : val (l.take k) = val l % 2 ^ k ∧ val (l.drop k) = val l / 2 ^ k := by
  by_cases hk : k ≤ l.length
  · have e : val l = val (l.take k) + 2 ^ k * val (l.drop k) := by
      have := val_append (l.take k) (l.drop k)
      rw [List.take_append_drop, List.length_take, Nat.min_eq_left hk] at this
      exact this
    have hlt : val (l.take k) < 2 ^ k := by
      have := val_lt _ (h.take k)
      rwa [List.length_take, Nat.min_eq_left hk] at this
    rw [e]
    refine ⟨?_, ?_⟩
    · rw [Nat.add_mul_mod_self_left, Nat.mod_eq_of_lt hlt]
    · rw [Nat.add_mul_div_left _ _ (pow_pos2 k), Nat.div_eq_of_lt hlt, Nat.zero_add]
  · have hlt : val l < 2 ^ k := Nat.lt_of_lt_of_le (val_lt l h) (Nat.pow_le_pow_right (by decide) (by omega))
    rw [List.take_of_length_le (by omega), List.drop_eq_nil_of_le (by omega), Nat.mod_eq_of_lt hlt, Nat.div_eq_of_lt hlt]
    exact ⟨rfl, rfl⟩

/-- A digit, by its place; beyond the end it is 0. -/
theorem get_bit (l : List Nat) (h : Bin l) (i : Nat) : l.getD i 0 = bit (val l) i := by
  induction l generalizing i with
  | nil => simp [val, bit]
  | cons b l ih =>
    have hb := h.cons_inv.1
    cases i with
    | zero => simp only [List.getD_cons_zero, bit, val_cons, Nat.pow_zero, Nat.div_one]; omega
    | succ i =>
      rw [List.getD_cons_succ, ih h.cons_inv.2, bit, bit, val_cons, Nat.pow_succ, Nat.mul_comm (2 ^ i) 2, ← Nat.div_div_eq_div_mul]
      congr 2
      omega

/-- One digit more of a number's higher part. -/
theorem div_step (a k : Nat) : a / 2 ^ k = 2 * (a / 2 ^ (k + 1)) + bit a k := by
  rw [bit, Nat.pow_succ, ← Nat.div_div_eq_div_mul]
  omega
/-- One digit more of a number's lower part. -/
theorem mod_step (a k : Nat) : a % 2 ^ (k + 1) = a % 2 ^ k + 2 ^ k * bit a k := by
  rw [bit, Nat.pow_succ, Nat.mod_mul]
theorem bit_zero {a k i : Nat} (h : a < 2 ^ k) (hi : k ≤ i) : bit a i = 0 := by
  rw [bit, Nat.div_eq_of_lt (Nat.lt_of_lt_of_le h (Nat.pow_le_pow_right (by decide) hi))]

theorem tight_nil : Tight [] := fun _ _ => Nat.zero_le _
theorem tight_snoc (l : List Nat) : Tight (l ++ [1]) := by
  intro k hk
  rw [val_snoc] at hk
  rcases Nat.lt_or_ge l.length k with h | h
  · rw [List.length_append, List.length_singleton]; omega
  · have := Nat.pow_le_pow_right (n := 2) (by decide) h
    omega
theorem Tight.len_le {l : List Nat} (h : Tight l) {k : Nat} (hk : val l < 2 ^ k) : l.length ≤ k := h k hk
theorem Tight.lt_iff {l : List Nat} (h : Tight l) (hb : Bin l) (k : Nat) : l.length ≤ k ↔ val l < 2 ^ k :=
  ⟨fun hk => Nat.lt_of_lt_of_le (val_lt l hb) (Nat.pow_le_pow_right (by decide) hk), h k⟩
theorem Tight.zero_iff {l : List Nat} (h : Tight l) (hb : Bin l) : l.length = 0 ↔ val l = 0 := by
  have := h.lt_iff hb 0
  rw [Nat.pow_zero] at this
  omega

/-- What 'trim' leaves off: a nought at the end. -/
theorem take_trim (l : List Nat) (hb : Bin l) (k : Nat) (h0 : l.getD k 0 = 0) : val (l.take (k + 1)) = val (l.take k) := by
  rw [(val_split l hb (k + 1)).1, (val_split l hb k).1, mod_step, ← get_bit l hb, h0]
  omega
theorem take_tight (l : List Nat) (k : Nat) (hk : k + 1 ≤ l.length) (h1 : l.getD k 0 = 1) : Tight (l.take (k + 1)) := by
  rw [List.take_succ_eq_append_getElem (by omega)]
  have : l[k] = 1 := by rw [List.getD_eq_getElem?_getD, List.getElem?_eq_getElem (by omega)] at h1; exact h1
  rw [this]
  exact tight_snoc _

/-! ### adding -/
/-- One round of adding: x is the sum of two digits and what is carried. -/
theorem add_round (a b k s c : Nat) (hs : s + c * 2 ^ k = a % 2 ^ k + b % 2 ^ k) :
    s + 2 ^ k * ((bit a k + bit b k + c) % 2) + (bit a k + bit b k + c) / 2 * 2 ^ (k + 1) = a % 2 ^ (k + 1) + b % 2 ^ (k + 1) := by
  rw [mod_step, mod_step, Nat.pow_succ]
  have hd := Nat.div_add_mod (bit a k + bit b k + c) 2
  have e : 2 ^ k * (bit a k + bit b k + c) = 2 ^ k * (2 * ((bit a k + bit b k + c) / 2) + (bit a k + bit b k + c) % 2) := by rw [hd]
  generalize (bit a k + bit b k + c) % 2 = m at *
  generalize (bit a k + bit b k + c) / 2 = q at *
  have e1 : q * (2 ^ k * 2) = 2 ^ k * (2 * q) := by rw [Nat.mul_comm q, Nat.mul_assoc]
  rw [e1]
  rw [Nat.mul_add, Nat.mul_add, Nat.mul_add] at e
  have e2 : c * 2 ^ k = 2 ^ k * c := Nat.mul_comm _ _
  omega
theorem add_done (a b k s : Nat) (ha : a < 2 ^ k) (hb : b < 2 ^ k) (hs : s + 0 * 2 ^ k = a % 2 ^ k + b % 2 ^ k) : s = a + b := by
  rw [Nat.mod_eq_of_lt ha, Nat.mod_eq_of_lt hb] at hs
  omega

/-! ### taking away -/
theorem sub_round (a b k s c : Nat) (hc : c ≤ 1) (hs : s + b % 2 ^ k = a % 2 ^ k + c * 2 ^ k) :
    s + 2 ^ k * ((2 + bit a k - bit b k - c) % 2) + b % 2 ^ (k + 1) = a % 2 ^ (k + 1) + (1 - (2 + bit a k - bit b k - c) / 2) * 2 ^ (k + 1) := by
  rw [mod_step, mod_step, Nat.pow_succ]
  have ha := bit_le a k
  have hb := bit_le b k
  generalize bit a k = x at *
  generalize bit b k = y at *
  have hx : x = 0 ∨ x = 1 := by omega
  have hy : y = 0 ∨ y = 1 := by omega
  have hc' : c = 0 ∨ c = 1 := by omega
  rcases hx with rfl | rfl <;> rcases hy with rfl | rfl <;> rcases hc' with rfl | rfl <;> simp at hs ⊢ <;> omega
theorem sub_done (a b k s c : Nat) (hc : c ≤ 1) (ha : a < 2 ^ k) (hba : b ≤ a) (hl : s < 2 ^ k) (hs : s + b % 2 ^ k = a % 2 ^ k + c * 2 ^ k) : s = a - b := by
  rw [Nat.mod_eq_of_lt ha, Nat.mod_eq_of_lt (Nat.lt_of_le_of_lt hba ha)] at hs
  have hc' : c = 0 ∨ c = 1 := by omega
  rcases hc' with rfl | rfl <;> omega

/-! ### which is more -/
def sgn (a b : Nat) : Int := if b < a then 1 else if a < b then -1 else 0
theorem sgn_gt {a b : Nat} (h : b < a) : sgn a b = 1 := if_pos h
theorem sgn_lt {a b : Nat} (h : a < b) : sgn a b = -1 := by rw [sgn, if_neg (by omega), if_pos h]
theorem sgn_eq {a b : Nat} (h : a = b) : sgn a b = 0 := by rw [sgn, if_neg (by omega), if_neg (by omega)]
theorem sgn_neg (a b : Nat) : sgn b a = - sgn a b := by
  unfold sgn
  by_cases h : b < a
  · rw [if_neg (by omega), if_pos h, if_pos h]
  · by_cases g : a < b
    · rw [if_pos g, if_neg h, if_pos g]; rfl
    · rw [if_neg g, if_neg h, if_neg h, if_neg g]; rfl
theorem cmp_gt {a b k : Nat} (h : a / 2 ^ (k + 1) = b / 2 ^ (k + 1)) (hb : bit b k < bit a k) : b < a := by
  have h1 := div_step a k
  have h2 := div_step b k
  have : b / 2 ^ k < a / 2 ^ k := by omega
  rcases Nat.lt_or_ge b a with g | g
  · exact g
  · have := Nat.div_le_div_right (c := 2 ^ k) g; omega
theorem cmp_eq {a b k : Nat} (h : a / 2 ^ (k + 1) = b / 2 ^ (k + 1)) (hb : bit a k = bit b k) : a / 2 ^ k = b / 2 ^ k := by
  rw [div_step a k, div_step b k, h, hb]

/-! ### times -/
theorem mul_round0 (a b k : Nat) (h : bit b k = 0) : a * (b / 2 ^ (k + 1)) + a * (b / 2 ^ (k + 1)) = a * (b / 2 ^ k) := by
  rw [div_step b k, h, ← Nat.mul_add]; congr 1; omega
theorem mul_round1 (a b k : Nat) (h : bit b k = 1) : a * (b / 2 ^ (k + 1)) + a * (b / 2 ^ (k + 1)) + a = a * (b / 2 ^ k) := by
  rw [div_step b k, h, Nat.mul_add, Nat.mul_one, ← Nat.mul_add]; congr 2; omega

/-! ### divided: the rest, one digit more -/
theorem div_round (a d k : Nat) (_hd : 0 < d) : a / 2 ^ k = d * (2 * (a / 2 ^ (k + 1) / d)) + (2 * (a / 2 ^ (k + 1) % d) + bit a k) := by
  have h := Nat.div_add_mod (a / 2 ^ (k + 1)) d
  have := div_step a k
  have e : d * (2 * (a / 2 ^ (k + 1) / d)) = 2 * (d * (a / 2 ^ (k + 1) / d)) := Nat.mul_left_comm _ _ _
  omega
theorem div_round_lt {a d k : Nat} (hd : 0 < d) (h : 2 * (a / 2 ^ (k + 1) % d) + bit a k < d) :
    a / 2 ^ k / d = 2 * (a / 2 ^ (k + 1) / d) ∧ a / 2 ^ k % d = 2 * (a / 2 ^ (k + 1) % d) + bit a k := by
  have e := div_round a d k hd
  rw [e]
  exact ⟨by rw [Nat.mul_add_div hd, Nat.div_eq_of_lt h, Nat.add_zero], by rw [Nat.mul_add_mod, Nat.mod_eq_of_lt h]⟩
theorem div_round_ge {a d k : Nat} (hd : 0 < d) (h : d ≤ 2 * (a / 2 ^ (k + 1) % d) + bit a k) :
    a / 2 ^ k / d = 2 * (a / 2 ^ (k + 1) / d) + 1 ∧ a / 2 ^ k % d = 2 * (a / 2 ^ (k + 1) % d) + bit a k - d := by
  have e := div_round a d k hd
  have hr := Nat.mod_lt (a / 2 ^ (k + 1)) hd
  have hb := bit_le a k
  generalize a / 2 ^ (k + 1) % d = r at *
  generalize a / 2 ^ (k + 1) / d = q at *
  have e2 : a / 2 ^ k = d * (2 * q + 1) + (2 * r + bit a k - d) := by
    rw [e, Nat.mul_add, Nat.mul_one]; omega
  rw [e2]
  exact ⟨by rw [Nat.mul_add_div hd, Nat.div_eq_of_lt (by omega), Nat.add_zero], by rw [Nat.mul_add_mod, Nat.mod_eq_of_lt (by omega)]⟩

end Go.Proofs.Ytfmllfolpcimpaa
