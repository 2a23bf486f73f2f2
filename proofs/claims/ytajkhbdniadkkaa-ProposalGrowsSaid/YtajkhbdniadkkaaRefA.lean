/- What the small functions on digits answer: 'at', 'trim', 'Of'. -/
import Derived.Test.YtajkhbdniadkkaaMem
namespace Go.Proofs.Ytajkhbdniadkkaa
open Go.RowKit
set_option linter.unusedVariables false

theorem at_in (w : World) (ad : Addr) (c n : Nat) (i : Int) (x : Int) (hn : n ≤ 2147483647) (h0 : 0 ≤ i) (h1 : i < n) (hc : w.cell? (ad.add i.toNat) = some (.int .u8 x)) :
    Calls Try.prog 70 #[.slice (some ad) n c, .int .i64 i] w fun e w' => e = .returned (.int .u8 x) ∧ w = w' := by
  go_enter Try.func70, Try.ntmps70
  go_wp2
  go_ret
  exact ⟨rfl, rfl⟩
theorem at_out (w : World) (ad : Addr) (c n : Nat) (i : Int) (hn : n ≤ 2147483647) (h1 : (n : Int) ≤ i) :
    Calls Try.prog 70 #[.slice (some ad) n c, .int .i64 i] w fun e w' => e = .returned (.int .u8 0) ∧ w = w' := by
  go_enter Try.func70, Try.ntmps70
  go_wp2
  go_ret
  exact ⟨rfl, rfl⟩
theorem ret_u8 {a b : Int} (h : a = b) : Ending.returned (.int .u8 a) = .returned (.int .u8 b) := by rw [h]
/-- 'at': a number's digit. -/
theorem at_num {w : World} {base : Nat} {v : Value} {l : List Nat} (hr : Row w base v l) (hb : Bin l) (hn : l.length ≤ 2147483647) (i : Int) (h0 : 0 ≤ i) :
    Calls Try.prog 70 #[v, .int .i64 i] w fun e w' => e = .returned (.int .u8 ((bit (val l) i.toNat : Nat) : Int)) ∧ w = w' := by
  obtain ⟨ad, c, rfl, hc, _, _, hcells⟩ := hr
  by_cases h1 : i < l.length
  · have hx := hcells.at_ (j := i.toNat) (by omega)
    rw [get_bit l hb] at hx
    exact at_in w ad c l.length i _ hn h0 h1 hx
  · refine (at_out w ad c l.length i hn (by omega)).mono ?_
    rintro e w' ⟨rfl, rfl⟩
    refine ⟨ret_u8 ?_, rfl⟩
    rw [bit_zero (val_lt l hb) (by omega)]
    rfl


def lenOf : Value → Nat
  | .slice _ n _ => n
  | _ => 0
def TrimRet (w : World) (ad : Addr) (c : Nat) (l : List Nat) (e : Ending) (w' : World) : Prop :=
  ∃ k, k ≤ l.length ∧ e = .returned (.slice (some ad) k c) ∧ val (l.take k) = val l ∧ Tight (l.take k) ∧ w = w'
set_option maxHeartbeats 400000 in
theorem trim_in (w : World) (ad : Addr) (c : Nat) (l : List Nat) (hb : Bin l) (hc : l.length ≤ c) (hn : l.length ≤ 2147483647) (h : Cells w ad l) :
    Calls Try.prog 71 #[.slice (some ad) l.length c] w (TrimRet w ad c l) := by
  go_enter Try.func71, Try.ntmps71
  go_wp2
  go_loop [0] (fun v => ∃ k : Nat, k ≤ l.length ∧ v = .slice (some ad) k c ∧ Hid (val (l.take k) = val l)) (fun v => lenOf v)
  case atStart => exact ⟨l.length, Nat.le_refl _, rfl, by show val _ = val l; rw [List.take_length]⟩
  case round =>
    obtain ⟨k, hk, rfl, hval⟩ := hrel
    rcases k with _ | k
    · go_wp2
      go_ret
      exact ⟨0, Nat.zero_le _, rfl, hval.out, by rw [List.take_zero]; exact tight_nil, rfl⟩
    · have hcell := h.at_ (j := k) (by omega)
      have hb1 : l.getD k 0 < 2 := by rw [get_bit l hb]; exact bit_lt _ _
      have hcase : l.getD k 0 = 0 ∨ l.getD k 0 = 1 := by omega
      rcases hcase with h0 | h1
      · have H0 := Lib.hid h0
        rw [h0] at hcell
        clear h0 hb1
        go_wp2
        go_round
        case rel => exact ⟨k, by omega, rfl, by show val _ = val l; rw [← take_trim l hb k H0.out]; exact hval.out⟩
        case measure => simp [lenOf]
      · have H1 := Lib.hid h1
        rw [h1] at hcell
        clear h1 hb1
        go_wp2
        go_ret
        exact ⟨k + 1, hk, rfl, hval.out, take_tight l k hk H1.out, rfl⟩

/-- 'trim': a row of digits, as a number. -/
theorem trim_row {w : World} {base : Nat} {v : Value} {l : List Nat} (hr : Row w base v l) (hb : Bin l) (hn : l.length ≤ 2147483647) :
    Calls Try.prog 71 #[v] w fun e w' => (∃ v', e = .returned v' ∧ Num w base v' (val l)) ∧ w = w' := by
  obtain ⟨ad, c, rfl, hc, h1, h2, hcells⟩ := hr
  refine (trim_in w ad c l hb hc hn hcells).mono ?_
  rintro e w' ⟨k, hk, rfl, hv, ht, rfl⟩
  have hl : (l.take k).length = k := by rw [List.length_take]; omega
  exact ⟨⟨_, rfl, l.take k, ⟨ad, c, by rw [hl], by rw [hl]; omega, h1, h2, hcells.take k⟩, hb.take k, ht, hv⟩, rfl⟩

/-! ### 'Of' -/
def OfRel (w : World) (x X : Nat) (v : Value) (wr : World) (l : List Nat) : Prop :=
  X = x / 2 ^ l.length ∧ Bin l ∧ val l = x % 2 ^ l.length ∧ (0 < l.length → 0 < x / 2 ^ (l.length - 1)) ∧ Own wr w.heap.size v l ∧ Below w.heap.size w wr
theorem of_len {x k : Nat} (hx : x < 18446744073709551616) (h : 0 < x / 2 ^ k) : k < 64 := by
  rcases Nat.lt_or_ge k 64 with g | g
  · exact g
  · have h2 : 2 ^ 64 ≤ 2 ^ k := Nat.pow_le_pow_right (by decide) g
    rw [Nat.div_eq_of_lt (by omega)] at h
    omega
theorem of_round {w wr w1 : World} {x X : Nat} {v v' : Value} {l : List Nat} {o : Obj} (h : OfRel w x X v wr l) (hX : 0 < X) (hO : Own w1 w.heap.size v' (l ++ [X % 2])) (hg : (wr.alloc o).grownBy w1 v.ownBlock) :
    OfRel w x (X / 2) v' w1 (l ++ [X % 2]) := by
  obtain ⟨h1, h2, h3, h4, h5, h6⟩ := h
  refine ⟨?_, h2.append (Bin.one (Nat.mod_lt _ (by decide))), ?_, ?_, hO, ?_⟩
  · rw [List.length_append, List.length_singleton, Nat.pow_succ, ← Nat.div_div_eq_div_mul, ← h1]
  · rw [val_snoc, h3, List.length_append, List.length_singleton, mod_step, bit, ← h1]
  · intro _
    rw [List.length_append, List.length_singleton, Nat.add_sub_cancel, ← h1]
    exact hX
  · refine (h6.alloc h6.size o).grown hg ?_ ?_
    · have := h6.size; simp; omega
    · intro k hk
      exact (h5.lt k hk).1
theorem of_end {w wr : World} {x : Nat} {v : Value} {l : List Nat} (h : OfRel w x 0 v wr l) : RetOwn w x (.returned v) wr := by
  obtain ⟨h1, h2, h3, h4, h5, h6⟩ := h
  have hp := pow_pos2 l.length
  have hx : x < 2 ^ l.length := by
    rcases Nat.lt_or_ge x (2 ^ l.length) with g | g
    · exact g
    · have := Nat.div_pos g hp; omega
  rw [Nat.mod_eq_of_lt hx] at h3
  refine ⟨v, l, rfl, h5, h2, ?_, h3, h6⟩
  intro k hk
  rw [h3] at hk
  rcases Nat.lt_or_ge k l.length with g | g
  · have g4 := h4 (by omega)
    rw [Nat.div_eq_of_lt (Nat.lt_of_lt_of_le hk (Nat.pow_le_pow_right (by decide) (by omega)))] at g4
    omega
  · exact g
set_option maxHeartbeats 400000 in
theorem of_own (w : World) (x : Nat) (hx : x < 18446744073709551616) :
    Calls Try.prog 51 #[.int .u64 (x : Int)] w (RetOwn w x) := by
  go_enter Try.func51, Try.ntmps51
  go_wp2
  go_loopw [0, 3] (fun z v wr => ∃ X : Nat, z = .int .u64 (X : Int) ∧ X < 18446744073709551616 ∧ ∃ l, OfRel w x X v wr l) (fun z _ _ => (intOf z).toNat)
  case atStart =>
    exact ⟨x, rfl, hx, [], by simp, Bin.nil, by simp [val, Nat.mod_one], by simp, Own.empty w (Nat.le_refl _), (Below.refl _ _).alloc (Nat.le_refl _) _⟩
  case round =>
    obtain ⟨X, rfl, hX, l, hrel⟩ := hrel
    by_cases h0 : X = 0
    · subst h0
      go_wp2
      go_ret
      exact of_end hrel
    · have hown := hrel.2.2.2.2.1
      have hsz := hrel.2.2.2.2.2.size
      have hlen := of_len hx (k := l.length) (by rw [← hrel.1]; omega)
      have hpos : 0 < X := by omega
      clear h0
      go_wp2_with (at_builtin; refine wpList_append_row rfl (.tmp 9) (.tmp 13) rfl w.heap.size _ l rfl (hown.alloc _) wr.heap.size _ [X % 2] rfl (Row.one wr _ _ (by omega)) (by simp; omega) (by simp; omega) ?_; intro v1 w1 hO hg _)
      go_outline
      go_roundw
      case rel => exact ⟨X / 2, by go_num, by omega, _, of_round hrel hpos hO hg⟩
      case measure => simp [intOf]; omega

theorem of_any (w : World) (x : Nat) (hx : x < 18446744073709551616) :
    Calls Try.prog 51 #[.int .u64 (x : Int)] w (RetNum w x) :=
  (of_own w x hx).mono fun _ _ h => h.num

end Go.Proofs.Ytajkhbdniadkkaa
