/- Layer 17 (room): a pod is taken out again (Take). -/
import Derived.Test.YtdphooobgbminaaPk4
import Derived.Test.YtdphooobgbminaaProg
import Derived.WalkKit
import Derived.Below
import Derived.Maps.AppendAt
import Derived.Lib.Hide
import Derived.Shelf.Bits.Mul64
import Derived.Shelf.Small.Bits
namespace Go.Proofs.Ytdphooobgbminaa.Rm
open Go.RowKit Go.Shelf Go.Lib Go.Sort Go.Deep
open Go.Joins (cell_of_block unfrozen_of_block block_setCell)
open Go.Proofs.Ytdphooobgbminaa.Ow
set_option linter.unusedVariables false
set_option linter.unusedSimpArgs false
set_option maxRecDepth 20000

set_option maxHeartbeats 8000000 in
theorem rm_take (w : World) (R P : Array Value) (r : Rmo) (x : Pd) (hR : RmV w R r) (hP : PdS w P x) (hn : I64 r.cpu ∧ I64 r.mem) (hx : I64 x.cpu ∧ I64 x.mem) (hk : 0 ≤ r.pods ∧ r.pods ≤ 1000001) :
    Calls Try.prog 10 #[.agg R, .agg P] w fun e w' => (∃ R', e = .returned (.agg R') ∧ Hid (RmV w R' (takeR r x))) ∧ Below w.heap.size w w' := by
  have mixed : Try.prog.follows .mixedOrders = true := by kernel_rfl
  obtain ⟨d0, d1, d2, d3, d4, d5, d6, eR, RV⟩ := hR.lit
  have sP := hP.1
  have p4 : P[4]? = some (.int .i64 x.cpu) := hP.2.2.2.2.2.1
  have p5 : P[5]? = some (.int .i64 x.mem) := hP.2.2.2.2.2.2.1
  obtain ⟨m1, hm1⟩ : ∃ v, v = clamp (r.cpu - x.cpu) := ⟨_, rfl⟩
  obtain ⟨m2, hm2⟩ : ∃ v, v = clamp (r.mem - x.mem) := ⟨_, rfl⟩
  obtain ⟨uc', huc'⟩ : ∃ v, v = max m1 0 := ⟨_, rfl⟩
  obtain ⟨um', hum'⟩ : ∃ v, v = max m2 0 := ⟨_, rfl⟩
  obtain ⟨k', hk'⟩ : ∃ v, v = max r.pods 1 - 1 := ⟨_, rfl⟩
  have PR : takeR r x = ⟨r.name, r.n, uc', um', k'⟩ := by rw [huc', hum', hk', hm1, hm2]; rfl
  have CA1 := Lib.hid (fun W => sum_left r.cpu x.cpu W hn.1 hx.1)
  have CA2 := Lib.hid (fun W => sum_left r.mem x.mem W hn.2 hx.2)
  have CC1 : Hid (∀ W, Calls Try.prog 15 #[Sm (r.cpu - x.cpu)] W fun e w' => e = .returned (.int .i64 m1) ∧ Gr W w') := fun W => by
    have := sum_milli (r.cpu - x.cpu) W (fair_two hn.1 hx.1).1
    rw [← hm1] at this
    exact this
  have CC2 : Hid (∀ W, Calls Try.prog 15 #[Sm (r.mem - x.mem)] W fun e w' => e = .returned (.int .i64 m2) ∧ Gr W w') := fun W => by
    have := sum_milli (r.mem - x.mem) W (fair_two hn.2 hx.2).1
    rw [← hm2] at this
    exact this
  obtain ⟨V2, hV2⟩ : ∃ v, v = Sm (r.cpu - x.cpu) := ⟨_, rfl⟩
  obtain ⟨V4, hV4⟩ : ∃ v, v = Sm (r.mem - x.mem) := ⟨_, rfl⟩
  rw [← hV2] at CA1 CC1
  rw [← hV4] at CA2 CC2
  have ek : IntKind.i64.wrap (max r.pods 1 - 1) = k' := by rw [hk', IntKind.wrap_i64]; omega
  have RV' := Lib.hid (RV uc' um' k')
  rw [← PR] at RV'
  have HA : Hid (P[4]? = some (.int .i64 x.cpu) ∧ P[5]? = some (.int .i64 x.mem)) := ⟨p4, p5⟩
  have oR := hR.one.2.1
  have sR := hR.one.1
  have EU := Lib.hid huc'
  have EM := Lib.hid hum'
  obtain ⟨nm, hnm⟩ : ∃ v, v = r.name := ⟨_, rfl⟩
  obtain ⟨uc, huc⟩ : ∃ v, v = r.cpu := ⟨_, rfl⟩
  obtain ⟨um, hum⟩ : ∃ v, v = r.mem := ⟨_, rfl⟩
  obtain ⟨k, hkk⟩ : ∃ v, v = r.pods := ⟨_, rfl⟩
  obtain ⟨ac, hac⟩ : ∃ v, v = x.cpu := ⟨_, rfl⟩
  obtain ⟨am, ham⟩ : ∃ v, v = x.mem := ⟨_, rfl⟩
  rw [← hnm] at eR RV'
  rw [← huc] at eR CA1
  rw [← hum] at eR CA2
  rw [← hkk] at eR ek
  rw [← hac] at CA1 HA
  rw [← ham] at CA2 HA
  obtain ⟨B, hB⟩ : ∃ B, B = w.heap.size := ⟨_, rfl⟩
  obtain ⟨w1, hw1⟩ : ∃ x, x = ((w.alloc (.cells R RT)).alloc (.cells P PTy)).alloc (.cells zerR RT) := ⟨_, rfl⟩
  have Ga : Gr w w1 := hw1 ▸ (((Gr.refl w).alloc _).alloc _).alloc _
  have z0 : w1.heap[B]? = some (.cells R RT (0, 0)) := by
    rw [hw1, hB, Below.heap_alloc _ _ _ (by simp; omega), Below.heap_alloc _ _ _ (by simp)]
    exact heap_alloc_new w _
  have z1 : w1.heap[B + 1]? = some (.cells P PTy (0, 0)) := by
    rw [hw1, hB, Below.heap_alloc _ _ _ (by simp)]
    have := heap_alloc_new (w.alloc (.cells R RT)) (.cells P PTy)
    simpa using this
  have z2 : w1.heap[B + 2]? = some (.cells zerR RT (0, 0)) := by
    rw [hw1, hB]
    have := heap_alloc_new ((w.alloc (.cells R RT)).alloc (.cells P PTy)) (.cells zerR RT)
    simpa using this
  have bw1 := Ga.below
  have HW : Hid (((w.alloc (.cells R RT)).alloc (.cells P PTy)).alloc (.cells zerR RT) = w1 ∧ w.heap.size = B) := ⟨hw1.symm, hB.symm⟩
  rw [eR] at z0
  clear hw1 hB Ga hR hP hn hx hk sP p4 p5 eR PR RV hm1 hm2 huc' hum' hk' hV2 hV4 oR sR hnm huc hum hkk hac ham
  go_enter Try.func10, Try.ntmps10
  go_upto_region 1 with fail
  rw [HW.out.1, HW.out.2]
  have c1 : w1.cell? ⟨B, 8, none⟩ = some (.int .i64 uc) := cell_of_block z0 8
  have e1 : w1.cell? ⟨B + 1, 4, none⟩ = some (.int .i64 ac) := (cell_of_block z1 4).trans HA.out.1
  go_wp2_with fail
  refine (CA1.out _).mono ?_
  rintro e wb ⟨rfl, g1⟩
  go_wp2_with fail
  refine (CC1.out _).mono ?_
  rintro e w20 ⟨rfl, g3⟩
  have G3 : Gr w1 w20 := g1.trans g3
  have k0 := (G3.heap (Array.getElem?_eq_some_iff.1 z0).1).trans z0
  have k1 := (G3.heap (Array.getElem?_eq_some_iff.1 z1).1).trans z1
  have k2 := (G3.heap (Array.getElem?_eq_some_iff.1 z2).1).trans z2
  have cc : w20.cell? ⟨B, 8, none⟩ = some (.int .i64 uc) := cell_of_block k0 8
  have ff : w20.frozen? ⟨B, 8, none⟩ = false := unfrozen_of_block k0 8
  obtain ⟨w2, hw2⟩ : ∃ x, x = w20.setCell ⟨B, 8, none⟩ (.int .i64 (max m1 0)) := ⟨_, rfl⟩
  have q01 : w2.heap[B]? = some (.cells #[.string nm, d0, d1, d2, d3, d4, d5, d6, .int .i64 uc', .int .i64 um, .int .i64 k] RT (0, 0)) := by rw [hw2, block_setCell k0, ← EU.out]; rfl
  have q11 : w2.heap[B + 1]? = some (.cells P PTy (0, 0)) := by rw [hw2, heap_setCell_other _ _ _ _ (show B + 1 ≠ B by omega)]; exact k1
  have q21 : w2.heap[B + 2]? = some (.cells zerR RT (0, 0)) := by rw [hw2, heap_setCell_other _ _ _ _ (show B + 2 ≠ B by omega)]; exact k2
  have bw2 : Below w.heap.size w w2 := by
    rw [hw2]
    exact below_set (bw1.trans (G3.below.mono bw1.size)) _ (by show _ ≤ B; rw [HW.out.2]; exact Nat.le_refl _)
  have Ew2 : Hid (w20.setCell ⟨B, 8, none⟩ (.int .i64 (max m1 0)) = w2) := hw2.symm
  clear c1 e1 k0 k1 k2 hw2 G3 g1 g3 z0 z1 z2 bw1 CA1 CC1
  go_upto_region 2 with fail
  rw [Ew2.out]
  clear cc ff Ew2
  have c2 : w2.cell? ⟨B, 9, none⟩ = some (.int .i64 um) := cell_of_block q01 9
  have e2 : w2.cell? ⟨B + 1, 5, none⟩ = some (.int .i64 am) := (cell_of_block q11 5).trans HA.out.2
  go_wp2_with fail
  refine (CA2.out _).mono ?_
  rintro e wb ⟨rfl, g1⟩
  go_wp2_with fail
  refine (CC2.out _).mono ?_
  rintro e w30 ⟨rfl, g3⟩
  have G3 : Gr w2 w30 := g1.trans g3
  have k0 := (G3.heap (Array.getElem?_eq_some_iff.1 q01).1).trans q01
  have k1 := (G3.heap (Array.getElem?_eq_some_iff.1 q11).1).trans q11
  have k2 := (G3.heap (Array.getElem?_eq_some_iff.1 q21).1).trans q21
  have cc : w30.cell? ⟨B, 9, none⟩ = some (.int .i64 um) := cell_of_block k0 9
  have ff : w30.frozen? ⟨B, 9, none⟩ = false := unfrozen_of_block k0 9
  obtain ⟨w3, hw3⟩ : ∃ x, x = w30.setCell ⟨B, 9, none⟩ (.int .i64 (max m2 0)) := ⟨_, rfl⟩
  have q02 : w3.heap[B]? = some (.cells #[.string nm, d0, d1, d2, d3, d4, d5, d6, .int .i64 uc', .int .i64 um', .int .i64 k] RT (0, 0)) := by rw [hw3, block_setCell k0, ← EM.out]; rfl
  have q12 : w3.heap[B + 1]? = some (.cells P PTy (0, 0)) := by rw [hw3, heap_setCell_other _ _ _ _ (show B + 1 ≠ B by omega)]; exact k1
  have q22 : w3.heap[B + 2]? = some (.cells zerR RT (0, 0)) := by rw [hw3, heap_setCell_other _ _ _ _ (show B + 2 ≠ B by omega)]; exact k2
  have bw3 : Below w.heap.size w w3 := by
    rw [hw3]
    exact below_set (bw2.trans (G3.below.mono bw2.size)) _ (by show _ ≤ B; rw [HW.out.2]; exact Nat.le_refl _)
  have Ew3 : Hid (w30.setCell ⟨B, 9, none⟩ (.int .i64 (max m2 0)) = w3) := hw3.symm
  clear c2 e2 k0 k1 k2 hw3 G3 g1 g3 q01 q11 q21 bw2 CA2 CC2
  go_upto_region 3 with fail
  rw [Ew3.out]
  clear cc ff Ew3
  have cc : w3.cell? ⟨B, 10, none⟩ = some (.int .i64 k) := cell_of_block q02 10
  have ff : w3.frozen? ⟨B, 10, none⟩ = false := unfrozen_of_block q02 10
  obtain ⟨w4, hw4⟩ : ∃ x, x = w3.setCell ⟨B, 10, none⟩ (.int .i64 k') := ⟨_, rfl⟩
  have z0 : w4.heap[B]? = some (.cells #[.string nm, d0, d1, d2, d3, d4, d5, d6, .int .i64 uc', .int .i64 um', .int .i64 k'] RT (0, 0)) := by rw [hw4, block_setCell q02]; rfl
  have z2 : w4.heap[B + 2]? = some (.cells zerR RT (0, 0)) := by rw [hw4, heap_setCell_other _ _ _ _ (show B + 2 ≠ B by omega)]; exact q22
  have bw4 : Below w.heap.size w w4 := by
    rw [hw4]
    exact below_set bw3 _ (by show _ ≤ B; rw [HW.out.2]; exact Nat.le_refl _)
  obtain ⟨R', hR'⟩ : ∃ R' : Array Value, R' = #[.string nm, d0, d1, d2, d3, d4, d5, d6, .int .i64 uc', .int .i64 um', .int .i64 k'] := ⟨_, rfl⟩
  rw [← hR'] at z0 RV'
  have sR' : R'.size = 11 := by rw [hR']; rfl
  have LR4 := Lib.hid (run_loadAt_mid (P := Try.prog) w4 B 0 RT R'.toList _ (Ld.rangeAt_block z0) Try.underlying49 rfl (by rw [Array.length_toList, sR']; kernel_rfl))
  rw [Array.toArray_toList] at LR4
  have TH := Lib.hid (Ld.there_block z2 (n := R'.size) (by rw [sR']; rfl))
  have IN : Hid ((Try.prog.info? RT).map (·.size) = some R'.size) := by show _ = _; rw [sR']; kernel_rfl
  have ON := Lib.hid RV'.out.one.2.1
  have EB : Hid ((w4.setCells (B + 2) 0 R'.toList).heap[B + 2]? = some (.cells R' RT (0, 0))) := Ld.laid z2 (by rw [sR']; rfl)
  have FIN : Hid (Below w.heap.size w (w4.setCells (B + 2) 0 R'.toList)) := Ld.below_setCells _ _ _ (by rw [HW.out.2]; omega) bw4
  have HW4 : Hid (w3.setCell ⟨B, 10, none⟩ (.int .i64 k') = w4) := hw4.symm
  clear hw4 z0 z2 bw4 bw3 q02 q12 q22 hR' sR'
  go_upto_region 4 with fail
  rw [HW4.out]
  go_wp2_with (first | (refine wpList_load_by (by kernel_rfl) RT _ rfl (.pointer (some ⟨B, 0, none⟩)) (.agg R') (by rfl) LR4.out ?_) | (refine wpList_store_mid rfl _ _ _ rfl (B + 2) 0 R' (by rfl) (by rfl) TH.out IN.out ON.out ?_))
  refine bodyPost_ret (results_cell_row rfl _ _ (B + 2) RT R' (0, 0) _ (by rfl) EB.out Try.underlying49 rfl IN.out) rfl ?_
  exact ⟨⟨R', rfl, RV'.out⟩, FIN.out⟩
end Go.Proofs.Ytdphooobgbminaa.Rm
/- Plain arithmetic of numbers as rows of binary digits, the lowest first: what a row of digits is worth, its digits, and rows without noughts above. No program is named here. -/
namespace Go.Proofs.Ytdphooobgbminaa

def val : List Nat → Nat
  | [] => 0
  | b :: r => b + 2 * val r
def bit (a i : Nat) : Nat := a / 2 ^ i % 2
def Bin (l : List Nat) : Prop := ∀ b ∈ l, b < 2
def Tight (l : List Nat) : Prop := ∀ k, val l < 2 ^ k → l.length ≤ k

theorem bit_lt (a i : Nat) : bit a i < 2 := Nat.mod_lt _ (by decide)
theorem bit_le (a i : Nat) : bit a i ≤ 1 := by have := bit_lt a i; omega

theorem Bin.nil : Bin [] := by intro b hb; cases hb
theorem Bin.cons_inv {b : Nat} {l : List Nat} (h : Bin (b :: l)) : b < 2 ∧ Bin l :=
  ⟨h b List.mem_cons_self, fun x hx => h x (List.mem_cons_of_mem _ hx)⟩
theorem Bin.cons {b : Nat} {l : List Nat} (hb : b < 2) (h : Bin l) : Bin (b :: l) := by
  intro x hx
  rcases List.mem_cons.1 hx with rfl | hx
  · exact hb
  · exact h x hx
theorem Bin.append {l m : List Nat} (h : Bin l) (g : Bin m) : Bin (l ++ m) := by
  intro b hb
  rcases List.mem_append.1 hb with hb | hb
  · exact h b hb
  · exact g b hb
theorem Bin.one {b : Nat} (h : b < 2) : Bin [b] := Bin.cons h Bin.nil
theorem Bin.take {l : List Nat} (h : Bin l) (k : Nat) : Bin (l.take k) := fun b hb => h b (List.mem_of_mem_take hb)
theorem Bin.drop {l : List Nat} (h : Bin l) (k : Nat) : Bin (l.drop k) := fun b hb => h b (List.mem_of_mem_drop hb)
theorem Bin.zeros (k : Nat) : Bin (List.replicate k 0) := fun b hb => by rw [(List.mem_replicate.1 hb).2]; decide

theorem val_cons (b : Nat) (l : List Nat) : val (b :: l) = b + 2 * val l := rfl
theorem val_nil : val [] = 0 := rfl
theorem val_one (b : Nat) : val [b] = b := by simp [val]
theorem val_append (l m : List Nat) : val (l ++ m) = val l + 2 ^ l.length * val m := by
  induction l with
  | nil => simp [val]
  | cons b l ih =>
    rw [List.cons_append, val_cons, val_cons, ih, List.length_cons, Nat.pow_succ, Nat.mul_add, Nat.mul_comm (2 ^ l.length) 2, Nat.mul_assoc]
    omega
theorem val_snoc (l : List Nat) (b : Nat) : val (l ++ [b]) = val l + 2 ^ l.length * b := by rw [val_append, val_one]
theorem val_lt (l : List Nat) (h : Bin l) : val l < 2 ^ l.length := by
  induction l with
  | nil => simp [val]
  | cons b l ih =>
    have hb := h.cons_inv.1
    have hl := ih h.cons_inv.2
    rw [val_cons, List.length_cons, Nat.pow_succ]
    omega
theorem val_zeros (k : Nat) : val (List.replicate k 0) = 0 := by
  induction k with
  | zero => rfl
  | succ k ih => rw [List.replicate_succ, val_cons, ih]
theorem val_zero_append (k : Nat) (l : List Nat) : val (List.replicate k 0 ++ l) = 2 ^ k * val l := by
  rw [val_append, val_zeros, List.length_replicate, Nat.zero_add]

theorem pow_pos2 (k : Nat) : 0 < 2 ^ k := Nat.pow_pos (by decide)

/-- The first k digits, and the others. -/
theorem val_split (l : List Nat) (h : Bin l) (k : Nat) : val (l.take k) = val l % 2 ^ k ∧ val (l.drop k) = val l / 2 ^ k := by
  by_cases hk : k ≤ l.length
  · have e : val l = val (l.take k) + 2 ^ k * val (l.drop k) := by
      have := val_append (l.take k) (l.drop k)
      rw [List.take_append_drop, List.length_take, Nat.min_eq_left hk] at this
      exact this
    have hlt : val (l.take k) < 2 ^ k := by
      have := val_lt _ (h.take k)
      rwa [List.length_take, Nat.min_eq_left hk] at this
    rw [e]
    refine ⟨?_, ?_⟩
    · rw [Nat.add_mul_mod_self_left, Nat.mod_eq_of_lt hlt]
    · rw [Nat.add_mul_div_left _ _ (pow_pos2 k), Nat.div_eq_of_lt hlt, Nat.zero_add]
  · have hlt : val l < 2 ^ k := Nat.lt_of_lt_of_le (val_lt l h) (Nat.pow_le_pow_right (by decide) (by omega))
    rw [List.take_of_length_le (by omega), List.drop_eq_nil_of_le (by omega), Nat.mod_eq_of_lt hlt, Nat.div_eq_of_lt hlt]
    exact ⟨rfl, rfl⟩

/-- A digit, by its place; beyond the end it is 0. -/
theorem get_bit (l : List Nat) (h : Bin l) (i : Nat) : l.getD i 0 = bit (val l) i := by
  induction l generalizing i with
  | nil => simp [val, bit]
  | cons b l ih =>
    have hb := h.cons_inv.1
    cases i with
    | zero => simp only [List.getD_cons_zero, bit, val_cons, Nat.pow_zero, Nat.div_one]; omega
    | succ i =>
      rw [List.getD_cons_succ, ih h.cons_inv.2, bit, bit, val_cons, Nat.pow_succ, Nat.mul_comm (2 ^ i) 2, ← Nat.div_div_eq_div_mul]
      congr 2
      omega

/-- One digit more of a number's higher part. -/
theorem div_step (a k : Nat) : a / 2 ^ k = 2 * (a / 2 ^ (k + 1)) + bit a k := by
  rw [bit, Nat.pow_succ, ← Nat.div_div_eq_div_mul]
  omega
/-- One digit more of a number's lower part. -/
theorem mod_step (a k : Nat) : a % 2 ^ (k + 1) = a % 2 ^ k + 2 ^ k * bit a k := by
  rw [bit, Nat.pow_succ, Nat.mod_mul]
theorem bit_zero {a k i : Nat} (h : a < 2 ^ k) (hi : k ≤ i) : bit a i = 0 := by
  rw [bit, Nat.div_eq_of_lt (Nat.lt_of_lt_of_le h (Nat.pow_le_pow_right (by decide) hi))]

theorem tight_nil : Tight [] := fun _ _ => Nat.zero_le _
theorem tight_snoc (l : List Nat) : Tight (l ++ [1]) := by
  intro k hk
  rw [val_snoc] at hk
  rcases Nat.lt_or_ge l.length k with h | h
  · rw [List.length_append, List.length_singleton]; omega
  · have := Nat.pow_le_pow_right (n := 2) (by decide) h
    omega
theorem Tight.len_le {l : List Nat} (h : Tight l) {k : Nat} (hk : val l < 2 ^ k) : l.length ≤ k := h k hk
theorem Tight.lt_iff {l : List Nat} (h : Tight l) (hb : Bin l) (k : Nat) : l.length ≤ k ↔ val l < 2 ^ k :=
  ⟨fun hk => Nat.lt_of_lt_of_le (val_lt l hb) (Nat.pow_le_pow_right (by decide) hk), h k⟩
theorem Tight.zero_iff {l : List Nat} (h : Tight l) (hb : Bin l) : l.length = 0 ↔ val l = 0 := by
  have := h.lt_iff hb 0
  rw [Nat.pow_zero] at this
  omega

/-- What 'trim' leaves off: a nought at the end. -/
theorem take_trim (l : List Nat) (hb : Bin l) (k : Nat) (h0 : l.getD k 0 = 0) : val (l.take (k + 1)) = val (l.take k) := by
  rw [(val_split l hb (k + 1)).1, (val_split l hb k).1, mod_step, ← get_bit l hb, h0]
  omega
theorem take_tight (l : List Nat) (k : Nat) (hk : k + 1 ≤ l.length) (h1 : l.getD k 0 = 1) : Tight (l.take (k + 1)) := by
  rw [List.take_succ_eq_append_getElem (by omega)]
  have : l[k] = 1 := by rw [List.getD_eq_getElem?_getD, List.getElem?_eq_getElem (by omega)] at h1; exact h1
  rw [this]
  exact tight_snoc _

/-! ### adding -/
/-- One round of adding: x is the sum of two digits and what is carried. -/
theorem add_round (a b k s c : Nat) (hs : s + c * 2 ^ k = a % 2 ^ k + b % 2 ^ k) :
    s + 2 ^ k * ((bit a k + bit b k + c) % 2) + (bit a k + bit b k + c) / 2 * 2 ^ (k + 1) = a % 2 ^ (k + 1) + b % 2 ^ (k + 1) := by
  rw [mod_step, mod_step, Nat.pow_succ]
  have hd := Nat.div_add_mod (bit a k + bit b k + c) 2
  have e : 2 ^ k * (bit a k + bit b k + c) = 2 ^ k * (2 * ((bit a k + bit b k + c) / 2) + (bit a k + bit b k + c) % 2) := by rw [hd]
  generalize (bit a k + bit b k + c) % 2 = m at *
  generalize (bit a k + bit b k + c) / 2 = q at *
  have e1 : q * (2 ^ k * 2) = 2 ^ k * (2 * q) := by rw [Nat.mul_comm q, Nat.mul_assoc]
  rw [e1]
  rw [Nat.mul_add, Nat.mul_add, Nat.mul_add] at e
  have e2 : c * 2 ^ k = 2 ^ k * c := Nat.mul_comm _ _
  omega
theorem add_done (a b k s : Nat) (ha : a < 2 ^ k) (hb : b < 2 ^ k) (hs : s + 0 * 2 ^ k = a % 2 ^ k + b % 2 ^ k) : s = a + b := by
  rw [Nat.mod_eq_of_lt ha, Nat.mod_eq_of_lt hb] at hs
  omega

/-! ### taking away -/
theorem sub_round (a b k s c : Nat) (hc : c ≤ 1) (hs : s + b % 2 ^ k = a % 2 ^ k + c * 2 ^ k) :
    s + 2 ^ k * ((2 + bit a k - bit b k - c) % 2) + b % 2 ^ (k + 1) = a % 2 ^ (k + 1) + (1 - (2 + bit a k - bit b k - c) / 2) * 2 ^ (k + 1) := by
  rw [mod_step, mod_step, Nat.pow_succ]
  have ha := bit_le a k
  have hb := bit_le b k
  generalize bit a k = x at *
  generalize bit b k = y at *
  have hx : x = 0 ∨ x = 1 := by omega
  have hy : y = 0 ∨ y = 1 := by omega
  have hc' : c = 0 ∨ c = 1 := by omega
  rcases hx with rfl | rfl <;> rcases hy with rfl | rfl <;> rcases hc' with rfl | rfl <;> simp at hs ⊢ <;> omega
theorem sub_done (a b k s c : Nat) (hc : c ≤ 1) (ha : a < 2 ^ k) (hba : b ≤ a) (hl : s < 2 ^ k) (hs : s + b % 2 ^ k = a % 2 ^ k + c * 2 ^ k) : s = a - b := by
  rw [Nat.mod_eq_of_lt ha, Nat.mod_eq_of_lt (Nat.lt_of_le_of_lt hba ha)] at hs
  have hc' : c = 0 ∨ c = 1 := by omega
  rcases hc' with rfl | rfl <;> omega

/-! ### which is more -/
def sgn (a b : Nat) : Int := if b < a then 1 else if a < b then -1 else 0
theorem sgn_gt {a b : Nat} (h : b < a) : sgn a b = 1 := if_pos h
theorem sgn_lt {a b : Nat} (h : a < b) : sgn a b = -1 := by rw [sgn, if_neg (by omega), if_pos h]
theorem sgn_eq {a b : Nat} (h : a = b) : sgn a b = 0 := by rw [sgn, if_neg (by omega), if_neg (by omega)]
theorem sgn_neg (a b : Nat) : sgn b a = - sgn a b := by
  unfold sgn
  by_cases h : b < a
  · rw [if_neg (by omega), if_pos h, if_pos h]
  · by_cases g : a < b
    · rw [if_pos g, if_neg h, if_pos g]; rfl
    · rw [if_neg g, if_neg h, if_neg h, if_neg g]; rfl
theorem cmp_gt {a b k : Nat} (h : a / 2 ^ (k + 1) = b / 2 ^ (k + 1)) (hb : bit b k < bit a k) : b < a := by
  have h1 := div_step a k
  have h2 := div_step b k
  have : b / 2 ^ k < a / 2 ^ k := by omega
  rcases Nat.lt_or_ge b a with g | g
  · exact g
  · have := Nat.div_le_div_right (c := 2 ^ k) g; omega
theorem cmp_eq {a b k : Nat} (h : a / 2 ^ (k + 1) = b / 2 ^ (k + 1)) (hb : bit a k = bit b k) : a / 2 ^ k = b / 2 ^ k := by
  rw [div_step a k, div_step b k, h, hb]

/-! ### times -/
theorem mul_round0 (a b k : Nat) (h : bit b k = 0) : a * (b / 2 ^ (k + 1)) + a * (b / 2 ^ (k + 1)) = a * (b / 2 ^ k) := by
  rw [div_step b k, h, ← Nat.mul_add]; congr 1; omega
theorem mul_round1 (a b k : Nat) (h : bit b k = 1) : a * (b / 2 ^ (k + 1)) + a * (b / 2 ^ (k + 1)) + a = a * (b / 2 ^ k) := by
  rw [div_step b k, h, Nat.mul_add, Nat.mul_one, ← Nat.mul_add]; congr 2; omega

/-! ### divided: the rest, one digit more -/
theorem div_round (a d k : Nat) (_hd : 0 < d) : a / 2 ^ k = d * (2 * (a / 2 ^ (k + 1) / d)) + (2 * (a / 2 ^ (k + 1) % d) + bit a k) := by
  have h := Nat.div_add_mod (a / 2 ^ (k + 1)) d
  have := div_step a k
  have e : d * (2 * (a / 2 ^ (k + 1) / d)) = 2 * (d * (a / 2 ^ (k + 1) / d)) := Nat.mul_left_comm _ _ _
  omega
theorem div_round_lt {a d k : Nat} (hd : 0 < d) (h : 2 * (a / 2 ^ (k + 1) % d) + bit a k < d) :
    a / 2 ^ k / d = 2 * (a / 2 ^ (k + 1) / d) ∧ a / 2 ^ k % d = 2 * (a / 2 ^ (k + 1) % d) + bit a k := by
  have e := div_round a d k hd
  rw [e]
  exact ⟨by rw [Nat.mul_add_div hd, Nat.div_eq_of_lt h, Nat.add_zero], by rw [Nat.mul_add_mod, Nat.mod_eq_of_lt h]⟩
theorem div_round_ge {a d k : Nat} (hd : 0 < d) (h : d ≤ 2 * (a / 2 ^ (k + 1) % d) + bit a k) :
    a / 2 ^ k / d = 2 * (a / 2 ^ (k + 1) / d) + 1 ∧ a / 2 ^ k % d = 2 * (a / 2 ^ (k + 1) % d) + bit a k - d := by
  have e := div_round a d k hd
  have hr := Nat.mod_lt (a / 2 ^ (k + 1)) hd
  have hb := bit_le a k
  generalize a / 2 ^ (k + 1) % d = r at *
  generalize a / 2 ^ (k + 1) / d = q at *
  have e2 : a / 2 ^ k = d * (2 * q + 1) + (2 * r + bit a k - d) := by
    rw [e, Nat.mul_add, Nat.mul_one]; omega
  rw [e2]
  exact ⟨by rw [Nat.mul_add_div hd, Nat.div_eq_of_lt (by omega), Nat.add_zero], by rw [Nat.mul_add_mod, Nat.mod_eq_of_lt (by omega)]⟩

end Go.Proofs.Ytdphooobgbminaa
/- Rows of digits in memory: a slice that reads as a row, a row that the call itself owns and appends to, and what keeps them. -/
namespace Go.Proofs.Ytdphooobgbminaa
open Go.RowKit

def digs (l : List Nat) : List Value := l.map fun (b : Nat) => Value.int .u8 (b : Int)
theorem digs_len (l : List Nat) : (digs l).length = l.length := by simp [digs]
theorem digs_append (l m : List Nat) : digs (l ++ m) = digs l ++ digs m := by simp [digs]
theorem digs_get {l : List Nat} {j b : Nat} (h : l[j]? = some b) : (digs l)[j]? = some (.int .u8 (b : Int)) := by simp [digs, h]
theorem digs_inv {l : List Nat} {j : Nat} {u : Value} (h : (digs l)[j]? = some u) : ∃ b : Nat, l[j]? = some b ∧ u = .int .u8 (b : Int) := by
  simp only [digs, List.getElem?_map, Option.map_eq_some_iff] at h
  obtain ⟨b, h1, h2⟩ := h
  exact ⟨b, h1, h2.symm⟩
theorem digs_one (l : List Nat) : ∀ u ∈ digs l, u.oneCell' = true := by
  intro u hu
  simp only [digs, List.mem_map] at hu
  obtain ⟨b, _, rfl⟩ := hu
  rfl

theorem add_block (a : Addr) (n : Nat) : (a.add n).block = a.block := by unfold Addr.add; split <;> rfl
theorem add_add (a : Addr) (i j : Nat) : (a.add i).add j = a.add (i + j) := by
  unfold Addr.add
  by_cases hi : i = 0 <;> by_cases hj : j = 0 <;> simp [hi, hj, Nat.add_assoc]

/-- The address 'ad' begins the row 'l'. -/
def Cells (w : World) (ad : Addr) (l : List Nat) : Prop := ∀ (j b : Nat), l[j]? = some b → w.cell? (ad.add j) = some (.int .u8 (b : Int))
/-- The slice 'v' reads as the row 'l'; its block lies from 'base' on. -/
def Row (w : World) (base : Nat) (v : Value) (l : List Nat) : Prop :=
  ∃ (ad : Addr) (c : Nat), v = .slice (some ad) l.length c ∧ l.length ≤ c ∧ base ≤ ad.block ∧ ad.block < w.heap.size ∧ Cells w ad l
/-- The call owns the slice 'v', which reads as 'l', and may append to it. -/
def Own (w : World) (base : Nat) (v : Value) (l : List Nat) : Prop := w.ownsRow base 5 1 v l.length (digs l) ∧ v ≠ .slice none 0 0
/-- The slice 'v' reads as the number 'n', without noughts above. -/
def Num (w : World) (base : Nat) (v : Value) (n : Nat) : Prop := ∃ l, Row w base v l ∧ Bin l ∧ Tight l ∧ val l = n

section
variable {w w' : World} {base base' : Nat} {v : Value} {l m : List Nat} {n : Nat} {ad : Addr}

theorem Cells.at_ (h : Cells w ad l) {j : Nat} (hj : j < l.length) : w.cell? (ad.add j) = some (.int .u8 ((l.getD j 0 : Nat) : Int)) :=
  h j _ (by rw [List.getD_eq_getElem?_getD, List.getElem?_eq_getElem hj]; rfl)
theorem Cells.keep (h : Cells w ad l) (hk : ∀ p : Addr, p.block = ad.block → w'.cell? p = w.cell? p) : Cells w' ad l :=
  fun j b hj => (hk _ (add_block _ _)).trans (h j b hj)
theorem Cells.take (h : Cells w ad l) (k : Nat) : Cells w ad (l.take k) := fun j b hj => h j b (by
  rw [List.getElem?_take] at hj
  split at hj
  · exact hj
  · cases hj)
theorem Cells.drop (h : Cells w ad l) (k : Nat) : Cells w (ad.add k) (l.drop k) := fun j b hj => by
  rw [add_add]
  exact h _ b (by rwa [List.getElem?_drop] at hj)

theorem Row.mk {c : Nat} (hc : l.length ≤ c) (hb : base ≤ ad.block) (hl : ad.block < w.heap.size) (h : Cells w ad l) : Row w base (.slice (some ad) l.length c) l :=
  ⟨ad, c, rfl, hc, hb, hl, h⟩
theorem Row.below (h : Row w base v l) (hb : Below w.heap.size w w') : Row w' base v l := by
  obtain ⟨ad, c, rfl, hc, h1, h2, h3⟩ := h
  exact ⟨ad, c, rfl, hc, h1, Nat.lt_of_lt_of_le h2 hb.size, h3.keep fun p hp => hb.cell (by rw [hp]; exact h2)⟩
theorem Row.under {B : Nat} {w0 : World} (h : Row w0 base v l) (hB : w0.heap.size ≤ B) (hb : Below B w0 w') : Row w' base v l := h.below (hb.mono hB)
theorem Row.more (h : Row w base v l) (hb : base' ≤ base) : Row w base' v l := by
  obtain ⟨ad, c, rfl, hc, h1, h2, h3⟩ := h
  exact ⟨ad, c, rfl, hc, Nat.le_trans hb h1, h2, h3⟩
theorem Row.of_own (h : Own w base v l) : Row w base v l := by
  obtain ⟨h, hn⟩ := h
  rcases h.2 with ⟨e, _⟩ | ⟨g, cap, cur, rfl, hb, hg, hc, _, _, _⟩
  · exact absurd e hn
  · exact ⟨⟨g, 0, none⟩, cap, rfl, hc, hb, (Array.getElem?_eq_some_iff.1 hg).1, fun j b hj => h.cells (g := g) rfl j _ (digs_get hj)⟩
theorem Row.one (w : World) (z : Int) (b : Nat) (hz : z = (b : Int)) : Row (w.alloc (.cells #[.int .u8 z] 5)) w.heap.size (.slice (some ⟨w.heap.size, 0, none⟩) 1 1) [b] := by
  subst hz
  refine ⟨⟨w.heap.size, 0, none⟩, 1, rfl, Nat.le_refl _, Nat.le_refl _, by simp, fun j c hj => ?_⟩
  match j, hj with
  | 0, hj =>
    simp at hj
    subst hj
    simp [Addr.add]

theorem Own.alloc (h : Own w base v l) (o : Obj) : Own (w.alloc o) base v l := ⟨World.ownsRow.alloc h.1 o, h.2⟩
theorem Own.drew (h : Own w base v l) : Own w.drew base v l := h
theorem Own.empty (w : World) (hb : base ≤ w.heap.size) : Own (w.alloc (.cells #[] 5)) base (.slice (some ⟨w.heap.size, 0, none⟩) 0 0) [] :=
  ⟨World.ownsRow_made w #[] 0 hb (Nat.zero_le _) rfl, by simp⟩
theorem Own.one (w : World) (hb : base ≤ w.heap.size) (z : Int) (b : Nat) (hz : z = (b : Int)) : Own (w.alloc (.cells #[.int .u8 z] 5)) base (.slice (some ⟨w.heap.size, 0, none⟩) 1 1) [b] := by
  subst hz
  refine ⟨⟨rfl, .inr ⟨w.heap.size, 1, #[.int .u8 (b : Int)], rfl, hb, heap_alloc_new w _, Nat.le_refl _, by unfold maxLen; omega, rfl, rfl⟩⟩, by simp⟩
theorem Own.lt (h : Own w base v l) : ∀ k, v.ownBlock = some k → base ≤ k ∧ k < w.heap.size := h.1.lt
theorem Own.len (h : Own w base v l) : ∃ ad c, v = .slice (some ad) l.length c := by
  obtain ⟨ad, c, e, _⟩ := Row.of_own h
  exact ⟨ad, c, e⟩

theorem Num.mk (h : Row w base v l) (hb : Bin l) (ht : Tight l) (hn : val l = n) : Num w base v n := ⟨l, h, hb, ht, hn⟩
theorem Num.below (h : Num w base v n) (hb : Below w.heap.size w w') : Num w' base v n := by
  obtain ⟨l, h1, h2⟩ := h
  exact ⟨l, h1.below hb, h2⟩
theorem Num.under {B : Nat} (h : Num w base v n) (hB : w.heap.size ≤ B) (hb : Below B w w') : Num w' base v n := h.below (hb.mono hB)
theorem Num.more (h : Num w base v n) (hb : base' ≤ base) : Num w base' v n := by
  obtain ⟨l, h1, h2⟩ := h
  exact ⟨l, h1.more hb, h2⟩
end

/-- The row of a byte in the program's table. -/
theorem info_byte : (Try.prog.info? 5).map (fun i => (i.zero, i.size, i.bytes)) = some (some (.int .u8 0), 1, 1) := by kernel_rfl

/-- What a function that makes a number answers. -/
def RetNum (w : World) (n : Nat) (e : Ending) (w' : World) : Prop := ∃ v, e = .returned v ∧ Num w' w.heap.size v n ∧ Below w.heap.size w w'
/-- The same, where the answer may be appended to. -/
def RetOwn (w : World) (n : Nat) (e : Ending) (w' : World) : Prop := ∃ v l, e = .returned v ∧ Own w' w.heap.size v l ∧ Bin l ∧ Tight l ∧ val l = n ∧ Below w.heap.size w w'
theorem RetOwn.num {w w' : World} {n : Nat} {e : Ending} (h : RetOwn w n e w') : RetNum w n e w' := by
  obtain ⟨v, l, he, ho, hb, ht, hn, hw⟩ := h
  exact ⟨v, he, Num.mk (Row.of_own ho) hb ht hn, hw⟩
theorem Own.below {w w' : World} {base : Nat} {v : Value} {l : List Nat} (h : Own w base v l) (hb : Below w.heap.size w w') : Own w' base v l :=
  ⟨h.1.kept (row := none) ⟨hb.os, hb.tape, hb.output, hb.size, fun i hi _ => hb.block i hi⟩ (by cases hv : v.ownBlock <;> simp), h.2⟩

end Go.Proofs.Ytdphooobgbminaa
/- The library's contract for math/bits.Mul64, at this program's numbers. -/
namespace Go.Proofs.Ytdphooobgbminaa
open Go.Shelf

def mul_ren : Go.Shelf.Ren := ⟨fun | 264 => 39 | n => n, fun | 53 => 22 | 46 => 88 | n => n, fun | n => n⟩
theorem mul_lays : Go.Proofs.Lays.n264 Try.prog mul_ren := {
  mixed := by kernel_rfl
  f264 := Try.func39.trans (congrArg some (by kernel_rfl))
  t46 := Try.underlying88
  a46 := Try.isAgg88
  z46 := Try.sizeOf88
  v46 := Try.zeroValue88
  t53 := Try.underlying22
  a53 := Try.isAgg22
  z53 := Try.sizeOf22
  v53 := Try.zeroValue22 }
theorem mul64_any (x y : Nat) (hx : x < 18446744073709551616) (hy : y < 18446744073709551616) (w : World) :
    Calls Try.prog 39 #[.int .u64 (x : Int), .int .u64 (y : Int)] w fun e w' => e = .returned (.tuple #[.int .u64 ((x * y / 18446744073709551616 : Nat) : Int), .int .u64 ((x * y % 18446744073709551616 : Nat) : Int)]) ∧ w = w' :=
  (Any.bits_Mul64 mul_lays x y hx hy w).mono fun _ _ h => ⟨h.1, h.2.symm⟩

end Go.Proofs.Ytdphooobgbminaa
/- What 'Of' and 'Cmp' of package wide answer. -/
namespace Go.Proofs.Ytdphooobgbminaa
open Go.RowKit
set_option linter.unusedVariables false

theorem ret_int {a b : Int} (h : a = b) : Ending.returned (.int .i64 a) = .returned (.int .i64 b) := by rw [h]
/-- A wide number, as a value. -/
abbrev wd (h l : Int) : Value := .agg #[.int .u64 h, .int .u64 l]
theorem wide_of (a b : Nat) (w : World) (ha : a < 18446744073709551616) (hb : b < 18446744073709551616) :
    Calls Try.prog 57 #[.int .u64 (a : Int), .int .u64 (b : Int)] w fun e w' =>
      e = .returned (wd ((a * b / 18446744073709551616 : Nat) : Int) ((a * b % 18446744073709551616 : Nat) : Int)) ∧ Below w.heap.size w w' := by
  go_enter Try.func57, Try.ntmps57
  go_wp2_with fail
  refine (mul64_any a b ha hb _).mono ?_
  rintro e w' ⟨rfl, rfl⟩
  go_wp2
  refine bodyPost_ret (v := wd ((a * b / 18446744073709551616 : Nat) : Int) ((a * b % 18446744073709551616 : Nat) : Int)) (by simp [results, Try.results57, go_sem]) rfl ⟨rfl, ?_⟩
  exact (Below.refl _ _).alloc (Nat.le_refl _) _

theorem sgn_wide {a b c d : Nat} (hb : b < 18446744073709551616) (hd : d < 18446744073709551616) :
    sgn (a * 18446744073709551616 + b) (c * 18446744073709551616 + d) = if sgn a c = 0 then sgn b d else sgn a c := by
  have hcase : a < c ∨ a = c ∨ c < a := by omega
  rcases hcase with h | rfl | h
  · rw [sgn_lt h, if_neg (by decide), sgn_lt (by omega)]
  · rw [sgn_eq rfl, if_pos rfl]
    unfold sgn
    have h1 : (a * 18446744073709551616 + d < a * 18446744073709551616 + b) ↔ d < b := by omega
    have h2 : (a * 18446744073709551616 + b < a * 18446744073709551616 + d) ↔ b < d := by omega
    simp only [h1, h2]
  · rw [sgn_gt h, if_neg (by decide), sgn_gt (by omega)]
/-- The product, with letters for its halves. -/
theorem wide_ofV (a b H L : Nat) (w : World) (ha : a < 18446744073709551616) (hb : b < 18446744073709551616) (hH : H = a * b / 18446744073709551616) (hL : L = a * b % 18446744073709551616) :
    Calls Try.prog 57 #[.int .u64 (a : Int), .int .u64 (b : Int)] w fun e w' => e = .returned (wd (H : Int) (L : Int)) ∧ Below w.heap.size w w' := by
  subst hH hL
  exact wide_of a b w ha hb

end Go.Proofs.Ytdphooobgbminaa
/- Plain arithmetic of the long division of 128 bits by 64, on halves of 32 bits. No program is named here. -/
namespace Go.Proofs.Ytdphooobgbminaa

/-- What is found digit by digit: 'q' is too great, asked on halves. -/
theorem half_test {u d y q r : Nat} (hy : 0 < y) (hd : d < 4294967296) (hu : u < y) (h : q * (y / 4294967296) + r = u) :
    (4294967296 ≤ q ∨ 4294967296 * r + d < q * (y % 4294967296)) ↔ (u * 4294967296 + d) / y < q := by
  have hsplit := Nat.div_add_mod y 4294967296
  have e : q * y = 4294967296 * (q * (y / 4294967296)) + q * (y % 4294967296) := by
    conv => lhs; rw [← hsplit, Nat.mul_add, Nat.mul_left_comm]
  have e2 : 4294967296 * (q * (y / 4294967296)) + 4294967296 * r = u * 4294967296 := by
    rw [← Nat.mul_add, h, Nat.mul_comm]
  rw [Nat.div_lt_iff_lt_mul hy]
  constructor
  · rintro (hq | hq)
    · have h1 : 4294967296 * y ≤ q * y := Nat.mul_le_mul_right y hq
      have h2 : (u + 1) * 4294967296 ≤ y * 4294967296 := Nat.mul_le_mul_right _ hu
      omega
    · omega
  · intro hq
    right
    omega
/-- The first guess is at most two too great. -/
theorem half_guess {u y : Nat} (hy : 9223372036854775808 ≤ y) (hu : u < y) : u / (y / 4294967296) ≤ 4294967297 := by
  have h1 : 2147483648 ≤ y / 4294967296 := by omega
  have hsplit := Nat.div_add_mod y 4294967296
  have hm := Nat.mod_lt y (show 0 < 4294967296 by decide)
  generalize y / 4294967296 = a at *
  have h2 : u < a * 4294967298 := by omega
  have := (Nat.div_lt_iff_lt_mul (by omega : 0 < a)).2 (by rw [Nat.mul_comm]; exact h2)
  omega
theorem half_start {u y : Nat} (hu : u < y) (hy : 9223372036854775808 ≤ y) (d : Nat) (hd : d < 4294967296) : (u * 4294967296 + d) / y ≤ u / (y / 4294967296) := by
  have h1 : 2147483648 ≤ y / 4294967296 := by omega
  have h := Nat.div_add_mod u (y / 4294967296)
  rcases Nat.lt_or_ge (u / (y / 4294967296)) ((u * 4294967296 + d) / y) with g | g
  · exfalso
    have hr := Nat.mod_lt u (show 0 < y / 4294967296 by omega)
    have hsplit := Nat.div_add_mod y 4294967296
    have h2 : (u / (y / 4294967296) + 1) * y ≤ u * 4294967296 + d := by
      have := Nat.div_mul_le_self (u * 4294967296 + d) y
      exact Nat.le_trans (Nat.mul_le_mul_right y g) this
    have h3 : (u / (y / 4294967296) + 1) * (4294967296 * (y / 4294967296)) ≤ (u / (y / 4294967296) + 1) * y := Nat.mul_le_mul_left _ (by omega)
    have h4 : (u / (y / 4294967296) + 1) * (4294967296 * (y / 4294967296)) = 4294967296 * (y / 4294967296 * (u / (y / 4294967296))) + 4294967296 * (y / 4294967296) := by
      rw [Nat.add_mul, Nat.one_mul, Nat.mul_left_comm, Nat.mul_comm (u / _)]
    omega
  · exact g
/-- Where the rest of the guess passes 32 bits the guess isn't too great. -/
theorem half_break {u d y q r : Nat} (hy : 0 < y) (h : q * (y / 4294967296) + r = u) (hq : q ≤ 4294967296) (hr : 4294967296 ≤ r) : q ≤ (u * 4294967296 + d) / y := by
  have hsplit := Nat.div_add_mod y 4294967296
  have hm := Nat.mod_lt y (show 0 < 4294967296 by decide)
  rw [Nat.le_div_iff_mul_le hy]
  have e : q * y = 4294967296 * (q * (y / 4294967296)) + q * (y % 4294967296) := by
    conv => lhs; rw [← hsplit, Nat.mul_add, Nat.mul_left_comm]
  have e2 : 4294967296 * (q * (y / 4294967296)) + 4294967296 * r = u * 4294967296 := by
    rw [← Nat.mul_add, h, Nat.mul_comm]
  have h3 : q * (y % 4294967296) ≤ 4294967296 * 4294967296 := Nat.mul_le_mul hq (by omega)
  omega
/-- The rest of two digits. -/
theorem half_rest {u d y : Nat} (hy : 0 < y) (hy2 : y < 18446744073709551616) :
    ((((u : Int) * 4294967296 % 18446744073709551616 + (d : Int)) % 18446744073709551616) - (((u * 4294967296 + d) / y : Nat) : Int) * (y : Int) % 18446744073709551616) % 18446744073709551616 = (((u * 4294967296 + d) % y : Nat) : Int) := by
  have h := Nat.div_add_mod (u * 4294967296 + d) y
  have hlt := Nat.mod_lt (u * 4294967296 + d) hy
  rw [← Int.natCast_mul, Nat.mul_comm ((u * 4294967296 + d) / y) y]
  generalize (u * 4294967296 + d) % y = m at *
  generalize y * ((u * 4294967296 + d) / y) = p at *
  omega

/-- The two steps of the division together, on halves of any size. -/
theorem two_halves_at {N y Y s u l K : Nat} (hY : Y = y * 2 ^ s) (hy : 0 < y) (hN : N * 2 ^ s = u * (K * K) + l) :
    (u * K + l / K) / Y * K + ((u * K + l / K) % Y * K + l % K) / Y = N / y ∧
    ((u * K + l / K) % Y * K + l % K) % Y / 2 ^ s = N % y := by
  have hp : 0 < 2 ^ s := Nat.pow_pos (by decide)
  have hY0 : 0 < Y := by rw [hY]; exact Nat.mul_pos hy hp
  have h1 := Nat.div_add_mod (u * K + l / K) Y
  have hl2 := Nat.div_add_mod l K
  generalize (u * K + l / K) / Y = q1 at *
  generalize (u * K + l / K) % Y = r1 at *
  have h2 := Nat.div_add_mod (r1 * K + l % K) Y
  have h3 := Nat.mod_lt (r1 * K + l % K) hY0
  generalize (r1 * K + l % K) / Y = q0 at *
  generalize (r1 * K + l % K) % Y = r0 at *
  have e : N * 2 ^ s = Y * (q1 * K + q0) + r0 := by
    have e1 : K * (u * K + l / K) = K * (Y * q1 + r1) := by rw [h1]
    rw [Nat.mul_add, Nat.mul_add, Nat.mul_left_comm K u K] at e1
    rw [hN, Nat.mul_add, Nat.mul_comm q1 K]
    rw [Nat.mul_left_comm K Y q1, Nat.mul_comm K r1] at e1
    omega
  have ed : N * 2 ^ s / (y * 2 ^ s) = N / y := Nat.mul_div_mul_right N y hp
  have em : N * 2 ^ s % (y * 2 ^ s) = N % y * 2 ^ s := Nat.mul_mod_mul_right (2 ^ s) N y
  rw [← hY] at ed em
  rw [e] at ed em
  rw [Nat.mul_add_div hY0, Nat.div_eq_of_lt h3, Nat.add_zero] at ed
  rw [Nat.mul_add_mod, Nat.mod_eq_of_lt h3] at em
  refine ⟨ed, ?_⟩
  rw [em, Nat.mul_div_cancel _ hp]

/-! ### the loop's relation -/
def KRel (u d Y q r : Nat) : Prop := q * (Y / 4294967296) + r = u ∧ r < 4294967296 ∧ q ≤ 4294967297 ∧ (u * 4294967296 + d) / Y ≤ q
def KIn (u d Y : Nat) : Prop := 9223372036854775808 ≤ Y ∧ Y < 18446744073709551616 ∧ u < Y ∧ d < 4294967296
theorem KIn.lt {u d Y : Nat} (h : KIn u d Y) : (u * 4294967296 + d) / Y < 4294967296 := by
  obtain ⟨h1, h2, h3, h4⟩ := h
  rw [Nat.div_lt_iff_lt_mul (by omega)]
  omega
theorem k_start {u d Y : Nat} (h : KIn u d Y) : KRel u d Y (u / (Y / 4294967296)) (u - u / (Y / 4294967296) * (Y / 4294967296)) ∧ u / (Y / 4294967296) * (Y / 4294967296) ≤ u := by
  obtain ⟨h1, h2, h3, h4⟩ := h
  have hle := Nat.div_mul_le_self u (Y / 4294967296)
  have hm := Nat.div_add_mod u (Y / 4294967296)
  have hlt := Nat.mod_lt u (show 0 < Y / 4294967296 by omega)
  rw [Nat.mul_comm (Y / 4294967296)] at hm
  exact ⟨⟨by omega, by omega, half_guess h1 h3, half_start h3 h1 d h4⟩, hle⟩
theorem k_done {u d Y q r : Nat} (h : KIn u d Y) (hr : KRel u d Y q r) (h1 : q < 4294967296) (h2 : q * (Y % 4294967296) ≤ 4294967296 * r + d) : q = (u * 4294967296 + d) / Y := by
  obtain ⟨i1, i2, i3, i4⟩ := h
  obtain ⟨r1, r2, r3, r4⟩ := hr
  have ht := half_test (by omega) i4 i3 r1
  rcases Nat.lt_or_ge ((u * 4294967296 + d) / Y) q with g | g
  · have := ht.2 g; omega
  · omega
theorem k_step {u d Y q r : Nat} (h : KIn u d Y) (hr : KRel u d Y q r) (ht : 4294967296 ≤ q ∨ 4294967296 * r + d < q * (Y % 4294967296)) :
    1 ≤ q ∧ (r + Y / 4294967296 < 4294967296 → KRel u d Y (q - 1) (r + Y / 4294967296)) ∧ (4294967296 ≤ r + Y / 4294967296 → q - 1 = (u * 4294967296 + d) / Y) := by
  obtain ⟨i1, i2, i3, i4⟩ := h
  obtain ⟨r1, r2, r3, r4⟩ := hr
  have hg := (half_test (by omega) i4 i3 r1).1 ht
  have e : (q - 1) * (Y / 4294967296) + (r + Y / 4294967296) = u := by
    rw [← r1, Nat.sub_mul, Nat.one_mul]
    have hq : 0 < q := Nat.lt_of_le_of_lt (Nat.zero_le _) hg
    have : Y / 4294967296 ≤ q * (Y / 4294967296) := Nat.le_mul_of_pos_left _ hq
    omega
  have hb : q - 1 ≤ 4294967296 → 4294967296 ≤ r + Y / 4294967296 → q - 1 ≤ (u * 4294967296 + d) / Y := fun hq hge => half_break (d := d) (by omega) e hq hge
  unfold KRel
  generalize (u * 4294967296 + d) / Y = Q at *
  refine ⟨by omega, fun hlt => ⟨e, hlt, by omega, by omega⟩, fun hge => ?_⟩
  have := hb (by omega) hge
  omega
theorem k_prod {u d Y q r : Nat} (hr : KRel u d Y q r) : q * (Y % 4294967296) < 18446744073709551616 := by
  have h1 := hr.2.2.1
  have h : q * (Y % 4294967296) ≤ 4294967297 * 4294967295 := Nat.mul_le_mul h1 (by omega)
  omega

end Go.Proofs.Ytdphooobgbminaa
/- The library's contract for math/bits.LeadingZeros64, at this program's numbers. -/
namespace Go.Proofs.Ytdphooobgbminaa
open Go.Shelf

def lz_ren : Go.Shelf.Ren := ⟨fun | 134 => 49 | 129 => 53 | n => n, fun | 53 => 22 | 3 => 3 | 4 => 4 | 46 => 88 | 5 => 5 | 9 => 9 | n => n, fun | n => n⟩
theorem lz_lays : Go.Proofs.Lays.n134 Try.prog lz_ren := {
  mixed := by kernel_rfl
  f129 := Try.func53.trans (congrArg some (by kernel_rfl))
  f134 := Try.func49.trans (congrArg some (by kernel_rfl))
  t3 := Try.underlying3
  a3 := Try.isAgg3
  z3 := Try.sizeOf3
  v3 := Try.zeroValue3
  t4 := Try.underlying4
  a4 := Try.isAgg4
  z4 := Try.sizeOf4
  v4 := Try.zeroValue4
  t5 := Try.underlying5
  a5 := Try.isAgg5
  z5 := Try.sizeOf5
  v5 := Try.zeroValue5
  t9 := Try.underlying9
  a9 := Try.isAgg9
  z9 := Try.sizeOf9
  v9 := Try.zeroValue9
  t46 := Try.underlying88
  a46 := Try.isAgg88
  z46 := Try.sizeOf88
  v46 := Try.zeroValue88
  t53 := Try.underlying22
  a53 := Try.isAgg22
  z53 := Try.sizeOf22
  v53 := Try.zeroValue22 }
theorem lz_any (x : Nat) (w : World) (h1 : x < 18446744073709551616) :
    Calls Try.prog 49 #[.int .u64 (x : Int)] w fun e w' => e = .returned (.int .i64 (64 - (Lib.bitLen x : Int))) ∧ w = w' :=
  (Any.bits_LeadingZeros64 lz_lays (x : Int) w (by omega) (by omega)).mono fun _ _ h => ⟨h.1, h.2.symm⟩

end Go.Proofs.Ytdphooobgbminaa
