/- Layer 17 (room): sums of more than 64 bits: one more, one less, as a quantity, what is left. -/
import Derived.Test.YtdphooobgbminaaObOp
import Derived.Shelf.Spec.BitsCarry
import Derived.Laws.Externs
namespace Go.Proofs.Ytdphooobgbminaa.Rm
open Go.RowKit Go.Shelf Go.Lib Go.Sort Go.Deep
open Go.Joins (cell_of_block unfrozen_of_block block_setCell)
set_option linter.unusedVariables false
set_option linter.unusedSimpArgs false
set_option maxRecDepth 20000

abbrev ST : TypeId := 65
abbrev LT : TypeId := 67
/-- A sum: its upper part, its lower part. -/
def hiS (v : Int) : Int := v / 18446744073709551616
def loS (v : Int) : Nat := (v % 18446744073709551616).toNat
def smA (v : Int) : Array Value := #[.int .i64 (hiS v), .int .u64 (loS v : Int)]
def Sm (v : Int) : Value := .agg (smA v)
/-- Within bounds that no sum comes near. -/
def Fair (v : Int) : Prop := -1267650600228229401496703205376 ≤ v ∧ v ≤ 1267650600228229401496703205376

theorem add64_at (x y c : Nat) (hc : c ≤ 1) (w : World) :
    (callFunc 34 #[.int .u64 (x : Int), .int .u64 (y : Int), .int .u64 (c : Int)]).run Try.prog w =
      .ok (.value (.tuple #[.int .u64 (((x + y + c) % 18446744073709551616 : Nat) : Int), .int .u64 (((x + y + c) / 18446744073709551616 : Nat) : Int)])) w := by
  rw [run_callFunc_extern Try.func34 (by kernel_rfl) (by kernel_rfl) (by kernel_rfl) (e := add64Entry) (by kernel_rfl), run_add64 (x : Int) (y : Int) (c : Int) (by omega) (by omega) (by omega) (by omega)]
  have e1 : ((x : Int) + y + c) % 18446744073709551616 = (((x + y + c) % 18446744073709551616 : Nat) : Int) := by omega
  have e2 : ((x : Int) + y + c) / 18446744073709551616 = (((x + y + c) / 18446744073709551616 : Nat) : Int) := by omega
  rw [e1, e2]
  rfl
theorem sub64_at (x y b : Nat) (hb : b ≤ 1) (w : World) :
    (callFunc 46 #[.int .u64 (x : Int), .int .u64 (y : Int), .int .u64 (b : Int)]).run Try.prog w =
      .ok (.value (.tuple #[.int .u64 (((x + 18446744073709551616 - y - b) % 18446744073709551616 : Nat) : Int), .int .u64 ((if x < y + b then 1 else 0 : Nat) : Int)])) w := by
  rw [run_callFunc_extern Try.func46 (by kernel_rfl) (by kernel_rfl) (by kernel_rfl) (e := sub64Entry) (by kernel_rfl), run_sub64 x y b hb]
  rfl
/-- What only grew: told by what stayed. -/
theorem gr_mk {w w' : World} (b : Below w.heap.size w w') (d : w.drawn ≤ w'.drawn) : Gr w w' := by
  refine ⟨w'.drawn - w.drawn, w'.heap.extract w.heap.size w'.heap.size, ?_⟩
  obtain ⟨h', t', n', o', p'⟩ := w'
  obtain ⟨h, t, n, o, p⟩ := w
  have e1 := b.os
  have e2 := b.tape
  have e3 := b.output
  have e4 := b.size
  have e5 := b.block
  simp only at e1 e2 e3 e4 e5 d
  subst e1 e2 e3
  have eh : h' = h ++ h'.extract h.size h'.size := by
    apply Array.ext_getElem?
    intro i
    by_cases hi : i < h.size
    · rw [Array.getElem?_append_left hi]
      exact e5 i hi
    · rw [Array.getElem?_append_right (by omega), Array.getElem?_extract]
      split
      · congr 1; omega
      · rw [Array.getElem?_eq_none (by omega)]
  simp only [grow, World.drewN, World.mk.injEq, and_true, true_and]
  exact ⟨eh, by omega⟩
theorem gr_drawn {w w' : World} (h : Gr w w') : w.drawn ≤ w'.drawn := by
  obtain ⟨q, os, rfl⟩ := h
  show w.drawn ≤ w.drawn + q
  omega
theorem gr_set {w w' : World} (h : Gr w w') {a : Addr} (v : Value) (ha : w.heap.size ≤ a.block) : Gr w (w'.setCell a v) := by
  refine gr_mk ⟨h.below.os, h.below.tape, h.below.output, ?_, fun k hk => ?_⟩ (show w.drawn ≤ w'.drawn from gr_drawn h)
  · have := h.size
    simpa [World.setCell] using this
  · rw [heap_setCell_other _ _ _ _ (by omega)]
    exact h.below.block k hk

theorem gr_setCells : ∀ (vs : List Value) {w w' : World} (h : Gr w w') (b o : Nat), w.heap.size ≤ b → Gr w (w'.setCells b o vs)
  | [], _, _, h, _, _, _ => h
  | v :: r, _, _, h, b, o, hb => by
    rw [World.setCells]
    exact gr_setCells r (gr_set h v hb) b (o + 1) hb
/-- One more, and one less, in two parts. -/
theorem plus_parts {v m h d : Int} {l U s c : Nat} (hv : Fair v) (hm : I64 m) (hh : h = v / 18446744073709551616) (hl : l = (v % 18446744073709551616).toNat) (hU : U = (m % 18446744073709551616).toNat) (hs : s = (l + U + 0) % 18446744073709551616) (hc : c = (l + U + 0) / 18446744073709551616) (hd : d = m / 9223372036854775808) :
    wrap64 (wrap64 (h + d) + wrap64 (c : Int)) = (v + m) / 18446744073709551616 ∧ s = ((v + m) % 18446744073709551616).toNat := by
  unfold Fair at hv
  unfold I64 at hm
  unfold wrap64
  omega
theorem minus_parts {v m h d : Int} {l U s c : Nat} (hv : Fair v) (hm : I64 m) (hh : h = v / 18446744073709551616) (hl : l = (v % 18446744073709551616).toNat) (hU : U = (m % 18446744073709551616).toNat) (hs : s = (l + 18446744073709551616 - U - 0) % 18446744073709551616) (hc : c = if l < U + 0 then 1 else 0) (hd : d = m / 9223372036854775808) :
    wrap64 (wrap64 (h - d) - wrap64 (c : Int)) = (v - m) / 18446744073709551616 ∧ s = ((v - m) % 18446744073709551616).toNat := by
  unfold Fair at hv
  unfold I64 at hm
  unfold wrap64
  split at hc <;> omega

set_option maxHeartbeats 2000000 in
theorem sum_plus (v m : Int) (w : World) (hv : Fair v) (hm : I64 m) :
    Calls Try.prog 19 #[Sm v, .int .i64 m] w fun e w' => e = .returned (Sm (v + m)) ∧ Gr w w' := by
  unfold Sm smA
  obtain ⟨h, hh⟩ : ∃ h, h = hiS v := ⟨_, rfl⟩
  obtain ⟨l, hl⟩ : ∃ l, l = loS v := ⟨_, rfl⟩
  obtain ⟨U, hU⟩ : ∃ U : Nat, U = (m % 18446744073709551616).toNat := ⟨_, rfl⟩
  obtain ⟨s, hs⟩ : ∃ s, s = (l + U + 0) % 18446744073709551616 := ⟨_, rfl⟩
  obtain ⟨c, hc⟩ : ∃ c, c = (l + U + 0) / 18446744073709551616 := ⟨_, rfl⟩
  obtain ⟨d, hd⟩ : ∃ d, d = m / 9223372036854775808 := ⟨_, rfl⟩
  have e1 : IntKind.u64.wrap m = (U : Int) := by rw [IntKind.wrap_u64]; omega
  have r1 : ∀ W : World, (callFunc 34 #[.int .u64 (l : Int), .int .u64 (U : Int), .int .u64 0]).run Try.prog W = .ok (.value (.tuple #[.int .u64 (s : Int), .int .u64 (c : Int)])) W := fun W => by rw [hs, hc]; exact add64_at l U 0 (by decide) W
  have E := Lib.hid (plus_parts hv hm hh hl hU hs hc hd)
  have e2 : m / 9223372036854775808 = d := hd.symm
  rw [← hh, ← hl]
  have HG := Lib.hid (((Gr.refl w).alloc (.cells #[.int .i64 h, .int .u64 (l : Int)] ST)).alloc (.cells #[.int .i64 (hiS (v + m)), .int .u64 (loS (v + m) : Int)] ST))
  clear hh hl hU hs hc hd hv hm
  obtain ⟨h', hh'⟩ : ∃ x, x = hiS (v + m) := ⟨_, rfl⟩
  obtain ⟨s', hs'⟩ : ∃ x, x = loS (v + m) := ⟨_, rfl⟩
  rw [← hh', ← hs'] at HG ⊢
  have E' : Hid (wrap64 (wrap64 (h + d) + wrap64 (c : Int)) = h' ∧ s = s') := ⟨E.out.1.trans hh'.symm, E.out.2.trans hs'.symm⟩
  clear E hh' hs'
  go_enter Try.func19, Try.ntmps19
  go_wp2_with (simp only [r1])
  rw [E'.out.1, E'.out.2]
  exact bodyPost_ret (v := .agg #[.int .i64 h', .int .u64 (s' : Int)]) (by simp [results, Try.results19, go_sem]) rfl ⟨rfl, HG.out⟩
set_option maxHeartbeats 2000000 in
theorem sum_minus (v m : Int) (w : World) (hv : Fair v) (hm : I64 m) :
    Calls Try.prog 37 #[Sm v, .int .i64 m] w fun e w' => e = .returned (Sm (v - m)) ∧ Gr w w' := by
  unfold Sm smA
  obtain ⟨h, hh⟩ : ∃ h, h = hiS v := ⟨_, rfl⟩
  obtain ⟨l, hl⟩ : ∃ l, l = loS v := ⟨_, rfl⟩
  obtain ⟨U, hU⟩ : ∃ U : Nat, U = (m % 18446744073709551616).toNat := ⟨_, rfl⟩
  obtain ⟨s, hs⟩ : ∃ s, s = (l + 18446744073709551616 - U - 0) % 18446744073709551616 := ⟨_, rfl⟩
  obtain ⟨c, hc⟩ : ∃ c, c = if l < U + 0 then 1 else 0 := ⟨_, rfl⟩
  obtain ⟨d, hd⟩ : ∃ d, d = m / 9223372036854775808 := ⟨_, rfl⟩
  have e1 : IntKind.u64.wrap m = (U : Int) := by rw [IntKind.wrap_u64]; omega
  have r1 : ∀ W : World, (callFunc 46 #[.int .u64 (l : Int), .int .u64 (U : Int), .int .u64 0]).run Try.prog W = .ok (.value (.tuple #[.int .u64 (s : Int), .int .u64 (c : Int)])) W := fun W => by rw [hs, hc]; exact sub64_at l U 0 (by decide) W
  have E := Lib.hid (minus_parts hv hm hh hl hU hs hc hd)
  have e2 : m / 9223372036854775808 = d := hd.symm
  rw [← hh, ← hl]
  have HG := Lib.hid (((Gr.refl w).alloc (.cells #[.int .i64 h, .int .u64 (l : Int)] ST)).alloc (.cells #[.int .i64 (hiS (v - m)), .int .u64 (loS (v - m) : Int)] ST))
  clear hh hl hU hs hc hd hv hm
  obtain ⟨h', hh'⟩ : ∃ x, x = hiS (v - m) := ⟨_, rfl⟩
  obtain ⟨s', hs'⟩ : ∃ x, x = loS (v - m) := ⟨_, rfl⟩
  rw [← hh', ← hs'] at HG ⊢
  have E' : Hid (wrap64 (wrap64 (h - d) - wrap64 (c : Int)) = h' ∧ s = s') := ⟨E.out.1.trans hh'.symm, E.out.2.trans hs'.symm⟩
  clear E hh' hs'
  go_enter Try.func37, Try.ntmps37
  go_wp2_with (simp only [r1])
  rw [E'.out.1, E'.out.2]
  exact bodyPost_ret (v := .agg #[.int .i64 h', .int .u64 (s' : Int)]) (by simp [results, Try.results37, go_sem]) rfl ⟨rfl, HG.out⟩
/-- A sum as a quantity: itself, or the end of the numbers that it is beyond. -/
def clamp (v : Int) : Int := if v < -9223372036854775808 then -9223372036854775808 else if 9223372036854775807 < v then 9223372036854775807 else v
theorem clamp_id {v : Int} (h : I64 v) : clamp v = v := by
  unfold clamp
  unfold I64 at h
  rw [if_neg (by omega), if_neg (by omega)]
theorem clamp_64 (v : Int) : I64 (clamp v) := by
  unfold clamp I64
  split
  · omega
  · split <;> omega
set_option maxHeartbeats 2000000 in
theorem sum_milli (v : Int) (w : World) (hv : Fair v) :
    Calls Try.prog 15 #[Sm v] w fun e w' => e = .returned (.int .i64 (clamp v)) ∧ Gr w w' := by
  unfold Sm smA
  obtain ⟨h, hh⟩ : ∃ h, h = hiS v := ⟨_, rfl⟩
  obtain ⟨l, hl⟩ : ∃ l, l = loS v := ⟨_, rfl⟩
  obtain ⟨m, hm⟩ : ∃ m : Int, m = wrap64 (l : Int) := ⟨_, rfl⟩
  obtain ⟨d, hd⟩ : ∃ d : Int, d = m / 9223372036854775808 := ⟨_, rfl⟩
  have e1 : wrap64 (l : Int) = m := hm.symm
  have e2 : m / 9223372036854775808 = d := hd.symm
  rw [← hh, ← hl]
  have HG := Lib.hid ((Gr.refl w).alloc (.cells #[.int .i64 h, .int .u64 (l : Int)] ST))
  unfold wrap64 at hm
  unfold Fair at hv
  unfold hiS at hh
  unfold loS at hl
  by_cases h1 : h = d
  · have t1 : (h == d) = true := by simp [h1]
    have E : Hid (m = clamp v) := by
      show m = _
      unfold clamp
      split
      · omega
      · split <;> omega
    clear hh hl hm hd hv h1
    go_enter Try.func15, Try.ntmps15
    go_wp2
    go_ret
    exact ⟨by rw [← E.out, ← e1]; rfl, HG.out⟩
  · have t1 : (h == d) = false := by simp [h1]
    by_cases h2 : h < 0
    · have t2 : decide (h < 0) = true := decide_eq_true h2
      have E : Hid (-9223372036854775808 = clamp v) := by
        show _ = _
        unfold clamp
        split
        · rfl
        · split <;> omega
      clear hh hl hm hd hv h1 h2
      go_enter Try.func15, Try.ntmps15
      go_wp2
      go_ret
      exact ⟨by rw [← E.out]; rfl, HG.out⟩
    · have t2 : decide (h < 0) = false := decide_eq_false h2
      have E : Hid (9223372036854775807 = clamp v) := by
        show _ = _
        unfold clamp
        split
        · omega
        · split <;> omega
      clear hh hl hm hd hv h1 h2
      go_enter Try.func15, Try.ntmps15
      go_wp2
      go_ret
      exact ⟨by rw [← E.out]; rfl, HG.out⟩
theorem fair_of {m : Int} (h : I64 m) : Fair m := by unfold I64 at h; unfold Fair; omega
theorem fair_two {m n : Int} (h : I64 m) (k : I64 n) : Fair (m - n) ∧ Fair (m + n) := by unfold I64 at h k; unfold Fair; omega
set_option maxHeartbeats 2000000 in
theorem sum_left (a b : Int) (w : World) (ha : I64 a) (hb : I64 b) :
    Calls Try.prog 22 #[.int .i64 a, .int .i64 b] w fun e w' => e = .returned (Sm (a - b)) ∧ Gr w w' := by
  have C1 : Hid (∀ W : World, Calls Try.prog 19 #[.agg #[.int .i64 0, .int .u64 0], .int .i64 a] W fun e w' => e = .returned (Sm a) ∧ Gr W w') := fun W => by
    have := sum_plus 0 a W (by unfold Fair; omega) ha
    rw [Int.zero_add] at this
    exact this
  obtain ⟨h, hh⟩ : ∃ h, h = hiS (a - b) := ⟨_, rfl⟩
  obtain ⟨l, hl⟩ : ∃ l, l = loS (a - b) := ⟨_, rfl⟩
  have C2 : Hid (∀ W : World, Calls Try.prog 37 #[Sm a, .int .i64 b] W fun e w' => e = .returned (.agg #[.int .i64 h, .int .u64 (l : Int)]) ∧ Gr W w') := fun W => by
    have := sum_minus a b W (fair_of ha) hb
    have e : Sm (a - b) = .agg #[.int .i64 h, .int .u64 (l : Int)] := by unfold Sm smA; rw [hh, hl]
    rw [e] at this
    exact this
  have e : Sm (a - b) = .agg #[.int .i64 h, .int .u64 (l : Int)] := by unfold Sm smA; rw [hh, hl]
  rw [e]
  clear hh hl e
  have G0 := Lib.hid ((Gr.refl w).alloc (.cells #[.int .i64 0, .int .u64 0] ST))
  obtain ⟨B, hB⟩ : ∃ B, B = w.heap.size := ⟨_, rfl⟩
  obtain ⟨w0, hw0⟩ : ∃ W, W = w.alloc (.cells #[.int .i64 0, .int .u64 0] ST) := ⟨_, rfl⟩
  have b0 : w0.heap[B]? = some (.cells #[.int .i64 0, .int .u64 0] ST (0, 0)) := by rw [hw0, hB]; exact heap_alloc_new w _
  rw [← hw0] at G0
  have HW : Hid (w.alloc (.cells #[.int .i64 0, .int .u64 0] ST) = w0 ∧ w.heap.size = B) := ⟨hw0.symm, hB.symm⟩
  clear hw0 hB ha hb
  go_enter Try.func22, Try.ntmps22
  go_upto_region 1 with fail
  rw [HW.out.1, HW.out.2]
  go_wp2_with fail
  refine (C1.out _).mono ?_
  rintro e w1 ⟨rfl, g1⟩
  go_wp2_with fail
  refine (C2.out _).mono ?_
  rintro e w2 ⟨rfl, g2⟩
  have b2 : w2.heap[B]? = some (.cells #[.int .i64 0, .int .u64 0] ST (0, 0)) := by
    have h1 : w1.heap[B]? = _ := (g1.heap (Array.getElem?_eq_some_iff.1 b0).1).trans b0
    exact (g2.heap (Array.getElem?_eq_some_iff.1 h1).1).trans h1
  have GG := Lib.hid ((G0.out.trans g1).trans g2)
  have HB : Hid (w.heap.size ≤ B) := by rw [HW.out.2]; exact Nat.le_refl _
  have c0 : w2.cell? ⟨B, 0, none⟩ = some (.int .i64 0) := cell_of_block b2 0
  have c1 : w2.cell? ⟨B, 1, none⟩ = some (.int .u64 0) := cell_of_block b2 1
  have f0 : w2.frozen? ⟨B, 0, none⟩ = false := unfrozen_of_block b2 0
  have f1 : w2.frozen? ⟨B, 1, none⟩ = false := unfrozen_of_block b2 1
  clear g1 g2 b2 b0
  go_wp2
  refine bodyPost_ret (v := .agg #[.int .i64 h, .int .u64 (l : Int)]) (by simp [results, Try.results22, go_sem, c0, c1]) rfl ⟨rfl, ?_⟩
  exact gr_set (gr_set GG.out _ HB.out) _ HB.out
def Enough (v ask : Int) : Bool := decide (0 ≤ v - ask)
set_option maxHeartbeats 2000000 in
theorem sum_enough (v ask : Int) (w : World) (hv : Fair v) (ha : I64 ask) (hf : Fair (v - ask)) :
    Calls Try.prog 21 #[Sm v, .int .i64 ask] w fun e w' => e = .returned (.bool (Enough v ask)) ∧ Gr w w' := by
  obtain ⟨h, hh⟩ : ∃ h, h = hiS v := ⟨_, rfl⟩
  obtain ⟨l, hl⟩ : ∃ l, l = loS v := ⟨_, rfl⟩
  obtain ⟨h', hh'⟩ : ∃ x, x = hiS (v - ask) := ⟨_, rfl⟩
  obtain ⟨l', hl'⟩ : ∃ x, x = loS (v - ask) := ⟨_, rfl⟩
  have C1 : Hid (∀ W : World, Calls Try.prog 37 #[.agg #[.int .i64 h, .int .u64 (l : Int)], .int .i64 ask] W fun e w' => e = .returned (.agg #[.int .i64 h', .int .u64 (l' : Int)]) ∧ Gr W w') := fun W => by
    have := sum_minus v ask W hv ha
    unfold Sm smA at this
    rw [← hh, ← hl, ← hh', ← hl'] at this
    exact this
  have E : Hid (decide (0 ≤ h') = Enough v ask) := by
    show _ = _
    unfold Enough
    unfold hiS at hh'
    rw [Bool.eq_iff_iff, decide_eq_true_iff, decide_eq_true_iff]
    omega
  have G0 := Lib.hid ((Gr.refl w).alloc (.cells #[.int .i64 h, .int .u64 (l : Int)] ST))
  unfold Sm smA
  rw [← hh, ← hl, ← E.out]
  have fr : ∀ W : World, (Instr.field ST (.agg #[.int .i64 h', .int .u64 (l' : Int)]) 0).run Try.prog W = .ok (.int .i64 h') W := fun W => by kernel_rfl
  clear hh hl hh' hl' hv ha hf E
  go_enter Try.func21, Try.ntmps21
  go_wp2_with fail
  refine (C1.out _).mono ?_
  rintro e w1 ⟨rfl, g1⟩
  have GG := Lib.hid (G0.out.trans g1)
  clear g1 G0 C1
  go_wp2
  go_ret
  exact ⟨rfl, GG.out⟩
end Go.Proofs.Ytdphooobgbminaa.Rm
