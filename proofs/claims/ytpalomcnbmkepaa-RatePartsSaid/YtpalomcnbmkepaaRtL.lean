/- Layer 12: the chapter's example; what came in. -/
import Derived.Test.YtpalomcnbmkepaaRtC
import Derived.Deep.Strs
namespace Go.Proofs.Ytpalomcnbmkepaa.Rt
open Go.ChangeShapes Go.WideShapes Go.ChangeAt Go.RowKit Go.Deep Go.Lib
open Go.Joins (cell_of_block unfrozen_of_block block_setCell)
set_option linter.unusedVariables false
set_option linter.unusedSimpArgs false
set_option maxRecDepth 20000

set_option maxHeartbeats 1000000 in
theorem rate_lives (w : World) : Calls Try.prog 5 #[] w fun e w' => e = .returned (.bool true) ∧ Below w.heap.size w w' := by
  obtain ⟨w1, hw1⟩ : ∃ x, x = w.alloc (.cells #[.int .i64 0, .int .i64 10, .int .i64 10, .int .i64 15, .int .i64 20, .int .i64 3] TSQ) := ⟨_, rfl⟩
  obtain ⟨N, hN⟩ : ∃ x, x = w.heap.size := ⟨_, rfl⟩
  have b1 : Below w.heap.size w w1 := hw1 ▸ (Below.refl _ _).alloc (Nat.le_refl _) _
  have k1 : w1.heap[N]? = some (.cells #[.int .i64 0, .int .i64 10, .int .i64 10, .int .i64 15, .int .i64 20, .int .i64 3] TSQ (0, 0)) := by rw [hw1, hN]; exact heap_alloc_new w _
  have lt : N < w1.heap.size := (Array.getElem?_eq_some_iff.1 k1).1
  have R : RowS w1 (some ⟨N, 0, none⟩) exR := fun i x hx => by
    match i, hx with
    | 0, hx => cases hx; exact ⟨by unfold Fits64; decide, N, 0, rfl, lt, cell_of_block k1 0, cell_of_block k1 1⟩
    | 1, hx => cases hx; exact ⟨by unfold Fits64; decide, N, 0, rfl, lt, cell_of_block k1 2, cell_of_block k1 3⟩
    | 2, hx => cases hx; exact ⟨by unfold Fits64; decide, N, 0, rfl, lt, cell_of_block k1 4, cell_of_block k1 5⟩
    | i + 3, hx => simp [exR] at hx
  have HR : Hid (∀ W, Below w1.heap.size w1 W → RowS W (some ⟨N, 0, none⟩) exR) := fun W b => R.below b
  have CI := Lib.hid (inc_any w1 (some ⟨N, 0, none⟩) 3 2 exR rfl (by omega) R (by decide) exR_good)
  have HW : Hid (w.alloc (.cells #[.int .i64 0, .int .i64 10, .int .i64 10, .int .i64 15, .int .i64 20, .int .i64 3] TSQ) = w1 ∧ w.heap.size = N) := ⟨hw1.symm, hN.symm⟩
  have B1 := Lib.hid b1
  clear hw1 hN k1 lt R b1
  go_enter Try.func5, Try.ntmps5
  go_upto_region 2 with fail
  rw [HW.out.1, HW.out.2]
  go_wp2_with fail
  refine CI.out.mono ?_
  rintro e w2 ⟨hi, b2⟩
  have hi2 : e = .returned (.tuple #[.int .i64 8, .int .i64 0]) := by
    rcases hi with ⟨_, hi⟩ | ⟨hi, _⟩
    · exact hi
    · exact absurd hi (by decide)
  subst hi2
  have B2 := Lib.hid b2
  have CE := Lib.hid (rate_ex w2 N 0 3 (HR.out _ b2))
  clear hi b2 CI
  go_wp2_with fail
  refine CE.out.mono ?_
  rintro e w3 ⟨rfl, b3⟩
  have B3 : Hid (Below w1.heap.size w1 w3) := B2.out.trans (b3.mono B2.out.size)
  have CF := Lib.hid (fun (W : World) (b : Below w1.heap.size w1 W) => resets_any W (some ⟨N, 0, none⟩) 3 2 exR rfl (HR.out _ b) (by decide))
  clear b3 CE
  go_wp2_with fail
  refine (CF.out _ B3.out).mono ?_
  rintro e w4 ⟨rfl, m, rfl⟩
  go_wp2
  go_ret
  exact ⟨rfl, Below.drewN' (B1.out.trans (B3.out.mono B1.out.size)) _⟩

/-! ### What came in -/
theorem spot_noneS {w : World} {a : Addr} {u : Value} (h : w.cell? a = some u) : ∃ b off, a = ⟨b, off, none⟩ ∧ b < w.heap.size := by
  obtain ⟨b, off, s⟩ := a
  unfold World.cell? at h
  split at h
  · rename_i c t f hb
    cases s with
    | none => exact ⟨b, off, rfl, (Array.getElem?_eq_some_iff.1 hb).1⟩
    | some s => simp at h
  · cases h
theorem add_noneS (b off n : Nat) : (⟨b, off, none⟩ : Addr).add n = ⟨b, off + n, none⟩ := by unfold Addr.add; split <;> simp_all
theorem cells_twoS {w : World} {a : Addr} {cs : List Value} (h : w.cells? 0 a 2 = some cs) : ∃ u v, cs = [u, v] ∧ w.cell? (a.add 0) = some u ∧ w.cell? (a.add 1) = some v := by
  unfold World.cells? at h
  rw [if_pos (Nat.zero_le _)] at h
  simp only [show List.range 2 = [0, 1] from rfl, List.mapM_cons, List.mapM_nil, Option.bind_eq_bind, Option.bind_eq_some_iff, Option.pure_def, Option.some.injEq] at h
  obtain ⟨u, hu, r1, ⟨v, hv, r2, rfl, rfl⟩, rfl⟩ := h
  exact ⟨u, v, rfl, hu, hv⟩
theorem cells_oneS {w : World} {a : Addr} {cs : List Value} (h : w.cells? 0 a 1 = some cs) : ∃ u, cs = [u] ∧ w.cell? (a.add 0) = some u := by
  unfold World.cells? at h
  rw [if_pos (Nat.zero_le _)] at h
  simp only [show List.range 1 = [0] from rfl, List.mapM_cons, List.mapM_nil, Option.bind_eq_bind, Option.bind_eq_some_iff, Option.pure_def, Option.some.injEq] at h
  obtain ⟨u, hu, r1, rfl, rfl⟩ := h
  exact ⟨u, rfl, hu⟩
theorem wf_i64S {n : Int} (h : (Lit.int .i64 n).wf = true) : Fits64 n := by
  have e1 : IntKind.i64.min = -9223372036854775808 := rfl
  have e2 : IntKind.i64.max = 9223372036854775807 := rfl
  simp [Lit.wf, e1, e2] at h
  exact ⟨by omega, by omega⟩
theorem wf_u16S {n : Int} (h : (Lit.int .u16 n).wf = true) : 0 ≤ n ∧ n < 65536 := by
  have e1 : IntKind.u16.min = 0 := rfl
  have e2 : IntKind.u16.max = 65535 := rfl
  simp [Lit.wf, e1, e2] at h
  omega
theorem wf_u32S {n : Int} (h : (Lit.int .u32 n).wf = true) : 0 ≤ n ∧ n < 4294967296 := by
  have e1 : IntKind.u32.min = 0 := rfl
  have e2 : IntKind.u32.max = 4294967295 := rfl
  simp [Lit.wf, e1, e2] at h
  omega
theorem open_row {H : Type} {enc : TypeId × Value → H} {W : World} {base : Nat} {v : Value} {d : DataW H} {p : List MemPlace} (o : Value.okWide Try.prog W .any base 22 v)
    (h : DataW.Trod enc Try.prog W 0 (fun _ => true) true 22 v d p) : ∃ q c l, v = .slice q l.length c ∧ l.length ≤ 9223372036854775807 ∧ l.length ≤ c ∧ c ≤ 9223372036854775807 ∧ RowS W q l := by
  obtain ⟨a0, len, cap, rfl⟩ := okWide_slice Try.underlying22 o
  obtain ⟨fuel, hf⟩ := h
  have c2 : Try.prog.cellsOf TSQ = 2 := by kernel_rfl
  have ci : Try.prog.cellsOf 26 = 1 := by kernel_rfl
  have cj : Try.prog.cellsOf 2 = 1 := by kernel_rfl
  rcases open_slice Try.underlying22 hf with ⟨hcs, hx⟩ | ⟨a, len', cap', m, n, D, Pl, hcs, _, hl, hm, hmm, hx, hcell⟩
  · simp [Value.cells] at hcs
    obtain ⟨rfl, rfl, rfl⟩ := hcs
    exact ⟨none, 0, [], rfl, by simp, by simp, by simp, fun i x h => by simp at h⟩
  · simp [Value.cells] at hcs
    obtain ⟨rfl, rfl, rfl⟩ := hcs
    simp only [if_true] at hmm
    have each : ∀ i, i < len → ∃ x : Sam, (Fits64 x.1 ∧ Fits64 x.2) ∧ ∃ b off, a = ⟨b, off, none⟩ ∧ b < W.heap.size ∧ W.cell? ⟨b, off + i * 2, none⟩ = some (.int .i64 x.1) ∧ W.cell? ⟨b, off + i * 2 + 1, none⟩ = some (.int .i64 x.2) := by
      intro i hi
      obtain ⟨cs, h1, h2⟩ := hcell i (by omega)
      rw [c2] at h1
      obtain ⟨u, v, rfl, hu, hv⟩ := cells_twoS h1
      have h0 : ∃ u0, W.cell? (a.add 0) = some u0 := by
        obtain ⟨cs, h1, _⟩ := hcell 0 (by omega)
        rw [c2] at h1
        obtain ⟨u0, v0, _, hu0, _⟩ := cells_twoS h1
        exact ⟨u0, by simpa [Addr.add] using hu0⟩
      obtain ⟨u0, hu0⟩ := h0
      obtain ⟨b, off, ha, hb⟩ := spot_noneS (by simpa [Addr.add] using hu0)
      subst ha
      obtain ⟨y0, y1, k, _, _, t0, t1⟩ := trod_struct2 Try.underlying34 h2
      obtain ⟨z0, e0, _, w0⟩ := DataW.trod_int Try.underlying2 t0
      obtain ⟨z1, e1, _, w1⟩ := DataW.trod_int Try.underlying26 t1
      simp [ci, cj] at e0 e1
      subst e0 e1
      rw [add_noneS, add_noneS] at hu hv
      exact ⟨(z0, z1), ⟨wf_i64S w0, wf_i64S w1⟩, b, off, rfl, hb, hu, hv⟩
    obtain ⟨f, hf⟩ := choose_lt each
    unfold maxLen at hm
    refine ⟨some a, cap, (List.range len).map f, by simp, by simp; omega, by simp; omega, by omega, ?_⟩
    intro j x hj
    rw [List.getElem?_map, Option.map_eq_some_iff] at hj
    obtain ⟨i, hi, rfl⟩ := hj
    obtain ⟨hlt, rfl⟩ := List.getElem?_eq_some_iff.1 hi
    rw [List.getElem_range] at *
    obtain ⟨hok, b, off, e, r⟩ := hf j (by simpa using hlt)
    exact ⟨hok, b, off, by rw [e], r⟩
/-- A row of small numbers that came in. -/
def Nums (W : World) (q : Option Addr) (l : List Int) : Prop := ∀ i (x : Int), l[i]? = some x → (0 ≤ x ∧ x < 65536) ∧ ∃ b off : Nat, q = some ⟨b, off, none⟩ ∧ b < W.heap.size ∧ W.cell? ⟨b, off + i, none⟩ = some (.int .u16 x)
theorem Nums.below {W W' : World} {q : Option Addr} {l : List Int} (h : Nums W q l) (hb : Below W.heap.size W W') : Nums W' q l := fun i x hx => by
  obtain ⟨h0, b, off, e, hlt, c0⟩ := h i x hx
  exact ⟨h0, b, off, e, Nat.lt_of_lt_of_le hlt hb.size, (hb.cell (p := ⟨b, _, none⟩) hlt).trans c0⟩
theorem open_nums {H : Type} {enc : TypeId × Value → H} {W : World} {base : Nat} {v : Value} {d : DataW H} {p : List MemPlace} (o : Value.okWide Try.prog W .any base 32 v)
    (h : DataW.Trod enc Try.prog W 0 (fun _ => true) true 32 v d p) : ∃ q c l, v = .slice q l.length c ∧ l.length ≤ 9223372036854775807 ∧ Nums W q l := by
  obtain ⟨a0, len, cap, rfl⟩ := okWide_slice Try.underlying32 o
  obtain ⟨fuel, hf⟩ := h
  have cj : Try.prog.cellsOf 35 = 1 := by kernel_rfl
  rcases open_slice Try.underlying32 hf with ⟨hcs, hx⟩ | ⟨a, len', cap', m, n, D, Pl, hcs, _, hl, hm, hmm, hx, hcell⟩
  · simp [Value.cells] at hcs
    obtain ⟨rfl, rfl, rfl⟩ := hcs
    exact ⟨none, 0, [], rfl, by simp, fun i x h => by simp at h⟩
  · simp [Value.cells] at hcs
    obtain ⟨rfl, rfl, rfl⟩ := hcs
    simp only [if_true] at hmm
    have each : ∀ i, i < len → ∃ x : Int, (0 ≤ x ∧ x < 65536) ∧ ∃ b off, a = ⟨b, off, none⟩ ∧ b < W.heap.size ∧ W.cell? ⟨b, off + i, none⟩ = some (.int .u16 x) := by
      intro i hi
      obtain ⟨cs, h1, h2⟩ := hcell i (by omega)
      rw [cj] at h1
      obtain ⟨u, rfl, hu⟩ := cells_oneS h1
      have h0 : ∃ u0, W.cell? (a.add 0) = some u0 := by
        obtain ⟨cs, h1, _⟩ := hcell 0 (by omega)
        rw [cj] at h1
        obtain ⟨u0, _, hu0⟩ := cells_oneS h1
        exact ⟨u0, by simpa [Addr.add] using hu0⟩
      obtain ⟨u0, hu0⟩ := h0
      obtain ⟨b, off, ha, hb⟩ := spot_noneS (by simpa [Addr.add] using hu0)
      subst ha
      obtain ⟨z0, e0, _, w0⟩ := DataW.trod_int Try.underlying35 h2
      simp at e0
      subst e0
      rw [add_noneS, add_noneS] at hu
      refine ⟨z0, wf_u16S w0, b, off, rfl, hb, ?_⟩
      simpa using hu
    obtain ⟨f, hf⟩ := choose_lt each
    unfold maxLen at hm
    refine ⟨some a, cap, (List.range len).map f, by simp, by simp; omega, ?_⟩
    intro j x hj
    rw [List.getElem?_map, Option.map_eq_some_iff] at hj
    obtain ⟨i, hi, rfl⟩ := hj
    obtain ⟨hlt, rfl⟩ := List.getElem?_eq_some_iff.1 hi
    rw [List.getElem_range] at *
    obtain ⟨hok, b, off, e, r⟩ := hf j (by simpa using hlt)
    exact ⟨hok, b, off, by rw [e], r⟩
end Go.Proofs.Ytpalomcnbmkepaa.Rt
