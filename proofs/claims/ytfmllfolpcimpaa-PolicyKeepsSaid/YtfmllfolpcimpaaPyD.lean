/- Layer 22 (policy): how far a policy lets one go (limit). -/
import Derived.Test.YtfmllfolpcimpaaPyA
import Derived.Test.YtfmllfolpcimpaaRatioB
namespace Go.Proofs.Ytfmllfolpcimpaa.Py
open Go.RowKit Go.Shelf Go.Lib Go.Sort Go.Deep
open Go.Joins (cell_of_block unfrozen_of_block block_setCell)
open Go.Proofs.Ytfmllfolpcimpaa.Ow
set_option linter.unusedVariables false
set_option linter.unusedSimpArgs false
set_option maxRecDepth 20000

abbrev PolT : TypeId := 31
abbrev SlPo : TypeId := 32
theorem lenPo (x : Pol) : (encP x).length = 3 := rfl
theorem pol_at {W w : World} {q : Option Addr} {l : List Pol} (h : RowR 3 encP W q l) (b : Below W.heap.size W w) {j : Nat} {x : Pol} (hx : l[j]? = some x) : ∃ g off, q = some ⟨g, off, none⟩ ∧ w.cell? ⟨g, off + j * 3, none⟩ = some (.bool x.1) ∧ w.cell? ⟨g, off + j * 3 + 1, none⟩ = some (.int .i64 x.2.1) ∧ w.cell? ⟨g, off + j * 3 + 2, none⟩ = some (.int .i64 x.2.2) := by
  obtain ⟨g, off, e, _, hc⟩ := h.below b j x hx
  have h0 := hc 0 _ rfl
  rw [Nat.add_zero] at h0
  exact ⟨g, off, e, h0, hc 1 _ rfl, hc 2 _ rfl⟩
theorem box_pol (wr : World) (b : Bool) (v p : Int) : ∃ wb E, Hid (wr.alloc (.cells #[.bool b, .int .i64 v, .int .i64 p] PolT) = wb ∧ wr.heap.size = E) ∧ Below wr.heap.size wr wb ∧ wb.heap[E]? = some (.cells #[.bool b, .int .i64 v, .int .i64 p] PolT (0, 0)) ∧ wb.cell? ⟨E, 0, none⟩ = some (.bool b) ∧ wb.cell? ⟨E, 1, none⟩ = some (.int .i64 v) ∧ wb.cell? ⟨E, 2, none⟩ = some (.int .i64 p) := by
  have e : (wr.alloc (.cells #[.bool b, .int .i64 v, .int .i64 p] PolT)).heap[wr.heap.size]? = some (.cells #[.bool b, .int .i64 v, .int .i64 p] PolT (0, 0)) := heap_alloc_new _ _
  exact ⟨_, _, ⟨rfl, rfl⟩, ((Gr.refl wr).alloc _).below, e, cell_of_block e 0, cell_of_block e 1, cell_of_block e 2⟩
/-- By how much a policy lets one go from so many. -/
def byS (x : Pol) (s : Int) : Int := if x.1 = true then (mdWant s.toNat (cnt x.2.1).toNat 1000 true : Int) else cnt x.2.1
/-- How far a policy lets one go from so many. -/
def limS (x : Pol) (s : Int) (up : Bool) : Int := if up = true then cnt (s + byS x s) else cnt (s - byS x s)
theorem limS_range (x : Pol) (s : Int) (up : Bool) : 0 ≤ limS x s up ∧ limS x s up ≤ 1000000 := by
  unfold limS
  split <;> exact cnt_range _
theorem byS_range (x : Pol) (s : Int) (h1 : s ≤ 1000000) : 0 ≤ byS x s ∧ byS x s ≤ 2000000000 := by
  unfold byS
  have hc := cnt_range x.2.1
  split
  · have h : s.toNat * (cnt x.2.1).toNat ≤ 1000000 * 1000000 := Nat.mul_le_mul (by omega) (by omega)
    unfold mdWant
    split <;> omega
  · omega
set_option maxHeartbeats 4000000 in
theorem py_limit (w : World) (x : Pol) (s : Int) (h0 : 0 ≤ s) (h1 : s ≤ 1000000) (up : Bool) :
    Calls Try.prog 12 #[.agg #[.bool x.1, .int .i64 x.2.1, .int .i64 x.2.2], .int .i64 s, .bool up] w fun e w' => e = .returned (.int .i64 (limS x s up)) ∧ Below w.heap.size w w' := by
  obtain ⟨b, v, p⟩ := x
  dsimp only
  obtain ⟨V, hV⟩ : ∃ V, V = cnt v := ⟨_, rfl⟩
  have CV : Hid (∀ W : World, Calls Try.prog 10 #[.int .i64 v] W fun e w' => e = .returned (.int .i64 V) ∧ W = w') := fun W => by rw [hV]; exact py_cnt v W
  have rV := cnt_range v
  rw [← hV] at rV
  obtain ⟨B, hB⟩ : ∃ B, B = byS (b, v, p) s := ⟨_, rfl⟩
  have rB := byS_range (b, v, p) s h1
  have eB : B = if b = true then (mdWant s.toNat V.toNat 1000 true : Int) else V := by rw [hB, hV]; rfl
  rw [← hB] at rB
  obtain ⟨R, hR⟩ : ∃ R, R = limS (b, v, p) s up := ⟨_, rfl⟩
  have eR : R = if up = true then cnt (s + B) else cnt (s - B) := by rw [hR, hB]; rfl
  rw [← hR]
  obtain ⟨wb, E, HW, bb, _, e0, e1, e2⟩ := box_pol w b v p
  have BB := Lib.hid bb
  have CP : Hid (b = true → ∀ W : World, Calls Try.prog 16 #[.int .i64 s, .int .i64 V, .bool true] W fun e w' => e = .returned (.tuple #[.int .i64 B, .int .i64 0]) ∧ Below W.heap.size W w') := fun hb W => by
    have := percent_ok s.toNat V.toNat _ true W (by omega) (by omega) rfl
    rw [if_pos hb] at eB
    rw [Int.toNat_of_nonneg h0, Int.toNat_of_nonneg rV.1, ← eB] at this
    exact this
  have eV : Hid (b = false → B = V) := fun hb => by rw [eB, if_neg (by rw [hb]; decide)]
  obtain ⟨M, hM⟩ : ∃ M, M = if up = true then s + B else s - B := ⟨_, rfl⟩
  have wM : Hid ((up = true → IntKind.i64.wrap (s + B) = M) ∧ (up = false → IntKind.i64.wrap (s - B) = M)) := by
    constructor
    · intro h; rw [hM, if_pos h, IntKind.wrap_i64]; omega
    · intro h; rw [hM, if_neg (by rw [h]; decide), IntKind.wrap_i64]; omega
  have CM : Hid (∀ W : World, Calls Try.prog 10 #[.int .i64 M] W fun e w' => e = .returned (.int .i64 R) ∧ W = w') := fun W => by
    have e : R = cnt M := by rw [eR, hM]; split <;> rfl
    rw [e]; exact py_cnt M W
  clear hV rV hB eB rB hR eR hM bb h0 h1
  cases b with
  | true =>
    have CQ := Lib.hid (CP.out rfl)
    clear CP eV
    cases up with
    | true =>
      have w1 := wM.out.1 rfl
      clear wM
      go_enter Try.func12, Try.ntmps12
      go_upto_region 1 with fail
      rw [HW.out.1, HW.out.2]
      go_wp2_with fail
      refine (CV.out _).mono ?_
      rintro e wa ⟨rfl, rfl⟩
      go_wp2_with fail
      refine (CQ.out _).mono ?_
      rintro e wa ⟨rfl, ba⟩
      have B2 := Lib.hid (BB.out.trans (ba.mono BB.out.size))
      clear ba
      go_wp2_with fail
      refine (CM.out _).mono ?_
      rintro e wc ⟨rfl, rfl⟩
      go_wp2
      go_ret
      exact ⟨rfl, B2.out⟩
    | false =>
      have w1 := wM.out.2 rfl
      clear wM
      go_enter Try.func12, Try.ntmps12
      go_upto_region 1 with fail
      rw [HW.out.1, HW.out.2]
      go_wp2_with fail
      refine (CV.out _).mono ?_
      rintro e wa ⟨rfl, rfl⟩
      go_wp2_with fail
      refine (CQ.out _).mono ?_
      rintro e wa ⟨rfl, ba⟩
      have B2 := Lib.hid (BB.out.trans (ba.mono BB.out.size))
      clear ba
      go_wp2_with fail
      refine (CM.out _).mono ?_
      rintro e wc ⟨rfl, rfl⟩
      go_wp2
      go_ret
      exact ⟨rfl, B2.out⟩
  | false =>
    obtain rfl := eV.out rfl
    clear CP eV
    cases up with
    | true =>
      have w1 := wM.out.1 rfl
      clear wM
      go_enter Try.func12, Try.ntmps12
      go_upto_region 1 with fail
      rw [HW.out.1, HW.out.2]
      go_wp2_with fail
      refine (CV.out _).mono ?_
      rintro e wa ⟨rfl, rfl⟩
      go_wp2_with fail
      refine (CM.out _).mono ?_
      rintro e wc ⟨rfl, rfl⟩
      go_wp2
      go_ret
      exact ⟨rfl, BB.out⟩
    | false =>
      have w1 := wM.out.2 rfl
      clear wM
      go_enter Try.func12, Try.ntmps12
      go_upto_region 1 with fail
      rw [HW.out.1, HW.out.2]
      go_wp2_with fail
      refine (CV.out _).mono ?_
      rintro e wa ⟨rfl, rfl⟩
      go_wp2_with fail
      refine (CM.out _).mono ?_
      rintro e wc ⟨rfl, rfl⟩
      go_wp2
      go_ret
      exact ⟨rfl, BB.out⟩
end Go.Proofs.Ytfmllfolpcimpaa.Py
