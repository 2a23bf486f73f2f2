/- What an Hpa has done: the program. -/
import Derived.Test.YtbkoepghmcdnhaaGreatDoorVaE
import Derived.Test.YtbkoepghmcdnhaaGreatDoorObX
import Derived.Deep.Light
namespace Go.Proofs.YtbkoepghmcdnhaaGreatDoor
open Go.RowKit Go.Shelf Go.Lib Go.Sort
open Go.Joins (cell_of_block unfrozen_of_block block_setCell)
set_option linter.unusedVariables false
set_option linter.unusedSimpArgs false
set_option maxRecDepth 20000

def scaC (last : Int) (x : Sca) : Bool := withinB x.1 last 4611686018427387904 && withinB x.2.1 0 1000000 && withinB x.2.2 0 1000000
def pastL : Int → List Sca → Bool
  | _, [] => true
  | a, x :: r => scaC a x && pastL x.1 r
def lastAt (a : Int) (l : List Sca) : Nat → Int
  | 0 => a
  | k + 1 => (l[k]?.map (·.1)).getD 0
def pastB (l : List Sca) : Bool := withinB l.length 0 32 && pastL 0 l
theorem lastAt_cons (a : Int) (x : Sca) (r : List Sca) (j : Nat) : lastAt a (x :: r) (j + 1) = lastAt x.1 r j := by
  cases j <;> simp [lastAt]
theorem past_iff : ∀ (l : List Sca) (a : Int), pastL a l = true ↔ ∀ j x, l[j]? = some x → scaC (lastAt a l j) x = true
  | [], a => by simp [pastL]
  | x :: r, a => by
    rw [pastL, Bool.and_eq_true, past_iff r x.1]
    constructor
    · rintro ⟨h1, h2⟩ j y hy
      cases j with
      | zero => simp at hy; subst hy; exact h1
      | succ j => rw [lastAt_cons]; exact h2 j y (by simpa using hy)
    · intro h
      exact ⟨h 0 x rfl, fun j y hy => by rw [← lastAt_cons a]; exact h (j + 1) y (by simpa using hy)⟩
theorem past_bad {l : List Sca} {k : Nat} {x : Sca} (hx : l[k]? = some x) (h : scaC (lastAt 0 l k) x = false) : pastL 0 l = false := by
  cases hp : pastL 0 l with
  | false => rfl
  | true => rw [(past_iff l 0).1 hp k x hx] at h; cases h
theorem lastAt_step {l : List Sca} {k : Nat} {x : Sca} (hx : l[k]? = some x) : lastAt 0 l (k + 1) = x.1 := by simp [lastAt, hx]

/-- The cell that remembers the last tick. -/
def LastIs (w : World) (L : Nat) (a : Int) : Prop := w.heap[L]? = some (.cells #[.int .i64 a] 2 (0, 0))
theorem LastIs.gr {w w' : World} {L : Nat} {a : Int} (h : LastIs w L a) (g : Gr w w') : LastIs w' L a := (g.heap (Array.getElem?_eq_some_iff.1 h).1).trans h
theorem LastIs.lt {w : World} {L : Nat} {a : Int} (h : LastIs w L a) : L < w.heap.size := (Array.getElem?_eq_some_iff.1 h).1

set_option maxHeartbeats 4000000 in
theorem sca_any (w : World) (x : Sca) (L : Nat) (a : Int) (h : LastIs w L a) :
    Calls Tryz.prog 145 #[.agg #[.int .i64 x.1, .int .i64 x.2.1, .int .i64 x.2.2], .pointer (some ⟨L, 0, none⟩)] w fun e w' => e = .returned (.bool (scaC a x)) ∧ LastIs w' L x.1 ∧ Xc L w w' := by
  have mixed : Tryz.prog.follows .mixedOrders = true := by kernel_rfl
  obtain ⟨x1, x2, x3⟩ := x
  have hl := h.lt
  have hne : L ≠ w.heap.size := by omega
  have G0 := (Gr.refl w).alloc (.cells #[.int .i64 x1, .int .i64 x2, .int .i64 x3] 139)
  obtain ⟨wb, hwb⟩ : ∃ wb, wb = w.alloc (.cells #[.int .i64 x1, .int .i64 x2, .int .i64 x3] 139) := ⟨_, rfl⟩
  rw [← hwb] at G0
  have hb := h.gr G0
  have d := (cell_of_block hb 0).trans rfl
  have df := unfrozen_of_block hb 0
  obtain ⟨ws, hws⟩ : ∃ ws, ws = wb.setCell ⟨L, 0, none⟩ (.int .i64 x1) := ⟨_, rfl⟩
  have X0 : Hid (Xc L w ws) := hws ▸ ((Xc.ofGr G0 L).setCell 0 (.int .i64 x1))
  have LS : Hid (LastIs ws L x1) := by show _ = _; rw [hws, block_setCell hb]; rfl
  have hBB : wb.heap[w.heap.size]? = some (.cells #[.int .i64 x1, .int .i64 x2, .int .i64 x3] 139 (0, 0)) := by rw [hwb]; exact heap_alloc_new w _
  have f0 : wb.cell? ⟨w.heap.size, 0, none⟩ = some (.int .i64 x1) := cell_of_block hBB 0
  have hBS : ws.heap[w.heap.size]? = some (.cells #[.int .i64 x1, .int .i64 x2, .int .i64 x3] 139 (0, 0)) := by
    rw [hws, Below.heap_setCell _ _ _ _ (by show w.heap.size ≠ L; omega)]
    exact hBB
  have g0 : ws.cell? ⟨w.heap.size, 0, none⟩ = some (.int .i64 x1) := cell_of_block hBS 0
  have g1 : ws.cell? ⟨w.heap.size, 1, none⟩ = some (.int .i64 x2) := cell_of_block hBS 1
  have g2 : ws.cell? ⟨w.heap.size, 2, none⟩ = some (.int .i64 x3) := cell_of_block hBS 2
  have C0 := Lib.hid (fun (W : World) => within64_any W x1 a 4611686018427387904)
  have C1 := Lib.hid (fun (W : World) => within_any W x2 0 1000000)
  have C2 := Lib.hid (fun (W : World) => within_any W x3 0 1000000)
  have HO : Hid (scaC a (x1, x2, x3) = (withinB x1 a 4611686018427387904 && withinB x2 0 1000000 && withinB x3 0 1000000)) := rfl
  generalize withinB x1 a 4611686018427387904 = b0 at C0 HO
  generalize withinB x2 0 1000000 = b1 at C1 HO
  generalize withinB x3 0 1000000 = b2 at C2 HO
  have HW := Lib.hid hwb
  have HWS := Lib.hid hws
  clear hwb hws hb h hBB hBS G0 hl
  dsimp only
  go_enter Tryz.func145, Tryz.ntmps145
  go_upto_region 1 with fail
  rw [← HW.out]
  go_wp2_with fail
  rw [← HWS.out]
  refine (C0.out _).mono ?_
  rintro e w1 ⟨rfl, rfl⟩
  cases b0 with
  | false =>
    go_wp2
    go_ret
    exact ⟨by rw [HO.out]; rfl, LS.out, X0.out⟩
  | true =>
    go_wp2_with fail
    refine (C1.out _).mono ?_
    rintro e w1 ⟨rfl, rfl⟩
    cases b1 with
    | false =>
      go_wp2
      go_ret
      exact ⟨by rw [HO.out]; rfl, LS.out, X0.out⟩
    | true =>
      go_wp2_with fail
      refine (C2.out _).mono ?_
      rintro e w1 ⟨rfl, rfl⟩
      go_wp2
      go_ret
      exact ⟨by rw [HO.out]; rfl, LS.out, X0.out⟩
end Go.Proofs.YtbkoepghmcdnhaaGreatDoor
