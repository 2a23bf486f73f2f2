/- Layer 13: uses of a row that is sorted: their cells; which of two goes first. -/
import Derived.Test.YtajkhbdniadkkaaQyD
import Derived.Test.YtajkhbdniadkkaaTexts
import Derived.Sort.Grow
namespace Go.Proofs.Ytajkhbdniadkkaa.Qs
open Go.RowKit Go.Shelf Go.Lib Go.Sort Go.Deep
open Go.Joins (cell_of_block unfrozen_of_block block_setCell)
open Go.Proofs.Ytajkhbdniadkkaa.Qy Go.Proofs.Ytajkhbdniadkkaa.Tx
set_option linter.unusedVariables false
set_option linter.unusedSimpArgs false
set_option maxRecDepth 20000

/-- What a pod uses of a metric. -/
structure Us where
  pod : ByteArray
  rd : Bool
  hs : Bool
  ask : Int
  use : Int
abbrev El := Us
instance : Inhabited El := ⟨⟨⟨#[]⟩, false, false, 0, 0⟩⟩
def enA (x : El) : Array Value := useC x.pod x.rd x.hs x.ask x.use
theorem enA_size (x : El) : (enA x).size = 5 := rfl
theorem enA_one (x : El) : (enA x).all (·.oneCell') = true := by simp [enA, useC, Value.oneCell']
def cf (x y : El) : Int := compareBytes x.pod.toList y.pod.toList
def lt (x y : El) : Prop := cf x y < 0
theorem lt_iff {x y : El} : lt x y ↔ x.pod.toList < y.pod.toList := compare_neg _ _
theorem lt_asy {a b : El} (h : lt a b) : ¬ lt b a := by
  rw [lt_iff] at h ⊢
  intro k
  exact List.lt_irrefl _ (List.lt_trans h k)
theorem nlt_tr {a b c : El} (h : ¬ lt b a) (k : ¬ lt c b) : ¬ lt c a := by
  rw [lt_iff] at h k ⊢
  intro e
  rcases tx_tri b.pod.toList c.pod.toList with g | g | g
  · exact h (List.lt_trans g e)
  · rw [← g] at e; exact h e
  · exact k g
theorem enters_cmp : ∀ args w, (callFunc 40 args).run Try.prog w = .ok (.enter 40 args) w := enters_of Try.func40 (by kernel_rfl) rfl
set_option maxHeartbeats 4000000 in
theorem closure_cmp (x y : El) (w : World) : Calls Try.prog 40 #[.agg (enA x), .agg (enA y)] w fun e w' => e = .returned (.int .i64 (cf x y)) ∧ ∃ q os', w' = grow (w.drewN q) os' := by
  obtain ⟨X, hX⟩ : ∃ X, X = enA x := ⟨_, rfl⟩
  obtain ⟨Y, hY⟩ : ∃ Y, Y = enA y := ⟨_, rfl⟩
  have x0 : X[0]? = some (.string x.pod) := by rw [hX]; rfl
  have y0 : Y[0]? = some (.string y.pod) := by rw [hY]; rfl
  rw [← hX, ← hY]
  have C3 := Lib.hid (text_any x.pod y.pod)
  have E : cf x y = compareBytes x.pod.toList y.pod.toList := rfl
  generalize cf x y = r at E ⊢
  generalize compareBytes x.pod.toList y.pod.toList = s at E C3
  generalize x.pod = nx at x0 C3
  generalize y.pod = ny at y0 C3
  subst E
  clear hX hY x y
  obtain ⟨B, hB⟩ : ∃ B, B = w.heap.size := ⟨_, rfl⟩
  obtain ⟨w1, hw1⟩ : ∃ w1, w1 = w.alloc (.cells X UT) := ⟨_, rfl⟩
  obtain ⟨w2, hw2⟩ : ∃ w2, w2 = w1.alloc (.cells Y UT) := ⟨_, rfl⟩
  have z1 : w1.heap.size = B + 1 := by rw [hw1, hB]; simp
  have b1 : w1.heap[B]? = some (.cells X UT (0, 0)) := by rw [hw1, hB]; exact heap_alloc_new w _
  have b2 : w2.heap[B + 1]? = some (.cells Y UT (0, 0)) := by rw [hw2, ← z1]; exact heap_alloc_new w1 _
  have b1' : w2.heap[B]? = some (.cells X UT (0, 0)) := by rw [hw2]; exact (Below.heap_alloc w1 _ _ (by omega)).trans b1
  have G2 : Gr w w2 := by rw [hw2, hw1]; exact ((Gr.refl w).alloc _).alloc _
  have HW : Hid (w.alloc (.cells X UT) = w1 ∧ w1.alloc (.cells Y UT) = w2 ∧ w.heap.size = B ∧ w1.heap.size = B + 1) := ⟨hw1.symm, hw2.symm, hB.symm, z1⟩
  have c0 : w2.cell? ⟨B, 0, none⟩ = some (.string nx) := (cell_of_block b1' 0).trans x0
  have d0 : w2.cell? ⟨B + 1, 0, none⟩ = some (.string ny) := (cell_of_block b2 0).trans y0
  have HG := Lib.hid G2
  clear hw1 hw2 hB z1 b1 b2 b1' G2 x0 y0
  go_enter Try.func40, Try.ntmps40
  go_upto_region 1 with fail
  rw [HW.out.1, HW.out.2.1, HW.out.2.2.1]
  go_wp2_with fail
  refine (C3.out _).mono ?_
  rintro e w3 ⟨rfl, rfl⟩
  go_wp2
  go_ret
  exact ⟨rfl, HG.out⟩
end Go.Proofs.Ytajkhbdniadkkaa.Qs
