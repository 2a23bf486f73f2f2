/- The law's few answers something. -/
import Derived.Test.YtlajiochpdlhaaaOctO
import Derived.Deep.DeepCutAuto
namespace Go.Proofs.Ytlajiochpdlhaaa
open Go.RowKit Go.Shelf Go.Lib Go.Sort
set_option linter.unusedVariables false
set_option linter.unusedSimpArgs false
set_option maxRecDepth 20000

set_option maxHeartbeats 4000000 in
theorem few_any (w : World) (cs : Array Value) (ob : Ob) (hv : ObjV w cs ob) :
    Calls Try.prog 22 #[.agg cs] w fun e w' => ∃ b, e = .returned (.bool b) ∧ Gr w w' := by
  have mixed : Try.prog.follows .mixedOrders = true := by kernel_rfl
  obtain ⟨hsz, _, hW, hP, hN, hG, hH⟩ := hv
  obtain ⟨_, _, _, ⟨q6, k6, c6, _⟩, ⟨q7, k7, c7, _⟩, ⟨q8, k8, c8, _⟩, _⟩ := hW
  obtain ⟨_, _, _, _, _, _, ⟨q16, k16, c16, _⟩, ⟨q17, k17, c17, _⟩, ⟨q18, k18, c18, _⟩, _⟩ := hP
  obtain ⟨_, _, _, ⟨q23, k23, c23, _⟩, ⟨q24, k24, c24, _⟩, _, _⟩ := hN
  obtain ⟨_, _, _, _, _, ⟨q32, k32, c32, _⟩, ⟨q33, k33, c33, _⟩, _⟩ := hG
  obtain ⟨_, _, _, ⟨q38, k38, c38, _⟩, _, _, _, ⟨q42, k42, c42, _⟩, _, _, ⟨q45, k45, c45, _⟩, ⟨q46, k46, c46, _⟩⟩ := hH
  have G : Hid (Gr w (w.alloc (.cells cs 66))) := (Gr.refl w).alloc _
  generalize ob.w.lab.length = n6 at c6
  generalize ob.w.sel.length = n7 at c7
  generalize ob.w.tol.length = n8 at c8
  generalize ob.p.lab.length = n16 at c16
  generalize ob.p.sel.length = n17 at c17
  generalize ob.p.tol.length = n18 at c18
  generalize ob.n.lab.length = n23 at c23
  generalize ob.n.tnt.length = n24 at c24
  generalize ob.g.lab.length = n32 at c32
  generalize ob.g.tnt.length = n33 at c33
  generalize ob.h.met.length = n38 at c38
  generalize ob.h.upol.length = n42 at c42
  generalize ob.h.dpol.length = n45 at c45
  generalize ob.h.past.length = n46 at c46
  have d6 : (w.alloc (.cells cs 66)).cell? ⟨w.heap.size, 6, none⟩ = some (.slice q6 n6 k6) := by simp [c6]
  have d7 : (w.alloc (.cells cs 66)).cell? ⟨w.heap.size, 7, none⟩ = some (.slice q7 n7 k7) := by simp [c7]
  have d8 : (w.alloc (.cells cs 66)).cell? ⟨w.heap.size, 8, none⟩ = some (.slice q8 n8 k8) := by simp [c8]
  have d16 : (w.alloc (.cells cs 66)).cell? ⟨w.heap.size, 16, none⟩ = some (.slice q16 n16 k16) := by simp [c16]
  have d17 : (w.alloc (.cells cs 66)).cell? ⟨w.heap.size, 17, none⟩ = some (.slice q17 n17 k17) := by simp [c17]
  have d18 : (w.alloc (.cells cs 66)).cell? ⟨w.heap.size, 18, none⟩ = some (.slice q18 n18 k18) := by simp [c18]
  have d23 : (w.alloc (.cells cs 66)).cell? ⟨w.heap.size, 23, none⟩ = some (.slice q23 n23 k23) := by simp [c23]
  have d24 : (w.alloc (.cells cs 66)).cell? ⟨w.heap.size, 24, none⟩ = some (.slice q24 n24 k24) := by simp [c24]
  have d32 : (w.alloc (.cells cs 66)).cell? ⟨w.heap.size, 32, none⟩ = some (.slice q32 n32 k32) := by simp [c32]
  have d33 : (w.alloc (.cells cs 66)).cell? ⟨w.heap.size, 33, none⟩ = some (.slice q33 n33 k33) := by simp [c33]
  have d38 : (w.alloc (.cells cs 66)).cell? ⟨w.heap.size, 38, none⟩ = some (.slice q38 n38 k38) := by simp [c38]
  have d42 : (w.alloc (.cells cs 66)).cell? ⟨w.heap.size, 42, none⟩ = some (.slice q42 n42 k42) := by simp [c42]
  have d45 : (w.alloc (.cells cs 66)).cell? ⟨w.heap.size, 45, none⟩ = some (.slice q45 n45 k45) := by simp [c45]
  have d46 : (w.alloc (.cells cs 66)).cell? ⟨w.heap.size, 46, none⟩ = some (.slice q46 n46 k46) := by simp [c46]
  clear hsz c6 c7 c8 c16 c17 c18 c23 c24 c32 c33 c38 c42 c45 c46
  obtain ⟨t0, ht0⟩ : ∃ t : Int, IntKind.i64.wrap ((n6 : Int) + (n7 : Int)) = t := ⟨_, rfl⟩
  obtain ⟨t1, ht1⟩ : ∃ t : Int, IntKind.i64.wrap (t0 + (n8 : Int)) = t := ⟨_, rfl⟩
  obtain ⟨t2, ht2⟩ : ∃ t : Int, IntKind.i64.wrap (t1 + (n16 : Int)) = t := ⟨_, rfl⟩
  obtain ⟨t3, ht3⟩ : ∃ t : Int, IntKind.i64.wrap (t2 + (n17 : Int)) = t := ⟨_, rfl⟩
  obtain ⟨t4, ht4⟩ : ∃ t : Int, IntKind.i64.wrap (t3 + (n18 : Int)) = t := ⟨_, rfl⟩
  obtain ⟨t5, ht5⟩ : ∃ t : Int, IntKind.i64.wrap (t4 + (n23 : Int)) = t := ⟨_, rfl⟩
  obtain ⟨t6, ht6⟩ : ∃ t : Int, IntKind.i64.wrap (t5 + (n24 : Int)) = t := ⟨_, rfl⟩
  obtain ⟨t7, ht7⟩ : ∃ t : Int, IntKind.i64.wrap (t6 + (n32 : Int)) = t := ⟨_, rfl⟩
  obtain ⟨t8, ht8⟩ : ∃ t : Int, IntKind.i64.wrap (t7 + (n33 : Int)) = t := ⟨_, rfl⟩
  obtain ⟨t9, ht9⟩ : ∃ t : Int, IntKind.i64.wrap (t8 + (n38 : Int)) = t := ⟨_, rfl⟩
  obtain ⟨t10, ht10⟩ : ∃ t : Int, IntKind.i64.wrap (t9 + (n42 : Int)) = t := ⟨_, rfl⟩
  obtain ⟨t11, ht11⟩ : ∃ t : Int, IntKind.i64.wrap (t10 + (n45 : Int)) = t := ⟨_, rfl⟩
  obtain ⟨t12, ht12⟩ : ∃ t : Int, IntKind.i64.wrap (t11 + (n46 : Int)) = t := ⟨_, rfl⟩
  go_enter Try.func22, Try.ntmps22
  go_wp2
  go_ret
  exact ⟨_, rfl, G.out⟩
end Go.Proofs.Ytlajiochpdlhaaa
