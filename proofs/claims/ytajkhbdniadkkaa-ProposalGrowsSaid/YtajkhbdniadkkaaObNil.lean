/- A row of an object that came in, that is nil, has no room. -/
import Derived.Test.YtajkhbdniadkkaaObOp
namespace Go.Proofs.Ytajkhbdniadkkaa
open Go.ChangeShapes Go.WideShapes Go.ChangeAt Go.RowKit Go.Deep Go.Lib Go.Shelf
set_option linter.unusedVariables false
set_option maxRecDepth 20000

def rowsIx : List Nat := [6, 7, 8, 16, 17, 18, 23, 24, 32, 33, 38, 42, 45, 46]
def NilO (cs : Array Value) : Prop := ∀ i n c, i ∈ rowsIx → cs[i]? = some (.slice none n c) → c = 0
theorem nil_leaf {H : Type} {enc : TypeId × Value → H} {W : World} {S E : TypeId} {n o : Nat} {cs : List Value} {y : DataW H × List MemPlace} (hS : Try.prog.underlying S = some (.slice E)) (h : DataW.trod enc Try.prog W 0 (fun _ => true) true n S ((cs.drop o).take 1) = some y) : ∀ n c, cs[o]? = some (.slice none n c) → c = 0 := by
  intro m c hc
  rcases open_slice hS h with ⟨hcs, hx⟩ | ⟨a, len, cap, m', n', D, Pl, hcs, _⟩
  · have := at1 hcs
    rw [hc] at this
    injection this with this
    injection this
  · have := at1 hcs
    rw [hc] at this
    injection this with this
    injection this with e1 _ _
    cases e1
theorem into {cs : List Value} {o m j : Nat} {v : Value} (hj : j < m) (h : cs[o + j]? = some v) : ((cs.drop o).take m)[j]? = some v := by
  rw [List.getElem?_take_of_lt hj, List.getElem?_drop]
  exact h
theorem open_nil {H : Type} {enc : TypeId × Value → H} {W : World} {cs : Array Value} {d : DataW H} {p : List MemPlace}
    (h : DataW.Trod enc Try.prog W 0 (fun _ => true) true 99 (.agg cs) d p) (wt : Wt 99 d) : NilO cs := by
  obtain ⟨fuel, hf⟩ := h
  have hf : DataW.trod enc Try.prog W 0 (fun _ => true) true fuel 99 cs.toList = some (d, p) := hf
  obtain ⟨_, _, t0, z0⟩ := fld (F := 84) (off := 3) (k := 7) 3 Try.underlying99 (by kernel_rfl) hf wt
  obtain ⟨_, _, r6, _⟩ := fld (F := 81) (off := 3) (k := 1) 2 Try.underlying84 (by kernel_rfl) t0 z0
  have f6 : ∀ n c, cs[6]? = some (.slice none n c) → c = 0 := fun n c hc => nil_leaf Try.underlying81 r6 n c (into (o := 3) (m := 7) (j := 3) (by decide) (by rw [Array.getElem?_toList]; exact hc))
  obtain ⟨_, _, r7, _⟩ := fld (F := 82) (off := 4) (k := 1) 3 Try.underlying84 (by kernel_rfl) t0 z0
  have f7 : ∀ n c, cs[7]? = some (.slice none n c) → c = 0 := fun n c hc => nil_leaf Try.underlying82 r7 n c (into (o := 3) (m := 7) (j := 4) (by decide) (by rw [Array.getElem?_toList]; exact hc))
  obtain ⟨_, _, r8, _⟩ := fld (F := 81) (off := 5) (k := 1) 4 Try.underlying84 (by kernel_rfl) t0 z0
  have f8 : ∀ n c, cs[8]? = some (.slice none n c) → c = 0 := fun n c hc => nil_leaf Try.underlying81 r8 n c (into (o := 3) (m := 7) (j := 5) (by decide) (by rw [Array.getElem?_toList]; exact hc))
  obtain ⟨_, _, t1, z1⟩ := fld (F := 86) (off := 10) (k := 10) 4 Try.underlying99 (by kernel_rfl) hf wt
  obtain ⟨_, _, r16, _⟩ := fld (F := 81) (off := 6) (k := 1) 5 Try.underlying86 (by kernel_rfl) t1 z1
  have f16 : ∀ n c, cs[16]? = some (.slice none n c) → c = 0 := fun n c hc => nil_leaf Try.underlying81 r16 n c (into (o := 10) (m := 10) (j := 6) (by decide) (by rw [Array.getElem?_toList]; exact hc))
  obtain ⟨_, _, r17, _⟩ := fld (F := 82) (off := 7) (k := 1) 6 Try.underlying86 (by kernel_rfl) t1 z1
  have f17 : ∀ n c, cs[17]? = some (.slice none n c) → c = 0 := fun n c hc => nil_leaf Try.underlying82 r17 n c (into (o := 10) (m := 10) (j := 7) (by decide) (by rw [Array.getElem?_toList]; exact hc))
  obtain ⟨_, _, r18, _⟩ := fld (F := 81) (off := 8) (k := 1) 7 Try.underlying86 (by kernel_rfl) t1 z1
  have f18 : ∀ n c, cs[18]? = some (.slice none n c) → c = 0 := fun n c hc => nil_leaf Try.underlying81 r18 n c (into (o := 10) (m := 10) (j := 8) (by decide) (by rw [Array.getElem?_toList]; exact hc))
  obtain ⟨_, _, t2, z2⟩ := fld (F := 88) (off := 20) (k := 7) 5 Try.underlying99 (by kernel_rfl) hf wt
  obtain ⟨_, _, r23, _⟩ := fld (F := 81) (off := 3) (k := 1) 2 Try.underlying88 (by kernel_rfl) t2 z2
  have f23 : ∀ n c, cs[23]? = some (.slice none n c) → c = 0 := fun n c hc => nil_leaf Try.underlying81 r23 n c (into (o := 20) (m := 7) (j := 3) (by decide) (by rw [Array.getElem?_toList]; exact hc))
  obtain ⟨_, _, r24, _⟩ := fld (F := 81) (off := 4) (k := 1) 3 Try.underlying88 (by kernel_rfl) t2 z2
  have f24 : ∀ n c, cs[24]? = some (.slice none n c) → c = 0 := fun n c hc => nil_leaf Try.underlying81 r24 n c (into (o := 20) (m := 7) (j := 4) (by decide) (by rw [Array.getElem?_toList]; exact hc))
  obtain ⟨_, _, t3, z3⟩ := fld (F := 90) (off := 27) (k := 8) 6 Try.underlying99 (by kernel_rfl) hf wt
  obtain ⟨_, _, r32, _⟩ := fld (F := 81) (off := 5) (k := 1) 4 Try.underlying90 (by kernel_rfl) t3 z3
  have f32 : ∀ n c, cs[32]? = some (.slice none n c) → c = 0 := fun n c hc => nil_leaf Try.underlying81 r32 n c (into (o := 27) (m := 8) (j := 5) (by decide) (by rw [Array.getElem?_toList]; exact hc))
  obtain ⟨_, _, r33, _⟩ := fld (F := 81) (off := 6) (k := 1) 5 Try.underlying90 (by kernel_rfl) t3 z3
  have f33 : ∀ n c, cs[33]? = some (.slice none n c) → c = 0 := fun n c hc => nil_leaf Try.underlying81 r33 n c (into (o := 27) (m := 8) (j := 6) (by decide) (by rw [Array.getElem?_toList]; exact hc))
  obtain ⟨_, _, t4, z4⟩ := fld (F := 97) (off := 35) (k := 12) 7 Try.underlying99 (by kernel_rfl) hf wt
  obtain ⟨_, _, r38, _⟩ := fld (F := 91) (off := 3) (k := 1) 3 Try.underlying97 (by kernel_rfl) t4 z4
  have f38 : ∀ n c, cs[38]? = some (.slice none n c) → c = 0 := fun n c hc => nil_leaf Try.underlying91 r38 n c (into (o := 35) (m := 12) (j := 3) (by decide) (by rw [Array.getElem?_toList]; exact hc))
  obtain ⟨_, _, tb42, zb42⟩ := fld (F := 94) (off := 5) (k := 3) 5 Try.underlying97 (by kernel_rfl) t4 z4
  obtain ⟨_, _, r42, _⟩ := fld (F := 92) (off := 2) (k := 1) 2 Try.underlying94 (by kernel_rfl) tb42 zb42
  have f42 : ∀ n c, cs[42]? = some (.slice none n c) → c = 0 := fun n c hc => nil_leaf Try.underlying92 r42 n c (into (by decide) (into (o := 35) (m := 12) (j := 7) (by decide) (by rw [Array.getElem?_toList]; exact hc)))
  obtain ⟨_, _, tb45, zb45⟩ := fld (F := 94) (off := 8) (k := 3) 6 Try.underlying97 (by kernel_rfl) t4 z4
  obtain ⟨_, _, r45, _⟩ := fld (F := 92) (off := 2) (k := 1) 2 Try.underlying94 (by kernel_rfl) tb45 zb45
  have f45 : ∀ n c, cs[45]? = some (.slice none n c) → c = 0 := fun n c hc => nil_leaf Try.underlying92 r45 n c (into (by decide) (into (o := 35) (m := 12) (j := 10) (by decide) (by rw [Array.getElem?_toList]; exact hc)))
  obtain ⟨_, _, r46, _⟩ := fld (F := 95) (off := 11) (k := 1) 7 Try.underlying97 (by kernel_rfl) t4 z4
  have f46 : ∀ n c, cs[46]? = some (.slice none n c) → c = 0 := fun n c hc => nil_leaf Try.underlying95 r46 n c (into (o := 35) (m := 12) (j := 11) (by decide) (by rw [Array.getElem?_toList]; exact hc))
  intro i n c hi hc
  simp only [rowsIx, List.mem_cons, List.not_mem_nil, or_false] at hi
  rcases hi with rfl | rfl | rfl | rfl | rfl | rfl | rfl | rfl | rfl | rfl | rfl | rfl | rfl | rfl
  · exact f6 n c hc
  · exact f7 n c hc
  · exact f8 n c hc
  · exact f16 n c hc
  · exact f17 n c hc
  · exact f18 n c hc
  · exact f23 n c hc
  · exact f24 n c hc
  · exact f32 n c hc
  · exact f33 n c hc
  · exact f38 n c hc
  · exact f42 n c hc
  · exact f45 n c hc
  · exact f46 n c hc
end Go.Proofs.Ytajkhbdniadkkaa
