/- How texts are compared. -/
import Derived.Test.YtlklbhjcohgmhaaScR
import Derived.Test.YtlklbhjcohgmhaaScI
import Derived.Test.YtlklbhjcohgmhaaScTa
import Derived.Test.YtlklbhjcohgmhaaScW
namespace Go.Proofs.Ytlklbhjcohgmhaa
open Go.RowKit Go.Lib Go.Shelf Go.Sort
set_option linter.unusedVariables false
set_option linter.unusedSimpArgs false
set_option maxRecDepth 20000
theorem cb_ltS (a b : ByteArray) : Op.bytesLess a.toList b.toList = decide (compareBytes a.data.toList b.data.toList < 0) := by rw [Lib.toList_data, Lib.toList_data, cb_lessS]
theorem cb_leS (a b : ByteArray) : (Op.bytesLess a.toList b.toList || a.toList == b.toList) = decide (compareBytes a.data.toList b.data.toList ≤ 0) := by rw [Lib.toList_data, Lib.toList_data, cb_leqS]
theorem gtr_str (a b : ByteArray) (w : World) : (binOp .gtr 9 (.string a) (.string b)).run Try.prog w = .ok (.bool (!decide (compareBytes a.data.toList b.data.toList ≤ 0))) w := by
  have u9 := Try.underlying9
  rw [← cb_leS]
  go_simp
theorem geq_str (a b : ByteArray) (w : World) : (binOp .geq 9 (.string a) (.string b)).run Try.prog w = .ok (.bool (!decide (compareBytes a.data.toList b.data.toList < 0))) w := by
  have u9 := Try.underlying9
  rw [← cb_ltS]
  go_simp
theorem eql_str (a b : ByteArray) (w : World) : (binOp .eql 9 (.string a) (.string b)).run Try.prog w = .ok (.bool (decide (a = b))) w := by
  have u9 := Try.underlying9
  have e := str_eq a b
  go_simp
/-- A series of the list: it may be, and the model has it. -/
theorem listed_at (N : Nat) (w : World) (bb mb n a : Nat) (E : List En) (hB : Bk w bb mb n a E) (q : Option Addr) (c : Nat) (M : List Me) (row : w.ownsRow N TSer 3 (.slice q M.length c) M.length (flM M)) (al : E.map slE = M.map slM)
    (lst : List Sr) (hl : Listed E lst) (j : Nat) (s : Sr) (hs : lst[j]? = some s) :
    OkS s ∧ ∃ K : Nat, Calls Try.prog 13 #[.slice q M.length c, ser s] w fun r w' => r = .returned (.int .i64 (K : Int)) ∧ Below w.heap.size w w' := by
  have hM : M.length ≤ 512 := by have := congrArg List.length al; simp at this; have := hB.few; omega
  have hm : s ∈ E.map (·.s) := (hl.1.mem_iff).1 (List.mem_of_getElem? hs)
  obtain ⟨e, he, rfl⟩ := List.mem_map.1 hm
  obtain ⟨D, _, hr⟩ := hB.map
  refine ⟨hr.ok e he, ?_⟩
  rcases find_at M e.s with ⟨A, x, Bm, hMe, hx, hA⟩ | hno
  · have hK : M[A.length]? = some x := by rw [hMe]; simp
    have hlt : A.length < M.length := (List.getElem?_eq_some_iff.1 hK).1
    have C := find_k N w q c M row e.s A.length (by omega) (by omega) (fun j y hy hj => ?_) (fun y hy => by rw [hK] at hy; cases hy; exact hx)
    · rw [if_pos hlt] at C
      exact ⟨A.length, C⟩
    · rw [hMe, List.getElem?_append_left hj] at hy
      exact hA y (List.mem_of_getElem? hy)
  · exact absurd rfl ((al_none al hno).1 e he)
/-- Of two that follow each other the first is the less. -/
theorem listed_pre {E : List En} {lst : List Sr} (hl : Listed E lst) {J : Nat} {p s : Sr} (hp : lst[J]? = some p) (hs : lst[J + 1]? = some s) :
    (Op.bytesLess p.1.toList s.1.toList = true ∧ (p.1.toList == s.1.toList) = false) ∨ (Op.bytesLess p.1.toList s.1.toList = false ∧ (p.1.toList == s.1.toList) = true ∧ Op.bytesLess p.2.toList s.2.toList = true) := by
  obtain ⟨h1, rfl⟩ := List.getElem?_eq_some_iff.1 hp
  obtain ⟨h2, rfl⟩ := List.getElem?_eq_some_iff.1 hs
  have h := risesS_iff.1 (List.pairwise_iff_getElem.1 hl.2 J (J + 1) h1 h2 (by omega))
  rw [cb_ltS, cb_ltS, str_eq]
  unfold cfS at h
  by_cases h0 : compareBytes lst[J].1.data.toList lst[J + 1].1.data.toList = 0
  · rw [if_pos h0] at h
    refine .inr ⟨decide_eq_false (by omega), decide_eq_true (bytes_eq (cb_zeroS h0)), decide_eq_true h⟩
  · rw [if_neg h0] at h
    refine .inl ⟨decide_eq_true h, decide_eq_false (fun e => h0 (by rw [e]; exact cb_selfS _))⟩
end Go.Proofs.Ytlklbhjcohgmhaa
