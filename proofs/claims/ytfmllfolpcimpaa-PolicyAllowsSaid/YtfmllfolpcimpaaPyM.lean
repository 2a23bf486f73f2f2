/- Layer 22 (policy): what comes in; two things that were done compared; a row of what was done copied. -/
import Derived.Test.YtfmllfolpcimpaaPyL
import Derived.Lib.AppendZeros
namespace Go.Proofs.Ytfmllfolpcimpaa.Py
open Go.ChangeShapes Go.WideShapes Go.ChangeAt Go.RowKit Go.Shelf Go.Lib Go.Sort Go.Deep
open Go.Joins (cell_of_block unfrozen_of_block block_setCell)
open Go.Proofs.Ytfmllfolpcimpaa.Ow
set_option linter.unusedVariables false
set_option linter.unusedSimpArgs false
set_option maxRecDepth 20000

theorem open_scs {H : Type} {enc : TypeId × Value → H} {W : World} {base : Nat} {v : Value} {d : DataW H} {p : List MemPlace} (ok : Value.okWide Try.prog W .any base 22 v)
    (h : DataW.Trod enc Try.prog W 0 (fun _ => true) true 22 v d p) (wt : Wt 22 d) : ∃ q c l, v = .slice q l.length c ∧ RowR 3 encS W q l ∧ (q = none → c = 0) ∧ l.length ≤ 140737488351232 := by
  obtain ⟨a0, len, cap, rfl⟩ := okWide_slice Try.underlying22 ok
  obtain ⟨fuel, hf⟩ := h
  have hf : DataW.trod enc Try.prog W 0 (fun _ => true) true fuel 22 (([Value.slice a0 len cap].drop 0).take 1) = some (d, p) := hf
  obtain ⟨l, ⟨q, c, h1, h2⟩, h3, h4⟩ := open_S hf wt
  simp at h1
  obtain ⟨rfl, rfl, rfl⟩ := h1
  refine ⟨a0, cap, l, rfl, h2, ?_, h4⟩
  rcases open_slice Try.underlying22 hf with ⟨hcs, _⟩ | ⟨a, len, cap', m, n', D, Pl, hcs, _⟩
  · simp at hcs
    exact fun _ => hcs.2.2
  · simp at hcs
    intro e
    rw [e] at hcs
    cases hcs.1
theorem open_towards {H : Type} {enc : TypeId × Value → H} {W : World} {base : Nat} {v : Value} {d : DataW H} {p : List MemPlace} (ok : Value.okWide Try.prog W .any base 29 v)
    (h : DataW.Trod enc Try.prog W 0 (fun _ => true) true 29 v d p) (wt : Wt 29 d) : ∃ q c l, v = .slice q l.length c ∧ RowR 1 encZ W q l ∧ (∀ x ∈ l, I64 x) ∧ l.length ≤ 140737488351232 := by
  obtain ⟨a0, len, cap, rfl⟩ := okWide_slice Try.underlying29 ok
  obtain ⟨fuel, hf⟩ := h
  have hf : DataW.trod enc Try.prog W 0 (fun _ => true) true fuel 29 (([Value.slice a0 len cap].drop 0).take 1) = some (d, p) := hf
  obtain ⟨l, ⟨q, c, h1, h2⟩, h3, h4⟩ := open_rowG (k := 1) encZ I64 Try.underlying29 (by kernel_rfl) (by decide) (of_decide_eq_true (by kernel_rfl)) (fun n cs y h wt => by
    obtain ⟨z, hz, _, wf⟩ := DataW.trod_int Try.underlying3 h
    exact ⟨z, fun t v hv => by rw [hz]; exact hv, wf_i64 wf⟩) hf wt
  simp at h1
  obtain ⟨rfl, rfl, rfl⟩ := h1
  exact ⟨a0, cap, l, rfl, h2, h3, h4⟩
theorem neq_sca (x : Sca) (w : World) : (binOp .neq ScT (.agg #[.int .i64 x.1, .int .i64 x.2.1, .int .i64 x.2.2]) (.agg #[.int .i64 x.1, .int .i64 x.2.1, .int .i64 x.2.2])).run Try.prog w = .ok (.bool false) w := by
  have u3 := Try.underlying3
  have a3 := Try.isAgg3
  have z3 := Try.sizeOf3
  have u2 := Try.underlying2
  have a2 := Try.isAgg2
  have z2 := Try.sizeOf2
  have hS : Try.prog.underlying ScT = some (.struct (Try.prog.fieldsOf ScT)) := by kernel_rfl
  have hp : Try.prog.stoodInHeld ScT = false := by kernel_rfl
  rw [run_neq_struct, show (10000 : Nat) = 9999 + 1 from rfl, run_equalIn_agg w 9999 ScT _ _ hS hp]
  simp only [Program.fieldsOf, Try.underlying27]
  go_simp
theorem flat_appSs (l m : List Sca) : flat encS (l ++ m) = flat encS l ++ flat encS m := by simp [flat]
theorem wpList_append_scs {w : World} {ops : Array Oper} {rest : List Oper} {o : Oper} {a : Act} {Q : Exit → Act → World → Prop} (hgd : o.guard = none) (s x : Operand)
    (ho : o.op = .call { callee := .builtin .append, args := #[s, x], argTypes := #[SlS, SlS] })
    (N : Nat) (v : Value) (l : List Sca) (hs : a.eval s = v) (hown : OwnSc N w v l)
    (q : Option Addr) (n c : Nat) (m : List Sca) (hn : n = m.length) (hx : a.eval x = .slice q n c) (hr : RowR 3 encS w q m) (hq : q = none → c = 0) (hlen : l.length + m.length ≤ 10000000) (hbase : N ≤ w.heap.size)
    (h : ∀ v' w', OwnSc N w' v' (l ++ m) → w.grownBy w' v.ownBlock → wpList Try.prog ops Q rest (a.put o.dst v') w') :
    wpList Try.prog ops Q (o :: rest) a w := by
  obtain ⟨i, hi, hz0, hz1, hz2⟩ := info_ScT
  subst hn
  cases q with
  | none =>
    obtain rfl := hq rfl
    have hm : m = [] := by
      cases m with
      | nil => rfl
      | cons y r => obtain ⟨b, off, e, _⟩ := hr 0 y rfl; cases e
    subst hm
    refine wpList_append_own_none hgd s x _ ho N ScT i 3 Try.underlying22 hi v l.length (flat encS l) hs hown hx ?_
    exact h v w (by simpa using hown) ⟨rfl, rfl, rfl, Nat.le_refl _, fun _ _ _ => rfl⟩
  | some ad =>
    have hnews : ∀ j u, (flat encS m)[j]? = some u → w.cell? (ad.add j) = some u := by
      intro j u hu
      obtain ⟨i', t, x', hx', ht, hu', rfl⟩ := flat_get lenSc (by decide) hu
      obtain ⟨b, off, e, _, hc⟩ := hr i' x' hx'
      cases e
      have ea : (⟨b, off, none⟩ : Addr).add (i' * 3 + t) = ⟨b, off + (i' * 3 + t), none⟩ := by unfold Addr.add; split <;> simp_all
      rw [ea, ← Nat.add_assoc]
      exact hc t u hu'
    refine wpList_append_own_at w hgd s x _ ho N ScT i (.agg zerSc) 3 24 Try.underlying22 hi hz0 hz1 hz2 rfl (by decide) v l.length (flat encS l) hs hown ad m.length c (flat encS m) hx
      (flat_length lenSc m) hnews (flat_one oneSc m) (by unfold maxLen; omega) (by omega) hbase ?_
    intro v' w' h1 h2 h3 h4
    refine h v' w' ?_ h2
    unfold OwnSc
    rw [flat_appSs, List.length_append]
    exact h1
theorem kpS_eq (now : Int) (x : Sca) : kpS now x = decide (now - x.1 < 1800) := by unfold kpS sinB; rw [decide_eq_true (show (1 : Int) ≤ 1800 by omega)]; rfl
theorem rightB_true {l : List Sca} {now : Int} (h : rightB l now = true) : (∀ x ∈ l, 0 ≤ x.1 ∧ x.1 ≤ 4611686018427387904) ∧ 0 ≤ now ∧ now ≤ 4611686018427387904 ∧ l.length ≤ 60 := by
  unfold rightB at h
  simp only [Bool.and_eq_true, List.all_eq_true, decide_eq_true_eq] at h
  exact ⟨h.1.1.1, h.1.1.2, h.1.2, h.2⟩
/-- A number of a row is written anew, in memory of the call's own. -/
theorem put_to {w : World} {g off : Nat} {cs : Array Value} (hg : w.heap[g]? = some (.cells cs ScT (0, 0))) (v : Value) : (w.setCell ⟨g, off, none⟩ v).heap[g]? = some (.cells (cs.setIfInBounds off v) ScT (0, 0)) := block_setCell (w := w) hg v
end Go.Proofs.Ytfmllfolpcimpaa.Py
