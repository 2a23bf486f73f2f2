/- Layer 22 (policy): numbers as far as they may be; what was done since; rows of what was done. -/
import Derived.Test.YtfmllfolpcimpaaObOp
import Derived.Test.YtfmllfolpcimpaaObSet
import Derived.Test.YtfmllfolpcimpaaHeldF
import Derived.Test.YtfmllfolpcimpaaSteps
import Derived.Laws.OwnMore
import Derived.BigQuiet
namespace Go.Proofs.Ytfmllfolpcimpaa.Py
open Go.RowKit Go.Shelf Go.Lib Go.Sort Go.Deep
open Go.Joins (cell_of_block unfrozen_of_block block_setCell)
open Go.Proofs.Ytfmllfolpcimpaa.Ow
set_option linter.unusedVariables false
set_option linter.unusedSimpArgs false
set_option maxRecDepth 20000

abbrev ScT : TypeId := 27
abbrev SlS : TypeId := 22
theorem lenSc (x : Sca) : (encS x).length = 3 := rfl
theorem oneSc (x : Sca) : ∀ u ∈ encS x, u.oneCell' = true := by
  intro u hu
  simp [encS] at hu
  rcases hu with rfl | rfl | rfl <;> rfl
abbrev zerSc : Array Value := #[.int .i64 0, .int .i64 0, .int .i64 0]
theorem info_ScT : ∃ i : TypeInfo, Try.prog.info? ScT = some i ∧ i.zero = some (.agg zerSc) ∧ i.size = 3 ∧ i.bytes = 24 := by
  have hinf : (Try.prog.info? ScT).map (fun i => (i.zero, i.size, i.bytes)) = some (some (.agg zerSc), 3, 24) := by kernel_rfl
  cases hi : Try.prog.info? ScT with
  | none => rw [hi] at hinf; cases hinf
  | some i =>
    rw [hi] at hinf
    simp only [Option.map_some, Option.some.injEq, Prod.mk.injEq] at hinf
    exact ⟨i, rfl, hinf.1, hinf.2.1, hinf.2.2⟩

/-! ### Numbers -/
/-- A number as far as it may be one of replicas. -/
def cnt (n : Int) : Int := min (max n 0) 1000000
theorem cnt_range (n : Int) : 0 ≤ cnt n ∧ cnt n ≤ 1000000 := by unfold cnt; omega
theorem cnt_id {n : Int} (h0 : 0 ≤ n) (h1 : n ≤ 1000000) : cnt n = n := by unfold cnt; omega
theorem py_cnt (n : Int) (w : World) : Calls Try.prog 10 #[.int .i64 n] w fun e w' => e = .returned (.int .i64 (cnt n)) ∧ w = w' := by
  have h : min (max n 0) 1000000 = cnt n := rfl
  go_enter Try.func10, Try.ntmps10
  go_wp2
  go_ret
  exact ⟨rfl, rfl⟩
/-- Was it done above the tick less the period? -/
def sinB (a now p : Int) : Bool := decide (1 ≤ p) && decide (now - a < p)
theorem sin_out {a now p : Int} (h : p < 1) : sinB a now p = false := by unfold sinB; rw [decide_eq_false (by omega)]; rfl
set_option maxHeartbeats 2000000 in
theorem py_since (a now p : Int) (w : World) (ha : I64 a) (hn : I64 now) (hp : p < 9223372036854775808) : Calls Try.prog 9 #[.int .i64 a, .int .i64 now, .int .i64 p] w fun e w' => e = .returned (.bool (sinB a now p)) ∧ w = w' := by
  obtain ⟨r, hr⟩ : ∃ r, r = sinB a now p := ⟨_, rfl⟩
  rw [← hr]
  by_cases h1 : p < 1
  · have t1 : decide (p < 1) = true := decide_eq_true h1
    have hr' : r = false := by rw [hr, sin_out h1]
    subst hr'
    clear hr h1 ha hn hp
    go_enter Try.func9, Try.ntmps9
    go_wp2
    go_ret
    exact ⟨rfl, rfl⟩
  · have t1 : decide (p < 1) = false := decide_eq_false h1
    by_cases h2 : a > now
    · have t2 : decide (a > now) = true := decide_eq_true h2
      have hr' : r = true := by rw [hr]; unfold sinB; rw [decide_eq_true (by omega), decide_eq_true (by omega)]; rfl
      subst hr'
      clear hr h1 h2 ha hn hp
      go_enter Try.func9, Try.ntmps9
      go_wp2
      go_ret
      exact ⟨rfl, rfl⟩
    · have t2 : decide (a > now) = false := decide_eq_false h2
      unfold I64 at ha hn
      obtain ⟨A, hA⟩ : ∃ A, A = IntKind.u64.wrap a := ⟨_, rfl⟩
      obtain ⟨B, hB⟩ : ∃ B, B = IntKind.u64.wrap now := ⟨_, rfl⟩
      obtain ⟨D, hD⟩ : ∃ D, D = now - a := ⟨_, rfl⟩
      have wP : IntKind.u64.wrap p = p := by rw [IntKind.wrap_u64]; omega
      have wD : IntKind.u64.wrap (B - A) = D := by
        rw [hA, hB, IntKind.wrap_u64, IntKind.wrap_u64, IntKind.wrap_u64]
        omega
      have t3 : decide (D < p) = r := by rw [hr, hD]; unfold sinB; rw [decide_eq_true (show 1 ≤ p by omega)]; rfl
      have wA := hA.symm
      have wB := hB.symm
      clear hr hA hB hD h1 h2 ha hn hp
      go_enter Try.func9, Try.ntmps9
      go_wp2
      go_ret
      exact ⟨by first | rfl | rw [t3], rfl⟩

/-! ### Rows of what was done -/
theorem sca_at {W w : World} {q : Option Addr} {l : List Sca} (h : RowR 3 encS W q l) (b : Below W.heap.size W w) {j : Nat} {x : Sca} (hx : l[j]? = some x) : ∃ g off, q = some ⟨g, off, none⟩ ∧ w.cell? ⟨g, off + j * 3, none⟩ = some (.int .i64 x.1) ∧ w.cell? ⟨g, off + j * 3 + 1, none⟩ = some (.int .i64 x.2.1) ∧ w.cell? ⟨g, off + j * 3 + 2, none⟩ = some (.int .i64 x.2.2) := by
  obtain ⟨g, off, e, _, hc⟩ := h.below b j x hx
  have h0 := hc 0 _ rfl
  rw [Nat.add_zero] at h0
  exact ⟨g, off, e, h0, hc 1 _ rfl, hc 2 _ rfl⟩
/-- One thing that was done is boxed. -/
theorem box_sca (wr : World) (a f t : Int) : ∃ wb E, Hid (wr.alloc (.cells #[.int .i64 a, .int .i64 f, .int .i64 t] ScT) = wb ∧ wr.heap.size = E) ∧ Below wr.heap.size wr wb ∧ wb.heap[E]? = some (.cells #[.int .i64 a, .int .i64 f, .int .i64 t] ScT (0, 0)) ∧ wb.cell? ⟨E, 0, none⟩ = some (.int .i64 a) ∧ wb.cell? ⟨E, 1, none⟩ = some (.int .i64 f) ∧ wb.cell? ⟨E, 2, none⟩ = some (.int .i64 t) := by
  have e : (wr.alloc (.cells #[.int .i64 a, .int .i64 f, .int .i64 t] ScT)).heap[wr.heap.size]? = some (.cells #[.int .i64 a, .int .i64 f, .int .i64 t] ScT (0, 0)) := heap_alloc_new _ _
  exact ⟨_, _, ⟨rfl, rfl⟩, ((Gr.refl wr).alloc _).below, e, cell_of_block e 0, cell_of_block e 1, cell_of_block e 2⟩
/-- The call owns the slice v, which reads as these. -/
def OwnSc (N : Nat) (w : World) (v : Value) (l : List Sca) : Prop := w.ownsRow N ScT 3 v l.length (flat encS l)
theorem OwnSc.below {N : Nat} {w w' : World} {v : Value} {l : List Sca} (h : OwnSc N w v l) (b : Below w.heap.size w w') : OwnSc N w' v l := below_own h b
theorem OwnSc.row {N : Nat} {w : World} {q : Option Addr} {n c : Nat} {l : List Sca} (h : OwnSc N w (.slice q n c) l) : n = l.length ∧ RowR 3 encS w q l := by
  obtain ⟨q', c', e, r, _⟩ := own_lies lenSc h
  simp only [Value.slice.injEq] at e
  obtain ⟨rfl, rfl, rfl⟩ := e
  exact ⟨rfl, r⟩
theorem flat_appSc (l : List Sca) (x : Sca) : flat encS (l ++ [x]) = flat encS l ++ encS x := by simp [flat]
theorem wpList_push_sca {N : Nat} {w : World} {ops : Array Oper} {rest : List Oper} {o : Oper} {a : Act} {Q : Exit → Act → World → Prop} (hgd : o.guard = none) (s y : Operand)
    (ho : o.op = .call { callee := .builtin .append, args := #[s, y], argTypes := #[SlS, SlS] }) {v : Value} {n : Nat} {l : List Sca} (x : Sca) (hn : l.length = n) (hs : a.eval s = v) (h : OwnSc N w v l) (hb : N ≤ w.heap.size) (hl : n ≤ 1000000)
    (B : Nat) (hx : a.eval y = .slice (some ⟨B, 0, none⟩) 1 1) (hB : w.heap[B]? = some (.cells #[.int .i64 x.1, .int .i64 x.2.1, .int .i64 x.2.2] ScT (0, 0)))
    (hK : ∀ q' c' w', OwnSc N w' (.slice q' (n + 1) c') (l ++ [x]) → w.grownBy w' v.ownBlock → wpList Try.prog ops Q rest (a.put o.dst (.slice q' (n + 1) c')) w') : wpList Try.prog ops Q (o :: rest) a w := by
  subst hn
  obtain ⟨i, hi, hz0, hz1, hz2⟩ := info_ScT
  refine wpList_append_own_at w hgd s y SlS ho N ScT i (.agg zerSc) 3 24 Try.underlying22 hi hz0 hz1 hz2 rfl (by decide) v l.length (flat encS l) hs h ⟨B, 0, none⟩ 1 1 (encS x) hx
    rfl (fun j u hu => ?_) (oneSc x) (by unfold maxLen; omega) (by omega) hb ?_
  · have ea : (⟨B, 0, none⟩ : Addr).add j = ⟨B, j, none⟩ := by unfold Addr.add; split <;> simp_all
    rw [ea, cell_of_block hB, ← hu]
    simp [encS]
  · intro v' w' h1 h2 h3 h4
    obtain ⟨q', c', rfl⟩ := slc_own h1
    refine hK q' c' w' ?_ h2
    unfold OwnSc
    rw [flat_appSc, List.length_append]
    exact h1
theorem grown_low {N n k : Nat} {w w' : World} {T : TypeId} {v : Value} {xs : List Value} (hN : N ≤ w.heap.size) (ho : w.ownsRow N T k v n xs) (g : w.grownBy w' v.ownBlock) : Below N w w' :=
  (Below.refl N w).grown g hN (fun k e => (lt_own ho e).1)
theorem filter_snoc {α : Type} (p : α → Bool) {l : List α} {j : Nat} {x : α} (h : l[j]? = some x) : (l.take (j + 1)).filter p = (l.take j).filter p ++ (if p x = true then [x] else []) := by
  rw [List.take_add_one, h, List.filter_append]
  congr 1
  by_cases hp : p x = true
  · rw [if_pos hp]; simp [hp]
  · rw [if_neg hp]; simp [hp]
end Go.Proofs.Ytfmllfolpcimpaa.Py
