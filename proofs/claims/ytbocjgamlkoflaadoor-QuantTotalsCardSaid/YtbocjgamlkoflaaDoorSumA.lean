/- What 'Sum' of package quant answers, of an iterator that tells a row of numbers. -/
import Derived.Test.YtbocjgamlkoflaaDoorQuantA
import Derived.RangeFuncNested
import Derived.RangeFuncBound
import Derived.RangeFuncCalls
import Derived.RangeFuncLeaves
import Derived.RangeFuncBox
import Derived.WalkKit
import Derived.OwnWalkIn
import Derived.TacticsInMore
import Derived.LoopNIn
import Derived.LoopIn
import Derived.RecoverIn
namespace Go.Proofs.YtbocjgamlkoflaaDoor
open Go.RowKit
set_option linter.unusedVariables false
attribute [local go_sem] Oper.semAt_some

/-- Adding one more: the sum and the error; behind an error nothing is added. -/
def step (r : Int × Int) (m : Int) : Int × Int :=
  if r.2 = 0 then (if m < 0 ∨ 9007199254740992 < m then (0, 1) else if 9007199254740992 < r.1 + m then (0, 3) else (r.1 + m, 0)) else r
def run (l : List Int) : Int × Int := l.foldl step (0, 0)
theorem run_snoc (l : List Int) (m : Int) : run (l ++ [m]) = step (run l) m := by unfold run; rw [List.foldl_append]; rfl
theorem run_stop (l : List Int) : ∀ r : Int × Int, r.2 ≠ 0 → l.foldl step r = r := by
  induction l with
  | nil => intro r _; rfl
  | cons m t ih =>
    intro r h
    rw [List.foldl_cons, show step r m = r from if_neg h]
    exact ih r h
theorem run_pre {pre l : List Int} (h : pre <+: l) (he : (run pre).2 ≠ 0) : run l = run pre := by
  obtain ⟨t, rfl⟩ := h
  unfold run at he ⊢
  rw [List.foldl_append]
  exact run_stop t _ he
theorem run_fine (l : List Int) : (run l).2 = 0 → 0 ≤ (run l).1 ∧ (run l).1 ≤ 9007199254740992 := by
  suffices all : ∀ r : Int × Int, (r.2 = 0 → 0 ≤ r.1 ∧ r.1 ≤ 9007199254740992) → (l.foldl step r).2 = 0 → 0 ≤ (l.foldl step r).1 ∧ (l.foldl step r).1 ≤ 9007199254740992 from all (0, 0) (fun _ => ⟨by decide, by decide⟩)
  induction l with
  | nil => intro r h; exact h
  | cons m t ih =>
    intro r h
    rw [List.foldl_cons]
    refine ih _ fun he => ?_
    unfold step at he ⊢
    by_cases h1 : r.2 = 0
    · rw [if_pos h1] at he ⊢
      by_cases h2 : m < 0 ∨ 9007199254740992 < m
      · rw [if_pos h2] at he; exact absurd he (by decide)
      · rw [if_neg h2] at he ⊢
        by_cases h3 : 9007199254740992 < r.1 + m
        · rw [if_pos h3] at he; exact absurd he (by decide)
        · rw [if_neg h3]
          have := h h1
          exact ⟨by show 0 ≤ r.1 + m; omega, by show r.1 + m ≤ _; omega⟩
    · rw [if_neg h1] at he
      exact absurd he h1

/-- The deferred closure, of a frame that returns. -/
theorem catch_idle (n : Nat) (a b : Addr) (w : World) :
    CallsDIn Fence.wide n Tryd.prog 29 #[.pointer (some a), .pointer (some b)] .returning w fun e u' w' => e = .returned (.tuple #[]) ∧ u' = .returning ∧ w = w' := by
  refine callsDIn_of_wpSIn Tryd.func29 rfl trivial fun c₀ cs hu => ?_
  apply wpSIn_seq
  apply wpSIn_region
  simp [wpOpsSIn, go_sem, recoverD, hu, Tryd.ntmps29, Exit.thenS]
  refine wpSIn_cond (t := false) (by simp [Act.eval, Array.replicate]) ?_
  simp only [Bool.false_eq_true, if_false]
  refine wpSIn_of_wpIn rfl (wpIn_skip ?_)
  cases c₀
  simp_all [bodyPostS, results, Tryd.results29]

/-- What the two cells hold. -/
def SumHas (w : World) (pre : List Int) (W : World) : Prop :=
  (W.cell? ⟨w.heap.size, 0, none⟩ = some (.int .i64 (run pre).1) ∧ W.frozen? ⟨w.heap.size, 0, none⟩ = false) ∧
  (W.cell? ⟨w.heap.size + 1, 0, none⟩ = some (.int .i64 (run pre).2) ∧ W.frozen? ⟨w.heap.size + 1, 0, none⟩ = false)

theorem SumHas.set {w W : World} {pre : List Int} {x s e : Int} (h : SumHas w pre W) (hr : run (pre ++ [x]) = (s, e)) :
    SumHas w (pre ++ [x]) ((W.setCell ⟨w.heap.size, 0, none⟩ (.int .i64 s)).setCell ⟨w.heap.size + 1, 0, none⟩ (.int .i64 e)) := by
  obtain ⟨⟨h1, h2⟩, h3, h4⟩ := h
  unfold SumHas
  rw [hr]
  refine ⟨⟨?_, ?_⟩, ?_, ?_⟩
  · rw [World.cell?_setCell_other _ _ _ _ (by simp)]
    exact World.cell?_setCell_same' _ _ _ (by rw [h1]; rfl)
  · rw [World.frozen?_setCell, World.frozen?_setCell]; exact h2
  · refine World.cell?_setCell_same' _ _ _ ?_
    rw [World.cell?_setCell_other _ _ _ _ (by simp), h3]; rfl
  · rw [World.frozen?_setCell, World.frozen?_setCell]; exact h4

set_option maxRecDepth 100000 in
set_option maxHeartbeats 4000000 in
theorem sum_seq (n : Nat) (hn : 4 ≤ n) {gf : Nat} {lb : Array Value} (eg : ∀ args w, (callFunc gf args).run Tryd.prog w = .ok (.enter gf args) w) {N : Nat} (zs : List Int) (w : World)
    (hseq : SeqStopsK Fence.wide (n - 1) Tryd.prog gf lb (fun x : Int => #[Value.int .i64 x]) (Below w.heap.size) (fun ys => ys = zs) (fun pre => pre <+: zs) N w) :
    CallsIn Fence.wide n Tryd.prog 20 #[.func (.func gf) #[] lb] w fun e w' => e = .returned (.tuple #[.int .i64 (run zs).1, .int .i64 (run zs).2]) ∧ Below w.heap.size w w' := by
  have h1 : 1 ≤ n := by omega
  have hmf : ∀ (fn : Fn) (first cap : Array Value) (w : World), (Instr.makeFunc fn first cap).run Tryd.prog w = .ok (.func fn first cap) w := fun _ _ _ _ => rfl
  have hnil : ∀ w : World, (binOp BinOp.eql 56 (.func (.func gf) #[] lb) .nilFunc).run Tryd.prog w = .ok (.bool false) w := fun _ => by kernel_rfl
  refine callsIn_of_wp_marks Tryd.func20 rfl trivial ?_ rfl
  simp only [Tryd.ntmps20, List.size_toArray, List.length_cons, List.length_nil, Nat.reduceAdd, Nat.reduceSub, Array.replicate_succ, Array.replicate_zero, List.push_toArray, List.append_toArray, List.nil_append, List.cons_append]
  gi_wp2
  have hB0 : Below w.heap.size w ((w.alloc (.cells #[.int .i64 0] 29)).alloc (.cells #[.int .i64 0] 30)) := ((Below.refl _ w).alloc (Nat.le_refl _) _).alloc (by simp) _
  have bS := Boxed.new w 29 (.int .i64 0)
  have bE := Boxed.new (w.alloc (.cells #[.int .i64 0] 29)) 30 (.int .i64 0)
  rw [World.size_alloc] at bE
  refine wpIn_rangeFunc_ownG rfl h1 (gf := gf) (lb := lb) rfl trivial eg hseq belowK_t (belowK_b (by simp; omega)) hB0 (fun _ => rfl)
    (fun pre W => (SumHas w pre W ∧ (run pre).2 = 0) ∧ Below w.heap.size w W)
    (fun c pre W => (SumHas w pre W ∧ c = .exit 0 ∧ (run pre).2 ≠ 0) ∧ Below w.heap.size w W)
    (OwnFrom.and (Own.from (fun s A B row hs hg hr => ⟨⟨⟨cell_kept hs.1.1.1 hg hr, (frozen_kept hs.1.1.1 hg hr).trans hs.1.1.2⟩, cell_kept hs.1.2.1 hg hr, (frozen_kept hs.1.2.1 hg hr).trans hs.1.2.2⟩, hs.2⟩) _) (ownFrom_below (Nat.le_refl _) (by simp; omega)))
    (fun c => OwnFrom.and (Own.from (fun s A B row hs hg hr => ⟨⟨⟨cell_kept hs.1.1.1 hg hr, (frozen_kept hs.1.1.1 hg hr).trans hs.1.1.2⟩, cell_kept hs.1.2.1 hg hr, (frozen_kept hs.1.2.1 hg hr).trans hs.1.2.2⟩, hs.2⟩) _) (ownFrom_below (Nat.le_refl _) (by simp; omega)))
    ⟨⟨⟨⟨(bS.alloc _).cell, (bS.alloc _).frozen⟩, bE.cell, bE.frozen⟩, rfl⟩, hB0⟩
    (fun x => { tmps := #[.func (.func gf) #[] lb, undef, .pointer (some ⟨w.heap.size, 0, none⟩), .pointer (some ⟨w.heap.size + 1, 0, none⟩), .int .i64 x, .func (.func gf) #[] lb, .bool false,
      .func (.func 29) #[] #[.pointer (some ⟨w.heap.size + 1, 0, none⟩), .pointer (some ⟨w.heap.size, 0, none⟩)], .func (.func gf) #[] lb, .int .i64 x, undef, undef, undef, undef, undef, undef, undef, undef, undef, undef], defers := [] }) ?assign ?body ?done ?stop
  case assign =>
    intro l x W K hK
    gi_wp2
    exact hK
  case body =>
    rintro l pre x W ⟨⟨hs, he⟩, hB⟩ _
    have hr := run_snoc pre x
    have hf := run_fine pre he
    obtain ⟨s, hsv⟩ : ∃ s, s = (run pre).1 := ⟨_, rfl⟩
    have hh := hs
    unfold SumHas at hh
    rw [he, ← hsv] at hh
    obtain ⟨⟨c1, f1⟩, c2, f2⟩ := hh
    unfold step at hr
    rw [if_pos he, ← hsv] at hr
    rw [← hsv] at hf
    obtain ⟨s0, s1⟩ := hf
    have h3 : 1 ≤ n - 1 - 1 := by omega
    have HS := Lib.hid hs
    clear hs he hsv
    by_cases hb : x < 0 ∨ 9007199254740992 < x
    · rw [if_pos hb] at hr
      have A := Lib.hid (fun W : World => add_arg s x W (.inr hb))
      have HR := Lib.hid hr
      clear hr hb
      gi_wp2_with (refine ⟨trivial, ?_⟩; gi_at_call 17; refine (CallsIn.inRound l (callsIn_wide.2 (A.out _))).mono ?_; rintro e w' ⟨rfl, rfl⟩)
      exact ⟨((KeepsOthers.setCell _ _ _).trans (KeepsOthers.setCell _ _ _)).from _, ⟨HS.out.set HR.out, rfl, by rw [HR.out]; decide⟩, (hB.setCell (p := ⟨w.heap.size, 0, none⟩) (Nat.le_refl _) _).setCell (p := ⟨w.heap.size + 1, 0, none⟩) (by simp) _⟩
    · rw [if_neg hb] at hr
      have x0 : 0 ≤ x := by omega
      have x1 : x ≤ 9007199254740992 := by omega
      by_cases ho : 9007199254740992 < s + x
      · rw [if_pos ho] at hr
        have A := Lib.hid (fun W : World => add_over s x W s0 s1 x0 x1 ho)
        have HR := Lib.hid hr
        clear hr hb ho
        gi_wp2_with (refine ⟨trivial, ?_⟩; gi_at_call 17; refine (CallsIn.inRound l (callsIn_wide.2 (A.out _))).mono ?_; rintro e w' ⟨rfl, rfl⟩)
        exact ⟨((KeepsOthers.setCell _ _ _).trans (KeepsOthers.setCell _ _ _)).from _, ⟨HS.out.set HR.out, rfl, by rw [HR.out]; decide⟩, (hB.setCell (p := ⟨w.heap.size, 0, none⟩) (Nat.le_refl _) _).setCell (p := ⟨w.heap.size + 1, 0, none⟩) (by simp) _⟩
      · rw [if_neg ho] at hr
        have A := Lib.hid (fun W : World => add_within s x W s0 s1 x0 x1 (by omega))
        have HR := Lib.hid hr
        clear hr hb ho
        gi_wp2_with (refine ⟨trivial, ?_⟩; gi_at_call 17; refine (CallsIn.inRound l (callsIn_wide.2 (A.out _))).mono ?_; rintro e w' ⟨rfl, rfl⟩)
        exact ⟨((KeepsOthers.setCell _ _ _).trans (KeepsOthers.setCell _ _ _)).from _, ((Below.refl _ _).setCell (p := ⟨w.heap.size, 0, none⟩) (Nat.le_refl _) _).setCell (p := ⟨w.heap.size + 1, 0, none⟩) (by simp) _, ⟨HS.out.set HR.out, by rw [HR.out]⟩, (hB.setCell (p := ⟨w.heap.size, 0, none⟩) (Nat.le_refl _) _).setCell (p := ⟨w.heap.size + 1, 0, none⟩) (by simp) _⟩
  case done =>
    rintro D ys W hD rfl ⟨⟨hs, he⟩, hB⟩ hK
    obtain ⟨⟨c1, f1⟩, c2, f2⟩ := hs
    clear he
    obtain ⟨s, hsv⟩ : ∃ s, s = (run ys).1 := ⟨_, rfl⟩
    obtain ⟨q, hqv⟩ : ∃ q, q = (run ys).2 := ⟨_, rfl⟩
    rw [← hsv] at c1
    rw [← hqv] at c2
    have HS := Lib.hid hsv
    have HQ := Lib.hid hqv
    clear hsv hqv
    gi_wp2
    gi_region
    have hK3 : (((W.setCell ⟨w.heap.size, 0, none⟩ (.int .i64 s)).setCell ⟨w.heap.size + 1, 0, none⟩ (.int .i64 q)).drew).heap[D]? = some (.deferred (some [])) := ((KeepsOthers.setCell _ _ _).trans (KeepsOthers.setCell _ _ _)).same D _ hK rfl
    have k1 : (((W.setCell ⟨w.heap.size, 0, none⟩ (.int .i64 s)).setCell ⟨w.heap.size + 1, 0, none⟩ (.int .i64 q)).drew).cell? ⟨w.heap.size, 0, none⟩ = some (.int .i64 s) := by
      show ((W.setCell ⟨w.heap.size, 0, none⟩ (.int .i64 s)).setCell ⟨w.heap.size + 1, 0, none⟩ (.int .i64 q)).cell? _ = _
      rw [World.cell?_setCell_other _ _ _ _ (by simp)]
      exact World.cell?_setCell_same' _ _ _ (by rw [c1]; rfl)
    have k2 : (((W.setCell ⟨w.heap.size, 0, none⟩ (.int .i64 s)).setCell ⟨w.heap.size + 1, 0, none⟩ (.int .i64 q)).drew).cell? ⟨w.heap.size + 1, 0, none⟩ = some (.int .i64 q) := by
      show ((W.setCell ⟨w.heap.size, 0, none⟩ (.int .i64 s)).setCell ⟨w.heap.size + 1, 0, none⟩ (.int .i64 q)).cell? _ = _
      refine World.cell?_setCell_same' _ _ _ ?_
      rw [World.cell?_setCell_other _ _ _ _ (by simp), c2]; rfl
    have hB3 : Below w.heap.size w (((W.setCell ⟨w.heap.size, 0, none⟩ (.int .i64 s)).setCell ⟨w.heap.size + 1, 0, none⟩ (.int .i64 q)).drew) := ((hB.setCell (p := ⟨w.heap.size, 0, none⟩) (Nat.le_refl _) _).setCell (p := ⟨w.heap.size + 1, 0, none⟩) (by simp) _).drew
    generalize (((W.setCell ⟨w.heap.size, 0, none⟩ (.int .i64 s)).setCell ⟨w.heap.size + 1, 0, none⟩ (.int .i64 q)).drew) = W3 at *
    gi_wp2
    refine ⟨by simp, .inl ⟨_, _, rfl, run_takeDeferred hK3, ?_⟩⟩
    refine ⟨by simp, .inr ⟨fun _ => h1, _, _, 29, #[.pointer (some ⟨w.heap.size + 1, 0, none⟩), .pointer (some ⟨w.heap.size, 0, none⟩)], rfl, by simp [go_sem], fun _ _ => trivial, ?_⟩⟩
    refine (catch_idle _ _ _ _).mono ?_
    rintro e u' w' ⟨rfl, rfl, rfl⟩
    have g := grownBy_putObj' W3 D (.deferred none)
    have k1' := cell_kept k1 g (fun r e => by cases e; exact ⟨_, hK3, rfl⟩)
    have k2' := cell_kept k2 g (fun r e => by cases e; exact ⟨_, hK3, rfl⟩)
    have hB4 : Below w.heap.size w (W3.putObj D (.deferred none)) := hB3.trans (belowK_b (w := w) (Nat.le_refl _) W3 D _ _ (by simp at hD; omega) hK3 rfl rfl)
    rw [← HS.out, ← HQ.out]
    refine ⟨.tuple #[.int .i64 s, .int .i64 q], ?_, rfl, hB4⟩
    simp [results, Tryd.f20, go_sem, k1', k2']
  case stop =>
    rintro D c pre W hD hpre ⟨⟨hs, rfl, he⟩, hB⟩ hK
    obtain ⟨⟨c1, f1⟩, c2, f2⟩ := hs
    have HZ := Lib.hid (run_pre hpre he)
    clear he hpre
    obtain ⟨s, hsv⟩ : ∃ s, s = (run pre).1 := ⟨_, rfl⟩
    obtain ⟨q, hqv⟩ : ∃ q, q = (run pre).2 := ⟨_, rfl⟩
    rw [← hsv] at c1
    rw [← hqv] at c2
    have HS := Lib.hid hsv
    have HQ := Lib.hid hqv
    clear hsv hqv
    gi_wp2
    gi_region
    have hK3 : (((W.setCell ⟨w.heap.size, 0, none⟩ (.int .i64 s)).setCell ⟨w.heap.size + 1, 0, none⟩ (.int .i64 q)).drew).heap[D]? = some (.deferred (some [])) := ((KeepsOthers.setCell _ _ _).trans (KeepsOthers.setCell _ _ _)).same D _ hK rfl
    have k1 : (((W.setCell ⟨w.heap.size, 0, none⟩ (.int .i64 s)).setCell ⟨w.heap.size + 1, 0, none⟩ (.int .i64 q)).drew).cell? ⟨w.heap.size, 0, none⟩ = some (.int .i64 s) := by
      show ((W.setCell ⟨w.heap.size, 0, none⟩ (.int .i64 s)).setCell ⟨w.heap.size + 1, 0, none⟩ (.int .i64 q)).cell? _ = _
      rw [World.cell?_setCell_other _ _ _ _ (by simp)]
      exact World.cell?_setCell_same' _ _ _ (by rw [c1]; rfl)
    have k2 : (((W.setCell ⟨w.heap.size, 0, none⟩ (.int .i64 s)).setCell ⟨w.heap.size + 1, 0, none⟩ (.int .i64 q)).drew).cell? ⟨w.heap.size + 1, 0, none⟩ = some (.int .i64 q) := by
      show ((W.setCell ⟨w.heap.size, 0, none⟩ (.int .i64 s)).setCell ⟨w.heap.size + 1, 0, none⟩ (.int .i64 q)).cell? _ = _
      refine World.cell?_setCell_same' _ _ _ ?_
      rw [World.cell?_setCell_other _ _ _ _ (by simp), c2]; rfl
    have hB3 : Below w.heap.size w (((W.setCell ⟨w.heap.size, 0, none⟩ (.int .i64 s)).setCell ⟨w.heap.size + 1, 0, none⟩ (.int .i64 q)).drew) := ((hB.setCell (p := ⟨w.heap.size, 0, none⟩) (Nat.le_refl _) _).setCell (p := ⟨w.heap.size + 1, 0, none⟩) (by simp) _).drew
    generalize (((W.setCell ⟨w.heap.size, 0, none⟩ (.int .i64 s)).setCell ⟨w.heap.size + 1, 0, none⟩ (.int .i64 q)).drew) = W3 at *
    gi_wp2
    refine ⟨by simp, .inl ⟨_, _, rfl, run_takeDeferred hK3, ?_⟩⟩
    refine ⟨by simp, .inr ⟨fun _ => h1, _, _, 29, #[.pointer (some ⟨w.heap.size + 1, 0, none⟩), .pointer (some ⟨w.heap.size, 0, none⟩)], rfl, by simp [go_sem], fun _ _ => trivial, ?_⟩⟩
    refine (catch_idle _ _ _ _).mono ?_
    rintro e u' w' ⟨rfl, rfl, rfl⟩
    have g := grownBy_putObj' W3 D (.deferred none)
    have k1' := cell_kept k1 g (fun r e => by cases e; exact ⟨_, hK3, rfl⟩)
    have k2' := cell_kept k2 g (fun r e => by cases e; exact ⟨_, hK3, rfl⟩)
    have hB4 : Below w.heap.size w (W3.putObj D (.deferred none)) := hB3.trans (belowK_b (w := w) (Nat.le_refl _) W3 D _ _ (by simp at hD; omega) hK3 rfl rfl)
    rw [HZ.out, ← HS.out, ← HQ.out]
    refine ⟨.tuple #[.int .i64 s, .int .i64 q], ?_, rfl, hB4⟩
    simp [results, Tryd.f20, go_sem, k1', k2']

end Go.Proofs.YtbocjgamlkoflaaDoor
