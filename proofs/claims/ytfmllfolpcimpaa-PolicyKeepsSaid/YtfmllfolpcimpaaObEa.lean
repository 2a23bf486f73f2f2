/- Five variables made in whatever order: what they are made of lies in five blocks. -/
import Derived.Test.YtfmllfolpcimpaaObO
import Derived.Deep.RegionHeld
import Derived.Deep.MidRow
namespace Go.Proofs.Ytfmllfolpcimpaa
open Go.RowKit Go.Shelf Go.Lib Go.Sort
set_option linter.unusedVariables false
set_option linter.unusedSimpArgs false

theorem put_put (a : Act) (d : Option Tmp) (u v : Value) : (a.put d u).put d v = a.put d v := by
  cases d with
  | none => rfl
  | some d => simp [Act.put]

def lst5 (t0 t1 t2 t3 t4 : Bool) : Array Bool := #[true, true, true, true, true, true, true, true, true, true, t0, t1, t2, t3, t4, false, false, false, false, false]
def rdy5 (t0 t1 t2 t3 t4 : Bool) : List Nat := (if t0 then [] else [10]) ++ (if t1 then [] else [11]) ++ (if t2 then [] else [12]) ++ (if t3 then [] else [13]) ++ (if t4 then [] else [14])
def cnt5 (t0 t1 t2 t3 t4 : Bool) : Nat := (if t0 then 0 else 1) + (if t1 then 0 else 1) + (if t2 then 0 else 1) + (if t3 then 0 else 1) + (if t4 then 0 else 1)
def act5 (s : Nat) (a : Act) (u0 u1 u2 u3 u4 : Value) : Act := ((((a.put (some s) u0).put (some (s + 1)) u1).put (some (s + 2)) u2).put (some (s + 3)) u3).put (some (s + 4)) u4
/-- Where it was made. -/
def At5 (N : Nat) (w : World) (t : Bool) (u : Value) (Z : Obj) : Prop := t = true → ∃ b, u = .pointer (some ⟨b, 0, none⟩) ∧ N ≤ b ∧ w.heap[b]? = some Z
theorem At5.alloc {N : Nat} {w : World} {t : Bool} {u : Value} {Z : Obj} (h : At5 N w t u Z) (o : Obj) : At5 N (w.alloc o) t u Z := fun e => by
  obtain ⟨b, hu, hb', hb⟩ := h e
  refine ⟨b, hu, hb', ?_⟩
  have : b < w.heap.size := (Array.getElem?_eq_some_iff.1 hb).1
  rw [Below.heap_alloc w o b this, hb]
theorem At5.new {N : Nat} {w : World} (hN : N ≤ w.heap.size) (t : Bool) (Z : Obj) : At5 N (w.alloc Z) t (.pointer (some ⟨w.heap.size, 0, none⟩)) Z := fun _ => ⟨_, rfl, hN, by have e : (w.alloc Z).heap = w.heap.push Z := rfl; rw [e]; simp⟩

/-- An operation that makes a variable. -/
structure Mk5 (P : Program) (ops : Array Oper) (i : Nat) (d : Tmp) (Z : Obj) : Prop where
  op : ∃ o, ops[i]? = some o ∧ o.dst = some d ∧ (∀ t, Region.wanted o t = true) ∧ ∀ (a : Act) (w : World), (execOp a.eval o).run P w = .ok (.value (.pointer (some ⟨w.heap.size, 0, none⟩))) (w.alloc Z)

theorem Mk5.step {P : Program} {ops : Array Oper} {i : Nat} {d : Tmp} {Z : Obj} {Q : Exit → Act → World → Prop} (h : Mk5 P ops i d Z) {K : Act → World → Prop} {a : Act} {w : World}
    (k : K (a.put (some d) (.pointer (some ⟨w.heap.size, 0, none⟩))) (w.alloc Z)) : wpOp P ops Q i K a w := by
  obtain ⟨o, h1, h2, h3, h4⟩ := h.op
  unfold wpOp
  simp only [h1, h3, if_true]
  refine .inl ?_
  unfold Oper.wp
  rw [h4]
  simp only [Oper.upon, h2]
  exact k

theorem five {P : Program} {md : Region.Mode} {ops : Array Oper} {Q : Exit → Act → World → Prop} {S : World → Prop} {Z0 Z1 Z2 Z3 Z4 : Obj} {n : Nat} (s : Nat) (a : Act)
    (m0 : Mk5 P ops 10 s Z0) (m1 : Mk5 P ops 11 (s + 1) Z1) (m2 : Mk5 P ops 12 (s + 2) Z2) (m3 : Mk5 P ops 13 (s + 3) Z3) (m4 : Mk5 P ops 14 (s + 4) Z4)
    (hr : ∀ t0 t1 t2 t3 t4, (t0 && t1 && t2 && t3 && t4) = false → Region.ready md ops (lst5 t0 t1 t2 t3 t4) = rdy5 t0 t1 t2 t3 t4)
    {N : Nat} (hN : ∀ w, S w → N ≤ w.heap.size) (hS : ∀ w o, S w → S (w.alloc o))
    (fin : ∀ b0 b1 b2 b3 b4 w, S w → N ≤ b0 → N ≤ b1 → N ≤ b2 → N ≤ b3 → N ≤ b4 → w.heap[b0]? = some Z0 → w.heap[b1]? = some Z1 → w.heap[b2]? = some Z2 → w.heap[b3]? = some Z3 → w.heap[b4]? = some Z4 →
      wpAnyH P md ops Q S n (lst5 true true true true true) (act5 s a (.pointer (some ⟨b0, 0, none⟩)) (.pointer (some ⟨b1, 0, none⟩)) (.pointer (some ⟨b2, 0, none⟩)) (.pointer (some ⟨b3, 0, none⟩)) (.pointer (some ⟨b4, 0, none⟩))) w) :
    ∀ (k : Nat) (t0 t1 t2 t3 t4 : Bool) (u0 u1 u2 u3 u4 : Value) (w : World), cnt5 t0 t1 t2 t3 t4 = k → S w → At5 N w t0 u0 Z0 → At5 N w t1 u1 Z1 → At5 N w t2 u2 Z2 → At5 N w t3 u3 Z3 → At5 N w t4 u4 Z4 →
      wpAnyH P md ops Q S (n + k) (lst5 t0 t1 t2 t3 t4) (act5 s a u0 u1 u2 u3 u4) w := by
  intro k
  induction k with
  | zero =>
    intro t0 t1 t2 t3 t4 u0 u1 u2 u3 u4 w hk hw h0 h1 h2 h3 h4
    have e : t0 = true ∧ t1 = true ∧ t2 = true ∧ t3 = true ∧ t4 = true := by
      unfold cnt5 at hk
      cases t0 <;> cases t1 <;> cases t2 <;> cases t3 <;> cases t4 <;> simp at hk ⊢
    obtain ⟨rfl, rfl, rfl, rfl, rfl⟩ := e
    obtain ⟨b0, rfl, n0, g0⟩ := h0 rfl
    obtain ⟨b1, rfl, n1, g1⟩ := h1 rfl
    obtain ⟨b2, rfl, n2, g2⟩ := h2 rfl
    obtain ⟨b3, rfl, n3, g3⟩ := h3 rfl
    obtain ⟨b4, rfl, n4, g4⟩ := h4 rfl
    exact fin b0 b1 b2 b3 b4 w hw n0 n1 n2 n3 n4 g0 g1 g2 g3 g4
  | succ k ih =>
    intro t0 t1 t2 t3 t4 u0 u1 u2 u3 u4 w hk hw h0 h1 h2 h3 h4
    have hf : (t0 && t1 && t2 && t3 && t4) = false := by
      unfold cnt5 at hk
      cases t0 <;> cases t1 <;> cases t2 <;> cases t3 <;> cases t4 <;> simp at hk ⊢
    refine wpAnyH_all (hr t0 t1 t2 t3 t4 hf) ?_ ?_
    · unfold rdy5
      cases t0 <;> cases t1 <;> cases t2 <;> cases t3 <;> cases t4 <;> simp at hf ⊢
    · intro i hi
      have hi' : (i = 10 ∧ t0 = false) ∨ (i = 11 ∧ t1 = false) ∨ (i = 12 ∧ t2 = false) ∨ (i = 13 ∧ t3 = false) ∨ (i = 14 ∧ t4 = false) := by
        unfold rdy5 at hi
        cases t0 <;> cases t1 <;> cases t2 <;> cases t3 <;> cases t4 <;> simp at hi <;> simp <;> exact hi
      rcases hi' with ⟨rfl, rfl⟩ | ⟨rfl, rfl⟩ | ⟨rfl, rfl⟩ | ⟨rfl, rfl⟩ | ⟨rfl, rfl⟩
      · refine m0.step ⟨hS _ _ hw, ?_⟩
        have e : (lst5 false t1 t2 t3 t4).setIfInBounds 10 true = lst5 true t1 t2 t3 t4 := by simp [lst5]
        have ea : ∀ v, (act5 s a u0 u1 u2 u3 u4).put (some s) v = act5 s a v u1 u2 u3 u4 := fun v => by
          unfold act5
          rw [Act.put_comm (x := some (s + 4)) (y := some s) _ _ _ (fun d h => by cases h; simp), Act.put_comm (x := some (s + 3)) (y := some s) _ _ _ (fun d h => by cases h; simp), Act.put_comm (x := some (s + 2)) (y := some s) _ _ _ (fun d h => by cases h; simp), Act.put_comm (x := some (s + 1)) (y := some s) _ _ _ (fun d h => by cases h; simp), put_put]
        rw [e, ea]
        refine ih true t1 t2 t3 t4 _ u1 u2 u3 u4 _ ?_ (hS _ _ hw) (At5.new (hN _ hw) _ _) (h1.alloc _) (h2.alloc _) (h3.alloc _) (h4.alloc _)
        unfold cnt5 at hk ⊢; simp at hk ⊢; omega
      · refine m1.step ⟨hS _ _ hw, ?_⟩
        have e : (lst5 t0 false t2 t3 t4).setIfInBounds 11 true = lst5 t0 true t2 t3 t4 := by simp [lst5]
        have ea : ∀ v, (act5 s a u0 u1 u2 u3 u4).put (some (s + 1)) v = act5 s a u0 v u2 u3 u4 := fun v => by
          unfold act5
          rw [Act.put_comm (x := some (s + 4)) (y := some (s + 1)) _ _ _ (fun d h => by cases h; simp), Act.put_comm (x := some (s + 3)) (y := some (s + 1)) _ _ _ (fun d h => by cases h; simp), Act.put_comm (x := some (s + 2)) (y := some (s + 1)) _ _ _ (fun d h => by cases h; simp), put_put]
        rw [e, ea]
        refine ih t0 true t2 t3 t4 u0 _ u2 u3 u4 _ ?_ (hS _ _ hw) (h0.alloc _) (At5.new (hN _ hw) _ _) (h2.alloc _) (h3.alloc _) (h4.alloc _)
        unfold cnt5 at hk ⊢; simp at hk ⊢; omega
      · refine m2.step ⟨hS _ _ hw, ?_⟩
        have e : (lst5 t0 t1 false t3 t4).setIfInBounds 12 true = lst5 t0 t1 true t3 t4 := by simp [lst5]
        have ea : ∀ v, (act5 s a u0 u1 u2 u3 u4).put (some (s + 2)) v = act5 s a u0 u1 v u3 u4 := fun v => by
          unfold act5
          rw [Act.put_comm (x := some (s + 4)) (y := some (s + 2)) _ _ _ (fun d h => by cases h; simp), Act.put_comm (x := some (s + 3)) (y := some (s + 2)) _ _ _ (fun d h => by cases h; simp), put_put]
        rw [e, ea]
        refine ih t0 t1 true t3 t4 u0 u1 _ u3 u4 _ ?_ (hS _ _ hw) (h0.alloc _) (h1.alloc _) (At5.new (hN _ hw) _ _) (h3.alloc _) (h4.alloc _)
        unfold cnt5 at hk ⊢; simp at hk ⊢; omega
      · refine m3.step ⟨hS _ _ hw, ?_⟩
        have e : (lst5 t0 t1 t2 false t4).setIfInBounds 13 true = lst5 t0 t1 t2 true t4 := by simp [lst5]
        have ea : ∀ v, (act5 s a u0 u1 u2 u3 u4).put (some (s + 3)) v = act5 s a u0 u1 u2 v u4 := fun v => by
          unfold act5
          rw [Act.put_comm (x := some (s + 4)) (y := some (s + 3)) _ _ _ (fun d h => by cases h; simp), put_put]
        rw [e, ea]
        refine ih t0 t1 t2 true t4 u0 u1 u2 _ u4 _ ?_ (hS _ _ hw) (h0.alloc _) (h1.alloc _) (h2.alloc _) (At5.new (hN _ hw) _ _) (h4.alloc _)
        unfold cnt5 at hk ⊢; simp at hk ⊢; omega
      · refine m4.step ⟨hS _ _ hw, ?_⟩
        have e : (lst5 t0 t1 t2 t3 false).setIfInBounds 14 true = lst5 t0 t1 t2 t3 true := by simp [lst5]
        have ea : ∀ v, (act5 s a u0 u1 u2 u3 u4).put (some (s + 4)) v = act5 s a u0 u1 u2 u3 v := fun v => by
          unfold act5
          rw [put_put]
        rw [e, ea]
        refine ih t0 t1 t2 t3 true u0 u1 u2 u3 _ _ ?_ (hS _ _ hw) (h0.alloc _) (h1.alloc _) (h2.alloc _) (h3.alloc _) (At5.new (hN _ hw) _ _)
        unfold cnt5 at hk ⊢; simp at hk ⊢; omega

/-! ### and what is stored into them -/
theorem there_block {w : World} {b : Nat} {C : Array Value} {t : TypeId} (h : w.heap[b]? = some (.cells C t (0, 0))) : w.there b 0 C.size := fun j hj => by
  refine ⟨?_, Go.Joins.unfrozen_of_block h _⟩
  rw [Go.Joins.cell_of_block h]
  simp [hj]
theorem rangeAt_below {w w' : World} {N b o : Nat} {l : List Value} (h : w.rangeAt b o l) (hb : Below N w w') (hz : b < N) : w'.rangeAt b o l := fun j v hv => by
  rw [World.cell?_of_block (hb.block b hz)]
  exact h j v hv
def Rg (cs : Array Value) (o : Nat) (l : List Value) : Prop := ∀ j v, l[j]? = some v → cs[o + j]? = some v
theorem Rg.nil (cs : Array Value) (o : Nat) : Rg cs o [] := fun j v h => by simp at h
theorem Rg.cons {cs : Array Value} {o : Nat} {v : Value} {l : List Value} (h : cs[o]? = some v) (t : Rg cs (o + 1) l) : Rg cs o (v :: l) := fun j u hj => by
  cases j with
  | zero => simp at hj; subst hj; exact h
  | succ j => have := t j u (by simpa using hj); rwa [show o + 1 + j = o + (j + 1) by omega] at this
theorem Rg.laid {cs : Array Value} {o : Nat} {l : List Value} (h : Rg cs o l) (w : World) (t : TypeId) : (w.alloc (.cells cs t)).rangeAt w.heap.size o l := fun j v hj => by
  rw [World.cell?_alloc_mark]
  exact h j v hj
def Ones (l : List Value) : Prop := ∀ v ∈ l, v.oneCell' = true
theorem Ones.nil : Ones [] := fun v h => by cases h
theorem Ones.cons {v : Value} {l : List Value} (h : v.oneCell' = true) (t : Ones l) : Ones (v :: l) := fun u hu => by
  rcases List.mem_cons.1 hu with rfl | hu
  · exact h
  · exact t u hu
theorem range_cell {w : World} {b i : Nat} {l : List Value} {v : Value} (h : w.rangeAt b 0 l) (hi : l[i]? = some v) : w.cell? ⟨b, i, none⟩ = some v := by
  have := h i v hi
  rwa [Nat.zero_add] at this
/-- A store of a whole value. -/
structure St5 (P : Program) (ops : Array Oper) (i : Nat) (d t : Tmp) (n : Nat) : Prop where
  op : ∃ o ty, ops[i]? = some o ∧ o.dst = none ∧ (∀ t, Region.wanted o t = true) ∧ o.op = .store ty (.tmp d) (.tmp t) ∧ (P.info? ty).map (·.size) = some n
theorem St5.step {P : Program} {ops : Array Oper} {i : Nat} {d t : Tmp} {n : Nat} {Q : Exit → Act → World → Prop} (h : St5 P ops i d t n) {K : Act → World → Prop} {a : Act} {w : World} {b : Nat} {l : List Value}
    (hx : a.eval (.tmp d) = .pointer (some ⟨b, 0, none⟩)) (hy : a.eval (.tmp t) = .agg l.toArray) (hn : l.length = n) (ht : w.there b 0 n) (h1 : ∀ v ∈ l, v.oneCell' = true)
    (k : K a (w.setCells b 0 l)) : wpOp P ops Q i K a w := by
  obtain ⟨o, ty, e1, e2, e3, e4, e5⟩ := h.op
  subst hn
  unfold wpOp
  simp only [e1, e3, if_true]
  refine .inl ?_
  refine wp_store_mid ty _ _ e4 b 0 l.toArray hx hy (by simpa using ht) (by simpa using e5) (all_oneCell_toArray h1) ?_
  rw [e2]
  exact k

/-- What lies below is as it was, and draws were made. -/
structure Bd (N : Nat) (w w' : World) : Prop where
  below : Below N w w'
  drawn : w.drawn ≤ w'.drawn
theorem Bd.refl (N : Nat) (w : World) : Bd N w w := ⟨Below.refl _ _, Nat.le_refl _⟩
theorem Bd.size {N : Nat} {w w' : World} (h : Bd N w w') : w.heap.size ≤ w'.heap.size := h.below.size
theorem Bd.drew {N : Nat} {w w' : World} (h : Bd N w w') : Bd N w w'.drew := ⟨h.below.drew, Nat.le_succ_of_le h.drawn⟩
theorem Bd.alloc {N : Nat} {w w' : World} (h : Bd N w w') (hN : N ≤ w'.heap.size) (o : Obj) : Bd N w (w'.alloc o) := ⟨h.below.alloc hN o, h.drawn⟩
theorem Bd.gr {w w' : World} (h : Bd w.heap.size w w') : Gr w w' := by
  refine ⟨w'.drawn - w.drawn, w'.heap.extract w.heap.size w'.heap.size, ?_⟩
  have e : w.heap ++ w'.heap.extract w.heap.size w'.heap.size = w'.heap := by
    apply Array.ext_getElem?
    intro i
    have hs := h.below.size
    by_cases hi : i < w.heap.size
    · rw [Array.getElem?_append_left hi]
      exact (h.below.block i hi).symm
    · rw [Array.getElem?_append_right (by omega), Array.getElem?_extract]
      rw [show w.heap.size + (i - w.heap.size) = i by omega]
      split
      · rfl
      · exact (Array.getElem?_eq_none (by omega)).symm
  have hd : w.drawn + (w'.drawn - w.drawn) = w'.drawn := by have := h.drawn; omega
  show w' = { heap := w.heap ++ w'.heap.extract w.heap.size w'.heap.size, tape := w.tape, drawn := w.drawn + (w'.drawn - w.drawn), os := w.os, output := w.output }
  rw [e, hd, ← h.below.tape, ← h.below.os, ← h.below.output]
theorem below_setCells {N : Nat} {w w' : World} (h : Below N w w') (b o : Nat) (hb : N ≤ b) : ∀ (l : List Value), Below N w (w'.setCells b o l) := by
  intro l
  induction l generalizing w' o with
  | nil => exact h
  | cons v l ih => exact ih (h.setCell (by exact hb) v) (o + 1)
theorem drawn_setCells : ∀ (l : List Value) (w : World) (b o : Nat), (w.setCells b o l).drawn = w.drawn
  | [], w, b, o => rfl
  | v :: l, w, b, o => drawn_setCells l _ b (o + 1)
theorem bd_setCells {N : Nat} {w w' : World} (h : Bd N w w') (b o : Nat) (hb : N ≤ b) (l : List Value) : Bd N w (w'.setCells b o l) :=
  ⟨below_setCells h.below b o hb l, by rw [drawn_setCells]; exact h.drawn⟩
theorem wpAnyH_one {P : Program} {md : Region.Mode} {ops : Array Oper} {Q : Exit → Act → World → Prop} {S : World → Prop} {i fuel : Nat} {listed : Array Bool} {a : Act} {w : World} (hr : Region.ready md ops listed = [i])
    (h : wpOp P ops Q i (fun a' w' => S w' ∧ wpAnyH P md ops Q S fuel (listed.setIfInBounds i true) a' w') a w) : wpAnyH P md ops Q S (fuel + 1) listed a w :=
  wpAnyH_all hr (by simp) (fun j hj => by rw [List.mem_singleton.1 hj]; exact h)

set_option maxHeartbeats 4000000 in
/-- All of it. -/
theorem five_all {P : Program} {md : Region.Mode} {ops : Array Oper} {Q : Exit → Act → World → Prop} {N : Nat} {wb : World} {Z0 Z1 Z2 Z3 Z4 : Array Value} {T0 T1 T2 T3 T4 : TypeId} {L0 L1 L2 L3 L4 : List Value} (s t : Nat) (a : Act) (hN : N ≤ wb.heap.size)
    (m0 : Mk5 P ops 10 s (.cells Z0 T0)) (m1 : Mk5 P ops 11 (s + 1) (.cells Z1 T1)) (m2 : Mk5 P ops 12 (s + 2) (.cells Z2 T2)) (m3 : Mk5 P ops 13 (s + 3) (.cells Z3 T3)) (m4 : Mk5 P ops 14 (s + 4) (.cells Z4 T4))
    (hr : ∀ t0 t1 t2 t3 t4, (t0 && t1 && t2 && t3 && t4) = false → Region.ready md ops (lst5 t0 t1 t2 t3 t4) = rdy5 t0 t1 t2 t3 t4)
    (s0 : St5 P ops 15 s t Z0.size) (s1 : St5 P ops 16 (s + 1) (t + 2) Z1.size) (s2 : St5 P ops 17 (s + 2) (t + 4) Z2.size) (s3 : St5 P ops 18 (s + 3) (t + 6) Z3.size) (s4 : St5 P ops 19 (s + 4) (t + 8) Z4.size)
    (q0 : Region.ready md ops #[true, true, true, true, true, true, true, true, true, true, true, true, true, true, true, false, false, false, false, false] = [15])
    (q1 : Region.ready md ops #[true, true, true, true, true, true, true, true, true, true, true, true, true, true, true, true, false, false, false, false] = [16])
    (q2 : Region.ready md ops #[true, true, true, true, true, true, true, true, true, true, true, true, true, true, true, true, true, false, false, false] = [17])
    (q3 : Region.ready md ops #[true, true, true, true, true, true, true, true, true, true, true, true, true, true, true, true, true, true, false, false] = [18])
    (q4 : Region.ready md ops #[true, true, true, true, true, true, true, true, true, true, true, true, true, true, true, true, true, true, true, false] = [19])
    (q5 : Region.ready md ops #[true, true, true, true, true, true, true, true, true, true, true, true, true, true, true, true, true, true, true, true] = [])
    (dT : T0 ≠ T1 ∧ T0 ≠ T2 ∧ T0 ≠ T3 ∧ T0 ≠ T4 ∧ T1 ≠ T2 ∧ T1 ≠ T3 ∧ T1 ≠ T4 ∧ T2 ≠ T3 ∧ T2 ≠ T4 ∧ T3 ≠ T4)
    (n0 : L0.length = Z0.size) (n1 : L1.length = Z1.size) (n2 : L2.length = Z2.size) (n3 : L3.length = Z3.size) (n4 : L4.length = Z4.size)
    (o0 : ∀ v ∈ L0, v.oneCell' = true) (o1 : ∀ v ∈ L1, v.oneCell' = true) (o2 : ∀ v ∈ L2, v.oneCell' = true) (o3 : ∀ v ∈ L3, v.oneCell' = true) (o4 : ∀ v ∈ L4, v.oneCell' = true)
    (hx : ∀ u0 u1 u2 u3 u4, (act5 s a u0 u1 u2 u3 u4).eval (.tmp s) = u0 ∧ (act5 s a u0 u1 u2 u3 u4).eval (.tmp (s + 1)) = u1 ∧ (act5 s a u0 u1 u2 u3 u4).eval (.tmp (s + 2)) = u2 ∧ (act5 s a u0 u1 u2 u3 u4).eval (.tmp (s + 3)) = u3 ∧ (act5 s a u0 u1 u2 u3 u4).eval (.tmp (s + 4)) = u4)
    (hy : ∀ u0 u1 u2 u3 u4, (act5 s a u0 u1 u2 u3 u4).eval (.tmp t) = .agg L0.toArray ∧ (act5 s a u0 u1 u2 u3 u4).eval (.tmp (t + 2)) = .agg L1.toArray ∧ (act5 s a u0 u1 u2 u3 u4).eval (.tmp (t + 4)) = .agg L2.toArray ∧ (act5 s a u0 u1 u2 u3 u4).eval (.tmp (t + 6)) = .agg L3.toArray ∧ (act5 s a u0 u1 u2 u3 u4).eval (.tmp (t + 8)) = .agg L4.toArray)
    (fin : ∀ b0 b1 b2 b3 b4 w, Bd N wb w → N ≤ b0 → N ≤ b1 → N ≤ b2 → N ≤ b3 → N ≤ b4 → w.rangeAt b0 0 L0 → w.rangeAt b1 0 L1 → w.rangeAt b2 0 L2 → w.rangeAt b3 0 L3 → w.rangeAt b4 0 L4 →
      Q .normal (act5 s a (.pointer (some ⟨b0, 0, none⟩)) (.pointer (some ⟨b1, 0, none⟩)) (.pointer (some ⟨b2, 0, none⟩)) (.pointer (some ⟨b3, 0, none⟩)) (.pointer (some ⟨b4, 0, none⟩))) w)
    (ha : act5 s a undef undef undef undef undef = a) {w : World} (hw : Bd N wb w) :
    wpAnyH P md ops Q (fun w' => Bd N wb w') 10 (lst5 false false false false false) a w := by
  rw [← ha]
  refine five (n := 5) (N := N) s a m0 m1 m2 m3 m4 hr (fun w h => Nat.le_trans hN h.size) (fun w o h => h.alloc (Nat.le_trans hN h.size) o) ?_ 5 false false false false false undef undef undef undef undef w rfl hw (fun h => by cases h) (fun h => by cases h) (fun h => by cases h) (fun h => by cases h) (fun h => by cases h)
  clear hw ha w
  intro b0 b1 b2 b3 b4 w hw p0 p1 p2 p3 p4 g0 g1 g2 g3 g4
  obtain ⟨d01, d02, d03, d04, d12, d13, d14, d23, d24, d34⟩ := dT
  have e01 : b0 ≠ b1 := by rintro rfl; rw [g0] at g1; simp [d01] at g1
  have e02 : b0 ≠ b2 := by rintro rfl; rw [g0] at g2; simp [d02] at g2
  have e03 : b0 ≠ b3 := by rintro rfl; rw [g0] at g3; simp [d03] at g3
  have e04 : b0 ≠ b4 := by rintro rfl; rw [g0] at g4; simp [d04] at g4
  have e12 : b1 ≠ b2 := by rintro rfl; rw [g1] at g2; simp [d12] at g2
  have e13 : b1 ≠ b3 := by rintro rfl; rw [g1] at g3; simp [d13] at g3
  have e14 : b1 ≠ b4 := by rintro rfl; rw [g1] at g4; simp [d14] at g4
  have e23 : b2 ≠ b3 := by rintro rfl; rw [g2] at g3; simp [d23] at g3
  have e24 : b2 ≠ b4 := by rintro rfl; rw [g2] at g4; simp [d24] at g4
  have e34 : b3 ≠ b4 := by rintro rfl; rw [g3] at g4; simp [d34] at g4
  have t0 := there_block g0
  have t1 := there_block g1
  have t2 := there_block g2
  have t3 := there_block g3
  have t4 := there_block g4
  clear g0 g1 g2 g3 g4
  generalize hA : act5 s a (.pointer (some ⟨b0, 0, none⟩)) (.pointer (some ⟨b1, 0, none⟩)) (.pointer (some ⟨b2, 0, none⟩)) (.pointer (some ⟨b3, 0, none⟩)) (.pointer (some ⟨b4, 0, none⟩)) = A at *
  obtain ⟨x0, x1, x2, x3, x4⟩ := hA ▸ hx (.pointer (some ⟨b0, 0, none⟩)) (.pointer (some ⟨b1, 0, none⟩)) (.pointer (some ⟨b2, 0, none⟩)) (.pointer (some ⟨b3, 0, none⟩)) (.pointer (some ⟨b4, 0, none⟩))
  obtain ⟨y0, y1, y2, y3, y4⟩ := hA ▸ hy (.pointer (some ⟨b0, 0, none⟩)) (.pointer (some ⟨b1, 0, none⟩)) (.pointer (some ⟨b2, 0, none⟩)) (.pointer (some ⟨b3, 0, none⟩)) (.pointer (some ⟨b4, 0, none⟩))
  have k0 := bd_setCells hw b0 0 p0 L0
  have k1 := bd_setCells k0 b1 0 p1 L1
  have k2 := bd_setCells k1 b2 0 p2 L2
  have k3 := bd_setCells k2 b3 0 p3 L3
  have k4 := bd_setCells k3 b4 0 p4 L4
  have r0 := World.rangeAt_setCells_same w b0 0 L0 (by rw [n0]; exact t0)
  refine wpAnyH_one q0 (s0.step x0 y0 n0 t0 o0 ⟨k0, ?_⟩)
  have t1 := World.there_setCells t1 b0 0 L0
  have r1 := World.rangeAt_setCells_same (w.setCells b0 0 L0) b1 0 L1 (by rw [n1]; exact t1)
  have r0 := World.rangeAt_setCells_apart r0 b1 0 L1 (.inl e01)
  refine wpAnyH_one q1 (s1.step x1 y1 n1 t1 o1 ⟨k1, ?_⟩)
  have t2 := World.there_setCells (World.there_setCells t2 b0 0 L0) b1 0 L1
  have r2 := World.rangeAt_setCells_same ((w.setCells b0 0 L0).setCells b1 0 L1) b2 0 L2 (by rw [n2]; exact t2)
  have r0 := World.rangeAt_setCells_apart r0 b2 0 L2 (.inl e02)
  have r1 := World.rangeAt_setCells_apart r1 b2 0 L2 (.inl e12)
  refine wpAnyH_one q2 (s2.step x2 y2 n2 t2 o2 ⟨k2, ?_⟩)
  have t3 := World.there_setCells (World.there_setCells (World.there_setCells t3 b0 0 L0) b1 0 L1) b2 0 L2
  have r3 := World.rangeAt_setCells_same (((w.setCells b0 0 L0).setCells b1 0 L1).setCells b2 0 L2) b3 0 L3 (by rw [n3]; exact t3)
  have r0 := World.rangeAt_setCells_apart r0 b3 0 L3 (.inl e03)
  have r1 := World.rangeAt_setCells_apart r1 b3 0 L3 (.inl e13)
  have r2 := World.rangeAt_setCells_apart r2 b3 0 L3 (.inl e23)
  refine wpAnyH_one q3 (s3.step x3 y3 n3 t3 o3 ⟨k3, ?_⟩)
  have t4 := World.there_setCells (World.there_setCells (World.there_setCells (World.there_setCells t4 b0 0 L0) b1 0 L1) b2 0 L2) b3 0 L3
  have r4 := World.rangeAt_setCells_same ((((w.setCells b0 0 L0).setCells b1 0 L1).setCells b2 0 L2).setCells b3 0 L3) b4 0 L4 (by rw [n4]; exact t4)
  have r0 := World.rangeAt_setCells_apart r0 b4 0 L4 (.inl e04)
  have r1 := World.rangeAt_setCells_apart r1 b4 0 L4 (.inl e14)
  have r2 := World.rangeAt_setCells_apart r2 b4 0 L4 (.inl e24)
  have r3 := World.rangeAt_setCells_apart r3 b4 0 L4 (.inl e34)
  refine wpAnyH_one q4 (s4.step x4 y4 n4 t4 o4 ⟨k4, ?_⟩)
  refine wpAnyH_done q5 ?_ _
  rw [← hA]
  exact fin b0 b1 b2 b3 b4 _ k4 p0 p1 p2 p3 p4 r0 r1 r2 r3 r4
end Go.Proofs.Ytfmllfolpcimpaa
