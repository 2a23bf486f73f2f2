/- How names stand; the objects of a kind, rising by names. -/
import Derived.Test.YtbkoepghmcdnhaaGreatDoorStA
import Derived.Lib.Bytealg
import Derived.Sort.Statements
import Derived.Orders
import Derived.OrdersIn
import Derived.OrdersHeld
import Derived.TacticsIn
import Derived.RangeFuncCalls
import Derived.Deep.Quiet
import Derived.Deep.RegionHeld
import Derived.Shelf.SlSortCmp.QuietGrown
import Derived.RangeFuncNested
import Derived.RangeFuncBound
import Derived.RangeFuncLeaves
import Derived.RangeFuncBox
import Derived.WalkKit
import Derived.OwnWalkIn
import Derived.TacticsInMore
import Derived.LoopNIn
import Derived.LoopIn
import Derived.Ground.SlsfProg
import Derived.Shelf.SlLaysF0
import Derived.Shelf.SlSortCmp.WholeK
import Derived.Test.YtbkoepghmcdnhaaGreatDoorProg
import Derived.Test.YtbkoepghmcdnhaaGreatDoorPk3
import Derived.Maps.RangeWalk
import Derived.Deep.AppendLies
import Derived.Sort.CutIn
import Derived.Laws.StructEq
import Derived.Laws.OwnMore
import Derived.Test.YtbkoepghmcdnhaaGreatDoorPk2
namespace Go.Proofs.YtbkoepghmcdnhaaGreatDoor
open Go.Lib Go.Sort
set_option linter.unusedVariables false
set_option linter.unusedSimpArgs false

theorem cb_swap : ∀ a b : List UInt8, compareBytes b a = - compareBytes a b
  | [], [] => rfl
  | [], _ :: _ => rfl
  | _ :: _, [] => rfl
  | a :: r, b :: bs => by
    simp only [compareBytes, UInt8.lt_iff_toNat_lt]
    by_cases x : a.toNat < b.toNat
    · have y : ¬ b.toNat < a.toNat := by omega
      simp [x, y]
    · by_cases y : b.toNat < a.toNat
      · simp [x, y]
      · simp only [x, y, if_false]
        exact cb_swap r bs
theorem cb_zero : ∀ {a b : List UInt8}, compareBytes a b = 0 → a = b
  | [], [], _ => rfl
  | [], _ :: _, h => by simp [compareBytes] at h
  | _ :: _, [], h => by simp [compareBytes] at h
  | a :: r, b :: bs, h => by
    simp only [compareBytes, UInt8.lt_iff_toNat_lt] at h
    by_cases x : a.toNat < b.toNat
    · simp [x] at h
    · by_cases y : b.toNat < a.toNat
      · simp [x, y] at h
      · simp only [x, y, if_false] at h
        have e : a = b := UInt8.toNat_inj.1 (by omega)
        rw [e, cb_zero h]
theorem cb_self (a : List UInt8) : compareBytes a a = 0 := by have := cb_swap a a; omega
theorem cb_trans : ∀ {a b c : List UInt8}, compareBytes a b < 0 → compareBytes b c < 0 → compareBytes a c < 0
  | [], [], _, h, _ => by simp [compareBytes] at h
  | [], _ :: _, [], _, h => by simp [compareBytes] at h
  | [], _ :: _, _ :: _, _, _ => by simp [compareBytes]
  | _ :: _, [], _, h, _ => by simp [compareBytes] at h
  | _ :: _, _ :: _, [], _, h => by simp [compareBytes] at h
  | a :: r, b :: bs, c :: cs, h, k => by
    simp only [compareBytes, UInt8.lt_iff_toNat_lt] at h k ⊢
    by_cases x1 : a.toNat < b.toNat
    · by_cases y1 : b.toNat < c.toNat
      · simp [show a.toNat < c.toNat by omega]
      · by_cases y2 : c.toNat < b.toNat
        · simp [y1, y2] at k
        · simp [show a.toNat < c.toNat by omega]
    · by_cases x2 : b.toNat < a.toNat
      · simp [x1, x2] at h
      · simp only [x1, x2, if_false] at h
        by_cases y1 : b.toNat < c.toNat
        · simp [show a.toNat < c.toNat by omega]
        · by_cases y2 : c.toNat < b.toNat
          · simp [y1, y2] at k
          · simp only [y1, y2, if_false] at k
            simp only [show ¬ a.toNat < c.toNat by omega, show ¬ c.toNat < a.toNat by omega, if_false]
            exact cb_trans h k
theorem cb_less : ∀ a b : List UInt8, Op.bytesLess a b = decide (compareBytes a b < 0)
  | [], [] => rfl
  | [], _ :: _ => rfl
  | _ :: _, [] => rfl
  | a :: r, b :: bs => by
    simp only [Op.bytesLess, compareBytes]
    rw [cb_less r bs]
    simp only [UInt8.lt_iff_toNat_lt]
    by_cases x : a.toNat < b.toNat
    · simp [x]
    · by_cases y : b.toNat < a.toNat
      · have hn : (a == b) = false := beq_false_of_ne (fun e => by rw [e] at y; omega)
        simp [x, y, hn]
      · have e : a = b := UInt8.toNat_inj.1 (by omega)
        simp [e]
theorem cb_leq (a b : List UInt8) : (Op.bytesLess a b || a == b) = decide (compareBytes a b ≤ 0) := by
  rw [cb_less]
  by_cases h : compareBytes a b < 0
  · have h2 : compareBytes a b ≤ 0 := by omega
    simp [h, h2]
  · by_cases e : compareBytes a b = 0
    · have := cb_zero e
      subst this
      simp [cb_self]
    · have hn : (a == b) = false := beq_false_of_ne (fun h => e (by rw [h]; exact cb_self b))
      have h2 : ¬ compareBytes a b ≤ 0 := by omega
      simp [h, h2, hn]

/-- Is the one's name ahead of the other's? -/
def rises (a b : Ob) : Bool := decide (compareBytes (by_ a.name) (by_ b.name) < 0)
theorem rises_iff {a b : Ob} : rises a b = true ↔ compareBytes (by_ a.name) (by_ b.name) < 0 := by unfold rises; exact decide_eq_true_iff
theorem rises_not {a b : Ob} : rises a b = false ↔ 0 ≤ compareBytes (by_ a.name) (by_ b.name) := by
  unfold rises
  rw [decide_eq_false_iff_not]
  omega
theorem rises_trans {a b c : Ob} (h : rises a b = true) (k : rises b c = true) : rises a c = true := rises_iff.2 (cb_trans (rises_iff.1 h) (rises_iff.1 k))
theorem cb_ntrans {a b c : List UInt8} (h : 0 ≤ compareBytes a b) (k : 0 ≤ compareBytes b c) : 0 ≤ compareBytes a c := by
  rcases Int.lt_or_le (compareBytes a c) 0 with x | x
  · rcases Int.lt_or_eq_of_le h with h1 | h1
    · have hb : compareBytes b a < 0 := by have := cb_swap a b; omega
      have := cb_trans hb x
      omega
    · have := cb_zero h1.symm
      subst this
      omega
  · exact x
theorem rises_ntrans {a b c : Ob} (h : rises a b = false) (k : rises b c = false) : rises a c = false := rises_not.2 (cb_ntrans (rises_not.1 h) (rises_not.1 k))
theorem rises_irr (a : Ob) : rises a a = false := rises_not.2 (by rw [cb_self]; exact Int.le_refl _)

/-- The objects of a kind, rising by names. -/
def listed (k : Int) (l : List Ob) : List Ob := (l.filter (fun o => decide (o.kind = k))).mergeSort (fun a b => !rises b a)
theorem listed_perm (k : Int) (l : List Ob) : (listed k l).Perm (l.filter (fun o => decide (o.kind = k))) := List.mergeSort_perm _ _
theorem listed_mem {k : Int} {l : List Ob} {o : Ob} : o ∈ listed k l ↔ o ∈ l ∧ o.kind = k := by
  rw [(listed_perm k l).mem_iff, List.mem_filter, decide_eq_true_eq]
theorem key_same {l : List Ob} (hp : l.Pairwise (fun a b => Key a ≠ Key b)) {a b : Ob} (ha : a ∈ l) (hb : b ∈ l) (h : Key a = Key b) : a = b := by
  obtain ⟨i, hi⟩ := List.getElem?_of_mem ha
  obtain ⟨j, hj⟩ := List.getElem?_of_mem hb
  by_cases e : i = j
  · subst e
    rw [hi] at hj
    exact Option.some.inj hj
  · exact absurd h (apart_other hp hi hj e)
theorem rises_same {l : List Ob} (hp : l.Pairwise (fun a b => Key a ≠ Key b)) {k : Int} {a b : Ob} (ha : a ∈ l ∧ a.kind = k) (hb : b ∈ l ∧ b.kind = k) (h1 : rises a b = false) (h2 : rises b a = false) : a = b := by
  refine key_same hp ha.1 hb.1 ?_
  have h3 := rises_not.1 h1
  have h4 := rises_not.1 h2
  have h5 := cb_swap (by_ a.name) (by_ b.name)
  have := cb_zero (show compareBytes (by_ a.name) (by_ b.name) = 0 by omega)
  unfold Key
  rw [this, ha.2, hb.2]
/-- .. and there is no other such row. -/
theorem listed_eq {l : List Ob} (hp : l.Pairwise (fun a b => Key a ≠ Key b)) {k : Int} {s : List Ob} (h : s.Perm (l.filter (fun o => decide (o.kind = k)))) (hs : s.Pairwise (fun a b => rises b a = false)) : s = listed k l := by
  have hm : ∀ x, x ∈ s → x ∈ l ∧ x.kind = k := fun x hx => by
    have := (h.mem_iff).1 hx
    rw [List.mem_filter, decide_eq_true_eq] at this
    exact this
  have hl : (listed k l).Pairwise (fun a b => rises b a = false) := by
    have := List.pairwise_mergeSort (le := fun a b => !rises b a) (fun a b c h1 h2 => by
      simp only [Bool.not_eq_true'] at h1 h2 ⊢
      exact rises_ntrans h2 h1) (fun a b => by
      cases h1 : rises b a with
      | false => rfl
      | true =>
        have : rises a b = false := rises_not.2 (by have := rises_iff.1 h1; have := cb_swap (by_ b.name) (by_ a.name); omega)
        rw [this]; rfl) (l.filter (fun o => decide (o.kind = k)))
    exact this.imp (fun h => by simpa using h)
  refine List.Perm.eq_of_pairwise (le := fun a b => rises b a = false) (fun a b ha hb h1 h2 => ?_) hs hl (h.trans (listed_perm k l).symm)
  exact (rises_same hp (hm a ha) (listed_mem.1 hb) h2 h1)
theorem listed_up {l : List Ob} (hp : l.Pairwise (fun a b => Key a ≠ Key b)) (k : Int) : (listed k l).Pairwise (fun a b => rises a b = true) := by
  have hl : (listed k l).Pairwise (fun a b => rises b a = false) := by
    have := List.pairwise_mergeSort (le := fun a b => !rises b a) (fun a b c h1 h2 => by
      simp only [Bool.not_eq_true'] at h1 h2 ⊢
      exact rises_ntrans h2 h1) (fun a b => by
      cases h1 : rises b a with
      | false => rfl
      | true =>
        have : rises a b = false := rises_not.2 (by have := rises_iff.1 h1; have := cb_swap (by_ b.name) (by_ a.name); omega)
        rw [this]; rfl) (l.filter (fun o => decide (o.kind = k)))
    exact this.imp (fun h => by simpa using h)
  have hd : (listed k l).Pairwise (fun a b => Key a ≠ Key b) := (List.Perm.pairwise_iff (fun h e => h e.symm) (listed_perm k l)).2 (hp.filter _)
  refine (List.pairwise_iff_forall_sublist.2 fun {a b} hs => ?_)
  have h1 := List.pairwise_iff_forall_sublist.1 hl hs
  have h2 := List.pairwise_iff_forall_sublist.1 hd hs
  have ha := (hs.subset (List.mem_cons_self (a := a) (l := [b])))
  have hb := (hs.subset (List.mem_cons_of_mem a (List.mem_singleton_self b)))
  cases h3 : rises a b with
  | true => rfl
  | false => exact absurd (by rw [rises_same hp (listed_mem.1 ha) (listed_mem.1 hb) h3 h1]) h2
/-- What has come of a row's objects while its names are gone through. -/
theorem came_by {p : Ob → Bool} {left left' : Lit → Bool} {k' : Int} {nm : ByteArray} (hl : left (kl k' nm) = true) : ∀ (l : List Ob), l.Pairwise (fun a b => Key a ≠ Key b) → (∀ o ∈ l, left' (kl o.kind o.name) = (left (kl o.kind o.name) && !(hit k' nm o))) → ∀ o, o ∈ l → hit k' nm o = true →
    (l.filter (fun o => p o && !left' (kl o.kind o.name))).Perm ((l.filter (fun o => p o && !left (kl o.kind o.name))) ++ (if p o = true then [o] else []))
  | [], _, _, o, ho, _ => by cases ho
  | x :: l, hp, h, o, ho, hh => by
    have hp2 := List.pairwise_cons.1 hp
    have hx := h x List.mem_cons_self
    have same : ∀ y ∈ l, hit k' nm y = false → left' (kl y.kind y.name) = left (kl y.kind y.name) := fun y hy e => by rw [h y (List.mem_cons_of_mem _ hy), e]; simp
    rcases List.mem_cons.1 ho with rfl | ho
    · obtain ⟨e1, e2⟩ := hit_iff.1 hh
      have hno : ∀ y ∈ l, hit k' nm y = false := fun y hy => by
        cases e : hit k' nm y with
        | false => rfl
        | true =>
          obtain ⟨b1, b2⟩ := hit_iff.1 e
          exact absurd (by unfold Key; rw [e1, e2, b1, b2]) (hp2.1 y hy)
      have hll : l.filter (fun o => p o && !left' (kl o.kind o.name)) = l.filter (fun o => p o && !left (kl o.kind o.name)) :=
        List.filter_congr (fun y hy => by rw [same y hy (hno y hy)])
      have hlx : left (kl o.kind o.name) = true := by rw [e1, e2]; exact hl
      rw [hlx, hh] at hx
      rw [List.filter_cons, List.filter_cons, hll, hx, hlx]
      cases e : p o with
      | true =>
        simp only [Bool.not_true, Bool.and_false, Bool.not_false, Bool.and_self, if_true]
        simp only [Bool.false_eq_true, if_false]
        exact (List.perm_append_comm (l₁ := [o]))
      | false => simp
    · have hpx : hit k' nm x = false := by
        cases e : hit k' nm x with
        | false => rfl
        | true =>
          obtain ⟨b1, b2⟩ := hit_iff.1 e
          obtain ⟨e1, e2⟩ := hit_iff.1 hh
          exact absurd (by unfold Key; rw [e1, e2, b1, b2]) (hp2.1 o ho)
      have ih := came_by (p := p) hl l hp2.2 (fun y hy => h y (List.mem_cons_of_mem _ hy)) o ho hh
      rw [hpx] at hx
      simp only [Bool.not_false, Bool.and_true] at hx
      rw [List.filter_cons, List.filter_cons, hx]
      split
      · exact ih.cons x
      · exact ih
theorem came_step {left left' : Lit → Bool} {k : Int} {k' : Int} {nm : ByteArray} (hl : left (kl k' nm) = true) (l : List Ob) (hp : l.Pairwise (fun a b => Key a ≠ Key b)) (h : ∀ o ∈ l, left' (kl o.kind o.name) = (left (kl o.kind o.name) && !(hit k' nm o))) (o : Ob) (ho : o ∈ l) (hh : hit k' nm o = true) :
    (l.filter (fun o => decide (o.kind = k) && !left' (kl o.kind o.name))).Perm ((l.filter (fun o => decide (o.kind = k) && !left (kl o.kind o.name))) ++ (if k' = k then [o] else [])) := by
  have := came_by (p := fun o => decide (o.kind = k)) hl l hp h o ho hh
  rw [(hit_iff.1 hh).1] at this
  simpa using this
end Go.Proofs.YtbkoepghmcdnhaaGreatDoor
/- What is a key is a kind and a name. -/
namespace Go.Proofs.YtbkoepghmcdnhaaGreatDoor
open Go.RowKit Go.Shelf Go.Lib Go.Sort
set_option linter.unusedVariables false
set_option linter.unusedSimpArgs false
set_option maxRecDepth 20000
theorem key_inv {x : Value} {z : Lit} (h : keyOf Tryz.prog KT x = some z) : ∃ k nm, I64 k ∧ nm.size ≤ maxLen ∧ x = thing k nm ∧ z = kl k nm := by
  obtain ⟨fs, hfs⟩ : ∃ fs, Tryz.prog.underlying KT = some (.struct fs) := ⟨_, Tryz.underlying83⟩
  unfold keyOf at h
  rw [hfs] at h
  simp only at h
  split at h
  · rename_i hc
    rw [Bool.and_eq_true] at hc
    have hf := hc.2
    obtain ⟨m, hm⟩ : ∃ m, Tryz.prog.types.size = m + 1 := ⟨Tryz.prog.types.size - 1, by have : 0 < Tryz.prog.types.size := of_decide_eq_true (by kernel_rfl); omega⟩
    have c0 : Tryz.prog.cellsOf KT = 2 := by kernel_rfl
    have c1 : Tryz.prog.cellsOf 3 = 1 := by kernel_rfl
    have c2 : Tryz.prog.cellsOf 9 = 1 := by kernel_rfl
    cases x with
    | agg cs =>
      have hs : cs.size = 2 := by
        simp only [Value.formed, hfs, c0, beq_iff_eq] at hf
        exact hf
      obtain ⟨a, b, rfl⟩ : ∃ a b, cs = #[a, b] := by
        obtain ⟨l⟩ := cs
        match l, hs with
        | [a, b], _ => exact ⟨a, b, rfl⟩
      rw [hm] at h
      have hcells : (Value.agg #[a, b]).cells.toList = [a, b] := rfl
      rw [hcells] at h
      cases a with
      | int q n =>
        cases b with
        | string s =>
          simp [Program.keyLits, Tryz.underlying83, Tryz.underlying3, Tryz.underlying9, c0, c1, c2] at h
          by_cases h1 : IntKind.i64 = q ∧ (Lit.int .i64 n).wf = true
          · by_cases h2 : s.size ≤ maxLen
            · obtain ⟨rfl, hw⟩ := h1
              simp [hw, h2] at h
              exact ⟨n, s, wf_i64 hw, h2, rfl, h.symm⟩
            · obtain ⟨rfl, hw⟩ := h1
              simp [hw, h2] at h
          · simp only [eq_comm (a := q)] at h
            simp [h1] at h
        | _ => simp [Program.keyLits, Tryz.underlying83, Tryz.underlying3, Tryz.underlying9, c0, c1, c2] at h
      | _ => simp [Program.keyLits, Tryz.underlying83, Tryz.underlying3, Tryz.underlying9, c0, c1, c2] at h
    | _ => simp [Value.formed, hfs] at hf
  · cases h
end Go.Proofs.YtbkoepghmcdnhaaGreatDoor
/- A round of a range over a function is walked as everything is: what a region does outside a round it does in one, unless it defers. -/
namespace Go.Proofs.YtbkoepghmcdnhaaGreatDoor
open Go Go.Shelf Go.RowKit Go.Sort
set_option linter.unusedVariables false

def calm (o : Oper) : Bool := match o.op with | .defer _ => false | _ => true
theorem calm_ne {o : Oper} (h : calm o = true) : ∀ c, o.op ≠ .defer c := fun c e => by
  unfold calm at h
  rw [e] at h
  cases h
theorem rowsIn_wide' {n : Nat} {P : Program} {row : String} {args : Array Value} {w : World} {R : Value → World → Prop} (l : Nat) (h : Rows P row args w R) : RowsIn (Fence.wide.inRound l) n P row args w R :=
  fun c cs _ => by
    obtain ⟨v, w', r, s⟩ := h c cs
    exact ⟨v, w', r, stepsIn_wide.2 s⟩
theorem op_round {l n : Nat} {P : Program} {o : Oper} {a : Act} {w : World} {next : Act → World → Prop} {Q : Exit → Act → World → Prop} (hd : calm o = true) (h : o.wp P a w next Q) : o.wpIn (Fence.wide.inRound l) n P a w next Q := by
  refine ⟨fun f _ => trivial, ?_⟩
  rw [show (Fence.wide.inRound l).round = some l from rfl, Oper.semAt_some l _ _ (calm_ne hd)]
  unfold Oper.wp at h
  generalize (execOp a.eval o).run P w = r at h ⊢
  cases r with
  | ok x w' =>
    cases x <;> simp only [Oper.upon, Oper.uponIn] at h ⊢ <;>
      first
        | exact h
        | exact ⟨fun e => (nomatch e), CallsIn.inRound l (callsIn_wide.2 h)⟩
        | exact ⟨fun e => (nomatch e), rowsIn_wide' l h⟩
  | halt x w' => cases x <;> simp only [Oper.upon, Oper.uponIn] at h ⊢ <;> exact h
theorem list_round {l n : Nat} {P : Program} {ops : Array Oper} {Q : Exit → Act → World → Prop} (hq : ¬ LetsOut Q) : ∀ (os : List Oper) (a : Act) (w : World), os.all calm = true → wpList P ops Q os a w → wpListIn (Fence.wide.inRound l) n P ops Q os a w
  | [], _, _, _, h => h
  | o :: os, a, w, hc, h => by
    rw [List.all_cons, Bool.and_eq_true] at hc
    unfold wpList at h
    unfold wpListIn
    split at h
    · rename_i hw
      rw [if_pos hw]
      rcases h with h | h
      · exact op_round hc.1 (Oper.wp_mono (fun a w => list_round hq os a w hc.2) h)
      · exact absurd h.2 hq
    · rename_i hw
      rw [if_neg hw]
      exact ⟨fun f _ => trivial, list_round hq os _ w hc.2 h⟩
theorem any_round {l n : Nat} {P : Program} {md : Region.Mode} {ops : Array Oper} {Q : Exit → Act → World → Prop} (hq : ¬ LetsOut Q) (hc : ops.toList.all calm = true) : ∀ (fuel : Nat) (listed : Array Bool) (a : Act) (w : World), wpAny P md ops Q fuel listed a w → wpAnyIn (Fence.wide.inRound l) n P md ops Q fuel listed a w
  | 0, _, _, _, h => h
  | fuel + 1, _, a, w, h => ⟨h.1, fun i hi => by
    have h1 := h.2 i hi
    unfold wpOp at h1
    unfold wpOpIn
    cases ho : ops[i]? with
    | none =>
      rw [ho] at h1
      exact any_round hq hc fuel _ a w h1
    | some o =>
      rw [ho] at h1
      have hco : calm o = true := List.all_eq_true.1 hc o (List.mem_of_getElem? (by rw [Array.getElem?_toList]; exact ho))
      simp only at h1 ⊢
      split at h1
      · rename_i hw
        rw [if_pos hw]
        rcases h1 with h1 | h1
        · exact op_round hco (Oper.wp_mono (fun a w => any_round hq hc fuel _ a w) h1)
        · exact absurd h1.2 hq
      · rename_i hw
        rw [if_neg hw]
        exact ⟨fun f _ => trivial, any_round hq hc fuel _ _ w h1⟩⟩
/-- What a region does, whatever follows. -/
def Ends (Q K : Exit → Act → World → Prop) : Prop := (∀ a w, Q .normal a w → K .normal a w) ∧ ¬ LetsOut K
theorem region_round {l n : Nat} {P : Program} {id : Nat} {os : List Oper} {Q : Exit → Act → World → Prop} {a : Act} {w : World} (hc : os.all calm = true) (hq : ¬ LetsOut Q)
    (h : wpList P os.toArray Q os a w) : (Code.region id os.toArray false).wpIn (Fence.wide.inRound l) n P Q a w := wpIn_region_lit (list_round hq os a w hc h)
theorem region_round_any {l n : Nat} {P : Program} {id : Nat} {os : List Oper} {Q : Exit → Act → World → Prop} {a : Act} {w : World} (hm : P.follows .mixedOrders = true) (hc : os.all calm = true) (hq : ¬ LetsOut Q)
    (h : wpAny P .any os.toArray Q os.toArray.size (Array.replicate os.toArray.size false) a { w with drawn := w.drawn + 1 }) : (Code.region id os.toArray true).wpIn (Fence.wide.inRound l) n P Q a w :=
  wpIn_region_any hm (any_round hq (by simpa using hc) _ _ _ _ h)
theorem region_round_quiet {l n : Nat} {P : Program} {id : Nat} {os : List Oper} {C : World → Prop} {Q : Exit → Act → World → Prop} {a : Act} {w : World} (hm : P.follows .mixedOrders = true) (hc : os.all calm = true) (hq : ¬ LetsOut Q) (hB : Region.lexB .any os.toArray = true) (hC : C { w with drawn := w.drawn + 1 })
    (h : wpQuiet P os.toArray C (fun a' => ∀ w', C w' → Q .normal a' w') os a) : (Code.region id os.toArray true).wpIn (Fence.wide.inRound l) n P Q a w := by
  simp only [Region.lexB, Bool.and_eq_true] at hB
  refine region_round_any hm hc hq (wpAny_of_quiet (Q := fun a' => ∀ w', C w' → Q .normal a' w') (fun _ w' hw' h => h w' hw') _ _ _ _ hC ?_)
  have := wpAnyQ_lex (C := C) (md := .any) hB.1 os.toArray.toList 0 (Array.replicate os.toArray.size false) a (by simp) (by simpa using hB.2) h
  simpa using this
theorem region_round_grown {l n : Nat} {P : Program} {id : Nat} {os : List Oper} {Q : Exit → Act → World → Prop} {a : Act} {w : World} (hm : P.follows .mixedOrders = true) (hc : os.all calm = true) (hq : ¬ LetsOut Q) (hB : Region.lexB .any os.toArray = true)
    (h : wpQuiet P os.toArray (fun w' => ∃ p : GrownBy, w' = grow (w.drewN p.n) p.os) (fun a' => ∀ w', (∃ p : GrownBy, w' = grow (w.drewN p.n) p.os) → Q .normal a' w') os a) : (Code.region id os.toArray true).wpIn (Fence.wide.inRound l) n P Q a w :=
  region_round_quiet (C := fun w' => ∃ p : GrownBy, w' = grow (w.drewN p.n) p.os) hm hc hq hB ⟨⟨1, #[]⟩, by rw [grow_empty]; rfl⟩ h
theorem region_round_held {l n : Nat} {P : Program} {id : Nat} {os : List Oper} {S : World → Prop} {Q : Exit → Act → World → Prop} {a : Act} {w : World} (hm : P.follows .mixedOrders = true) (hc : os.all calm = true) (hq : ¬ LetsOut Q) (hS : S w.drew)
    (h : S w.drew → wpAnyH P .any os.toArray Q S os.toArray.size (Array.replicate os.toArray.size false) a w.drew) : (Code.region id os.toArray true).wpIn (Fence.wide.inRound l) n P Q a w :=
  region_round_any hm hc hq (wpAny_of_held _ _ _ _ (h hS))
/-- A load in a fenced walk, guarded or not, by its run. -/
theorem wpListIn_load_by {n : Nat} {P : Program} {ops : Array Oper} {rest : List Oper} {o : Oper} {a : Act} {w : World} {Q : Exit → Act → World → Prop} (hw : Region.wanted o (yielded ops a.tmps) = true) (ty : TypeId) (x : Operand) (ho : o.op = .load ty x) (p v : Value) (hx : a.eval x = p)
    (hl : (Instr.loadAt ty p).run P w = .ok v w) (h : wpListIn Fence.wide n P ops Q rest (a.put o.dst v) w) : wpListIn Fence.wide n P ops Q (o :: rest) a w := by
  unfold wpListIn
  rw [if_pos hw]
  refine ⟨fun f _ => trivial, ?_⟩
  rw [show Fence.wide.round = none from rfl, Oper.semAt_none]
  unfold execOp
  simp only [ho, hx, Sem.run_bind, hl, Result.andThen_ok, Sem.run_pure]
  exact h
end Go.Proofs.YtbkoepghmcdnhaaGreatDoor
/- A range over a function that hands on values OF WHICH SOMETHING IS KNOWN IN THE WORLD AT HAND (the kit's laws ask the body of every value of a type). -/
namespace Go.Proofs.YtbkoepghmcdnhaaGreatDoor
open Go.RowKit Go.Shelf Go.Lib Go.Sort
set_option linter.unusedVariables false
set_option linter.unusedSimpArgs false
set_option maxRecDepth 20000

/-- An invariant that bears new memory, and the turns of blocks that are no cells, from B on. -/
def Bears {β : Type} (B : Nat) (I : β → World → Prop) : Prop := ∀ s A A' T, I s A → Chg T A A' → (∀ g ∈ T, B ≤ g ∧ ∃ o : Obj, A.heap[g]? = some o ∧ o.isCells = false) → I s A'
theorem Bears.and {β : Type} {B : Nat} {I J : β → World → Prop} (h : Bears B I) (k : Bears B J) : Bears B (fun s W => I s W ∧ J s W) := fun s A A' T hs c hT => ⟨h s A A' T hs.1 c hT, k s A A' T hs.2 c hT⟩
theorem bears_pure {β : Type} {B : Nat} (q : β → Prop) : Bears B (fun s _ => q s) := fun _ _ _ _ h _ _ => h
theorem bears_below {β : Type} {n₀ B : Nat} {w₀ : World} (hn : n₀ ≤ w₀.heap.size) (hB : n₀ ≤ B) : Bears B (fun (_ : β) W => Below n₀ w₀ W) := fun _ A A' T h c hT =>
  h.trans (c.below (fun g hg => Nat.le_trans hB (hT g hg).1) (Nat.le_trans hn h.size))
/-- A round leaves what nobody writes, and what lies from B on. -/
structure Stays (base B : Nat) (W W' : World) : Prop where
  fx : Fx base W W'
  rest : ∀ k, B ≤ k → k < W.heap.size → W'.heap[k]? = W.heap[k]?
theorem Stays.refl (base B : Nat) (W : World) : Stays base B W W := ⟨Fx.refl _ _, fun _ _ _ => rfl⟩
theorem Stays.trans {base B : Nat} {a b c : World} (h : Stays base B a b) (k : Stays base B b c) : Stays base B a c :=
  ⟨h.fx.trans k.fx, fun g h1 h2 => (k.rest g h1 (Nat.lt_of_lt_of_le h2 h.fx.size)).trans (h.rest g h1 h2)⟩
theorem Stays.ofBelow {base B : Nat} {W W' : World} (h : Below W.heap.size W W') : Stays base B W W' := ⟨Fx.ofBelow h, fun k _ hk => h.block k hk⟩
theorem Stays.ofChg {base B : Nat} {T : List Nat} {W W' : World} (h : Chg T W W') (hp : ∀ g ∈ T, g < B ∧ (g < W.heap.size → ¬ Prot base W g)) : Stays base B W W' :=
  ⟨h.fx (fun g hg => (hp g hg).2), fun k h1 h2 => h.block k h2 (fun hm => by have := (hp k hm).1; omega)⟩
/-- One block that is no cells is turned. -/
theorem turn_chg (W : World) (l : Nat) (o : Obj) : Chg [l] W (W.putObj l o) := Chg.ofGrown (grownBy_putObj' W l o) (fun g e => .inl (by cases e; simp))

end Go.Proofs.YtbkoepghmcdnhaaGreatDoor
/- The library's contract for slices.SortFunc at objects, at this program's numbers. -/
namespace Go.Proofs.YtbkoepghmcdnhaaGreatDoor
open Go.Shelf
def sh_sortO_ren : Go.Shelf.Ren := ⟨fun | 6 => 32 | 15 => 52 | 14 => 51 | 28 => 78 | 29 => 79 | 20 => 70 | 21 => 71 | 22 => 72 | 23 => 73 | 24 => 74 | 25 => 75 | 26 => 76 | 27 => 77 | 46 => 111 | 47 => 112 | 48 => 113 | 49 => 114 | 50 => 115 | 57 => 135 | n => n, fun | 22 => 22 | 24 => 51 | 25 => 94 | 3 => 3 | 39 => 126 | 0 => 0 | 53 => 156 | 55 => 29 | 4 => 4 | 46 => 149 | 45 => 148 | 50 => 153 | 5 => 5 | 9 => 9 | 66 => 183 | 70 => 186 | 76 => 202 | 77 => 203 | n => n, fun | n => n⟩
theorem sh_sortO : Go.Proofs.SlLaysF0.n6 Tryz.prog sh_sortO_ren := {
  mixed := by kernel_rfl
  f6 := ⟨Tryz.f32.name, by decide, Tryz.func32.trans (congrArg some (by kernel_rfl))⟩
  f14 := ⟨Tryz.f51.name, by decide, Tryz.func51.trans (congrArg some (by kernel_rfl))⟩
  f15 := Tryz.func52.trans (congrArg some (by kernel_rfl))
  f20 := ⟨Tryz.f70.name, by decide, Tryz.func70.trans (congrArg some (by kernel_rfl))⟩
  f21 := ⟨Tryz.f71.name, by decide, Tryz.func71.trans (congrArg some (by kernel_rfl))⟩
  f22 := ⟨Tryz.f72.name, by decide, Tryz.func72.trans (congrArg some (by kernel_rfl))⟩
  f23 := ⟨Tryz.f73.name, by decide, Tryz.func73.trans (congrArg some (by kernel_rfl))⟩
  f24 := ⟨Tryz.f74.name, by decide, Tryz.func74.trans (congrArg some (by kernel_rfl))⟩
  f25 := ⟨Tryz.f75.name, by decide, Tryz.func75.trans (congrArg some (by kernel_rfl))⟩
  f26 := ⟨Tryz.f76.name, by decide, Tryz.func76.trans (congrArg some (by kernel_rfl))⟩
  f27 := ⟨Tryz.f77.name, by decide, Tryz.func77.trans (congrArg some (by kernel_rfl))⟩
  f28 := Tryz.func78.trans (congrArg some (by kernel_rfl))
  f29 := Tryz.func79.trans (congrArg some (by kernel_rfl))
  f46 := ⟨Tryz.f111.name, by decide, Tryz.func111.trans (congrArg some (by kernel_rfl))⟩
  f47 := Tryz.func112.trans (congrArg some (by kernel_rfl))
  f48 := Tryz.func113.trans (congrArg some (by kernel_rfl))
  f49 := ⟨Tryz.f114.name, by decide, Tryz.func114.trans (congrArg some (by kernel_rfl))⟩
  f50 := ⟨Tryz.f115.name, by decide, Tryz.func115.trans (congrArg some (by kernel_rfl))⟩
  f57 := ⟨Tryz.f135.name, by decide, Tryz.func135.trans (congrArg some (by kernel_rfl))⟩
  t0 := Tryz.underlying0
  a0 := Tryz.isAgg0
  z0 := Tryz.sizeOf0
  v0 := Tryz.zeroValue0
  t3 := Tryz.underlying3
  a3 := Tryz.isAgg3
  z3 := Tryz.sizeOf3
  v3 := Tryz.zeroValue3
  t4 := Tryz.underlying4
  a4 := Tryz.isAgg4
  z4 := Tryz.sizeOf4
  v4 := Tryz.zeroValue4
  t5 := Tryz.underlying5
  a5 := Tryz.isAgg5
  z5 := Tryz.sizeOf5
  v5 := Tryz.zeroValue5
  t9 := Tryz.underlying9
  a9 := Tryz.isAgg9
  z9 := Tryz.sizeOf9
  v9 := Tryz.zeroValue9
  t22 := Tryz.underlying22
  a22 := Tryz.isAgg22
  z22 := Tryz.sizeOf22
  v22 := Tryz.zeroValue22
  t25 := Tryz.underlying94
  a25 := Tryz.isAgg94
  z25 := Tryz.sizeOf94
  v25 := Tryz.zeroValue94
  t39 := Tryz.underlying126
  a39 := Tryz.isAgg126
  z39 := Tryz.sizeOf126
  v39 := Tryz.zeroValue126
  t45 := Tryz.underlying148
  a45 := Tryz.isAgg148
  z45 := Tryz.sizeOf148
  v45 := Tryz.zeroValue148
  t46 := Tryz.underlying149
  a46 := Tryz.isAgg149
  z46 := Tryz.sizeOf149
  v46 := Tryz.zeroValue149
  t50 := Tryz.underlying153
  a50 := Tryz.isAgg153
  z50 := Tryz.sizeOf153
  v50 := Tryz.zeroValue153
  t53 := Tryz.underlying156
  a53 := Tryz.isAgg156
  z53 := Tryz.sizeOf156
  v53 := Tryz.zeroValue156
  t55 := Tryz.underlying29
  a55 := Tryz.isAgg29
  z55 := Tryz.sizeOf29
  v55 := Tryz.zeroValue29
  t66 := Tryz.underlying183
  a66 := Tryz.isAgg183
  z66 := Tryz.sizeOf183
  v66 := Tryz.zeroValue183
  t70 := Tryz.underlying186
  a70 := Tryz.isAgg186
  z70 := Tryz.sizeOf186
  v70 := Tryz.zeroValue186
  t76 := Tryz.underlying202
  a76 := Tryz.isAgg202
  z76 := Tryz.sizeOf202
  v76 := Tryz.zeroValue202
  t77 := Tryz.underlying203
  a77 := Tryz.isAgg203
  z77 := Tryz.sizeOf203
  v77 := Tryz.zeroValue203 }
end Go.Proofs.YtbkoepghmcdnhaaGreatDoor
/- All objects of a kind that a store has, rising by names. -/
namespace Go.Proofs.YtbkoepghmcdnhaaGreatDoor
open Go.RowKit Go.Shelf Go.Lib Go.Sort
open Go.Joins (cell_of_block unfrozen_of_block block_setCell)
set_option linter.unusedVariables false
set_option linter.unusedSimpArgs false
set_option maxRecDepth 20000

/-- An object's cells, and the object that they are. -/
abbrev Co := { x : Cs × Ob // x.1.1[1]? = some (.string x.2.name) }
instance : Inhabited Co := ⟨⟨(⟨zerC, by kernel_rfl, zer_all⟩, zerO), by rfl⟩⟩
def encO (x : Co) : List Value := x.1.1.1.toList
theorem lenO (x : Co) : (encO x).length = 47 := lenC x.1.1
theorem oneO (x : Co) : ∀ v ∈ encO x, v.oneCell' = true := oneC x.1.1
def cfO (x y : Co) : Int := compareBytes (by_ x.1.2.name) (by_ y.1.2.name)
theorem swoO : SWO (ltOf cfO) := ⟨fun x => rises_irr x.1.2, fun x y z h k => rises_trans (a := x.1.2) (b := y.1.2) (c := z.1.2) h k, fun x y z h k => rises_ntrans (a := x.1.2) (b := y.1.2) (c := z.1.2) h k⟩
theorem run_cmpO (a b : ByteArray) (w : World) : (callFunc 80 #[.string a, .string b]).run Tryz.prog w = .ok (.value (.int .i64 (compareBytes (by_ a) (by_ b)))) w := by
  rw [run_callFunc_extern Tryz.func80 (by kernel_rfl) (by kernel_rfl) (by kernel_rfl) (e := Extern.BytealgCompare.compare) (by kernel_rfl), Lib.run_compareString]
  rfl
theorem cmpO_any (a b : ByteArray) (w : World) : Calls Tryz.prog 53 #[.string a, .string b] w fun e w' => e = .returned (.int .i64 (compareBytes (by_ a) (by_ b))) ∧ w = w' := by
  have h := run_cmpO a b
  go_enter Tryz.func53, Tryz.ntmps53
  go_wp2
  go_ret
  exact ⟨rfl, rfl⟩
theorem compareO (a b : ByteArray) (w : World) : Calls Tryz.prog 34 #[.string a, .string b] w fun e w' => e = .returned (.int .i64 (compareBytes (by_ a) (by_ b))) ∧ w = w' := by
  have C := Lib.hid (cmpO_any a b)
  go_enter Tryz.func34, Tryz.ntmps34
  go_wp2_with fail
  refine (C.out _).mono ?_
  rintro e w1 ⟨rfl, rfl⟩
  go_wp2
  go_ret
  exact ⟨rfl, rfl⟩
theorem closure_all (x y : Co) (w : World) : Calls Tryz.prog 33 #[.agg (encO x).toArray, .agg (encO y).toArray] w fun e w' => e = .returned (.int .i64 (cfO x y)) ∧ ∃ q os', w' = grow (w.drewN q) os' := by
  have C := Lib.hid (compareO x.1.2.name y.1.2.name)
  have E : cfO x y = compareBytes (by_ x.1.2.name) (by_ y.1.2.name) := rfl
  rw [← E] at C
  obtain ⟨X, hX⟩ : ∃ X, X = x.1.1.1 := ⟨_, rfl⟩
  obtain ⟨Y, hY⟩ : ∃ Y, Y = y.1.1.1 := ⟨_, rfl⟩
  have ex : (encO x).toArray = X := by rw [hX]; unfold encO; simp
  have ey : (encO y).toArray = Y := by rw [hY]; unfold encO; simp
  rw [ex, ey]
  obtain ⟨nx, hnx⟩ : ∃ s, s = x.1.2.name := ⟨_, rfl⟩
  obtain ⟨ny, hny⟩ : ∃ s, s = y.1.2.name := ⟨_, rfl⟩
  have px : X[1]? = some (.string nx) := by rw [hX, hnx]; exact x.2
  have py : Y[1]? = some (.string ny) := by rw [hY, hny]; exact y.2
  rw [← hnx, ← hny] at C
  generalize cfO x y = r at C ⊢
  obtain ⟨B, hB⟩ : ∃ B, B = w.heap.size := ⟨_, rfl⟩
  obtain ⟨w1, hw1⟩ : ∃ w1, w1 = w.alloc (.cells X OT) := ⟨_, rfl⟩
  obtain ⟨w2, hw2⟩ : ∃ w2, w2 = w1.alloc (.cells Y OT) := ⟨_, rfl⟩
  have z1 : w1.heap.size = B + 1 := by rw [hw1, hB]; simp
  have b1 : w1.heap[B]? = some (.cells X OT (0, 0)) := by rw [hw1, hB]; exact heap_alloc_new w _
  have b2 : w2.heap[B + 1]? = some (.cells Y OT (0, 0)) := by rw [hw2, ← z1]; exact heap_alloc_new w1 _
  have G2 : Gr w1 w2 := hw2 ▸ (Gr.refl w1).alloc _
  have c1 : w2.cell? ⟨B, 1, none⟩ = some (.string nx) := G2.cell ((cell_of_block b1 1).trans px)
  have c2 : w2.cell? ⟨B + 1, 1, none⟩ = some (.string ny) := (cell_of_block b2 1).trans py
  have FIN : Hid (∃ q os', w2 = grow (w.drewN q) os') := ⟨0, _, by rw [hw2, hw1, alloc_eq_grow, alloc_eq_grow, grow_grow]; rfl⟩
  have HW : Hid (w.alloc (.cells X OT) = w1 ∧ w1.alloc (.cells Y OT) = w2 ∧ w.heap.size = B ∧ w1.heap.size = B + 1) := ⟨hw1.symm, hw2.symm, hB.symm, z1⟩
  clear E ex ey hX hY hnx hny px py hB hw1 hw2 z1 b1 b2 G2
  go_enter Tryz.func33, Tryz.ntmps33
  go_upto_region 1 with fail
  rw [HW.out.1, HW.out.2.1, HW.out.2.2.1]
  go_wp2_with fail
  refine (C.out _).mono ?_
  rintro e w3 ⟨rfl, rfl⟩
  go_wp2
  go_ret
  exact ⟨rfl, FIN.out⟩
abbrev fvO : Value := .func (.func 33) #[] #[]
theorem enters_all : ∀ args w, (callFunc 33 args).run Tryz.prog w = .ok (.enter 33 args) w := enters_of Tryz.func33 (by kernel_rfl) rfl
theorem flat_K {α : Type} [Inhabited α] {enc : α → List Value} {k : Nat} (hk : ∀ x, (enc x).length = k) (l : List α) : flatK enc k l.toArray = (flat enc l).toArray := by
  refine ext_get! (by simp [flat_length hk]) fun t ht => ?_
  have ht' : t < l.length * k := by simpa using ht
  have h0 : 0 < k := by
    rcases Nat.eq_zero_or_pos k with e | h
    · rw [e] at ht'; omega
    · exact h
  rw [get_flatK _ _ _ t (by simpa using ht')]
  have hlt : t / k < l.length := Nat.div_lt_of_lt_mul (by rwa [Nat.mul_comm])
  have hm := Nat.mod_lt t h0
  obtain ⟨x, hx⟩ : ∃ x, l[t / k]? = some x := ⟨l[t / k], List.getElem?_eq_getElem hlt⟩
  have e2 : l.toArray[t / k]! = x := by
    have hj := List.getElem?_eq_some_iff.1 hx
    rw [getElem!_pos _ _ (by simpa using hj.1)]
    simpa using hj.2
  have e3 := flat_at hk l (t / k) (t % k) x hx hm
  rw [show t / k * k + t % k = t by rw [Nat.mul_comm]; exact Nat.div_add_mod t k] at e3
  have hm2 : t % k < (enc x).length := by rw [hk]; exact hm
  have hlf : t < (flat enc l).length := by rw [flat_length hk]; exact ht'
  rw [e2, getElem!_pos (enc x) (t % k) hm2, getElem!_pos (flat enc l).toArray t (by simpa using hlf)]
  rw [List.getElem?_eq_getElem hlf, List.getElem?_eq_getElem hm2] at e3
  simpa using (Option.some.inj e3).symm
theorem holdsO {w : World} {N g c : Nat} {cl : List Co} (h : w.ownsRow N OT 47 (.slice (some ⟨g, 0, none⟩) cl.length c) cl.length (flat encO cl)) : HoldsK encO 47 w g 0 cl.toArray ∧ g < w.heap.size ∧ N ≤ g := by
  obtain ⟨h0, h⟩ := h
  rcases h with ⟨e, _⟩ | ⟨g', c', cur, e, hb, hg, hc, hm, hsz, htk⟩
  · cases e
  · simp only [Value.slice.injEq, Option.some.injEq, Addr.mk.injEq, and_true, true_and] at e
    obtain ⟨rfl, rfl⟩ := e
    refine ⟨?_, (Array.getElem?_eq_some_iff.1 hg).1, hb⟩
    unfold HoldsK
    rw [flat_K lenO]
    intro t ht
    have ht' : t < (flat encO cl).length := by simpa using ht
    have e : cur.toList[t]? = some (flat encO cl)[t] := by
      have h2 : (cur.toList.take (cl.length * 47))[t]? = some (flat encO cl)[t] := by rw [htk, List.getElem?_eq_getElem ht']
      rw [List.getElem?_take_of_lt (by rw [← flat_length lenO]; exact ht')] at h2
      exact h2
    refine ⟨?_, by simp [World.frozen?, hg]⟩
    rw [Nat.zero_add, getElem!_pos _ _ (by simpa using ht')]
    simp only [World.cell?, hg, Option.isSome_none, Bool.false_eq_true, if_false]
    rw [← Array.getElem?_toList, e]
    simp
theorem chg_sortO {w W : World} {g off : Nat} {d : Array Co} (h : SWK encO 47 w g off d W) : Chg [g] w W := by
  obtain ⟨n, os, rfl⟩ := h
  refine ⟨rfl, rfl, rfl, by simp [sortWorldK, putRowK, putRow, mapBlock, Sort.ahead], fun k hk hm => ?_⟩
  unfold sortWorldK
  rw [heap_grow_old _ _ (by simp [putRowK, putRow, mapBlock, Sort.ahead]; omega)]
  have : g ≠ k := by simp at hm; omega
  simp [putRowK, putRow, mapBlock, Sort.ahead, Array.getElem?_modify, this]
/-- A row of objects, each of which lies there. -/
def RowO (W : World) (B : Nat) (v : Value) (cl : List Co) : Prop := ∃ q c, v = .slice q cl.length c ∧ ∀ i x, cl[i]? = some x → ∃ g : Nat, q = some ⟨g, 0, none⟩ ∧ B ≤ g ∧ g < W.heap.size ∧ W.rangeAt g (i * 47) (encO x)
theorem rowO_sort {w W : World} {B g c : Nat} {cl s : List Co} (hH : HoldsK encO 47 w g 0 cl.toArray) (hg : g < w.heap.size) (hB : B ≤ g) (hs : s.length = cl.length) (h : SWK encO 47 w g 0 s.toArray W) : RowO W B (.slice (some ⟨g, 0, none⟩) cl.length c) s := by
  have H := h.holds hg hH (by simpa using hs)
  refine ⟨some ⟨g, 0, none⟩, c, by rw [hs], fun i x hx => ⟨g, rfl, hB, h.lt hg, fun t u hu => ?_⟩⟩
  have hj := List.getElem?_eq_some_iff.1 hx
  have e : s.toArray[i]! = x := by rw [getElem!_pos _ _ (by simpa using hj.1)]; simpa using hj.2
  have ht : t < 47 := by
    have := (List.getElem?_eq_some_iff.1 hu).1
    rwa [lenO] at this
  have c0 := (HoldsK.cell H (i := i) (by simpa using hj.1) (c := t) ht).1
  rw [e, Nat.zero_add] at c0
  rw [c0]
  have hj2 := List.getElem?_eq_some_iff.1 hu
  rw [getElem!_pos (encO x) t hj2.1, hj2.2]

set_option maxHeartbeats 2000000 in
theorem ins_noneO (fv : Value) (w : World) : Calls Tryz.prog 70 #[.slice none 0 0, .int .i64 0, .int .i64 0, fv] w fun e w' => e = .returned (.tuple #[]) ∧ w = w' := by
  go_enter Tryz.func70, Tryz.ntmps70
  go_wp2
  refine wp_loop_rounds 1 ?_
  rw [rounds_succ]
  go_wp2
  go_end0
  exact ⟨rfl, rfl⟩
end Go.Proofs.YtbkoepghmcdnhaaGreatDoor
/- All objects of a kind that a store has: sorted; gone through. -/
namespace Go.Proofs.YtbkoepghmcdnhaaGreatDoor
open Go.RowKit Go.Shelf Go.Lib Go.Sort
open Go.Joins (cell_of_block unfrozen_of_block block_setCell)
set_option linter.unusedVariables false
set_option linter.unusedSimpArgs false
set_option maxRecDepth 20000

set_option maxHeartbeats 2000000 in
theorem pdq_noneO (lim : Int) (fv : Value) (w : World) : Calls Tryz.prog 51 #[.slice none 0 0, .int .i64 0, .int .i64 0, .int .i64 lim, fv] w fun e w' => e = .returned (.tuple #[]) ∧ w = w' := by
  have C := Lib.hid (fun W => ins_noneO fv W)
  go_enter Tryz.func51, Tryz.ntmps51
  go_wp2
  refine wp_loop_rounds 1 ?_
  rw [rounds_succ]
  go_wp2_with fail
  refine (C.out _).mono ?_
  rintro e w' ⟨rfl, rfl⟩
  go_wp2
  (try simp only [Exit.inBlock, Exit.then]); refine bodyPost_ret (results_none rfl _ _ _) rfl ?_
  exact ⟨rfl, rfl⟩
theorem len_zeroO (W : World) : Calls Tryz.prog 52 #[.int .u64 0] W fun e w' => e = .returned (.int .i64 0) ∧ W = w' :=
  (Any.bits_Len (SlLaysF0.n15.bits (P := Tryz.prog) (ρ := sh_sortO_ren) { sh_sortO with }) 0 W (by omega) (by omega)).mono fun e w' h => ⟨h.1, h.2.symm⟩
set_option maxHeartbeats 2000000 in
theorem sort_noneO (fv : Value) (w : World) : Calls Tryz.prog 32 #[.slice none 0 0, fv] w fun e w' => e = .returned (.tuple #[]) ∧ w = w' := by
  have C1 := Lib.hid (fun W => len_zeroO W)
  have C2 := Lib.hid (fun lim W => pdq_noneO lim fv W)
  go_enter Tryz.func32, Tryz.ntmps32
  go_wp2_with fail
  refine (C1.out _).mono ?_
  rintro e w' ⟨rfl, rfl⟩
  go_wp2_with fail
  refine (C2.out _ _).mono ?_
  rintro e w' ⟨rfl, rfl⟩
  go_wp2
  go_end0
  exact ⟨rfl, rfl⟩
theorem own_nilO {w : World} {N n c : Nat} {xs : List Value} {q : Option Addr} (h : w.ownsRow N OT 47 (.slice q n c) n xs) : (q = none ∧ c = 0 ∧ n = 0) ∨ ∃ g, q = some ⟨g, 0, none⟩ := by
  rcases h.2 with ⟨e, h0⟩ | ⟨g, cap, cur, e, _⟩
  · cases e
    exact .inl ⟨rfl, rfl, rfl⟩
  · cases e
    exact .inr ⟨g, rfl⟩
/-- slices.SortFunc at a row of objects of the call's own. -/
theorem sortO_any (w : World) (N : Nat) (q : Option Addr) (c : Nat) (cl : List Co) (h : w.ownsRow N OT 47 (.slice q cl.length c) cl.length (flat encO cl)) (hN : N ≤ w.heap.size) (hl : cl.length ≤ 1000000) :
    Calls Tryz.prog 32 #[.slice q cl.length c, fvO] w fun e w' => e = .returned (.tuple #[]) ∧ Chg (Value.slice q cl.length c).ownBlock.toList w w' ∧ ∃ s : List Co, s.Perm cl ∧ s.Pairwise (fun a b => rises b.1.2 a.1.2 = false) ∧ RowO w' N (.slice q cl.length c) s := by
  rcases own_nilO h with ⟨rfl, rfl, h0⟩ | ⟨g, rfl⟩
  · have hcl : cl = [] := List.eq_nil_of_length_eq_zero h0
    subst hcl
    exact (sort_noneO fvO w).mono fun e w' hh => ⟨hh.1, hh.2 ▸ Chg.refl _ _, [], List.Perm.refl _, List.Pairwise.nil, none, 0, rfl, fun i x hx => by simp at hx⟩
  · obtain ⟨hH, hg, hNg⟩ := holdsO h
    have C := AnyQ.slices_SortFunc sh_sortO 47 Tryz.isAgg51 Tryz.sizeOf51 encO lenO oneO cfO swoO 33 #[] g 0 c cl.toArray w enters_all (fun _ _ _ _ x y => closure_all x y _) hH hg (by simp; omega)
    have C' : Calls Tryz.prog 32 #[.slice (some ⟨g, 0, none⟩) cl.toArray.size c, fvO] w fun e w' =>
      e = .returned (.tuple #[]) ∧ ∃ d' n os, PermIn 0 cl.toArray.size cl.toArray d' ∧ SortedIn (ltOf cfO) 0 cl.toArray.size d' ∧ w' = sortWorldK encO 47 w g 0 n d' os := C
    rw [List.size_toArray] at C'
    refine C'.mono fun e w' hh => ?_
    obtain ⟨he, d', n, os, hp, hs, hw⟩ := hh
    have hk : SWK encO 47 w g 0 d' w' := ⟨n, os, hw⟩
    have hsz : d'.size = cl.length := by rw [hp.1]; simp
    have hperm : d'.toList.Perm cl := by
      have := hp.2.2
      rw [show d'.extract 0 cl.length = d' by rw [← hsz]; simp, show cl.toArray.extract 0 cl.length = cl.toArray by rw [← List.size_toArray]; simp] at this
      simpa using this
    refine ⟨he, by simpa [Value.ownBlock] using chg_sortO hk, d'.toList, hperm, ?_, ?_⟩
    · rw [List.pairwise_iff_getElem]
      intro i j hi hj hij
      have hj' : j < d'.size := by simpa using hj
      have hi' : i < d'.size := by simpa using hi
      have := hs i j (Nat.zero_le _) hij (by omega)
      rw [getElem!_pos d' j hj', getElem!_pos d' i hi'] at this
      have t2 : rises d'[j].1.2 d'[i].1.2 = false := this
      simpa using t2
    · exact rowO_sort hH hg hNg (by simpa using hsz) (by simpa using hk)
/-- What lies there, somewhere behind. -/
theorem RowO.kept {W W' : World} {B : Nat} {v : Value} {cl : List Co} (h : RowO W B v cl) (hk : ∀ g, B ≤ g → g < W.heap.size → W'.heap[g]? = W.heap[g]?) (hs : W.heap.size ≤ W'.heap.size) : RowO W' B v cl := by
  obtain ⟨q, c, hv, hr⟩ := h
  refine ⟨q, c, hv, fun i x hx => ?_⟩
  obtain ⟨g, h1, h2, h3, h4⟩ := hr i x hx
  exact ⟨g, h1, h2, by omega, fun t u hu => (World.cell?_of_block (hk g h2 h3)).trans (h4 t u hu)⟩

theorem info_O47 : ∃ (i : TypeInfo) (b : Nat), Tryz.prog.info? OT = some i ∧ i.zero = some (.agg zerC) ∧ i.size = 47 ∧ i.bytes = b ∧ b ≤ 10000 ∧ (Tryz.prog.info? OT).map (fun i => (i.zero, i.size)) = some (some (.agg zerC), 47) := by
  obtain ⟨b, h, hb⟩ := info_OT
  cases hi : Tryz.prog.info? OT with
  | none => rw [hi] at h; cases h
  | some i =>
    rw [hi] at h
    simp only [Option.map_some, Option.some.injEq, Prod.mk.injEq] at h
    exact ⟨i, b, rfl, h.1, h.2.1, h.2.2, hb, by simp [h.1, h.2.1]⟩

set_option maxHeartbeats 8000000 in
theorem all_any (base : Nat) (w : World) (S : List Nat) (sp : Nat) (most k : Int) (l : List Ob) (hist : List Ev) (h : StIs base w S sp most l hist) (hl : l.length ≤ 1000000) :
    Calls Tryz.prog 15 #[.pointer (some ⟨sp, 0, none⟩), .int .i64 k] w fun e w' => (∃ v cl, e = .returned v ∧ cl.map (·.1.2) = listed k l ∧ RowO w' w.heap.size v cl ∧ ∀ x ∈ cl, Kept base w' x.1.1.1 x.1.2) ∧ Below w.heap.size w w' := by
  have mixed : Tryz.prog.follows .mixedOrders = true := by kernel_rfl
  obtain ⟨mb, D, ev, kept, h⟩ := h
  have c2 : w.cell? ⟨sp, 2, none⟩ = some (.map (some mb)) := cell_of_block h.blk 2
  have own := Lib.hid h.map.own
  obtain ⟨N, hN⟩ : ∃ N, N = w.heap.size := ⟨_, rfl⟩
  have hml : mb < w.heap.size := (map_prot h.map h.bmb).2.1
  have HM := Lib.hid (And.intro h.map (And.intro hN (And.intro hml (And.intro hl h.bw))))
  obtain ⟨ti, by47, hi47⟩ := info_O47
  have HB := Lib.hid hi47
  obtain ⟨n, hn⟩ : ∃ n, n = kept.length + l.length + hist.length := ⟨_, rfl⟩
  clear h hn hml hl hi47
  go_enter Tryz.func15, Tryz.ntmps15
  go_upto_region 4 with fail
  go_wp2_with (first
    | (at_range; refine wpList_range_own _ rfl _ MT rfl KT OT lawK mapT hR mb _ D rfl own.out ?_; intro w0 hrg0 hg0 hs0)
    | go_in)
  go_frame
  rw [← hN] at hrg0 ⊢
  have hb0 : Below N w w0 := by rw [hN]; exact ⟨hg0.os, hg0.tape, hg0.output, hg0.size, fun g hg => hg0.block g hg (by simp)⟩
  have z0 : w0.heap.size = N + 1 := by rw [hs0, hN]
  have HR0 := Lib.hid (And.intro hrg0 (And.intro hb0 z0))
  clear hrg0 hg0 hs0 hb0 z0 own hN c2
  go_loopw [5] (fun v wx => ∃ (left : Lit → Bool) (cnt : Nat) (cl : List Co) (q : Option Addr) (c m : Nat), v = .slice q m c ∧ wx.ranges Tryz.prog KT hR mb N _ D left cnt ∧ Hid (m = cl.length ∧ wx.ownsRow (N + 1) OT 47 (.slice q m c) m (flat encO cl) ∧ Below N w wx ∧ (cl.map (·.1.2)).Perm (l.filter (fun o => decide (o.kind = k) && !left (kl o.kind o.name))) ∧ (∀ x ∈ cl, Kept base wx x.1.1.1 x.1.2) ∧ (∀ z, left z = true → Maps.has D z = true)))
    (fun _ wx => wx.rangeLeft mb N)
  case atStart =>
    obtain ⟨hm, _⟩ := HM.out
    refine ⟨_, _, [], none, 0, 0, rfl, HR0.out.1, rfl, ⟨rfl, .inl ⟨rfl, rfl⟩⟩, HR0.out.2.1, ?_, fun x hx => (nomatch hx), fun z hz => hz⟩
    rw [List.filter_eq_nil_iff.2 (fun o ho => by rw [hm.has _ _ (hm.ok o ho).1 (hm.ok o ho).2, List.any_eq_true.2 ⟨o, ho, hit_self o⟩]; simp)]
    exact List.Perm.refl _
  case round =>
    obtain ⟨left, cnt, cl, q, c, m, rfl, hrg, HX⟩ := hrel
    go_wp2_with (first
      | (at_next; refine wpList_next_ranges _ rfl _ rfl KT lawK hR (fun v : Value => v) (fun v : Value => v) (fun key _ _ => ⟨key, rfl⟩) (fun v _ _ => ⟨v, rfl⟩) mb N _ D _ _ rfl hrg ?_ ?_)
      | go_in)
    · intro hc0 hl0
      obtain ⟨hm, hown, hb, hp, hk, _⟩ := HX.out
      subst hm
      have hN1 : N + 1 ≤ wr.heap.size := by have := hrg.lt; omega
      have hle : cl.length ≤ 1000000 := by
        have h1 := hp.length_eq
        rw [List.length_map] at h1
        have h2 := List.length_filter_le (fun o => decide (o.kind = k) && !left (kl o.kind o.name)) l
        have := HM.out.2.2.2.1
        omega
      have CS := Lib.hid (sortO_any wr (N + 1) q c cl hown hN1 hle)
      have HP := Lib.hid (And.intro hb (And.intro hp (And.intro hk hl0)))
      obtain ⟨L, hL⟩ : ∃ L, L = cl.length := ⟨_, rfl⟩
      rw [← hL] at CS ⊢
      have HL := Lib.hid hL
      have HO : Hid (wr.ownsRow (N + 1) OT 47 (.slice q L c) L (flat encO cl) ∧ N ≤ wr.heap.size) := ⟨by rw [hL]; exact hown, by omega⟩
      clear hown hb hp hk hN1 hle HX hrg hl0 hc0 HR0 hL
      go_wp2_with fail
      refine CS.out.mono ?_
      rintro e w1 ⟨rfl, c1, s, sp1, ss, rs⟩
      have FIN : Hid ((∃ cl', cl'.map (·.1.2) = listed k l ∧ RowO w1 w.heap.size (.slice q L c) cl' ∧ ∀ x ∈ cl', Kept base w1 x.1.1.1 x.1.2) ∧ Below w.heap.size w w1) := by
        obtain ⟨hb, hp, hk, hl0⟩ := HP.out
        obtain ⟨hmap, hN, _, _, _⟩ := HM.out
        have hpr := own_prot (base := base) HO.out.1 (by omega) rfl
        have hq : ∀ g ∈ (Value.slice q L c).ownBlock.toList, N + 1 ≤ g ∧ ¬ Prot base wr g := fun g hg => by
          have hg' : (Value.slice q L c).ownBlock = some g := by simpa using hg
          exact ⟨(World.ownsRow.lt HO.out.1 g hg').1, (hpr g hg').2.2⟩
        have bw1 : Below N w w1 := hb.trans (c1.below (fun g hg => by have := (hq g hg).1; omega) HO.out.2)
        have hall : l.filter (fun o => decide (o.kind = k) && !left (kl o.kind o.name)) = l.filter (fun o => decide (o.kind = k)) := List.filter_congr (fun o _ => by rw [hl0]; simp)
        rw [hall] at hp
        refine ⟨⟨s, listed_eq hmap.apart ((sp1.map _).trans hp) (List.pairwise_map.2 ss), ?_, fun x hx => (hk x (sp1.mem_iff.1 hx)).fx ?_⟩, by rw [← hN]; exact bw1⟩
        · obtain ⟨q', c', hv, hr⟩ := rs
          exact ⟨q', c', hv, fun i x hx => by
            obtain ⟨g, h1, h2, h3, h4⟩ := hr i x hx
            exact ⟨g, h1, by omega, h3, h4⟩⟩
        · exact c1.fx (fun g hg _ => (hq g hg).2)
      clear c1 sp1 ss rs HP HL HM CS
      go_wp2
      go_ret
      obtain ⟨⟨cl', h1, h2, h3⟩, h4⟩ := FIN.out
      exact ⟨⟨_, cl', rfl, h1, h2, h3⟩, h4⟩
    · intro x cv klit y yp w1 cnt1 hkey hlx hv hat hrg1 hlt hg1 hs1 hen
      obtain ⟨hm, hown, hb, hp, hk, hsub⟩ := HX.out
      obtain ⟨hmap, hN, hml, hll, hbw⟩ := HM.out
      have hkey' : keyOf Tryz.prog KT x = some klit := hkey
      obtain ⟨k', nm, hk', hnm, rfl, rfl⟩ := key_inv hkey'
      have hh : l.any (hit k' nm) = true := by rw [← hmap.has k' nm hk' hnm]; exact hsub _ hlx
      obtain ⟨o, ho, hho⟩ := List.any_eq_true.1 hh
      obtain ⟨e1, e2⟩ := hit_iff.1 hho
      obtain ⟨cx, hcx, hkx0⟩ := hmap.ats o ho
      have hc : cv = .agg cx := by
        have h1 : D.atKey (kl k' nm) (.held (.bool false)) = y := hat _
        rw [e1, e2] at hcx
        rw [hcx] at h1
        have hv' : hR cv = some (y, yp) := hv
        simp only [hR, Option.some.injEq, Prod.mk.injEq] at hv'
        rw [← hv'.1] at h1
        simp only [DataW.held.injEq] at h1
        exact h1.symm
      subst hc
      have b1 : Below N w w1 := hb.trans ⟨hg1.os, hg1.tape, hg1.output, hg1.size, fun g hg => hg1.block g (by have := hb.size; omega) (by simp; omega)⟩
      have hNw : N < w1.heap.size := by rw [hs1]; exact hrg.lt
      have hkx : Kept base w1 cx o := hkx0.fx (Fx.ofBelow (by rw [← hN]; exact b1))
      have hown1 : w1.ownsRow (N + 1) OT 47 (.slice q m c) m (flat encO cl) := own_stays hown (fun g h1 h2 => hg1.block g h2 (by simp; omega))
      have hrP : ∀ g ∈ [N], g < wr.heap.size → ¬ Prot base wr g := fun g hg _ => by
        simp at hg
        subst hg
        obtain ⟨es, cl', si, se, c0, _, _, _, _, hri, _⟩ := hrg
        rintro (hp | ⟨cs, T, fz, h3, h4⟩)
        · omega
        · rw [hri] at h3; cases h3
      have hkc : ∀ x ∈ cl, Kept base w1 x.1.1.1 x.1.2 := fun x hx => (hk x hx).fx ((Chg.ofGrown (S := [N]) hg1 (fun g e => .inl (by simp at e; simp [e]))).fx hrP)
      have hen' : (Instr.entry (.pointer (some ⟨N, 0, none⟩))).run Tryz.prog w1 = .ok (.tuple #[.agg #[.int .i64 k', .string nm], .agg cx]) w1 := hen
      obtain ⟨B, hB⟩ : ∃ B, B = w1.heap.size := ⟨_, rfl⟩
      obtain ⟨wb, hwb⟩ : ∃ x, x = w1.alloc (.cells #[.int .i64 k', .string nm] KT) := ⟨_, rfl⟩
      have Gb : Gr w1 wb := hwb ▸ (Gr.refl w1).alloc _
      have zb : wb.heap.size = B + 1 := by rw [hwb, hB]; simp
      have eb : wb.heap[B]? = some (.cells #[.int .i64 k', .string nm] KT (0, 0)) := by rw [hwb, hB]; exact heap_alloc_new w1 _
      have z0 : (wb.alloc (.cells zerC OT)).heap[wb.heap.size]? = some (.cells zerC OT (0, 0)) := heap_alloc_new wb _
      obtain ⟨th, n0', fx1, c1'⟩ := store_ob (base := wb.heap.size) z0 rfl hkx.obj.1 (Nat.le_refl _)
      obtain ⟨w3, hw3⟩ : ∃ W, W = (wb.alloc (.cells zerC OT)).setCells wb.heap.size 0 cx.toList := ⟨_, rfl⟩
      rw [← hw3] at n0' c1'
      have b3 : Below wb.heap.size wb w3 := by
        have g : Gr wb (wb.alloc (.cells zerC OT)) := (Gr.refl wb).alloc _
        exact ((Xb.ofGr g wb.heap.size).trans ⟨c1'.os, c1'.tape, c1'.output, c1'.size, fun k hk hne => c1'.block k hk (by simpa using hne)⟩).below (Nat.le_refl _) (Nat.le_refl _)
      have b13 : Below w1.heap.size w1 w3 := Gb.below.trans (b3.mono Gb.below.size)
      have d1 : w3.cell? ⟨B, 0, none⟩ = some (.int .i64 k') := (World.cell?_of_block (b3.block B (by omega))).trans (cell_of_block eb 0)
      rw [zb] at n0'
      have TH : Hid (((w1.alloc (.cells #[.int .i64 k', .string nm] KT)).alloc (.cells zerC OT)).there (w1.heap.size + 1) 0 cx.size) := by
        have := th
        rw [zb, hwb, hB] at this
        exact this
      have IN : Hid ((Tryz.prog.info? OT).map (·.size) = some cx.size) := by show _ = _; rw [hkx.obj.1]; exact info_ob47
      have ON := Lib.hid (objV_one hkx.obj)
      have HW3 : Hid (((w1.alloc (.cells #[.int .i64 k', .string nm] KT)).alloc (.cells zerC OT)).setCells (w1.heap.size + 1) 0 cx.toList = w3 ∧ w1.heap.size = B) := ⟨by rw [hw3, zb, hwb, hB], hB.symm⟩
      have LV := Lib.hid (load_ob n0' hkx.obj.1)
      have hrg3 : w3.ranges Tryz.prog KT hR mb N _ D (fun z => left z && !z.sameKey (kl k' nm)) cnt1 := hrg1.kept (row := none) ⟨b13.os, b13.tape, b13.output, b13.size, fun i hi _ => b13.block i hi⟩ (by simp) (by simp)
      have HY := Lib.hid (And.intro hm (And.intro hown1 (And.intro b1 (And.intro hp (And.intro hkc (And.intro hsub (And.intro hlx (And.intro hkx (And.intro b13 (And.intro hrg3 (And.intro hlt (And.intro hNw (And.intro (And.intro ho hho) n0')))))))))))))
      have hsame : ∀ o ∈ l, (left (kl o.kind o.name) && !(kl o.kind o.name).sameKey (kl k' nm)) = (left (kl o.kind o.name) && !hit k' nm o) := fun o ho => by
        have : (kl o.kind o.name).sameKey (kl k' nm) = hit k' nm o := by
          rw [Bool.eq_iff_iff, WideAt.sameKey_iff (isKey _ _), hit_iff]
          exact ⟨fun h => kl_inj (hmap.ok o ho).1 (hmap.ok o ho).2 hk' hnm h, fun h => by rw [h.1, h.2]⟩
        rw [this]
      have HSM := Lib.hid hsame
      have HRG := Lib.hid (And.intro hrg3 (And.intro hlt hrg))
      clear hsame hrP hm hown hb hp hk hsub hmap hN hml hll hbw hkey hkey' hk' hnm hh ho hho e1 e2 hcx hkx0 hat hv b1 hkx hown1 hkc hen hB hwb Gb eb z0 th n0' fx1 c1' hw3 b3 b13 hrg3 hlx hrg1 hlt hg1 hs1 HX hrg HR0 zb hNw
      go_upto_region 7 with (refine wpList_store_mid rfl _ _ _ rfl (w1.heap.size + 1) 0 cx (by rfl) (by rfl) TH.out IN.out ON.out ?_; rw [HW3.out.1])
      rw [HW3.out.2]
      by_cases hkk : k' = k
      · have t1 : (k' == k) = true := by rw [hkk]; simp
        obtain ⟨w4, hw4⟩ : ∃ x, x = w3.alloc (.cells cx OT) := ⟨_, rfl⟩
        obtain ⟨E, hE⟩ : ∃ E, E = w3.heap.size := ⟨_, rfl⟩
        have HW4 : Hid (w3.alloc (.cells cx OT) = w4 ∧ w3.heap.size = E) := ⟨hw4.symm, hE.symm⟩
        have G4 : Gr w3 w4 := hw4 ▸ (Gr.refl w3).alloc _
        have e4 : w4.heap[E]? = some (.cells cx OT (0, 0)) := by rw [hw4, hE]; exact heap_alloc_new w3 _
        obtain ⟨hi, hz, h47, hb47, hble, hz47⟩ := HB.out
        have news : Hid (∀ j u, cx.toList[j]? = some u → w4.cell? ((⟨E, 0, none⟩ : Addr).add j) = some u) := fun j u hu => by
          rw [add_none', Nat.zero_add]
          exact (cell_of_block e4 j).trans (by rw [← Array.getElem?_toList]; exact hu)
        have H4 : Hid (w4.ownsRow (N + 1) OT 47 (.slice q m c) m (flat encO cl) ∧ m ≤ 1000000 ∧ N + 1 ≤ w4.heap.size ∧ cx.size = 47 ∧ (∀ u ∈ cx.toList, u.oneCell' = true)) := by
          obtain ⟨hm, hown1, b1, hp, hkc, hsub, hlx, hkx, b13, hrg3, hlt, hNw, ⟨ho, hho⟩, n0'⟩ := HY.out
          have hle : cl.length ≤ 1000000 := by
            have h1 := hp.length_eq
            rw [List.length_map] at h1
            have h2 := List.length_filter_le (fun o => decide (o.kind = k) && !left (kl o.kind o.name)) l
            have := HM.out.2.2.2.1
            omega
          exact ⟨own_stays hown1 (fun g h1 h2 => (G4.heap (by have := b13.size; omega)).trans (b13.block g h2)), by omega, by have := b13.size; have := G4.below.size; omega, hkx.obj.1, oneC ⟨cx, hkx.obj.1, objV_one hkx.obj⟩⟩
        have HG4 := Lib.hid (And.intro G4 e4)
        clear hw4 hE G4 e4
        go_wp2_with (first
          | (refine wpList_load_by (by kernel_rfl) OT _ rfl (.pointer (some ⟨B + 1, 0, none⟩)) (.agg cx) (by rfl) LV.out ?_)
          | (refine wpList_step fun K hK => ?_; refine step_build (by rfl) 22 OT _ rfl (.agg zerC) 47 cx (by rfl) H4.out.2.2.2.1 (by decide) (by decide) Tryz.underlying22 hz47 ?_; refine hK _ _ ?_; rw [HW4.out.1, HW4.out.2])
          | (at_builtin; refine wpList_append_own_at w4 rfl _ _ 22 rfl (N + 1) OT ti (.agg zerC) 47 by47 Tryz.underlying22 hi hz h47 hb47 rfl (by decide) (.slice q m c) m (flat encO cl) (by rfl) H4.out.1 ⟨E, 0, none⟩ 1 1 cx.toList (by rfl) (by rw [Array.length_toList, H4.out.2.2.2.1]) news.out H4.out.2.2.2.2 (by have := H4.out.2.1; unfold maxLen; omega) (by have := H4.out.2.1; have := Nat.mul_le_mul (show m + 1 ≤ 1000001 by omega) hble; omega) H4.out.2.2.1 ?_; intro v5 w5 ho5 hg5 hn5 ha5; obtain ⟨q5, c5, rfl⟩ := own_slice ho5))
        have RN : Hid (∃ (left : Lit → Bool) (cnt : Nat) (cl : List Co) (q' : Option Addr) (c' m' : Nat), Value.slice q5 (m + 1) c5 = .slice q' m' c' ∧ w5.ranges Tryz.prog KT hR mb N hist.length D left cnt ∧ Hid (m' = cl.length ∧ w5.ownsRow (N + 1) OT 47 (.slice q' m' c') m' (flat encO cl) ∧ Below N w w5 ∧ (cl.map (·.1.2)).Perm (l.filter (fun o => decide (o.kind = k) && !left (kl o.kind o.name))) ∧ (∀ x ∈ cl, Kept base w5 x.1.1.1 x.1.2) ∧ (∀ z, left z = true → Maps.has D z = true))) := by
          obtain ⟨hm, hown1, b1, hp, hkc, hsub, hlx, hkx, b13, hrg3, hlt, hNw, ⟨ho, hho⟩, n0'⟩ := HY.out
          obtain ⟨hmap, hN, hml, hll, hbw⟩ := HM.out
          obtain ⟨G4, e4⟩ := HG4.out
          have st := came_step (k := k) hlx l hmap.apart (left' := fun z => left z && !z.sameKey (kl k' nm)) HSM.out o ho hho
          rw [if_pos hkk] at st
          obtain ⟨xo, hxo⟩ : ∃ xo : Co, xo = ⟨(⟨cx, hkx.obj.1, objV_one hkx.obj⟩, o), hkx.obj.2.1.2.1⟩ := ⟨_, rfl⟩
          have hfl : flat encO (cl ++ [xo]) = flat encO cl ++ cx.toList := by
            rw [hxo]
            simp [flat, encO]
          have b14 : Below w1.heap.size w1 w4 := b13.trans (G4.below.mono b13.size)
          have hqN : ∀ g, (Value.slice q m c).ownBlock = some g → N + 1 ≤ g ∧ g < w4.heap.size := fun g hg => World.ownsRow.lt H4.out.1 g hg
          have hpr := own_prot (base := base) H4.out.1 (by omega) rfl
          have C5 : Chg (Value.slice q m c).ownBlock.toList w4 w5 := Chg.ofGrown hg5 (fun g e => .inl (by rw [e]; simp))
          have hq : ∀ g ∈ (Value.slice q m c).ownBlock.toList, N + 1 ≤ g ∧ ¬ Prot base w4 g := fun g hg => by
            have hg' : (Value.slice q m c).ownBlock = some g := by simpa using hg
            exact ⟨(hqN g hg').1, (hpr g hg').2.2⟩
          have F5 : Fx base w1 w5 := (Fx.ofBelow b14).trans (C5.fx (fun g hg _ => (hq g hg).2))
          have hrg4 := hrg3.kept (row := none) (w' := w4) ⟨G4.below.os, G4.below.tape, G4.below.output, G4.below.size, fun i hi _ => G4.below.block i hi⟩ (by simp) (by simp)
          have hrg5 := hrg4.kept hg5 (fun e => by have := (hqN _ e.symm).1; omega) (fun e => by have := (hqN _ e.symm).1; omega)
          refine ⟨_, _, cl ++ [xo], q5, c5, m + 1, rfl, hrg5, by simp [hm], by rw [hfl]; exact ho5, (b1.trans (b14.mono (by have := b1.size; omega))).trans (C5.below (fun g hg => by have := (hq g hg).1; omega) (by have := b14.size; omega)), ?_, fun x hx => ?_, fun z hz => hsub z (by rw [Bool.and_eq_true] at hz; exact hz.1)⟩
          · rw [List.map_append, List.map_cons, List.map_nil]
            have e : xo.1.2 = o := by rw [hxo]
            rw [e]
            exact (hp.append_right [o]).trans st.symm
          · rcases List.mem_append.1 hx with hx | hx
            · exact (hkc x hx).fx F5
            · rw [List.mem_singleton] at hx
              subst hx
              rw [hxo]
              exact hkx.fx F5
        have HRG5 : Hid (w5.ranges Tryz.prog KT hR mb N hist.length D (fun z => left z && !z.sameKey (kl k' nm)) cnt1) := by
          obtain ⟨hm, hown1, b1, hp, hkc, hsub, hlx, hkx, b13, hrg3, hlt, hNw, ⟨ho, hho⟩, n0'⟩ := HY.out
          obtain ⟨hmap, hN, hml, hll, hbw⟩ := HM.out
          have hqN : ∀ g, (Value.slice q m c).ownBlock = some g → N + 1 ≤ g ∧ g < w4.heap.size := fun g hg => World.ownsRow.lt H4.out.1 g hg
          have G4 := HG4.out.1
          have hrg4 := hrg3.kept (row := none) (w' := w4) ⟨G4.below.os, G4.below.tape, G4.below.output, G4.below.size, fun i hi _ => G4.below.block i hi⟩ (by simp) (by simp)
          exact hrg4.kept hg5 (fun e => by have := (hqN _ e.symm).1; omega) (fun e => by have := (hqN _ e.symm).1; omega)
        clear ho5 hg5 hn5 ha5 HY HM HB LV TH IN ON HW3 HW4 HG4 HSM H4 news hi hz h47 hb47 hble hz47
        go_wp2
        go_roundw
        case rel => exact RN.out
        case measure => rw [HRG5.out.left_eq, HRG.out.2.2.left_eq]; exact HRG.out.2.1
      · have t1 : (k' == k) = false := by simpa using hkk
        have RN : Hid (∃ (left : Lit → Bool) (cnt : Nat) (cl : List Co) (q' : Option Addr) (c' m' : Nat), Value.slice q m c = .slice q' m' c' ∧ w3.ranges Tryz.prog KT hR mb N hist.length D left cnt ∧ Hid (m' = cl.length ∧ w3.ownsRow (N + 1) OT 47 (.slice q' m' c') m' (flat encO cl) ∧ Below N w w3 ∧ (cl.map (·.1.2)).Perm (l.filter (fun o => decide (o.kind = k) && !left (kl o.kind o.name))) ∧ (∀ x ∈ cl, Kept base w3 x.1.1.1 x.1.2) ∧ (∀ z, left z = true → Maps.has D z = true))) := by
          obtain ⟨hm, hown1, b1, hp, hkc, hsub, hlx, hkx, b13, hrg3, hlt, hNw, ⟨ho, hho⟩, n0'⟩ := HY.out
          obtain ⟨hmap, hN, hml, hll, hbw⟩ := HM.out
          have st := came_step (k := k) hlx l hmap.apart (left' := fun z => left z && !z.sameKey (kl k' nm)) HSM.out o ho hho
          rw [if_neg hkk, List.append_nil] at st
          exact ⟨_, _, cl, q, c, m, rfl, hrg3, hm, own_stays hown1 (fun g h1 h2 => b13.block g h2), b1.trans (b13.mono (by have := b1.size; omega)), hp.trans st.symm, fun x hx => (hkc x hx).fx (Fx.ofBelow b13), fun z hz => hsub z (by rw [Bool.and_eq_true] at hz; exact hz.1)⟩
        clear HY HM HB LV TH IN ON HW3 HSM
        go_wp2
        go_roundw
        case rel => exact RN.out
        case measure => rw [HRG.out.1.left_eq, HRG.out.2.2.left_eq]; exact HRG.out.2.1
end Go.Proofs.YtbkoepghmcdnhaaGreatDoor
/- 'for o := range s.List(kind)': what is handed on. -/
namespace Go.Proofs.YtbkoepghmcdnhaaGreatDoor
open Go.RowKit Go.Shelf Go.Lib Go.Sort
open Go.Joins (cell_of_block unfrozen_of_block block_setCell)
set_option linter.unusedVariables false
set_option linter.unusedSimpArgs false
set_option maxRecDepth 20000

/-- What is known of what List hands on. -/
def ListGv (base : Nat) (k : Int) (l : List Ob) (pre : List Co) (x : Co) (W : World) : Prop := (listed k l)[pre.length]? = some x.1.2 ∧ Kept base W x.1.1.1 x.1.2
theorem listed_len {l : List Ob} (k : Int) : (listed k l).length ≤ l.length := by
  rw [(listed_perm k l).length_eq]
  exact List.length_filter_le _ _
theorem take_nextO {L : List Ob} {pre : List Co} {x : Co} (h : pre.map (·.1.2) = L.take pre.length) (hx : L[pre.length]? = some x.1.2) : (pre ++ [x]).map (·.1.2) = L.take (pre.length + 1) := by
  rw [List.map_append, h, List.take_add_one, hx]
  simp

end Go.Proofs.YtbkoepghmcdnhaaGreatDoor
/- A copy of a store. -/
namespace Go.Proofs.YtbkoepghmcdnhaaGreatDoor
open Go.RowKit Go.Shelf Go.Lib Go.Sort
open Go.Joins (cell_of_block unfrozen_of_block block_setCell)
set_option linter.unusedVariables false
set_option linter.unusedSimpArgs false
set_option maxRecDepth 20000

/-- Another order of the same row. -/
theorem MapIs.perm {base : Nat} {w : World} {mb n : Nat} {D : DataW Value} {l l' : List Ob} (h : MapIs base w mb n D l) (hp : l.Perm l') : MapIs base w mb n D l' :=
  ⟨h.own, h.size.trans hp.length_eq, (List.Perm.pairwise_iff (fun h e => h e.symm) hp).1 h.apart, fun o ho => h.ok o (hp.mem_iff.2 ho), fun k nm hk hn => (h.has k nm hk hn).trans (by
    rw [Bool.eq_iff_iff, List.any_eq_true, List.any_eq_true]
    exact ⟨fun ⟨x, hx, hh⟩ => ⟨x, hp.mem_iff.1 hx, hh⟩, fun ⟨x, hx, hh⟩ => ⟨x, hp.mem_iff.2 hx, hh⟩⟩), fun o ho => h.ats o (hp.mem_iff.2 ho)⟩
theorem MapIs.few {base : Nat} {w : World} {mb n : Nat} {D : DataW Value} {l : List Ob} (h : MapIs base w mb n D l) : l.length ≤ n := by
  rw [← h.size]
  obtain ⟨es, c, _, _, h1, h2⟩ := h.own
  rw [h2]
  have : Maps.size (DataW.map ((es.toList.map (WideElems.rg Tryz.prog KT hR)).foldr DataW.insert [])) = es.size := by simp [Maps.size, Go.length_sorted]
  omega

theorem MapIs.empty (base : Nat) (w : World) (mb : Nat) (hb : w.heap[mb]? = some (.map #[] 0)) : MapIs base w mb 0 (.map []) [] := by
  obtain ⟨⟨es, c, q1, q2⟩, h2, h3, h4, h5, h6⟩ := MapIs.made base w
  rw [heap_alloc_new] at q1
  cases q1
  exact ⟨⟨#[], 0, hb, q2⟩, h2, h3, h4, h5, fun o ho => by cases ho⟩

end Go.Proofs.YtbkoepghmcdnhaaGreatDoor
/- A store tells what its model has. -/
namespace Go.Proofs.YtbkoepghmcdnhaaGreatDoor
open Go.RowKit Go.Shelf Go.Lib Go.Sort
open Go.Joins (cell_of_block unfrozen_of_block block_setCell)
set_option linter.unusedVariables false
set_option linter.unusedSimpArgs false
set_option maxRecDepth 20000

/-- The marks that a function's ranges over functions leave. -/
def mark (D : Nat) : Deferred := { target := .collected D, args := #[] }
theorem leaves_marks {F : Fence} {n : Nat} {P : Program} {fn : Func} {tmps : Array Value} {R : Ending → World → Prop} : ∀ (Ds : List Nat) (w : World), Ds.Pairwise (· ≠ ·) → (∀ D ∈ Ds, w.heap[D]? = some (.deferred (some []))) →
    (∀ w', Chg Ds w w' → LeavesIn F n P fn tmps R [] .returning w') → LeavesInM F n P fn tmps R (Ds.map mark) .returning w
  | [], w, _, _, h => h w (Chg.refl _ _)
  | D :: Ds, w, hp, hm, h => by
    have hp2 := List.pairwise_cons.1 hp
    have h0 := hm D List.mem_cons_self
    refine ⟨by simp, .inl ⟨D, _, rfl, run_takeDeferred h0, ?_⟩⟩
    have t := Chg.ofGrown (S := [D]) (grownBy_putObj' w D (.deferred none)) (fun g e => .inl (by cases e; simp))
    refine leaves_marks Ds _ hp2.2 (fun D' hD' => ?_) (fun w' c => h w' ?_)
    · have := hm D' (List.mem_cons_of_mem _ hD')
      exact (t.block D' (Array.getElem?_eq_some_iff.1 this).1 (by simp; exact fun e => hp2.1 D' hD' e.symm)).trans this
    · refine (t.less (S' := D :: Ds) (fun g hg => .inl (by rw [List.mem_singleton] at hg; subst hg; exact List.mem_cons_self))).trans c (fun g hg => .inl (List.mem_cons_of_mem _ hg))
/-- These blocks hold these. -/
def Lie (X : List (Nat × Obj)) (W : World) : Prop := ∀ p ∈ X, W.heap[p.1]? = some p.2
theorem Lie.chg {X : List (Nat × Obj)} {W W' : World} {T : List Nat} (h : Lie X W) (c : Chg T W W') (hT : ∀ p ∈ X, p.1 ∉ T) : Lie X W' := fun p hp => (c.block p.1 (Array.getElem?_eq_some_iff.1 (h p hp)).1 (hT p hp)).trans (h p hp)
theorem Lie.below {X : List (Nat × Obj)} {W W' : World} (h : Lie X W) (b : Below W.heap.size W W') : Lie X W' := h.chg (T := []) (Chg.ofBelow b []) (fun _ _ hm => by cases hm)
theorem lie_bears {β : Type} {B : Nat} (X : List (Nat × Obj)) (hX : ∀ p ∈ X, p.1 < B) : Bears B (fun (_ : β) W => Lie X W) := fun s A A' T h c hT => h.chg c (fun p hp hm => by have := (hT p.1 hm).1; have := hX p hp; omega)
theorem block_bears {β : Type} {B g : Nat} (q : β → Obj) (hg : g < B) : Bears B (fun s W => W.heap[g]? = some (q s)) := fun s A A' T h c hT => (c.block g (Array.getElem?_eq_some_iff.1 h).1 (fun hm => by have := (hT g hm).1; omega)).trans h

def lastN (pre : List Co) : ByteArray := match pre.getLast? with | none => ⟨#[]⟩ | some x => x.1.2.name
theorem lastN_snoc (pre : List Co) (x : Co) : lastN (pre ++ [x]) = x.1.2.name := by unfold lastN; rw [List.getLast?_concat]
/-- How many are of a kind below. -/
def cntTo (k : Nat) (l : List Ob) : Nat := (l.filter (fun o => decide (o.kind < (k : Int)))).length
theorem cnt_next (k : Nat) (l : List Ob) (h0 : ∀ o ∈ l, 0 ≤ o.kind) : cntTo (k + 1) l = cntTo k l + (listed (k : Int) l).length := by
  rw [(listed_perm (k : Int) l).length_eq]
  unfold cntTo
  induction l with
  | nil => rfl
  | cons x l ih =>
    have ih := ih (fun o ho => h0 o (List.mem_cons_of_mem _ ho))
    rw [List.filter_cons, List.filter_cons, List.filter_cons]
    by_cases h1 : x.kind < (k : Int)
    · have e1 : decide (x.kind < (k : Int)) = true := decide_eq_true h1
      have e2 : decide (x.kind < ((k + 1 : Nat) : Int)) = true := decide_eq_true (by omega)
      have e3 : decide (x.kind = (k : Int)) = false := decide_eq_false (by omega)
      rw [e1, e2, e3]
      simp only [if_true, Bool.false_eq_true, if_false, List.length_cons]
      omega
    · have e1 : decide (x.kind < (k : Int)) = false := decide_eq_false h1
      by_cases h3 : x.kind = (k : Int)
      · have e2 : decide (x.kind < ((k + 1 : Nat) : Int)) = true := decide_eq_true (by omega)
        have e3 : decide (x.kind = (k : Int)) = true := decide_eq_true h3
        rw [e1, e2, e3]
        simp only [if_true, Bool.false_eq_true, if_false, List.length_cons]
        omega
      · have e2 : decide (x.kind < ((k + 1 : Nat) : Int)) = false := decide_eq_false (by omega)
        have e3 : decide (x.kind = (k : Int)) = false := decide_eq_false h3
        rw [e1, e2, e3]
        simp only [Bool.false_eq_true, if_false]
        exact ih
theorem cnt_none (l : List Ob) (h0 : ∀ o ∈ l, 0 ≤ o.kind) : cntTo 0 l = 0 := by
  unfold cntTo
  rw [List.filter_eq_nil_iff.2 (fun o ho => by have := h0 o ho; simp; omega)]
  rfl
theorem cnt_all (l : List Ob) (h0 : ∀ o ∈ l, o.kind ≤ 4) : cntTo 5 l = l.length := by
  unfold cntTo
  rw [List.filter_eq_self.2 (fun o ho => by have := h0 o ho; simp; omega)]
theorem ok_rng {o : Ob} (h : OkK o) : 0 ≤ o.kind ∧ o.kind ≤ 4 := by
  have := h.chk
  cases hw : withinB o.kind 0 4 with
  | true => unfold withinB at hw; simpa using hw
  | false => rw [chkE, if_pos hw] at this; cases this
theorem ok_named {o : Ob} (h : OkK o) : by_ o.name ≠ [] := by
  have := h.chk
  intro e
  have h0 : o.name.size = 0 := by
    have : o.name.data.toList = [] := e
    have := congrArg List.length this
    simpa using this
  have hn : nameB o.name = false := by
    unfold nameB
    rw [h0]
    rfl
  cases hw : withinB o.kind 0 4 with
  | true => rw [chkE, if_neg (by rw [hw]; simp), if_pos hn] at this; cases this
  | false => rw [chkE, if_pos hw] at this; cases this
/-- Of names that rise each is above the last one. -/
theorem last_below {l : List Ob} (hp : l.Pairwise (fun a b => Key a ≠ Key b)) {k : Int} {pre : List Co} {o : Ob} (hpre : pre.map (·.1.2) = (listed k l).take pre.length) (ho : (listed k l)[pre.length]? = some o) (hn : by_ o.name ≠ []) : 0 < compareBytes (by_ o.name) (by_ (lastN pre)) := by
  rcases List.eq_nil_or_concat pre with rfl | ⟨pre', x, rfl⟩
  · have : by_ (lastN []) = [] := rfl
    rw [this]
    cases h : by_ o.name with
    | nil => exact absurd h hn
    | cons a r => simp [compareBytes]
  · rw [List.concat_eq_append] at hpre ho ⊢
    rw [lastN_snoc]
    have hx : (listed k l)[pre'.length]? = some x.1.2 := by
      have h1 : ((pre' ++ [x]).map (·.1.2))[pre'.length]? = some x.1.2 := by simp
      rw [hpre, List.getElem?_take_of_lt (by simp)] at h1
      exact h1
    have hup := listed_up hp k
    rw [List.pairwise_iff_getElem] at hup
    obtain ⟨h1, h2⟩ := List.getElem?_eq_some_iff.1 hx
    obtain ⟨h3, h4⟩ := List.getElem?_eq_some_iff.1 ho
    have := hup _ _ h1 h3 (by simp)
    rw [h2, h4] at this
    have := rises_iff.1 this
    have := cb_swap (by_ x.1.2.name) (by_ o.name)
    omega
end Go.Proofs.YtbkoepghmcdnhaaGreatDoor
/- A store tells what its model has: the walk. -/
namespace Go.Proofs.YtbkoepghmcdnhaaGreatDoor
open Go.RowKit Go.Shelf Go.Lib Go.Sort
open Go.Joins (cell_of_block unfrozen_of_block block_setCell)
set_option linter.unusedVariables false
set_option linter.unusedSimpArgs false
set_option maxRecDepth 20000
attribute [local go_sem] Oper.semAt_some

theorem results_cellB {fn : Func} {p : Tmp} (h : fn.results = #[.cell p 4]) (tmps : Array Value) (w : World) (g : Nat) {b : Bool} (hp : tmps[p]? = some (.pointer (some ⟨g, 0, none⟩))) (hg : w.heap[g]? = some (.cells #[.bool b] 4 (0, 0))) :
    (results fn tmps).run Tryz.prog w = .ok (.bool b) w := by
  have hc : w.cell? ⟨g, 0, none⟩ = some (.bool b) := cell_of_block hg 0
  have hl : (loadVar 4 ⟨g, 0, none⟩).run Tryz.prog w = .ok (.bool b) w := by
    go_simp
  simp [results, h, hp, asAddr, hl]
theorem zip_one (p : Tmp) (v : Value) (t : Array Value) : (((#[p] : Array Tmp).zip #[v]).foldl (fun t (p, v) => t.setIfInBounds p v) t) = t.setIfInBounds p v := by simp
def slot12 (a : Act) : Nat := match a.tmps.getD 12 undef with | .int _ k => k.toNat | _ => 0

end Go.Proofs.YtbkoepghmcdnhaaGreatDoor
/- Rows copied; events compared; two stores side by side. -/
namespace Go.Proofs.YtbkoepghmcdnhaaGreatDoor
open Go.RowKit Go.Shelf Go.Lib Go.Sort
open Go.Joins (cell_of_block unfrozen_of_block block_setCell)
set_option linter.unusedVariables false
set_option linter.unusedSimpArgs false
set_option maxRecDepth 20000

theorem neq_ev (e : Ev) (w : World) : (binOp .neq ET (.agg #[.int .i64 e.what, .int .i64 e.kind, .string e.name, .int .u64 (e.ver : Int)]) (.agg #[.int .i64 e.what, .int .i64 e.kind, .string e.name, .int .u64 (e.ver : Int)])).run Tryz.prog w = .ok (.bool false) w := by
  have u3 := Tryz.underlying3
  have a3 := Tryz.isAgg3
  have z3 := Tryz.sizeOf3
  have u9 := Tryz.underlying9
  have a9 := Tryz.isAgg9
  have z9 := Tryz.sizeOf9
  have u23 := Tryz.underlying29
  have a23 := Tryz.isAgg29
  have z23 := Tryz.sizeOf29
  have hS : Tryz.prog.underlying ET = some (.struct (Tryz.prog.fieldsOf ET)) := by kernel_rfl
  have hp : Tryz.prog.stoodInHeld ET = false := by kernel_rfl
  rw [run_neq_struct, show (10000 : Nat) = 9999 + 1 from rfl, run_equalIn_agg w 9999 ET _ _ hS hp]
  simp only [Program.fieldsOf, Tryz.underlying113]
  go_simp

section
variable {ops : Array Oper} {Q : Exit → Act → World → Prop} {w : World} {o : Oper} {a : Act} {K : Act → World → Prop}
end
theorem Move.evs {l l' : List Ob} {hist hist' : List Ev} (h : Move l hist l' hist') : hist'.length ≤ hist.length + 1 := by
  cases h <;> simp
end Go.Proofs.YtbkoepghmcdnhaaGreatDoor
/- A range over List whose round may write: in the store, and in what was made behind its start (watch's StaysC .. list_tellsC, for any layer). -/
namespace Go.Proofs.YtbkoepghmcdnhaaGreatDoor.Lc
open Go.RowKit Go.Shelf Go.Lib Go.Sort
open Go.Joins (cell_of_block unfrozen_of_block block_setCell)
set_option linter.unusedVariables false
set_option linter.unusedSimpArgs false
set_option maxRecDepth 20000

/-- A round leaves what nobody writes, and what lies from B to C. -/
structure StaysC (base B C : Nat) (W W' : World) : Prop where
  fx : Fx base W W'
  rest : ∀ k, B ≤ k → k < C → k < W.heap.size → W'.heap[k]? = W.heap[k]?
theorem StaysC.refl (base B C : Nat) (W : World) : StaysC base B C W W := ⟨Fx.refl _ _, fun _ _ _ _ => rfl⟩
theorem StaysC.trans {base B C : Nat} {a b c : World} (h : StaysC base B C a b) (k : StaysC base B C b c) : StaysC base B C a c :=
  ⟨h.fx.trans k.fx, fun g h1 h3 h2 => (k.rest g h1 h3 (Nat.lt_of_lt_of_le h2 h.fx.size)).trans (h.rest g h1 h3 h2)⟩
theorem StaysC.ofBelow {base B C : Nat} {W W' : World} (h : Below W.heap.size W W') : StaysC base B C W W' := ⟨Fx.ofBelow h, fun k _ _ hk => h.block k hk⟩
theorem StaysC.ofChg {base B C : Nat} {T : List Nat} {W W' : World} (h : Chg T W W') (hp : ∀ g ∈ T, (g < B ∨ C ≤ g) ∧ (g < W.heap.size → ¬ Prot base W g)) : StaysC base B C W W' :=
  ⟨h.fx (fun g hg => (hp g hg).2), fun k h1 h3 h2 => h.block k h2 (fun hm => by have := (hp k hm).1; omega)⟩

/-- An invariant that bears new memory, and the turns of loops' records from B on. -/
def BearsL {β : Type} (B : Nat) (I : β → World → Prop) : Prop := ∀ s A A' T, I s A → Chg T A A' → (∀ g ∈ T, B ≤ g ∧ ∃ r : Loop, A.heap[g]? = some (.loop r)) → I s A'
theorem loop_cells {A : World} {g : Nat} {cs : Array Value} {T : TypeId} {fz : Nat × Nat} (h1 : ∃ r : Loop, A.heap[g]? = some (.loop r)) (h3 : A.heap[g]? = some (.cells cs T fz)) : False := by
  obtain ⟨r, h1⟩ := h1
  rw [h1] at h3
  cases h3
/-- A turn of loops' records, from the base on, writes into nothing that is kept. -/
theorem Chg.loops {T : List Nat} {base : Nat} {A A' : World} (c : Chg T A A') (hT : ∀ g ∈ T, base ≤ g ∧ ∃ r : Loop, A.heap[g]? = some (.loop r)) : Fx base A A' := c.fx (fun g hg _ hp => by
  obtain ⟨hb, hr⟩ := hT g hg
  rcases hp with hp | ⟨cs, T', fz, h6, _⟩
  · omega
  · exact loop_cells hr h6)
/-- A store bears them. -/
theorem StIs.loops {base : Nat} {A A' : World} {S T : List Nat} {sp : Nat} {hist : List Ev} {most : Int} {l : List Ob} (h : StIs base A S sp most l hist) (c : Chg T A A') (hT : ∀ g ∈ T, base ≤ g ∧ ∃ r : Loop, A.heap[g]? = some (.loop r)) : StIs base A' S sp most l hist := by
  refine h.stay (fun g hg => ?_) (Chg.loops c hT)
  refine c.block g (h.prot g hg).2.1 (fun hm => ?_)
  obtain ⟨_, hr⟩ := hT g hm
  obtain ⟨mb, D, ev, kept, h⟩ := h
  have e := h.fp
  rw [e] at hg
  simp only [List.mem_cons, Option.mem_toList] at hg
  rcases hg with rfl | rfl | hg
  · exact loop_cells hr h.blk
  · obtain ⟨es, c', h1, _⟩ := h.map.own
    obtain ⟨r, hr⟩ := hr
    rw [hr] at h1
    cases h1
  · rcases h.evs.2 with ⟨rfl, _⟩ | ⟨g', cap, cur, rfl, hb, h2, _⟩
    · cases hg
    · simp [Value.ownBlock] at hg
      subst hg
      exact loop_cells hr h2

/-- How a round may be left. -/
def toldPostC {α : Type} (base B C : Nat) (I : Nat → List α → World → Prop) (Ix : Code → Nat → List α → World → Prop) (xs : List α) (W : World) : Exit → Act → World → Prop
  | .normal, _, W' => StaysC base B C W W' ∧ I C xs W'
  | .ret, _, W' => StaysC base B C W W' ∧ Ix .ret C xs W'
  | .exit id, _, W' => StaysC base B C W W' ∧ Ix (.exit id) C xs W'
  | .goto t, _, W' => StaysC base B C W W' ∧ Ix (.goto t) C xs W'
  | .panic _, _, _ => False
  | .outgrown, _, _ => False

/-- An iterator's contract: of what it hands on behind these values this is known. -/
def TellsC {α : Type} (n : Nat) (P : Program) (gf : Nat) (lb : Array Value) (encs : α → Array Value) (Gv : List α → α → World → Prop) (S Sp : List α → Prop) (base : Nat) (w : World) : Prop :=
  ∀ (l : Nat) (J Jx : Nat → List α → World → Prop) (W : World), Below w.heap.size w W → (∀ C, BearsL W.heap.size (J C)) →
    (∀ C pre x W1, W.heap.size ≤ C → C ≤ W1.heap.size → J C pre W1 → Gv pre x W1 → YieldAt Fence.wide (n - 1) P l (encs x) W1 fun e W' =>
      (e = .returned (.bool true) ∧ J C (pre ++ [x]) W' ∧ StaysC base W.heap.size C W1 W') ∨ (e = .returned (.bool false) ∧ Jx C (pre ++ [x]) W')) →
    (∀ C, W.heap.size ≤ C → J C [] W) →
    CallsIn Fence.wide n P gf (#[.func (.yield l) #[] #[]] ++ lb) W fun e W' => (∃ v, e = .returned v) ∧ ((∃ C xs, W.heap.size ≤ C ∧ S xs ∧ J C xs W') ∨ (∃ C pre, Sp pre ∧ Jx C pre W'))

/-- .. and the caller's law. -/
theorem wpIn_toldC {α : Type} {n : Nat} {P : Program} {g : Operand} {ps : Array Tmp} {assign body : Code} {Q : Exit → Act → World → Prop} {a : Act} {w : World}
    (h1 : 1 ≤ n) {gf : Nat} {lb : Array Value} (hg : a.eval g = .func (.func gf) #[] lb) (eg : ∀ args w, (callFunc gf args).run P w = .ok (.enter gf args) w)
    {encs : α → Array Value} {Gv : List α → α → World → Prop} {S Sp : List α → Prop} {base : Nat} {w0 : World} (hseq : TellsC (n - 1) P gf lb encs Gv S Sp base w0)
    (hb0 : Below w0.heap.size w0 w) (hps : ∀ x, (encs x).size = ps.size) (hbase : base ≤ w.heap.size) (hG : ∀ pre x A A', Gv pre x A → Fx base A A' → Gv pre x A')
    (I : Nat → List α → World → Prop) (Ix : Code → Nat → List α → World → Prop) (hI : ∀ C, BearsL w.heap.size (I C)) (hIx : ∀ c C, BearsL w.heap.size (Ix c C)) (h0 : ∀ C, w.heap.size ≤ C → I C [] w)
    (hround : ∀ (l C : Nat) (pre : List α) (x : α) (W : World), I C pre W → Gv pre x W → w.heap.size ≤ l → l < C → C ≤ W.heap.size →
      assign.wpIn (Fence.wide.inRound l) (n - 1 - 1) P (Exit.then (fun a₁ W₁ => StaysC base w.heap.size C W W₁ ∧ ∀ W₂, Chg [l] W₁ W₂ → Fx base W₁ W₂ →
        body.wpIn (Fence.wide.inRound l) (n - 1 - 1) P (toldPostC base w.heap.size C I Ix (pre ++ [x]) W₂) a₁ W₂) (fun _ _ _ => False))
        { tmps := (ps.zip (encs x)).foldl (fun t (p, v) => t.setIfInBounds p v) a.tmps, defers := [] } W)
    (hdone : ∀ (D : Nat) (xs : List α) (W : World), w.heap.size ≤ D → S xs → (∃ C, w.heap.size ≤ C ∧ I C xs W) → W.heap[D]? = some (.deferred (some [])) → Q .normal { a with defers := { target := .collected D, args := #[] } :: a.defers } W)
    (hstop : ∀ (D : Nat) (c : Code) (pre : List α) (W : World), w.heap.size ≤ D → Sp pre → (∃ C, Ix c C pre W) → W.heap[D]? = some (.deferred (some [])) → c.wpIn Fence.wide n P Q { a with defers := { target := .collected D, args := #[] } :: a.defers } W) :
    (Code.rangeFunc g ps assign body).wpIn Fence.wide n P Q a w := by
  refine wpIn_rangeFunc (fun fn hfn => ?_)
  -- the record of this loop, at l; the mark's block, at D
  obtain ⟨D, hD⟩ : ∃ D, D = w.heap.size := ⟨_, rfl⟩
  obtain ⟨rc, hrc⟩ : ∃ rc : LoopState → Option Code → Loop, rc = fun st pe => { state := st, pending := pe, fn, tmps := a.tmps, params := ps, assign, body, defers := w.heap.size } := ⟨_, rfl⟩
  obtain ⟨W1, hW1⟩ : ∃ W1, (w.alloc (.deferred (some []))).alloc (.loop (rc .ready none)) = W1 := ⟨_, rfl⟩
  have z1 : W1.heap.size = D + 2 := by rw [← hW1, hD]; simp
  have g1 : Gr w W1 := hW1 ▸ ((Gr.refl w).alloc _).alloc _
  have rec1 : W1.heap[D + 1]? = some (.loop (rc .ready none)) := by
    have := heap_alloc_new (w.alloc (.deferred (some []))) (.loop (rc .ready none))
    rw [World.size_alloc, ← hD] at this
    rwa [hW1] at this
  have mark1 : W1.heap[D]? = some (.deferred (some [])) := by
    have g2 : Gr (w.alloc (.deferred (some []))) W1 := hW1 ▸ (Gr.refl _).alloc _
    rw [g2.heap (by rw [hD]; simp), hD]
    exact heap_alloc_new w _
  obtain ⟨J, hJ⟩ : ∃ J : Nat → List α → World → Prop, J = fun C pre W => I C pre W ∧ W.heap[D + 1]? = some (.loop (rc .ready none)) ∧ W.heap[D]? = some (.deferred (some [])) := ⟨_, rfl⟩
  obtain ⟨Jx, hJx⟩ : ∃ Jx : Nat → List α → World → Prop, Jx = fun C pre W => ∃ c, Ix c C pre W ∧ W.heap[D + 1]? = some (.loop (rc .done (some c))) ∧ W.heap[D]? = some (.deferred (some [])) := ⟨_, rfl⟩
  have hturn : ∀ {A A' : World} {r : Loop}, Chg [D + 1] A A' → A.heap[D + 1]? = some (.loop r) → True → (∀ g ∈ [D + 1], w.heap.size ≤ g ∧ ∃ r : Loop, A.heap[g]? = some (.loop r)) := fun _ h1 _ g hg => by
    rw [List.mem_singleton] at hg
    subst hg
    exact ⟨by omega, _, h1⟩
  have bJ : ∀ C, BearsL W1.heap.size (J C) := fun C => by
    rw [hJ]
    intro s A A' T hs c hT
    have off : ∀ k, k < D + 2 → k ∉ T := fun k hk hm => by have := (hT k hm).1; omega
    exact ⟨hI C s A A' T hs.1 c (fun g hg => ⟨by have := (hT g hg).1; omega, (hT g hg).2⟩), (c.block _ (Array.getElem?_eq_some_iff.1 hs.2.1).1 (off _ (by omega))).trans hs.2.1, (c.block _ (Array.getElem?_eq_some_iff.1 hs.2.2).1 (off _ (by omega))).trans hs.2.2⟩
  have start : ∀ C, W1.heap.size ≤ C → J C [] W1 := fun C hC => by
    rw [hJ]
    exact ⟨hI C [] w W1 [] (h0 C (by omega)) (Chg.ofGr g1 []) (fun g hg => by cases hg), rec1, mark1⟩
  refine ⟨D + 1, [{ target := .collected D, args := #[] }], W1, { target := .fn (.func gf) lb, args := #[.func (.yield (D + 1)) #[] #[]] }, W1, gf, #[.func (.yield (D + 1)) #[] #[]] ++ lb, W1, ?_, ?_, fun f' _ => trivial, ?_, fun _ => h1, ?_⟩
  · rw [← hW1, hrc, hD]
    exact run_enterLoop_outer _ _ _ _ _
  · simp only [resolve, hg]
    simp [go_sem]
  · simp [invoke, go_sem, eg]
  · refine (hseq (D + 1) J Jx W1 (hb0.trans (g1.below.mono hb0.size)) bJ (fun C pre x W hC1 hC2 hj hgv => ?_) start).mono ?_
    · rw [hJ] at hj
      obtain ⟨hi, hl, hk⟩ := hj
      have hll := (Array.getElem?_eq_some_iff.1 hl).1
      have hy := run_yield (P := P) (args := encs x) hl (by rw [hrc]; exact hps x)
      rw [hrc] at hy
      refine ⟨fn, _, assign, body, hy, roundIn_of_wpIn hfn (wpIn_mono (hround (D + 1) C pre x W hi hgv (by omega) (by omega) hC2) ?_)⟩
      intro e a₁ W₁ he
      cases e with
      | normal =>
        obtain ⟨st1, hbody⟩ := he
        have hl1 : W₁.heap[D + 1]? = some (.loop (rc .ready none)) := (st1.rest _ (by omega) (by omega) hll).trans hl
        have hk1 : W₁.heap[D]? = some (.deferred (some [])) := (st1.rest _ (by omega) (by omega) (Array.getElem?_eq_some_iff.1 hk).1).trans hk
        refine ⟨_, run_beginRound hl1 (by rw [hrc]), ?_⟩
        obtain ⟨W₂, hW₂⟩ : ∃ W₂, W₁.putObj (D + 1) (.loop { rc .ready none with state := .busy }) = W₂ := ⟨_, rfl⟩
        have t2 : Chg [D + 1] W₁ W₂ := hW₂ ▸ turn_chg _ _ _
        have hl2 : W₂.heap[D + 1]? = some (.loop { rc .ready none with state := .busy }) := by rw [← hW₂]; exact World.putObj_heap_same (Array.getElem?_eq_some_iff.1 hl1).1
        have hk2 : W₂.heap[D]? = some (.deferred (some [])) := (t2.block _ (Array.getElem?_eq_some_iff.1 hk1).1 (by simp)).trans hk1
        have prot2 : ∀ {A : World} {o : Obj}, A.heap[D + 1]? = some o → o.isCells = false → ∀ g ∈ [D + 1], g < A.heap.size → ¬ Prot base A g := by
          intro A o ho hc g hg _ hp
          rw [List.mem_singleton] at hg
          subst hg
          rcases hp with hp | ⟨cs, T, fz, h3, _⟩
          · omega
          · rw [ho] at h3
            cases h3
            cases hc
        have s2 : Fx base W₁ W₂ := t2.fx (prot2 hl1 rfl)
        rw [hW₂]
        refine wpIn_mono (hbody W₂ t2 s2) ?_
        -- the round's end
        have fin : ∀ (jump : Option Code) (W₃ : World), StaysC base w.heap.size C W₂ W₃ → ∃ W₄, (Instr.endRound (D + 1) jump).run P W₃ = .ok (.bool jump.isNone) W₄ ∧ Chg [D + 1] W₃ W₄ ∧ W₃.heap[D + 1]? = some (.loop { rc .ready none with state := .busy }) ∧
            W₄.heap[D + 1]? = some (.loop (rc (if jump.isNone then .ready else .done) jump)) ∧ W₄.heap[D]? = some (.deferred (some [])) ∧ StaysC base W1.heap.size C W W₄ := fun jump W₃ st3 => by
          have hl3 := (st3.rest _ (by omega) (by omega) (Array.getElem?_eq_some_iff.1 hl2).1).trans hl2
          have hk3 := (st3.rest _ (by omega) (by omega) (Array.getElem?_eq_some_iff.1 hk2).1).trans hk2
          have hr := run_endRound (P := P) jump hl3
          obtain ⟨W₄, hW₄⟩ : ∃ W₄, W₃.putObj (D + 1) (.loop (rc (if jump.isNone then .ready else .done) jump)) = W₄ := ⟨_, rfl⟩
          have t4 : Chg [D + 1] W₃ W₄ := hW₄ ▸ turn_chg _ _ _
          refine ⟨W₄, ?_, t4, hl3, ?_, ?_, ?_⟩
          · rw [hr, ← hW₄, hrc]
          · rw [← hW₄]; exact World.putObj_heap_same (Array.getElem?_eq_some_iff.1 hl3).1
          · exact (t4.block _ (Array.getElem?_eq_some_iff.1 hk3).1 (by simp)).trans hk3
          · refine ⟨st1.fx.trans (s2.trans (st3.fx.trans (t4.fx (prot2 hl3 rfl)))), fun k h3 hkC h4 => ?_⟩
            have z5 := st1.fx.size
            have z6 := s2.size
            have z7 := st3.fx.size
            rw [t4.block k (by omega) (by simp; omega), st3.rest k (by omega) hkC (by omega), t2.block k (by omega) (by simp; omega), st1.rest k (by omega) hkC h4]
        intro e₂ a₃ W₃ hp
        cases e₂ with
        | normal =>
          obtain ⟨st3, hi3⟩ := hp
          obtain ⟨W₄, hr, t4, hl3, hl4, hk4, st4⟩ := fin none W₃ st3
          exact ⟨_, W₄, hr, .inl ⟨rfl, by rw [hJ]; exact ⟨hI _ _ _ _ _ hi3 t4 (hturn t4 hl3 trivial), hl4, hk4⟩, st4⟩⟩
        | ret =>
          obtain ⟨st3, hi3⟩ := hp
          obtain ⟨W₄, hr, t4, hl3, hl4, hk4, st4⟩ := fin (some .ret) W₃ st3
          exact ⟨_, W₄, hr, .inr ⟨rfl, by rw [hJx]; exact ⟨_, hIx _ _ _ _ _ _ hi3 t4 (hturn t4 hl3 trivial), hl4, hk4⟩⟩⟩
        | exit id =>
          obtain ⟨st3, hi3⟩ := hp
          obtain ⟨W₄, hr, t4, hl3, hl4, hk4, st4⟩ := fin (some (.exit id)) W₃ st3
          exact ⟨_, W₄, hr, .inr ⟨rfl, by rw [hJx]; exact ⟨_, hIx _ _ _ _ _ _ hi3 t4 (hturn t4 hl3 trivial), hl4, hk4⟩⟩⟩
        | goto t =>
          obtain ⟨st3, hi3⟩ := hp
          obtain ⟨W₄, hr, t4, hl3, hl4, hk4, st4⟩ := fin (some (.goto t)) W₃ st3
          exact ⟨_, W₄, hr, .inr ⟨rfl, by rw [hJx]; exact ⟨_, hIx _ _ _ _ _ _ hi3 t4 (hturn t4 hl3 trivial), hl4, hk4⟩⟩⟩
        | panic ch => exact hp.elim
        | outgrown => exact hp.elim
      | exit id => exact he.elim
      | goto t => exact he.elim
      | ret => exact he.elim
      | panic chain => exact he.elim
      | outgrown => exact he.elim
    · rintro e W2 ⟨⟨v, rfl⟩, (⟨C, xs, hC, hS, hj⟩ | ⟨C, pre, hSp, hj⟩)⟩
      · rw [hJ] at hj
        obtain ⟨hi, hl, hk⟩ := hj
        have t := turn_chg W2 (D + 1) (.loop { rc .ready none with state := .exhausted })
        exact ⟨none, _, by have := run_endLoop (P := P) hl (by rw [hrc]; simp); rw [hrc] at this ⊢; exact this, hdone D xs _ (by omega) hS ⟨C, by omega, hI _ _ _ _ _ hi t (hturn t hl trivial)⟩ ((t.block _ (Array.getElem?_eq_some_iff.1 hk).1 (by simp)).trans hk)⟩
      · rw [hJx] at hj
        obtain ⟨c, hi, hl, hk⟩ := hj
        have t := turn_chg W2 (D + 1) (.loop { rc .done (some c) with state := .exhausted })
        exact ⟨some c, _, by have := run_endLoop (P := P) hl (by rw [hrc]; simp); rw [hrc] at this ⊢; exact this, hstop D c pre _ (by omega) hSp ⟨C, hIx _ _ _ _ _ _ hi t (hturn t hl trivial)⟩ ((t.block _ (Array.getElem?_eq_some_iff.1 hk).1 (by simp)).trans hk)⟩
set_option maxHeartbeats 8000000 in
theorem list_tellsC (n base : Nat) (w : World) (S : List Nat) (sp b : Nat) (most k : Int) (l : List Ob) (hist : List Ev) (hst : StIs base w S sp most l hist) (h1 : w.cell? ⟨b, 0, none⟩ = some (.pointer (some ⟨sp, 0, none⟩))) (h2 : w.cell? ⟨b + 1, 0, none⟩ = some (.int .i64 k)) (hb : b + 1 < w.heap.size) (hl : l.length ≤ 1000000) :
    TellsC n Tryz.prog 14 #[.pointer (some ⟨b, 0, none⟩), .pointer (some ⟨b + 1, 0, none⟩)] (fun x : Co => #[.agg x.1.1.1]) (ListGv base k l) (fun xs => xs.map (·.1.2) = listed k l) (fun pre => pre ≠ []) base w := fun l' J Jx W hW bJ hY h0 => by
  have mixed : Tryz.prog.follows .mixedOrders = true := by kernel_rfl
  have c1 : W.cell? ⟨b, 0, none⟩ = some (.pointer (some ⟨sp, 0, none⟩)) := (hW.cell (p := ⟨b, 0, none⟩) (by show b < _; omega)).trans h1
  have c2 : W.cell? ⟨b + 1, 0, none⟩ = some (.int .i64 k) := (hW.cell (p := ⟨b + 1, 0, none⟩) hb).trans h2
  have CA := Lib.hid (all_any base W S sp most k l hist (hst.gr hW) hl)
  have HJ := Lib.hid (And.intro h0 (And.intro bJ hY))
  have hbW : base ≤ W.heap.size := by
    obtain ⟨mb, D, ev, kept, h⟩ := hst
    have := h.bw
    have := hW.size
    omega
  have HBW := Lib.hid hbW
  obtain ⟨L, hL⟩ : ∃ L, L = (listed k l).length := ⟨_, rfl⟩
  have HL : Hid (L = (listed k l).length ∧ L ≤ 1000000) := ⟨hL, by have := listed_len (l := l) k; omega⟩
  clear h0 hY hW h1 h2 hst bJ hb hL hbW hl
  refine callsIn_wide.2 ?_
  show Calls Tryz.prog 14 #[.func (.yield l') #[] #[], .pointer (some ⟨b, 0, none⟩), .pointer (some ⟨b + 1, 0, none⟩)] W _
  go_enter Tryz.func14, Tryz.ntmps14
  go_wp2_with fail
  refine CA.out.mono ?_
  rintro e w1 ⟨⟨v, cl, rfl, hcl, ⟨q, c, rfl, hrows⟩, hkept⟩, bw1⟩
  have hlen : cl.length = L := by rw [HL.out.1, ← hcl, List.length_map]
  have hlM : L ≤ 1000000 := HL.out.2
  rw [hlen]
  have HC := Lib.hid (And.intro hcl (And.intro hrows (And.intro hkept (And.intro bw1 hlen))))
  clear hcl hrows hkept bw1 hlen CA c1 c2
  go_wp2_with fail
  go_loopg [10] L (fun g vi wr => ∃ j : Nat, vi = .int .i64 (j : Int) ∧ j ≤ L ∧ L - j ≤ g ∧ Hid (∃ pre : List Co, pre.length = j ∧ pre.map (·.1.2) = (listed k l).take j ∧ J w1.heap.size pre wr ∧ StaysC base W.heap.size w1.heap.size w1 wr))
  case atStart => exact ⟨0, rfl, Nat.zero_le _, by omega, [], rfl, by simp, HJ.out.2.1 _ [] W w1 [] (HJ.out.1 _ HC.out.2.2.2.1.size) (Chg.ofBelow HC.out.2.2.2.1 []) (fun g hg => by cases hg), StaysC.refl _ _ _ _⟩
  case round =>
    obtain ⟨j, rfl, hj1, hj2, HP⟩ := hrel
    by_cases hlt : j < L
    · obtain ⟨pre, hpl, hpre, hj, hst⟩ := HP.out
      obtain ⟨hcl, hrows, hkept, bw1, hlen⟩ := HC.out
      obtain ⟨x, hx⟩ : ∃ x, cl[j]? = some x := ⟨cl[j]'(by omega), List.getElem?_eq_getElem (by omega)⟩
      obtain ⟨g, rfl, hgB, hgl, hra⟩ := hrows j x hx
      have hra' : wr.rangeAt g (j * 47) x.1.1.1.toList := fun t u hu => (World.cell?_of_block (hst.rest g hgB hgl hgl)).trans (hra t u hu)
      have LD := Lib.hid (load_at47 (c := x.1.1) hra')
      have hkx : Kept base wr x.1.1.1 x.1.2 := (hkept x (List.mem_of_getElem? hx)).fx hst.fx
      have hLx : (listed k l)[j]? = some x.1.2 := by rw [← hcl, List.getElem?_map, hx]; rfl
      obtain ⟨X, hX⟩ : ∃ X, X = x.1.1.1 := ⟨_, rfl⟩
      obtain ⟨o, ho⟩ : ∃ o, o = x.1.2 := ⟨_, rfl⟩
      rw [← hX] at LD hkx
      rw [← ho] at hkx hLx
      have z0 : (wr.alloc (.cells zerC OT)).heap[wr.heap.size]? = some (.cells zerC OT (0, 0)) := heap_alloc_new wr _
      obtain ⟨th, n0', fx1, c1'⟩ := store_ob (base := wr.heap.size) z0 rfl hkx.obj.1 (Nat.le_refl _)
      obtain ⟨w3, hw3⟩ : ∃ W, W = (wr.alloc (.cells zerC OT)).setCells wr.heap.size 0 X.toList := ⟨_, rfl⟩
      obtain ⟨A, hA⟩ : ∃ A, A = wr.heap.size := ⟨_, rfl⟩
      rw [← hw3] at n0' c1'
      have b3 : Below wr.heap.size wr w3 := by
        have g : Gr wr (wr.alloc (.cells zerC OT)) := (Gr.refl wr).alloc _
        exact ((Xb.ofGr g wr.heap.size).trans ⟨c1'.os, c1'.tape, c1'.output, c1'.size, fun k hk hne => c1'.block k hk (by simpa using hne)⟩).below (Nat.le_refl _) (Nat.le_refl _)
      rw [← hA] at n0'
      have TH := Lib.hid th
      have IN : Hid ((Tryz.prog.info? OT).map (·.size) = some X.size) := by show _ = _; rw [hkx.obj.1]; exact info_ob47
      have ON := Lib.hid (objV_one hkx.obj)
      have HW3 : Hid ((wr.alloc (.cells zerC OT)).setCells wr.heap.size 0 X.toList = w3 ∧ wr.heap.size = A) := ⟨hw3.symm, hA.symm⟩
      have LV := Lib.hid (load_ob n0' hkx.obj.1)
      have hk3 : Kept base w3 X o := hkx.fx (Fx.ofBelow b3)
      have CC := Lib.hid (clone_any w3 X o hk3.obj hk3.nil hk3.small.small)
      have HY := Lib.hid (And.intro hpl (And.intro hpre (And.intro hj (And.intro hst (And.intro hLx (And.intro hk3 b3))))))
      clear hpl hpre hj hst hcl hrows hkept bw1 hlen hx hgB hgl hra hra' hkx hLx hX ho z0 th n0' fx1 c1' hw3 hA b3 hk3 HP
      go_upto_region 3 with (first | (refine wpList_load_by (by kernel_rfl) OT _ rfl (.pointer (some ⟨g, j * 47, none⟩)) (.agg X) (by rfl) LD.out ?_) | (refine wpList_store_mid rfl _ _ _ rfl wr.heap.size 0 X (by rfl) (by rfl) TH.out IN.out ON.out ?_; rw [HW3.out.1, HW3.out.2]))
      refine (wpIn_wide (n := n)).1 ?_
      gi_wp2_with (refine wpListIn_load_by (by kernel_rfl) OT _ rfl (.pointer (some ⟨A, 0, none⟩)) (.agg X) (by kernel_rfl) LV.out ?_)
      refine ⟨trivial, fun e => (nomatch e), (callsIn_wide.2 CC.out).mono ?_⟩
      rintro e m ⟨⟨D, rfl, hC⟩, hbl⟩
      obtain ⟨hpl, hpre, hj, hst, hLx, hk3, b3⟩ := HY.out
      have KD : Kept base m D o := kept_copy hk3 hC hk3.small hk3.fits
      have bm : Below wr.heap.size wr m := b3.trans (hbl.mono b3.size)
      have jm : J w1.heap.size pre m := HJ.out.2.1 _ pre wr m [] hj (Chg.ofBelow bm []) (fun g hg => by cases hg)
      have sm : StaysC base W.heap.size w1.heap.size w1 m := hst.trans (StaysC.ofBelow bm)
      obtain ⟨x', hx'⟩ : ∃ x' : Co, x' = ⟨(⟨D, KD.obj.1, objV_one KD.obj⟩, o), KD.obj.2.1.2.1⟩ := ⟨_, rfl⟩
      have hgv : ListGv base k l pre x' m := by
        rw [hx']
        exact ⟨by rw [hpl]; exact hLx, KD⟩
      obtain ⟨fn, tmps, assign, body, hy, hR⟩ := HJ.out.2.2 _ pre x' m HC.out.2.2.2.1.size sm.fx.size jm hgv
      have hy' : (Instr.yield l' #[.agg D]).run Tryz.prog m = .ok (.round l' fn tmps assign body) m := by rw [hx'] at hy; exact hy
      have hnext : (pre ++ [x']).map (·.1.2) = (listed k l).take (j + 1) := by
        have := take_nextO (L := listed k l) (pre := pre) (x := x') (by rw [hpl]; exact hpre) (by rw [hpl, hx']; exact hLx)
        rw [hpl] at this
        exact this
      have HN := Lib.hid (And.intro hnext (And.intro sm (show (pre ++ [x']).length = j + 1 by rw [List.length_append, hpl]; rfl)))
      have HRD := Lib.hid hR
      clear hC hbl hpl hpre hj hst hLx hk3 b3 KD bm jm sm hx' hgv hy hR hnext HY CC LV HW3 ON IN TH LD
      gi_wp2_with fail
      refine ⟨fun e => (nomatch e), HRD.out.mono ?_⟩
      rintro e W' (⟨rfl, hJ', st'⟩ | ⟨rfl, hJx'⟩)
      · have RN : Hid (∃ pre : List Co, pre.length = j + 1 ∧ pre.map (·.1.2) = (listed k l).take (j + 1) ∧ J w1.heap.size pre W' ∧ StaysC base W.heap.size w1.heap.size w1 W') := ⟨_, HN.out.2.2, HN.out.1, hJ', HN.out.2.1.trans st'⟩
        clear hJ' st' HN HRD
        gi_wp2
        go_wp2
        go_roundg (L - (j + 1))
        case measure => omega
        case rel => exact ⟨j + 1, by push_cast; rfl, by omega, by omega, RN.out⟩
      · have RN : Hid (∃ C pre, pre ≠ [] ∧ Jx C pre W') := ⟨_, _, by simp, hJx'⟩
        clear hJx' HN HRD
        gi_wp2
        go_wp2
        (try simp only [Exit.inBlock, Exit.then]); refine bodyPost_ret (results_none rfl _ _ _) rfl ?_
        exact ⟨⟨_, rfl⟩, .inr RN.out⟩
    · obtain ⟨pre, hpl, hpre, hj, hst⟩ := HP.out
      have e : j = L := by omega
      have FIN : Hid (∃ C, ∃ xs : List Co, W.heap.size ≤ C ∧ xs.map (·.1.2) = listed k l ∧ J C xs wr) := ⟨_, pre, HC.out.2.2.2.1.size, by rw [hpre, e, HL.out.1, List.take_length], hj⟩
      clear hpl hpre hj hst HP HC HJ
      go_wp2
      go_end0
      exact ⟨⟨_, rfl⟩, .inl FIN.out⟩
end Go.Proofs.YtbkoepghmcdnhaaGreatDoor.Lc
/- Layer 16 (replica): all pods of a store, as a row of the call's own: replica.all, the law's all. Written by gen_rqb.py: edit that. -/
namespace Go.Proofs.YtbkoepghmcdnhaaGreatDoor.Rp
open Go.RowKit Go.Shelf Go.Lib Go.Sort Go.Deep
open Go.Joins (cell_of_block unfrozen_of_block block_setCell)
open Go.Proofs.YtbkoepghmcdnhaaGreatDoor.Lc
set_option linter.unusedVariables false
set_option linter.unusedSimpArgs false
set_option maxRecDepth 20000

/-- A row of the call's own, of objects that are kept. -/
structure OwnCo (base N : Nat) (W : World) (q : Option Addr) (c : Nat) (cl : List Co) : Prop where
  own : W.ownsRow N OT 47 (.slice q cl.length c) cl.length (flat encO cl)
  kept : ∀ x ∈ cl, Kept base W x.1.1.1 x.1.2
theorem OwnCo.nil (base N : Nat) (W : World) : OwnCo base N W none 0 [] := ⟨⟨rfl, .inl ⟨rfl, rfl⟩⟩, fun _ h => by cases h⟩
theorem OwnCo.gr {base N : Nat} {W W' : World} {q : Option Addr} {c : Nat} {cl : List Co} (h : OwnCo base N W q c cl) (b : Below W.heap.size W W') : OwnCo base N W' q c cl :=
  ⟨own_block h.own (fun k e => b.block k (World.ownsRow.lt h.own k e).2), fun x hx => (h.kept x hx).fx (Fx.ofBelow b)⟩
/-- What stands while objects are appended: the slice's cell, the row. -/
def SeqI (base A B : Nat) (w : World) (L : List Ob) (C : Nat) (pre : List Co) (W : World) : Prop :=
  ∃ q' c', W.heap[A]? = some (.cells #[.slice q' pre.length c'] SlO (0, 0)) ∧ OwnCo base A W q' c' pre ∧ (∀ g, (Value.slice q' pre.length c').ownBlock = some g → w.heap.size ≤ g ∧ g ≠ A ∧ (g < B ∨ C ≤ g)) ∧
    pre.map (·.1.2) = L.take pre.length ∧ Chg [] w W
theorem seqI_bears (base A B : Nat) (w : World) (L : List Ob) (C : Nat) (hN : base ≤ A) (hB : base ≤ B) (hw : w.heap.size ≤ B) : BearsL B (SeqI base A B w L C) := by
  rintro pre V V' T ⟨q', c', h1, h2, h3, h4, h5⟩ c hT
  have hT2 : ∀ g ∈ T, base ≤ g ∧ ∃ r : Loop, V.heap[g]? = some (.loop r) := fun g hg => ⟨by have := (hT g hg).1; omega, (hT g hg).2⟩
  have out : ∀ (g : Nat) (cs : Array Value) (T' : TypeId) (fz : Nat × Nat), V.heap[g]? = some (Obj.cells cs T' fz) → V'.heap[g]? = V.heap[g]? := fun g cs T' fz hg => c.block g (Array.getElem?_eq_some_iff.1 hg).1 (fun hm => loop_cells (hT g hm).2 hg)
  refine ⟨q', c', (out A _ _ _ h1).trans h1, ⟨own_block h2.own (fun g hg => ?_), fun x hx => (h2.kept x hx).fx (Chg.loops c hT2)⟩, h3, h4, h5.trans c (fun g hg => .inr (by have := (hT g hg).1; omega))⟩
  obtain ⟨cur, hcur⟩ := own_at h2.own hg
  exact out g _ _ _ hcur
/-- The mark of a loop that is through. -/
theorem mark_fx {base D : Nat} {W W' : World} (c : Chg [D] W W') (hd : W.heap[D]? = some (.deferred (some []))) (hb : base ≤ D) : Fx base W W' ∧ ∀ (g : Nat) (cs : Array Value) (T : TypeId) (fz : Nat × Nat), W.heap[g]? = some (Obj.cells cs T fz) → W'.heap[g]? = W.heap[g]? := by
  refine ⟨c.fx (fun g hg _ hp => ?_), fun g cs T fz hg => c.block g (Array.getElem?_eq_some_iff.1 hg).1 (fun hm => ?_)⟩
  · rw [List.mem_singleton] at hg
    subst hg
    rcases hp with hp | ⟨cs, T', fz, h6, _⟩
    · omega
    · rw [hd] at h6; cases h6
  · rw [List.mem_singleton] at hm
    subst hm
    rw [hd] at hg; cases hg
/-- All pods of a store, in a row of the call's own. -/
def AllIs (base N : Nat) (l : List Ob) (e : Ending) (w' : World) : Prop := ∃ q c cl, e = .returned (.slice q cl.length c) ∧ cl.map (·.1.2) = listed 1 l ∧ OwnCo base N w' q c cl

set_option maxHeartbeats 8000000 in
theorem aseq_any (base : Nat) (w : World) (S : List Nat) (sp b : Nat) (most : Int) (l : List Ob) (hist : List Ev) (st : StIs base w S sp most l hist) (h1 : w.cell? ⟨b, 0, none⟩ = some (.pointer (some ⟨sp, 0, none⟩))) (h2 : w.cell? ⟨b + 1, 0, none⟩ = some (.int .i64 1)) (hb : b + 1 < w.heap.size) (hl : l.length ≤ 1000) :
    Calls Tryz.prog 57 #[.slice none 0 0, .func (.func 14) #[] #[.pointer (some ⟨b, 0, none⟩), .pointer (some ⟨b + 1, 0, none⟩)]] w fun r w' => AllIs base w.heap.size l r w' ∧ Below w.heap.size w w' := by
  obtain ⟨ti, by47, hi47⟩ := info_O47
  have HB := Lib.hid hi47
  have hbw : base ≤ w.heap.size := by obtain ⟨mb, D, ev, kept, h⟩ := st; exact h.bw
  obtain ⟨A, hA⟩ : ∃ A, A = w.heap.size := ⟨_, rfl⟩
  obtain ⟨wt, hwt⟩ : ∃ x, x = w.alloc (.cells #[.slice none 0 0] SlO) := ⟨_, rfl⟩
  have G1 : Gr w wt := hwt ▸ (Gr.refl w).alloc _
  have s1 : wt.heap[A]? = some (.cells #[.slice none 0 0] SlO (0, 0)) := by rw [hwt, hA]; exact heap_alloc_new w _
  have zt : wt.heap.size = A + 1 := by rw [hwt, hA]; simp
  have TN := list_tellsC (6 - 1) base wt S sp b most 1 l hist (st.gr G1.below) ((World.cell?_of_block (a := ⟨b, 0, none⟩) (G1.heap (by show b < _; omega))).trans h1) ((World.cell?_of_block (a := ⟨b + 1, 0, none⟩) (G1.heap hb)).trans h2) (by omega) (by omega)
  have HTN := Lib.hid TN
  have I0 : Hid (∀ C, wt.heap.size ≤ C → SeqI base A wt.heap.size w (listed 1 l) C [] wt) := fun C hC => ⟨none, 0, s1, OwnCo.nil _ _ _, fun g hg => (by cases hg), by simp, Chg.ofBelow G1.below []⟩
  have HH := Lib.hid (And.intro (show base ≤ A by omega) (And.intro hA (And.intro (show wt.heap.size ≥ A + 1 by omega) hl)))
  have HW1 : Hid (w.alloc (.cells #[.slice none 0 0] SlO) = wt ∧ w.heap.size = A) := ⟨hwt.symm, hA.symm⟩
  rw [← hA]
  clear st h1 h2 hb hl hbw hA hwt G1 s1 zt TN hi47
  refine (callsIn_wide (n := 6)).1 ?_
  refine callsIn_of_wp_marks Tryz.func57 rfl trivial ?_ rfl
  simp only [Tryz.ntmps57, List.size_toArray, List.length_cons, List.length_nil, Nat.reduceAdd, Nat.reduceSub, Array.replicate_succ, Array.replicate_zero, List.push_toArray, List.append_toArray, List.nil_append, List.cons_append]
  refine wpIn_wide.2 ?_
  go_upto_region 1 with fail
  rw [HW1.out.1, HW1.out.2]
  go_wp2_with fail
  refine (wpIn_wide (n := 6)).1 ?_
  refine wpIn_toldC (α := Co) (n := 6) (by decide) (gf := 14) (lb := #[.pointer (some ⟨b, 0, none⟩), .pointer (some ⟨b + 1, 0, none⟩)]) rfl (enters_of Tryz.func14 (by kernel_rfl) rfl) HTN.out (Below.refl _ _) (fun _ => rfl) (by have := HH.out.1; have := HH.out.2.1; have := HH.out.2.2.1; omega) (fun pre x A A' h f => ⟨h.1, h.2.fx f⟩)
    (SeqI base A wt.heap.size w (listed 1 l)) (fun _ _ _ _ => False) ?_ (fun c C s A A' T h _ _ => h.elim) I0.out ?_ ?_ (fun _ _ _ _ _ _ h _ => h.elim (fun _ h => h.elim))
  · intro C
    obtain ⟨hbA, hA, zt, _⟩ := HH.out
    exact seqI_bears base A wt.heap.size w (listed 1 l) C hbA (by omega) (by omega)
  · intro l' C pre x W hi hgv hlB hlC hCW
    rw [zip_one]
    obtain ⟨hbA, hA, zt, hl⟩ := HH.out
    obtain ⟨D, hD⟩ : ∃ D, D = x.1.1.1 := ⟨_, rfl⟩
    have hkx := hgv.2
    rw [← hD] at hkx ⊢
    have z0 : (W.alloc (.cells zerC OT)).heap[W.heap.size]? = some (.cells zerC OT (0, 0)) := heap_alloc_new W _
    obtain ⟨th, n0', fx1, c1'⟩ := store_ob (base := W.heap.size) z0 rfl hkx.obj.1 (Nat.le_refl _)
    obtain ⟨w3, hw3⟩ : ∃ W', W' = (W.alloc (.cells zerC OT)).setCells W.heap.size 0 D.toList := ⟨_, rfl⟩
    obtain ⟨O, hO⟩ : ∃ A, A = W.heap.size := ⟨_, rfl⟩
    rw [← hw3] at n0' c1'
    have b3 : Below W.heap.size W w3 := by
      have g : Gr W (W.alloc (.cells zerC OT)) := (Gr.refl W).alloc _
      exact ((Xb.ofGr g W.heap.size).trans ⟨c1'.os, c1'.tape, c1'.output, c1'.size, fun k hk hne => c1'.block k hk (by simpa using hne)⟩).below (Nat.le_refl _) (Nat.le_refl _)
    rw [← hO] at n0'
    have TH := Lib.hid th
    have IN : Hid ((Tryz.prog.info? OT).map (·.size) = some D.size) := by show _ = _; rw [hkx.obj.1]; exact info_ob47
    have ON := Lib.hid (objV_one hkx.obj)
    have HW3 : Hid ((W.alloc (.cells zerC OT)).setCells W.heap.size 0 D.toList = w3 ∧ W.heap.size = O) := ⟨hw3.symm, hO.symm⟩
    have H3 := Lib.hid (And.intro n0' (And.intro b3 (And.intro hi (And.intro hgv hD))))
    clear hkx z0 th n0' fx1 c1' hw3 hO b3 hi hgv hD hbA hA zt hl
    refine region_round (by rfl) (fun ⟨a, w, h⟩ => h) ?_
    go_wp2_with (refine wpList_store_mid rfl _ _ _ rfl W.heap.size 0 D (by rfl) (by rfl) TH.out IN.out ON.out ?_; rw [HW3.out.1, HW3.out.2])
    refine ⟨StaysC.ofBelow H3.out.2.1, fun W2 c2 f2 => ?_⟩
    obtain ⟨n0', b3, hi, ⟨gv1, gv2⟩, hD⟩ := H3.out
    obtain ⟨hbA, hA, zt, hl⟩ := HH.out
    have hO : W.heap.size = O := HW3.out.2
    obtain ⟨q', c', s1, own, hnew, hpre, C1⟩ := hi
    rw [← hD] at gv2
    obtain ⟨m, hm⟩ : ∃ m, m = pre.length := ⟨_, rfl⟩
    have hle : m ≤ 200000 := by
      have h1 := congrArg List.length hpre
      rw [List.length_map, List.length_take] at h1
      have h2 := listed_len (l := l) 1
      omega
    have out : ∀ g, g < w3.heap.size → g ≠ l' → W2.heap[g]? = w3.heap[g]? := fun g h1 h2 => c2.block g h1 (by simpa using h2)
    have hCW' : C ≤ W.heap.size := hCW
    have s2 : W2.heap[A]? = some (.cells #[.slice q' m c'] SlO (0, 0)) := by
      have h2 := (Array.getElem?_eq_some_iff.1 s1).1
      rw [hm]
      exact (out A (by have := b3.size; omega) (by omega)).trans ((b3.block A h2).trans s1)
    have own2 : OwnCo base A W2 q' c' pre := by
      refine ⟨own_block own.own (fun g hg => ?_), fun y hy => ((own.kept y hy).fx (Fx.ofBelow b3)).fx f2⟩
      have h2 := (World.ownsRow.lt own.own g hg).2
      have h3 := (hnew g hg).2.2
      exact (out g (by have := b3.size; omega) (by omega)).trans (b3.block g h2)
    have o2 : W2.heap[O]? = some (.cells D OT (0, 0)) := (out O (Array.getElem?_eq_some_iff.1 n0').1 (by omega)).trans n0'
    have kD : Kept base W2 D x.1.2 := (gv2.fx (Fx.ofBelow b3)).fx f2
    have LV := Lib.hid (load_ob o2 kD.obj.1)
    obtain ⟨E, hE⟩ : ∃ E, E = W2.heap.size := ⟨_, rfl⟩
    obtain ⟨w4, hw4⟩ : ∃ x, x = W2.alloc (.cells D OT) := ⟨_, rfl⟩
    have G4 : Gr W2 w4 := hw4 ▸ (Gr.refl W2).alloc _
    have e4 : w4.heap[E]? = some (.cells D OT (0, 0)) := by rw [hw4, hE]; exact heap_alloc_new W2 _
    have s4 : w4.heap[A]? = some (.cells #[.slice q' m c'] SlO (0, 0)) := (G4.heap (Array.getElem?_eq_some_iff.1 s2).1).trans s2
    have own4 := own2.gr G4.below
    have HW4 : Hid (W2.alloc (.cells D OT) = w4 ∧ W2.heap.size = E) := ⟨hw4.symm, hE.symm⟩
    have HO4 : Hid (w4.ownsRow A OT 47 (.slice q' m c') m (flat encO pre)) := by rw [hm]; exact own4.own
    have news : Hid (∀ j u, D.toList[j]? = some u → w4.cell? ((⟨E, 0, none⟩ : Addr).add j) = some u) := fun j u hu => by
      rw [add_none', Nat.zero_add]
      exact (cell_of_block e4 j).trans (by rw [← Array.getElem?_toList]; exact hu)
    have one : Hid (∀ u ∈ D.toList, u.oneCell' = true) := oneC ⟨D, kD.obj.1, objV_one kD.obj⟩
    have hD47 : Hid (D.size = 47) := kD.obj.1
    have h5 : Hid (A ≤ w4.heap.size) := by
      have h1 := C1.size
      have h2 := b3.size
      have h3 := c2.size
      have h4 := G4.below.size
      show A ≤ w4.heap.size
      omega
    have m0 : W2.cell? ⟨A, 0, none⟩ = some (.slice q' m c') := cell_of_block s2 0
    have m4 : w4.cell? ⟨A, 0, none⟩ = some (.slice q' m c') := cell_of_block s4 0
    have HO := Lib.hid hO
    have HX := Lib.hid (And.intro s4 (And.intro own4 (And.intro hnew (And.intro hpre (And.intro C1 (And.intro gv1 (And.intro kD (And.intro b3 (And.intro c2 (And.intro G4 (And.intro hm (And.intro hle (And.intro f2 (And.intro hD hE))))))))))))))
    obtain ⟨hi, hz, h47, hb47, hble, hz47⟩ := HB.out
    have HA4 : Hid (A < w4.heap.size ∧ A ∉ (Value.slice q' m c').ownBlock.toList ∧ w4.heap[A]? = some (.cells #[.slice q' m c'] SlO (0, 0))) :=
      ⟨(Array.getElem?_eq_some_iff.1 s4).1, fun hm' => by
        rw [hm] at hm'
        exact (hnew A (by simpa using hm')).2.1 rfl, s4⟩
    have HLW : Hid (wt.heap.size ≤ l' ∧ l' < C ∧ C ≤ O) := ⟨hlB, hlC, by omega⟩
    clear n0' b3 gv1 gv2 hbA hA zt hl hO s1 own hnew hpre C1 hm out hCW' s2 own2 o2 kD hE hw4 G4 e4 s4 own4 c2 f2 hD H3 TH IN ON HW3 hlB hlC hCW
    gi_upto_region 3 with fail
    refine region_round (by rfl) (fun ⟨a, w, h⟩ => h) ?_
    go_wp2_with (first
      | (refine wpList_load_by (by kernel_rfl) OT _ rfl (.pointer (some ⟨O, 0, none⟩)) (.agg D) (by rfl) LV.out ?_)
      | (refine wpList_step fun K hK => ?_; refine step_build (by rfl) SlO OT _ rfl (.agg zerC) 47 D (by rfl) hD47.out (by decide) (by decide) Tryz.underlying22 hz47 ?_; refine hK _ _ ?_; rw [HW4.out.1, HW4.out.2])
      | (at_builtin; refine wpList_append_own_at w4 rfl _ _ SlO rfl A OT ti (.agg zerC) 47 by47 Tryz.underlying22 hi hz h47 hb47 rfl (by decide) (.slice q' m c') m (flat encO pre) (by rfl) HO4.out ⟨E, 0, none⟩ 1 1 D.toList (by rfl) (by rw [Array.length_toList, hD47.out]) news.out one.out (by unfold maxLen; omega) (by have := Nat.mul_le_mul (show m + 1 ≤ 200001 by omega) hble; omega) h5.out ?_; intro v5 w5 ho5 hg5 hn5 ha5; obtain ⟨q5, c5, rfl⟩ := own_slice ho5; have C5 := Chg.ofGrown hg5 (S := (Value.slice q' m c').ownBlock.toList) (fun g e => .inl (by rw [e]; simp)); have hb5 := (C5.block A HA4.out.1 HA4.out.2.1).trans HA4.out.2.2; have u1 : w5.cell? ⟨A, 0, none⟩ = some (.slice q' m c') := cell_of_block hb5 0; have u2 : w5.frozen? ⟨A, 0, none⟩ = false := unfrozen_of_block hb5 0; have H5 := Lib.hid (And.intro ho5 (And.intro C5 (And.intro hb5 ha5))); clear ho5 hg5 hn5 ha5 C5 hb5))
    obtain ⟨s4, own4, hnew, hpre, C1, gv1, kD, b3, c2, G4, hm, hle, f2, hD, hE⟩ := HX.out
    obtain ⟨ho5, C5, hb5, ha5⟩ := H5.out
    obtain ⟨hbA, hA, zt, hl⟩ := HH.out
    obtain ⟨hl1, hl2, hl3⟩ := HLW.out
    have hO : W.heap.size = O := HO.out
    obtain ⟨w6, hw6⟩ : ∃ x, x = w5.setCell ⟨A, 0, none⟩ (.slice q5 (m + 1) c5) := ⟨_, rfl⟩
    have s6 : w6.heap[A]? = some (.cells #[.slice q5 (m + 1) c5] SlO (0, 0)) := by rw [hw6, block_setCell hb5]; rfl
    have C56 : Chg [A] w5 w6 := by rw [hw6]; exact (Chg.refl [A] w5).setCell 0 _ (.inl (by simp))
    have hqn : ∀ g, (Value.slice q' m c').ownBlock = some g → w.heap.size ≤ g ∧ g ≠ A ∧ (g < wt.heap.size ∨ C ≤ g) := fun g hg => hnew g (by rw [← hm]; exact hg)
    have sz : O ≤ w4.heap.size := by
      have h1 := b3.size
      have h2 := c2.size
      have h3 := G4.below.size
      omega
    have hq5 : ∀ g, (Value.slice q5 (m + 1) c5).ownBlock = some g → w.heap.size ≤ g ∧ g ≠ A ∧ (g < wt.heap.size ∨ C ≤ g) := fun g hg => by
      rcases ha5 with e | e
      · exact hqn g (by rw [← e]; exact hg)
      · rw [e] at hg
        injection hg with hg
        exact ⟨by omega, by omega, .inr (by omega)⟩
    have own6 : w6.ownsRow A OT 47 (.slice q5 (m + 1) c5) (m + 1) (flat encO pre ++ D.toList) := own_block ho5 (fun g hg => C56.block g (World.ownsRow.lt ho5 g hg).2 (by simp; exact (hq5 g hg).2.1))
    have C46 : Chg (A :: (Value.slice q' m c').ownBlock.toList) w4 w6 := (C5.less (S' := A :: (Value.slice q' m c').ownBlock.toList) (fun g hg => .inl (List.mem_cons_of_mem _ hg))).trans C56 (fun g hg => .inl (by rw [List.mem_singleton] at hg; rw [hg]; exact List.mem_cons_self))
    have ownm : w4.ownsRow A OT 47 (.slice q' m c') m (flat encO pre) := by rw [hm]; exact own4.own
    have hpr := own_prot (base := base) ownm hbA rfl
    have np : ∀ g ∈ A :: (Value.slice q' m c').ownBlock.toList, ¬ Prot base w4 g := fun g hg => by
      rcases List.mem_cons.1 hg with rfl | hg
      · exact (cells_prot s4 (by omega) rfl).2.2
      · exact (hpr g (by simpa using hg)).2.2
    have F46 : Fx base w4 w6 := C46.fx (fun g hg _ => np g hg)
    have F26 : Fx base W2 w6 := (Fx.ofBelow G4.below).trans F46
    have xl : (pre ++ [x]).length = m + 1 := by rw [hm]; simp
    show StaysC base wt.heap.size C W2 _ ∧ SeqI base A wt.heap.size w (listed 1 l) C (pre ++ [x]) _
    rw [← hw6]
    refine ⟨(StaysC.ofBelow G4.below).trans (StaysC.ofChg C46 (fun g hg => ⟨?_, fun _ => np g hg⟩)), q5, c5, by rw [xl]; exact s6, ⟨?_, fun y hy => ?_⟩, by rw [xl]; exact hq5, ?_, ?_⟩
    · rcases List.mem_cons.1 hg with rfl | hg
      · exact .inl (by omega)
      · exact (hqn g (by simpa using hg)).2.2
    · rw [xl]
      have e : flat encO (pre ++ [x]) = flat encO pre ++ D.toList := by
        rw [hD]
        simp [flat, encO]
      rw [e]
      exact own6
    · rcases List.mem_append.1 hy with hy | hy
      · exact ((own4.kept y hy).fx F46)
      · rw [List.mem_singleton] at hy
        subst hy
        rw [← hD]
        exact kD.fx F26
    · have := take_nextO (L := listed 1 l) (pre := pre) (x := x) hpre gv1
      rw [this, List.length_append]
      rfl
    · have h2 : Chg [] w W2 := (C1.trans (Chg.ofBelow b3 []) (by simp)).trans c2 (fun g hg => .inr (by rw [List.mem_singleton] at hg; omega))
      refine (h2.trans (Chg.ofBelow G4.below []) (by simp)).trans C46 (fun g hg => .inr ?_)
      rcases List.mem_cons.1 hg with rfl | hg
      · omega
      · exact (hqn g (by simpa using hg)).1
  · intro Dm xs W hD hS ⟨C, hC, q', c', s1, own, hnew, hpre, C1⟩ hdef
    obtain ⟨hbA, hA, zt, hl⟩ := HH.out
    obtain ⟨m, hm⟩ : ∃ m, m = xs.length := ⟨_, rfl⟩
    rw [← hm] at s1
    have m0 : W.cell? ⟨A, 0, none⟩ = some (.slice q' m c') := cell_of_block s1 0
    have FIN := Lib.hid (And.intro hdef (And.intro own (And.intro hS (And.intro C1 (And.intro hm (And.intro hbA (show w.heap.size ≤ Dm ∧ A ≤ Dm by omega)))))))
    clear hD hS hC s1 own hnew hpre C1 hdef hbA hA zt hl hm HTN I0
    go_wp2_with fail
    refine leaves_marks (F := Fence.wide) (n := 6) (P := Tryz.prog) (fn := Tryz.f57) [Dm] W (by simp) (fun D hD => by rw [List.mem_singleton] at hD; rw [hD]; exact FIN.out.1) (fun w'' c'' => ?_)
    obtain ⟨hdef, own, hS, C1, hm, hbA, hD, hAD⟩ := FIN.out
    have C2 : Chg [] w w'' := C1.trans c'' (fun g hg => .inr (by rw [List.mem_singleton] at hg; omega))
    obtain ⟨fx, out⟩ := mark_fx (base := base) c'' hdef (by omega)
    refine ⟨_, results_tmp rfl _ _ _, ⟨q', c', xs, by rw [← hm]; rfl, hS, ⟨own_block own.own (fun g hg => ?_), fun x hx => (own.kept x hx).fx fx⟩⟩, C2.below (fun g hg => by cases hg) (by have := HH.out.2.1; omega)⟩
    obtain ⟨cur, hcur⟩ := own_at own.own hg
    exact out g _ _ _ hcur

/-- replica.all. -/
theorem rall_any (base : Nat) (w : World) (S : List Nat) (sp : Nat) (most : Int) (l : List Ob) (hist : List Ev) (st : StIs base w S sp most l hist) (hl : l.length ≤ 1000) :
    Calls Tryz.prog 19 #[.pointer (some ⟨sp, 0, none⟩)] w fun r w' => AllIs base w.heap.size l r w' ∧ Below w.heap.size w w' := by
  have CL := Lib.hid (list_any w (.pointer (some ⟨sp, 0, none⟩)) 1 ⟨_, rfl⟩)
  obtain ⟨A, hA⟩ : ∃ A, A = w.heap.size := ⟨_, rfl⟩
  obtain ⟨w2, hw2⟩ : ∃ x, x = (w.alloc (.cells #[.pointer (some ⟨sp, 0, none⟩)] 23)).alloc (.cells #[.int .i64 1] 3) := ⟨_, rfl⟩
  have G2 : Gr w w2 := hw2 ▸ ((Gr.refl w).alloc _).alloc _
  have z2 : w2.heap.size = A + 2 := by rw [hw2, hA]; simp
  have e1 : w2.heap[A]? = some (.cells #[.pointer (some ⟨sp, 0, none⟩)] 23 (0, 0)) := by
    rw [hw2, hA, ((Gr.refl (w.alloc (.cells #[.pointer (some ⟨sp, 0, none⟩)] 23))).alloc _).heap (by simp)]
    exact heap_alloc_new w _
  have e2 : w2.heap[A + 1]? = some (.cells #[.int .i64 1] 3 (0, 0)) := by
    rw [hw2, hA]
    have := heap_alloc_new (w.alloc (.cells #[.pointer (some ⟨sp, 0, none⟩)] 23)) (.cells #[.int .i64 1] 3)
    simpa using this
  have CC := Lib.hid (aseq_any base w2 S sp A most l hist (st.gr G2.below) (cell_of_block e1 0) (cell_of_block e2 0) (by omega) hl)
  have HW2 : Hid ((w.alloc (.cells #[.pointer (some ⟨sp, 0, none⟩)] 23)).alloc (.cells #[.int .i64 1] 3) = w2 ∧ w.heap.size = A) := ⟨hw2.symm, hA.symm⟩
  have G := Lib.hid (And.intro G2.below z2)
  clear st hl hA hw2 G2 z2 e1 e2
  have CCol : Hid (Calls Tryz.prog 38 #[.func (.func 14) #[] #[.pointer (some ⟨A, 0, none⟩), .pointer (some ⟨A + 1, 0, none⟩)]] w2 fun r w' => AllIs base w2.heap.size l r w' ∧ Below w2.heap.size w2 w') := by
    show Calls _ _ _ _ _
    clear CL HW2
    go_enter Tryz.func38, Tryz.ntmps38
    go_wp2_with fail
    refine CC.out.mono ?_
    rintro e w' ⟨hE, b⟩
    obtain ⟨q, c, cl, rfl, h1, h2⟩ := hE
    have HE := Lib.hid (And.intro h1 (And.intro h2 b))
    obtain ⟨m, hm⟩ : ∃ m, m = cl.length := ⟨_, rfl⟩
    have HM := Lib.hid hm
    rw [← hm]
    clear h1 h2 b hm CC
    go_wp2
    go_ret
    exact ⟨⟨q, c, cl, by rw [← HM.out]; rfl, HE.out.1, HE.out.2.1⟩, HE.out.2.2⟩
  clear CC
  go_enter Tryz.func19, Tryz.ntmps19
  go_wp2_with fail
  refine CL.out.mono ?_
  rintro e w' ⟨rfl, hw'⟩
  rw [hw', HW2.out.1, HW2.out.2]
  clear hw' CL
  go_wp2_with fail
  refine CCol.out.mono ?_
  rintro e w' ⟨hE, b⟩
  obtain ⟨q, c, cl, rfl, h1, h2⟩ := hE
  have HE := Lib.hid (And.intro h1 (And.intro h2 b))
  obtain ⟨m, hm⟩ : ∃ m, m = cl.length := ⟨_, rfl⟩
  have HM := Lib.hid hm
  rw [← hm]
  clear h1 h2 b hm CCol
  go_wp2
  go_ret
  have h2 := HE.out.2.1
  have hs := G.out
  have hAe := HW2.out.2
  exact ⟨⟨q, c, cl, by rw [← HM.out]; rfl, HE.out.1, ⟨own_mono h2.own (by omega), h2.kept⟩⟩, hs.1.trans (HE.out.2.2.mono hs.1.size)⟩

set_option maxHeartbeats 8000000 in
/-- The law's all. -/
theorem lall_any (base : Nat) (w : World) (S : List Nat) (sp : Nat) (most : Int) (l : List Ob) (hist : List Ev) (st : StIs base w S sp most l hist) (hl : l.length ≤ 1000) :
    Calls Tryz.prog 9 #[.pointer (some ⟨sp, 0, none⟩)] w fun r w' => AllIs base w.heap.size l r w' ∧ Below w.heap.size w w' := by
  obtain ⟨ti, by47, hi47⟩ := info_O47
  have HB := Lib.hid hi47
  have hbw : base ≤ w.heap.size := by obtain ⟨mb, D, ev, kept, h⟩ := st; exact h.bw
  obtain ⟨A, hA⟩ : ∃ A, A = w.heap.size := ⟨_, rfl⟩
  obtain ⟨w1, hw1⟩ : ∃ x, x = w.alloc (.cells #[.slice none 0 0] SlO) := ⟨_, rfl⟩
  have G1 : Gr w w1 := hw1 ▸ (Gr.refl w).alloc _
  have s1 : w1.heap[A]? = some (.cells #[.slice none 0 0] SlO (0, 0)) := by rw [hw1, hA]; exact heap_alloc_new w _
  have z1 : w1.heap.size = A + 1 := by rw [hw1, hA]; simp
  obtain ⟨wt, hwt⟩ : ∃ x, x = (w1.alloc (.cells #[.pointer (some ⟨sp, 0, none⟩)] 23)).alloc (.cells #[.int .i64 1] 3) := ⟨_, rfl⟩
  have G2 : Gr w1 wt := hwt ▸ ((Gr.refl w1).alloc _).alloc _
  have zt : wt.heap.size = A + 3 := by rw [hwt]; simp [z1]
  have e1 : wt.heap[A + 1]? = some (.cells #[.pointer (some ⟨sp, 0, none⟩)] 23 (0, 0)) := by
    rw [hwt, ← z1, ((Gr.refl (w1.alloc (.cells #[.pointer (some ⟨sp, 0, none⟩)] 23))).alloc _).heap (by simp)]
    exact heap_alloc_new w1 _
  have e2 : wt.heap[A + 1 + 1]? = some (.cells #[.int .i64 1] 3 (0, 0)) := by
    rw [hwt]
    have := heap_alloc_new (w1.alloc (.cells #[.pointer (some ⟨sp, 0, none⟩)] 23)) (.cells #[.int .i64 1] 3)
    rw [World.size_alloc, z1] at this
    exact this
  have CL := Lib.hid (list_any w1 (.pointer (some ⟨sp, 0, none⟩)) 1 ⟨_, rfl⟩)
  have TN := list_tellsC (6 - 1) base wt S sp (A + 1) most 1 l hist (st.gr (G1.trans G2).below) (cell_of_block e1 0) (cell_of_block e2 0) (by omega) (by omega)
  have HTN := Lib.hid TN
  have I0 : Hid (∀ C, wt.heap.size ≤ C → SeqI base A wt.heap.size w (listed 1 l) C [] wt) := fun C hC => ⟨none, 0, (G2.heap (by omega)).trans s1, OwnCo.nil _ _ _, fun g hg => (by cases hg), by simp, Chg.ofBelow (G1.trans G2).below []⟩
  have HH := Lib.hid (And.intro (show base ≤ A by omega) (And.intro hA (And.intro (show wt.heap.size ≥ A + 1 by omega) hl)))
  have HW1 : Hid (w.alloc (.cells #[.slice none 0 0] SlO) = w1 ∧ w.heap.size = A ∧ w1.heap.size = A + 1) := ⟨hw1.symm, hA.symm, z1⟩
  have HW2 : Hid ((w1.alloc (.cells #[.pointer (some ⟨sp, 0, none⟩)] 23)).alloc (.cells #[.int .i64 1] 3) = wt) := hwt.symm
  rw [← hA]
  clear st hl hbw hA hw1 hwt G1 G2 s1 z1 zt e1 e2 TN hi47
  refine (callsIn_wide (n := 6)).1 ?_
  refine callsIn_of_wp_marks Tryz.func9 rfl trivial ?_ rfl
  simp only [Tryz.ntmps9, List.size_toArray, List.length_cons, List.length_nil, Nat.reduceAdd, Nat.reduceSub, Array.replicate_succ, Array.replicate_zero, List.push_toArray, List.append_toArray, List.nil_append, List.cons_append]
  refine wpIn_wide.2 ?_
  go_upto_region 2 with fail
  rw [HW1.out.1, HW1.out.2.1]
  go_wp2_with fail
  refine CL.out.mono ?_
  rintro e w' ⟨rfl, hw'⟩
  rw [HW1.out.2.2]
  rw [hw', HW2.out]
  clear hw' CL
  go_wp2_with fail
  refine (wpIn_wide (n := 6)).1 ?_
  refine wpIn_toldC (α := Co) (n := 6) (by decide) (gf := 14) (lb := #[.pointer (some ⟨A + 1, 0, none⟩), .pointer (some ⟨A + 1 + 1, 0, none⟩)]) rfl (enters_of Tryz.func14 (by kernel_rfl) rfl) HTN.out (Below.refl _ _) (fun _ => rfl) (by have := HH.out.1; have := HH.out.2.1; have := HH.out.2.2.1; omega) (fun pre x A A' h f => ⟨h.1, h.2.fx f⟩)
    (SeqI base A wt.heap.size w (listed 1 l)) (fun _ _ _ _ => False) ?_ (fun c C s A A' T h _ _ => h.elim) I0.out ?_ ?_ (fun _ _ _ _ _ _ h _ => h.elim (fun _ h => h.elim))
  · intro C
    obtain ⟨hbA, hA, zt, _⟩ := HH.out
    exact seqI_bears base A wt.heap.size w (listed 1 l) C hbA (by omega) (by omega)
  · intro l' C pre x W hi hgv hlB hlC hCW
    rw [zip_one]
    obtain ⟨hbA, hA, zt, hl⟩ := HH.out
    obtain ⟨D, hD⟩ : ∃ D, D = x.1.1.1 := ⟨_, rfl⟩
    have hkx := hgv.2
    rw [← hD] at hkx ⊢
    have z0 : (W.alloc (.cells zerC OT)).heap[W.heap.size]? = some (.cells zerC OT (0, 0)) := heap_alloc_new W _
    obtain ⟨th, n0', fx1, c1'⟩ := store_ob (base := W.heap.size) z0 rfl hkx.obj.1 (Nat.le_refl _)
    obtain ⟨w3, hw3⟩ : ∃ W', W' = (W.alloc (.cells zerC OT)).setCells W.heap.size 0 D.toList := ⟨_, rfl⟩
    obtain ⟨O, hO⟩ : ∃ A, A = W.heap.size := ⟨_, rfl⟩
    rw [← hw3] at n0' c1'
    have b3 : Below W.heap.size W w3 := by
      have g : Gr W (W.alloc (.cells zerC OT)) := (Gr.refl W).alloc _
      exact ((Xb.ofGr g W.heap.size).trans ⟨c1'.os, c1'.tape, c1'.output, c1'.size, fun k hk hne => c1'.block k hk (by simpa using hne)⟩).below (Nat.le_refl _) (Nat.le_refl _)
    rw [← hO] at n0'
    have TH := Lib.hid th
    have IN : Hid ((Tryz.prog.info? OT).map (·.size) = some D.size) := by show _ = _; rw [hkx.obj.1]; exact info_ob47
    have ON := Lib.hid (objV_one hkx.obj)
    have HW3 : Hid ((W.alloc (.cells zerC OT)).setCells W.heap.size 0 D.toList = w3 ∧ W.heap.size = O) := ⟨hw3.symm, hO.symm⟩
    have H3 := Lib.hid (And.intro n0' (And.intro b3 (And.intro hi (And.intro hgv hD))))
    clear hkx z0 th n0' fx1 c1' hw3 hO b3 hi hgv hD hbA hA zt hl
    refine region_round (by rfl) (fun ⟨a, w, h⟩ => h) ?_
    go_wp2_with (refine wpList_store_mid rfl _ _ _ rfl W.heap.size 0 D (by rfl) (by rfl) TH.out IN.out ON.out ?_; rw [HW3.out.1, HW3.out.2])
    refine ⟨StaysC.ofBelow H3.out.2.1, fun W2 c2 f2 => ?_⟩
    obtain ⟨n0', b3, hi, ⟨gv1, gv2⟩, hD⟩ := H3.out
    obtain ⟨hbA, hA, zt, hl⟩ := HH.out
    have hO : W.heap.size = O := HW3.out.2
    obtain ⟨q', c', s1, own, hnew, hpre, C1⟩ := hi
    rw [← hD] at gv2
    obtain ⟨m, hm⟩ : ∃ m, m = pre.length := ⟨_, rfl⟩
    have hle : m ≤ 200000 := by
      have h1 := congrArg List.length hpre
      rw [List.length_map, List.length_take] at h1
      have h2 := listed_len (l := l) 1
      omega
    have out : ∀ g, g < w3.heap.size → g ≠ l' → W2.heap[g]? = w3.heap[g]? := fun g h1 h2 => c2.block g h1 (by simpa using h2)
    have hCW' : C ≤ W.heap.size := hCW
    have s2 : W2.heap[A]? = some (.cells #[.slice q' m c'] SlO (0, 0)) := by
      have h2 := (Array.getElem?_eq_some_iff.1 s1).1
      rw [hm]
      exact (out A (by have := b3.size; omega) (by omega)).trans ((b3.block A h2).trans s1)
    have own2 : OwnCo base A W2 q' c' pre := by
      refine ⟨own_block own.own (fun g hg => ?_), fun y hy => ((own.kept y hy).fx (Fx.ofBelow b3)).fx f2⟩
      have h2 := (World.ownsRow.lt own.own g hg).2
      have h3 := (hnew g hg).2.2
      exact (out g (by have := b3.size; omega) (by omega)).trans (b3.block g h2)
    have o2 : W2.heap[O]? = some (.cells D OT (0, 0)) := (out O (Array.getElem?_eq_some_iff.1 n0').1 (by omega)).trans n0'
    have kD : Kept base W2 D x.1.2 := (gv2.fx (Fx.ofBelow b3)).fx f2
    have LV := Lib.hid (load_ob o2 kD.obj.1)
    obtain ⟨E, hE⟩ : ∃ E, E = W2.heap.size := ⟨_, rfl⟩
    obtain ⟨w4, hw4⟩ : ∃ x, x = W2.alloc (.cells D OT) := ⟨_, rfl⟩
    have G4 : Gr W2 w4 := hw4 ▸ (Gr.refl W2).alloc _
    have e4 : w4.heap[E]? = some (.cells D OT (0, 0)) := by rw [hw4, hE]; exact heap_alloc_new W2 _
    have s4 : w4.heap[A]? = some (.cells #[.slice q' m c'] SlO (0, 0)) := (G4.heap (Array.getElem?_eq_some_iff.1 s2).1).trans s2
    have own4 := own2.gr G4.below
    have HW4 : Hid (W2.alloc (.cells D OT) = w4 ∧ W2.heap.size = E) := ⟨hw4.symm, hE.symm⟩
    have HO4 : Hid (w4.ownsRow A OT 47 (.slice q' m c') m (flat encO pre)) := by rw [hm]; exact own4.own
    have news : Hid (∀ j u, D.toList[j]? = some u → w4.cell? ((⟨E, 0, none⟩ : Addr).add j) = some u) := fun j u hu => by
      rw [add_none', Nat.zero_add]
      exact (cell_of_block e4 j).trans (by rw [← Array.getElem?_toList]; exact hu)
    have one : Hid (∀ u ∈ D.toList, u.oneCell' = true) := oneC ⟨D, kD.obj.1, objV_one kD.obj⟩
    have hD47 : Hid (D.size = 47) := kD.obj.1
    have h5 : Hid (A ≤ w4.heap.size) := by
      have h1 := C1.size
      have h2 := b3.size
      have h3 := c2.size
      have h4 := G4.below.size
      show A ≤ w4.heap.size
      omega
    have m0 : W2.cell? ⟨A, 0, none⟩ = some (.slice q' m c') := cell_of_block s2 0
    have m4 : w4.cell? ⟨A, 0, none⟩ = some (.slice q' m c') := cell_of_block s4 0
    have HO := Lib.hid hO
    have HX := Lib.hid (And.intro s4 (And.intro own4 (And.intro hnew (And.intro hpre (And.intro C1 (And.intro gv1 (And.intro kD (And.intro b3 (And.intro c2 (And.intro G4 (And.intro hm (And.intro hle (And.intro f2 (And.intro hD hE))))))))))))))
    obtain ⟨hi, hz, h47, hb47, hble, hz47⟩ := HB.out
    have HA4 : Hid (A < w4.heap.size ∧ A ∉ (Value.slice q' m c').ownBlock.toList ∧ w4.heap[A]? = some (.cells #[.slice q' m c'] SlO (0, 0))) :=
      ⟨(Array.getElem?_eq_some_iff.1 s4).1, fun hm' => by
        rw [hm] at hm'
        exact (hnew A (by simpa using hm')).2.1 rfl, s4⟩
    have HLW : Hid (wt.heap.size ≤ l' ∧ l' < C ∧ C ≤ O) := ⟨hlB, hlC, by omega⟩
    clear n0' b3 gv1 gv2 hbA hA zt hl hO s1 own hnew hpre C1 hm out hCW' s2 own2 o2 kD hE hw4 G4 e4 s4 own4 c2 f2 hD H3 TH IN ON HW3 hlB hlC hCW
    gi_upto_region 4 with fail
    refine region_round (by rfl) (fun ⟨a, w, h⟩ => h) ?_
    go_wp2_with (first
      | (refine wpList_load_by (by kernel_rfl) OT _ rfl (.pointer (some ⟨O, 0, none⟩)) (.agg D) (by rfl) LV.out ?_)
      | (refine wpList_step fun K hK => ?_; refine step_build (by rfl) SlO OT _ rfl (.agg zerC) 47 D (by rfl) hD47.out (by decide) (by decide) Tryz.underlying22 hz47 ?_; refine hK _ _ ?_; rw [HW4.out.1, HW4.out.2])
      | (at_builtin; refine wpList_append_own_at w4 rfl _ _ SlO rfl A OT ti (.agg zerC) 47 by47 Tryz.underlying22 hi hz h47 hb47 rfl (by decide) (.slice q' m c') m (flat encO pre) (by rfl) HO4.out ⟨E, 0, none⟩ 1 1 D.toList (by rfl) (by rw [Array.length_toList, hD47.out]) news.out one.out (by unfold maxLen; omega) (by have := Nat.mul_le_mul (show m + 1 ≤ 200001 by omega) hble; omega) h5.out ?_; intro v5 w5 ho5 hg5 hn5 ha5; obtain ⟨q5, c5, rfl⟩ := own_slice ho5; have C5 := Chg.ofGrown hg5 (S := (Value.slice q' m c').ownBlock.toList) (fun g e => .inl (by rw [e]; simp)); have hb5 := (C5.block A HA4.out.1 HA4.out.2.1).trans HA4.out.2.2; have u1 : w5.cell? ⟨A, 0, none⟩ = some (.slice q' m c') := cell_of_block hb5 0; have u2 : w5.frozen? ⟨A, 0, none⟩ = false := unfrozen_of_block hb5 0; have H5 := Lib.hid (And.intro ho5 (And.intro C5 (And.intro hb5 ha5))); clear ho5 hg5 hn5 ha5 C5 hb5))
    obtain ⟨s4, own4, hnew, hpre, C1, gv1, kD, b3, c2, G4, hm, hle, f2, hD, hE⟩ := HX.out
    obtain ⟨ho5, C5, hb5, ha5⟩ := H5.out
    obtain ⟨hbA, hA, zt, hl⟩ := HH.out
    obtain ⟨hl1, hl2, hl3⟩ := HLW.out
    have hO : W.heap.size = O := HO.out
    obtain ⟨w6, hw6⟩ : ∃ x, x = w5.setCell ⟨A, 0, none⟩ (.slice q5 (m + 1) c5) := ⟨_, rfl⟩
    have s6 : w6.heap[A]? = some (.cells #[.slice q5 (m + 1) c5] SlO (0, 0)) := by rw [hw6, block_setCell hb5]; rfl
    have C56 : Chg [A] w5 w6 := by rw [hw6]; exact (Chg.refl [A] w5).setCell 0 _ (.inl (by simp))
    have hqn : ∀ g, (Value.slice q' m c').ownBlock = some g → w.heap.size ≤ g ∧ g ≠ A ∧ (g < wt.heap.size ∨ C ≤ g) := fun g hg => hnew g (by rw [← hm]; exact hg)
    have sz : O ≤ w4.heap.size := by
      have h1 := b3.size
      have h2 := c2.size
      have h3 := G4.below.size
      omega
    have hq5 : ∀ g, (Value.slice q5 (m + 1) c5).ownBlock = some g → w.heap.size ≤ g ∧ g ≠ A ∧ (g < wt.heap.size ∨ C ≤ g) := fun g hg => by
      rcases ha5 with e | e
      · exact hqn g (by rw [← e]; exact hg)
      · rw [e] at hg
        injection hg with hg
        exact ⟨by omega, by omega, .inr (by omega)⟩
    have own6 : w6.ownsRow A OT 47 (.slice q5 (m + 1) c5) (m + 1) (flat encO pre ++ D.toList) := own_block ho5 (fun g hg => C56.block g (World.ownsRow.lt ho5 g hg).2 (by simp; exact (hq5 g hg).2.1))
    have C46 : Chg (A :: (Value.slice q' m c').ownBlock.toList) w4 w6 := (C5.less (S' := A :: (Value.slice q' m c').ownBlock.toList) (fun g hg => .inl (List.mem_cons_of_mem _ hg))).trans C56 (fun g hg => .inl (by rw [List.mem_singleton] at hg; rw [hg]; exact List.mem_cons_self))
    have ownm : w4.ownsRow A OT 47 (.slice q' m c') m (flat encO pre) := by rw [hm]; exact own4.own
    have hpr := own_prot (base := base) ownm hbA rfl
    have np : ∀ g ∈ A :: (Value.slice q' m c').ownBlock.toList, ¬ Prot base w4 g := fun g hg => by
      rcases List.mem_cons.1 hg with rfl | hg
      · exact (cells_prot s4 (by omega) rfl).2.2
      · exact (hpr g (by simpa using hg)).2.2
    have F46 : Fx base w4 w6 := C46.fx (fun g hg _ => np g hg)
    have F26 : Fx base W2 w6 := (Fx.ofBelow G4.below).trans F46
    have xl : (pre ++ [x]).length = m + 1 := by rw [hm]; simp
    show StaysC base wt.heap.size C W2 _ ∧ SeqI base A wt.heap.size w (listed 1 l) C (pre ++ [x]) _
    rw [← hw6]
    refine ⟨(StaysC.ofBelow G4.below).trans (StaysC.ofChg C46 (fun g hg => ⟨?_, fun _ => np g hg⟩)), q5, c5, by rw [xl]; exact s6, ⟨?_, fun y hy => ?_⟩, by rw [xl]; exact hq5, ?_, ?_⟩
    · rcases List.mem_cons.1 hg with rfl | hg
      · exact .inl (by omega)
      · exact (hqn g (by simpa using hg)).2.2
    · rw [xl]
      have e : flat encO (pre ++ [x]) = flat encO pre ++ D.toList := by
        rw [hD]
        simp [flat, encO]
      rw [e]
      exact own6
    · rcases List.mem_append.1 hy with hy | hy
      · exact ((own4.kept y hy).fx F46)
      · rw [List.mem_singleton] at hy
        subst hy
        rw [← hD]
        exact kD.fx F26
    · have := take_nextO (L := listed 1 l) (pre := pre) (x := x) hpre gv1
      rw [this, List.length_append]
      rfl
    · have h2 : Chg [] w W2 := (C1.trans (Chg.ofBelow b3 []) (by simp)).trans c2 (fun g hg => .inr (by rw [List.mem_singleton] at hg; omega))
      refine (h2.trans (Chg.ofBelow G4.below []) (by simp)).trans C46 (fun g hg => .inr ?_)
      rcases List.mem_cons.1 hg with rfl | hg
      · omega
      · exact (hqn g (by simpa using hg)).1
  · intro Dm xs W hD hS ⟨C, hC, q', c', s1, own, hnew, hpre, C1⟩ hdef
    obtain ⟨hbA, hA, zt, hl⟩ := HH.out
    obtain ⟨m, hm⟩ : ∃ m, m = xs.length := ⟨_, rfl⟩
    rw [← hm] at s1
    have m0 : W.cell? ⟨A, 0, none⟩ = some (.slice q' m c') := cell_of_block s1 0
    have FIN := Lib.hid (And.intro hdef (And.intro own (And.intro hS (And.intro C1 (And.intro hm (And.intro hbA (show w.heap.size ≤ Dm ∧ A ≤ Dm by omega)))))))
    clear hD hS hC s1 own hnew hpre C1 hdef hbA hA zt hl hm HTN I0
    go_wp2_with fail
    refine leaves_marks (F := Fence.wide) (n := 6) (P := Tryz.prog) (fn := Tryz.f9) [Dm] W (by simp) (fun D hD => by rw [List.mem_singleton] at hD; rw [hD]; exact FIN.out.1) (fun w'' c'' => ?_)
    obtain ⟨hdef, own, hS, C1, hm, hbA, hD, hAD⟩ := FIN.out
    have C2 : Chg [] w w'' := C1.trans c'' (fun g hg => .inr (by rw [List.mem_singleton] at hg; omega))
    obtain ⟨fx, out⟩ := mark_fx (base := base) c'' hdef (by omega)
    refine ⟨_, results_tmp rfl _ _ _, ⟨q', c', xs, by rw [← hm]; rfl, hS, ⟨own_block own.own (fun g hg => ?_), fun x hx => (own.kept x hx).fx fx⟩⟩, C2.below (fun g hg => by cases hg) (by have := HH.out.2.1; omega)⟩
    obtain ⟨cur, hcur⟩ := own_at own.own hg
    exact out g _ _ _ hcur
end Go.Proofs.YtbkoepghmcdnhaaGreatDoor.Rp
