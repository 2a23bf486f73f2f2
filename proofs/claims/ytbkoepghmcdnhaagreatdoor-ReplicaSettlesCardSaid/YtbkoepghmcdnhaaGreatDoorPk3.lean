/- Layer 16 (replica): what a pass over a workload leaves of a store's objects. Rows alone. -/
import Derived.Test.YtbkoepghmcdnhaaGreatDoorPk2
import Derived.Test.YtbkoepghmcdnhaaGreatDoorStA
import Derived.BigRegion
import Derived.Deep.DeepCutAuto
import Derived.Deep.CutRange
import Derived.Deep.Light
import Derived.BigQuiet
import Derived.Great.BuildSlice
import Derived.Deep.AppendLies
import Derived.Test.YtbkoepghmcdnhaaGreatDoorObNil
import Derived.Test.YtbkoepghmcdnhaaGreatDoorVaW
namespace Go.Proofs.YtbkoepghmcdnhaaGreatDoor.Rp
open Go.RowKit Go.Shelf Go.Lib Go.Sort Go.Deep
open Go.Proofs.YtbkoepghmcdnhaaGreatDoor.Ow Go.Proofs.YtbkoepghmcdnhaaGreatDoor.Vi
set_option linter.unusedVariables false
set_option linter.unusedSimpArgs false
set_option maxRecDepth 20000

abbrev KeyNe (L : List Ob) : Prop := L.Pairwise fun a b => Key a ≠ Key b
def liveN (s : ByteArray) (L : List Ob) : Nat := (L.filter (isLive s)).length
def failN (s : ByteArray) (L : List Ob) : Nat := (L.filter (isFailed s)).length
/-- A pass over a workload of so many replicas has been. -/
structure Passed (s : ByteArray) (N : Nat) (L L' : List Ob) (n n' : Nat) : Prop where
  rest : L'.filter (fun x => !isOf s x) = L.filter (fun x => !isOf s x)
  fail : L'.filter (isFailed s) = []
  live : liveN s L' = liveN s L - min (liveN s L - N) 16 + min (N - liveN s L) 16
  ver : n' = n + failN s L + min (liveN s L - N) 16 + min (N - liveN s L) 16
  same : n' = n → L' = L

/-! ### what goes -/
def keepR (R : List ByteArray) (x : Ob) : Bool := !(isPod x && decide (x.name.data.toList ∈ bys R))
theorem mem_bys {R : List ByteArray} {a : ByteArray} : a.data.toList ∈ bys R ↔ a ∈ R := by
  constructor
  · intro h
    obtain ⟨z, hz, e⟩ := List.mem_map.1 h
    rw [← bys_inj e]; exact hz
  · exact fun h => List.mem_map.2 ⟨a, h, rfl⟩
theorem keepR_iff {R : List ByteArray} {x : Ob} : keepR R x = true ↔ ¬ (isPod x = true ∧ x.name ∈ R) := by
  unfold keepR
  rw [Bool.not_eq_true', ← Bool.not_eq_true, Bool.and_eq_true, decide_eq_true_eq, mem_bys]
theorem keepR_nil (L : List Ob) : L.filter (keepR []) = L := by
  rw [List.filter_eq_self]
  intro x _
  exact keepR_iff.2 (fun h => by simp at h)
theorem erase_hit : ∀ {L : List Ob} (h : KeyNe L) (k : Int) (nm : ByteArray), del L k nm = L.filter (fun x => !hit k nm x)
  | [], _, k, nm => by simp [del]
  | x :: L, h, k, nm => by
    have hp := List.pairwise_cons.1 h
    have ih := erase_hit hp.2 k nm
    unfold del at ih ⊢
    cases hx : hit k nm x with
    | true =>
      have : List.findIdx (hit k nm) (x :: L) = 0 := by rw [List.findIdx_cons, hx]; rfl
      rw [this, List.eraseIdx_zero, List.filter_cons, hx]
      show L = _
      symm
      rw [if_neg (by decide), List.filter_eq_self]
      intro y hy
      rw [Bool.not_eq_true']
      cases hy2 : hit k nm y with
      | false => rfl
      | true =>
        refine absurd ?_ (hp.1 y hy)
        have h1 := hit_iff.1 hx
        have h2 := hit_iff.1 hy2
        unfold Key
        rw [h1.1, h1.2, h2.1, h2.2]
    | false =>
      have : List.findIdx (hit k nm) (x :: L) = List.findIdx (hit k nm) L + 1 := by rw [List.findIdx_cons, hx]; rfl
      rw [this, List.eraseIdx_cons_succ, ih, List.filter_cons, hx]
      rfl
theorem hit_pod {nm : ByteArray} {x : Ob} : hit 1 nm x = true ↔ isPod x = true ∧ x.name = nm := by
  rw [hit_iff]
  unfold isPod
  rw [decide_eq_true_eq]
/-- One more is deleted. -/
theorem del_next {L : List Ob} (h : KeyNe L) (R : List ByteArray) (nm : ByteArray) : del (L.filter (keepR R)) 1 nm = L.filter (keepR (R ++ [nm])) := by
  rw [erase_hit (List.Pairwise.filter _ h), List.filter_filter]
  refine List.filter_congr fun x _ => ?_
  rw [Bool.eq_iff_iff, Bool.and_eq_true, Bool.not_eq_true', ← Bool.not_eq_true, hit_pod, keepR_iff, keepR_iff, List.mem_append, List.mem_singleton]
  constructor
  · rintro ⟨h1, h2⟩ ⟨h3, h4 | h4⟩
    · exact h2 ⟨h3, h4⟩
    · exact h1 ⟨h3, h4⟩
  · exact fun h => ⟨fun e => h ⟨e.1, .inr e.2⟩, fun e => h ⟨e.1, .inl e.2⟩⟩
theorem KeyNe.pod_eq {L : List Ob} (h : KeyNe L) {a b : Ob} (ha : a ∈ L) (hb : b ∈ L) (pa : isPod a = true) (pb : isPod b = true) (e : a.name = b.name) : a = b := by
  obtain ⟨i, hi⟩ := List.getElem?_of_mem ha
  obtain ⟨j, hj⟩ := List.getElem?_of_mem hb
  by_cases hij : i = j
  · subst hij
    rw [hi] at hj
    exact Option.some.inj hj
  · refine absurd ?_ (apart_other h hi hj hij)
    unfold isPod at pa pb
    unfold Key
    rw [of_decide_eq_true pa, of_decide_eq_true pb, e]
theorem isOf_split (s : ByteArray) (x : Ob) : isOf s x = true ↔ (isLive s x = true ∨ isFailed s x = true) := by
  unfold isLive isFailed
  rw [Bool.and_eq_true, Bool.and_eq_true, Bool.not_eq_true', decide_eq_false_iff_not, decide_eq_true_eq]
  constructor
  · intro h
    rcases Decidable.em (x.p.ph = 3) with h2 | h2
    · exact .inr ⟨h, h2⟩
    · exact .inl ⟨h, h2⟩
  · rintro (h | h) <;> exact h.1
theorem isLive_of {s : ByteArray} {x : Ob} (h : isLive s x = true) : isOf s x = true ∧ isPod x = true ∧ isFailed s x = false := by
  unfold isLive at h
  unfold isFailed
  rw [Bool.and_eq_true, Bool.not_eq_true'] at h
  refine ⟨h.1, ?_, by rw [h.2, Bool.and_false]⟩
  have := h.1
  unfold isOf at this
  rw [Bool.and_eq_true] at this
  exact this.1
theorem isFailed_of {s : ByteArray} {x : Ob} (h : isFailed s x = true) : isOf s x = true ∧ isPod x = true ∧ isLive s x = false := by
  unfold isFailed at h
  unfold isLive
  rw [Bool.and_eq_true] at h
  refine ⟨h.1, ?_, by rw [h.2]; simp⟩
  have := h.1
  unfold isOf at this
  rw [Bool.and_eq_true] at this
  exact this.1
/-- The counts of a row: of an owner's, and of the rest. -/
theorem count3 (s : ByteArray) : ∀ L : List Ob, L.length = (L.filter (fun x => !isOf s x)).length + liveN s L + failN s L
  | [] => rfl
  | x :: L => by
    have ih := count3 s L
    unfold liveN failN at ih ⊢
    rw [List.filter_cons, List.filter_cons, List.filter_cons, List.length_cons]
    cases h1 : isOf s x with
    | false =>
      have h2 : isLive s x = false := by
        cases h : isLive s x with
        | false => rfl
        | true => have := (isLive_of h).1; rw [h1] at this; cases this
      have h3 : isFailed s x = false := by
        cases h : isFailed s x with
        | false => rfl
        | true => have := (isFailed_of h).1; rw [h1] at this; cases this
      rw [h2, h3]
      simp
      omega
    | true =>
      rcases (isOf_split s x).1 h1 with h | h
      · rw [h, (isLive_of h).2.2]
        simp
        omega
      · rw [h, (isFailed_of h).2.2]
        simp
        omega
/-- What is left of the live ones. -/
theorem drop_names {so : List Ob} (hu : UnlikeN so) (j : Nat) : so.filter (fun x => decide (x.name.data.toList ∉ bys ((so.take j).map (·.name)))) = so.drop j := by
  conv => lhs; rw [← List.take_append_drop j so]
  have hu2 : UnlikeN (so.take j ++ so.drop j) := by rw [List.take_append_drop]; exact hu
  rw [List.filter_append]
  have h1 : (so.take j).filter (fun x => decide (x.name.data.toList ∉ bys (((so.take j ++ so.drop j).take j).map (·.name)))) = [] := by
    rw [List.filter_eq_nil_iff, List.take_append_drop]
    intro x hx
    rw [decide_eq_true_eq, mem_bys]
    exact fun h => h (List.mem_map.2 ⟨x, hx, rfl⟩)
  have h2 : (so.drop j).filter (fun x => decide (x.name.data.toList ∉ bys (((so.take j ++ so.drop j).take j).map (·.name)))) = so.drop j := by
    rw [List.filter_eq_self, List.take_append_drop]
    intro x hx
    rw [decide_eq_true_eq, mem_bys]
    intro h
    obtain ⟨y, hy, e⟩ := List.mem_map.1 h
    exact (List.pairwise_append.1 hu2).2.2 y hy x hx e
  rw [h1, h2]
  rfl
/-- What a pass deletes, of a store's objects. -/
theorem after_del {s : ByteArray} {L lp so : List Ob} {R : List ByteArray} {j : Nat} (hL : KeyNe L) (hlp : lp.Perm (L.filter isPod)) (hso : (lp.filter (isLive s)).Perm so) (hR : R = sortS ((lp.filter (isFailed s)).map (·.name)) ++ (so.take j).map (·.name)) :
    (L.filter (keepR R)).filter (fun x => !isOf s x) = L.filter (fun x => !isOf s x) ∧ (L.filter (keepR R)).filter (isFailed s) = [] ∧ liveN s (L.filter (keepR R)) = so.length - j ∧ so.length = liveN s L ∧ R.length = failN s L + min j so.length ∧ R.Pairwise (· ≠ ·) ∧ (∀ nm ∈ R, L.any (hit 1 nm) = true) := by
  have hpod : ∀ x ∈ lp, x ∈ L ∧ isPod x = true := fun x hx => List.mem_filter.1 (hlp.mem_iff.1 hx)
  have hsoM : ∀ x ∈ so, x ∈ lp ∧ isLive s x = true := fun x hx => List.mem_filter.1 (hso.mem_iff.2 hx)
  have inR : ∀ {x : Ob}, x ∈ L → isPod x = true → (x.name ∈ R ↔ (isFailed s x = true ∨ x ∈ so.take j)) := by
    intro x hx px
    rw [hR, List.mem_append, (sortS_perm _).mem_iff, List.mem_map, List.mem_map]
    constructor
    · rintro (⟨y, hy, e⟩ | ⟨y, hy, e⟩)
      · obtain ⟨h1, h2⟩ := List.mem_filter.1 hy
        have := hL.pod_eq (hpod y h1).1 hx (hpod y h1).2 px e
        subst this
        exact .inl h2
      · have h1 := hsoM y (List.mem_of_mem_take hy)
        have := hL.pod_eq (hpod y h1.1).1 hx (hpod y h1.1).2 px e
        subst this
        exact .inr hy
    · rintro (h | h)
      · exact .inl ⟨x, List.mem_filter.2 ⟨hlp.mem_iff.2 (List.mem_filter.2 ⟨hx, px⟩), h⟩, rfl⟩
      · exact .inr ⟨x, h, rfl⟩
  have hu : UnlikeN lp := by
    have h1 : UnlikeN (L.filter isPod) := by
      refine List.Pairwise.imp_of_mem (R := fun a b => Key a ≠ Key b) (fun {a b} ha hb hne e => hne ?_) (List.Pairwise.filter _ hL)
      have pa := (List.mem_filter.1 ha).2
      have pb := (List.mem_filter.1 hb).2
      unfold isPod at pa pb
      unfold Key
      rw [of_decide_eq_true pa, of_decide_eq_true pb, e]
    exact unlike_perm h1 hlp.symm
  have huso : UnlikeN so := unlike_perm (unlike_filter hu _) hso
  have hliveP : (L.filter (isLive s)).Perm so := by
    have e : (L.filter isPod).filter (isLive s) = L.filter (isLive s) := by
      rw [List.filter_filter]
      refine List.filter_congr fun x _ => ?_
      cases h : isLive s x with
      | false => rw [Bool.false_and]
      | true => rw [(isLive_of h).2.1]; rfl
    rw [← e]
    exact ((hlp.filter _).symm).trans hso
  have hfailP : (L.filter (isFailed s)).Perm (lp.filter (isFailed s)) := by
    have e : (L.filter isPod).filter (isFailed s) = L.filter (isFailed s) := by
      rw [List.filter_filter]
      refine List.filter_congr fun x _ => ?_
      cases h : isFailed s x with
      | false => rw [Bool.false_and]
      | true => rw [(isFailed_of h).2.1]; rfl
    rw [← e]
    exact (hlp.filter _).symm
  refine ⟨?_, ?_, ?_, ?_, ?_, ?_, ?_⟩
  · rw [List.filter_filter]
    refine List.filter_congr fun x hx => ?_
    cases h : isOf s x with
    | true => rfl
    | false =>
      rw [Bool.not_false, Bool.true_and, keepR_iff]
      rintro ⟨px, hm⟩
      rcases (inR hx px).1 hm with h2 | h2
      · have := (isFailed_of h2).1
        rw [h] at this; cases this
      · have := (isLive_of (hsoM x (List.mem_of_mem_take h2)).2).1
        rw [h] at this; cases this
  · rw [List.filter_filter, List.filter_eq_nil_iff]
    intro x hx h
    rw [Bool.and_eq_true, keepR_iff] at h
    have px := (isFailed_of h.1).2.1
    exact h.2 ⟨px, (inR hx px).2 (.inl h.1)⟩
  · have e1 : (L.filter (keepR R)).filter (isLive s) = (L.filter (isLive s)).filter (keepR R) := by
      rw [List.filter_filter, List.filter_filter]
      exact List.filter_congr fun x _ => Bool.and_comm _ _
    unfold liveN
    rw [e1, (hliveP.filter (keepR R)).length_eq]
    have e2 : so.filter (keepR R) = so.filter (fun x => decide (x.name.data.toList ∉ bys ((so.take j).map (·.name)))) := by
      refine List.filter_congr fun x hx => ?_
      obtain ⟨h1, h2⟩ := hsoM x hx
      obtain ⟨h3, h4⟩ := hpod x h1
      rw [Bool.eq_iff_iff, keepR_iff, decide_eq_true_eq, mem_bys, List.mem_map]
      constructor
      · rintro h ⟨y, hy, e⟩
        exact h ⟨h4, by rw [hR]; exact List.mem_append_right _ (List.mem_map.2 ⟨y, hy, e⟩)⟩
      · rintro h ⟨_, hm⟩
        rcases (inR h3 h4).1 hm with h5 | h5
        · rw [(isLive_of h2).2.2] at h5; cases h5
        · exact h ⟨x, h5, rfl⟩
    rw [e2, drop_names huso, List.length_drop]
  · unfold liveN
    exact hliveP.length_eq.symm
  · rw [hR, List.length_append, sortS_len, List.length_map, List.length_map, List.length_take]
    unfold failN
    rw [hfailP.length_eq]
  · rw [hR, List.pairwise_append]
    refine ⟨(sortS_perm _).symm.pairwise (by rw [List.pairwise_map]; exact unlike_filter hu _) (fun e => Ne.symm e), ?_, ?_⟩
    · rw [List.pairwise_map]
      exact huso.sublist (List.take_sublist _ _)
    · intro a ha b hb e
      rw [(sortS_perm _).mem_iff] at ha
      obtain ⟨y, hy, rfl⟩ := List.mem_map.1 ha
      obtain ⟨z, hz, rfl⟩ := List.mem_map.1 hb
      obtain ⟨h1, h2⟩ := List.mem_filter.1 hy
      obtain ⟨h3, h4⟩ := hsoM z (List.mem_of_mem_take hz)
      have := hu.eq h1 h3 e
      subst this
      rw [(isLive_of h4).2.2] at h2
      cases h2
  · intro nm hm
    rw [hR, List.mem_append, (sortS_perm _).mem_iff, List.mem_map, List.mem_map] at hm
    rw [List.any_eq_true]
    rcases hm with ⟨y, hy, e⟩ | ⟨y, hy, e⟩
    · obtain ⟨h1, h2⟩ := hpod y (List.mem_filter.1 hy).1
      exact ⟨y, h1, hit_pod.2 ⟨h2, e⟩⟩
    · obtain ⟨h1, h2⟩ := hpod y (hsoM y (List.mem_of_mem_take hy)).1
      exact ⟨y, h1, hit_pod.2 ⟨h2, e⟩⟩

/-! ### what comes -/
theorem nodup_le : ∀ {S T : List Nmb}, S.Pairwise (· ≠ ·) → (∀ x ∈ S, x ∈ T) → S.length ≤ T.length
  | [], T, _, _ => Nat.zero_le _
  | x :: S, T, h, hs => by
    have hp := List.pairwise_cons.1 h
    have hx := hs x List.mem_cons_self
    have h2 := nodup_le (S := S) (T := T.erase x) hp.2 (fun y hy => (List.mem_erase_of_ne (fun e => hp.1 y hy e.symm)).2 (hs y (List.mem_cons_of_mem _ hy)))
    rw [List.length_erase_of_mem hx] at h2
    have : 0 < T.length := List.length_pos_of_mem hx
    rw [List.length_cons]
    omega
theorem split_len {α : Type} (p : α → Bool) : ∀ l : List α, (l.filter p).length + (l.filter (fun x => !p x)).length = l.length
  | [] => rfl
  | x :: l => by
    have ih := split_len p l
    rw [List.filter_cons, List.filter_cons, List.length_cons]
    cases h : p x <;> simp <;> omega
theorem range_ne (n : Nat) : (List.range n).Pairwise (· ≠ ·) := List.pairwise_lt_range.imp (fun h e => by omega)
/-- There are as many free names as are asked for, all unlike, none taken. -/
theorem frees_facts {s : ByteArray} {T : List Nmb} {k : Nat} (hs : okNm s = true) (hT : T.length + k ≤ 10000) : (frees s T k).length = k ∧ (frees s T k).Pairwise (· ≠ ·) ∧ (∀ nm ∈ frees s T k, nm.data.toList ∉ T ∧ ∃ n, n < 10000 ∧ nm = pname s n) := by
  unfold frees
  rw [if_pos hs]
  have hbad : ((List.range 10000).filter (fun n => !fr s T n)).length ≤ T.length := by
    have h1 : (((List.range 10000).filter (fun n => !fr s T n)).map (fun n => (pname s n).data.toList)).Pairwise (· ≠ ·) := by
      rw [List.pairwise_map]
      refine List.Pairwise.imp_of_mem (R := (· ≠ ·)) (fun {a b} ha hb hne e => hne ?_) (List.Pairwise.filter _ (range_ne 10000))
      have h2 := List.mem_range.1 (List.mem_filter.1 ha).1
      have h3 := List.mem_range.1 (List.mem_filter.1 hb).1
      exact pname_inj h2 h3 (bys_inj e)
    have h2 := nodup_le h1 (T := T) (fun x hx => by
      obtain ⟨n, hn, rfl⟩ := List.mem_map.1 hx
      have := (List.mem_filter.1 hn).2
      unfold fr at this
      simpa using this)
    rw [List.length_map] at h2
    exact h2
  have hsum : ((List.range 10000).filter (fr s T)).length + ((List.range 10000).filter (fun n => !fr s T n)).length = 10000 := by
    have := split_len (fr s T) (List.range 10000)
    rw [List.length_range] at this
    exact this
  refine ⟨?_, ?_, ?_⟩
  · rw [List.length_map, List.length_take]
    omega
  · rw [List.pairwise_map]
    refine List.Pairwise.imp_of_mem (R := (· ≠ ·)) (fun {a b} ha hb hne e => hne ?_) ((List.Pairwise.filter _ (range_ne 10000)).sublist (List.take_sublist _ _))
    have h2 := List.mem_range.1 (List.mem_filter.1 (List.mem_of_mem_take ha)).1
    have h3 := List.mem_range.1 (List.mem_filter.1 (List.mem_of_mem_take hb)).1
    exact pname_inj h2 h3 e
  · intro nm hm
    obtain ⟨n, hn, rfl⟩ := List.mem_map.1 hm
    obtain ⟨h1, h2⟩ := List.mem_filter.1 (List.mem_of_mem_take hn)
    refine ⟨?_, n, List.mem_range.1 h1, rfl⟩
    unfold fr at h2
    exact of_decide_eq_true h2
/-- A pass has been: what goes, and what comes. -/
theorem passed_of {s : ByteArray} {N : Nat} {L lp so Q : List Ob} {R : List ByteArray} {n n' : Nat} (hL : KeyNe L) (hlp : lp.Perm (L.filter isPod)) (hso : (lp.filter (isLive s)).Perm so) (hR : R = sortS ((lp.filter (isFailed s)).map (·.name)) ++ (so.take (min (so.length - N) 16)).map (·.name))
    (hQ : ∀ x ∈ Q, isLive s x = true) (hQl : Q.length = min (N - so.length) 16) (hn : n' = n + R.length + Q.length) : Passed s N L (L.filter (keepR R) ++ Q) n n' := by
  obtain ⟨h1, h2, h3, h4, h5, h6, h7⟩ := after_del hL hlp hso hR
  refine ⟨?_, ?_, ?_, ?_, fun hs => ?_⟩
  · rw [List.filter_append, h1]
    have : Q.filter (fun x => !isOf s x) = [] := by
      rw [List.filter_eq_nil_iff]
      intro x hx
      rw [(isLive_of (hQ x hx)).1]
      decide
    rw [this, List.append_nil]
  · rw [List.filter_append, h2, List.nil_append, List.filter_eq_nil_iff]
    intro x hx
    rw [(isLive_of (hQ x hx)).2.2]
    decide
  · have e : liveN s (L.filter (keepR R) ++ Q) = liveN s (L.filter (keepR R)) + Q.length := by
      unfold liveN
      rw [List.filter_append, List.length_append, List.filter_eq_self.2 hQ]
    rw [e, h3, hQl, h4]
  · rw [hn, h5, hQl, ← h4]
    omega
  · have e1 : R = [] := List.eq_nil_of_length_eq_zero (by omega)
    have e2 : Q = [] := List.eq_nil_of_length_eq_zero (by omega)
    rw [e1, e2, keepR_nil, List.append_nil]
end Go.Proofs.YtbkoepghmcdnhaaGreatDoor.Rp
/- The law's model: where one is; an event. -/
namespace Go.Proofs.YtbkoepghmcdnhaaGreatDoor
open Go.RowKit Go.Shelf Go.Lib Go.Sort
open Go.Joins (cell_of_block unfrozen_of_block block_setCell)
set_option linter.unusedVariables false
set_option linter.unusedSimpArgs false
set_option maxRecDepth 20000

/-- The cells of an object. -/
abbrev Cs := { a : Array Value // a.size = 47 ∧ a.all (·.oneCell') = true }
def encC (c : Cs) : List Value := c.1.toList
theorem lenC (c : Cs) : (encC c).length = 47 := by unfold encC; rw [Array.length_toList]; exact c.2.1
theorem oneC (c : Cs) : ∀ u ∈ encC c, u.oneCell' = true := by
  intro u hu
  have h := c.2.2
  rw [← Array.all_toList] at h
  exact List.all_eq_true.1 h u hu
def mkC {base : Nat} {w : World} {cs : Array Value} {o : Ob} (h : Kept base w cs o) : Cs := ⟨cs, h.obj.1, objV_one h.obj⟩
abbrev SlO : TypeId := 22
def moC (lv : Value) (now : Nat) (mev : Value) : Array Value := #[lv, .int .u64 (now : Int), mev]

/-- Where one is, -1: it isn't. -/
def idx (l : List Ob) (k : Int) (nm : ByteArray) : Int := if l.any (hit k nm) then (l.findIdx (hit k nm) : Int) else -1
theorem rangeAt_own {w : World} {base g n cap : Nat} {csl : List Cs} {i : Nat} {c : Cs} (h : w.ownsRow base OT 47 (.slice (some ⟨g, 0, none⟩) n cap) csl.length (flat encC csl)) (hc : csl[i]? = some c) : w.rangeAt g (i * 47) c.1.toList := by
  intro j v hv
  have hj : j < 47 := by
    have := (List.getElem?_eq_some_iff.1 hv).1
    rw [Array.length_toList, c.2.1] at this
    exact this
  have := h.cells (g := g) rfl (i * 47 + j) v (by rw [flat_at lenC csl i j c hc hj]; exact hv)
  rwa [add_none', Nat.zero_add] at this
theorem load_at47 {w : World} {g o : Nat} {c : Cs} (h : w.rangeAt g o c.1.toList) : (Instr.loadAt OT (.pointer (some ⟨g, o, none⟩))).run Tryz.prog w = .ok (.agg c.1) w :=
  run_loadAt_mid (P := Tryz.prog) w g o OT c.1.toList _ h Tryz.underlying51 rfl (by rw [Array.length_toList, c.2.1]; exact info_ob47)

theorem name_test (a b : ByteArray) : (a.toList == b.toList) = decide (a = b) := by
  rw [ByteArray.toList_eq, ByteArray.toList_eq, Bool.eq_iff_iff, beq_iff_eq, decide_eq_true_eq]
  exact ⟨fun h => by_inj h, fun h => by rw [h]⟩
theorem hit_eq (k : Int) (nm : ByteArray) (o : Ob) : hit k nm o = ((o.kind == k) && (o.name.toList == nm.toList)) := by
  rw [name_test, Bool.eq_iff_iff, hit_iff, Bool.and_eq_true, beq_iff_eq, decide_eq_true_eq]
theorem idx_at {l : List Ob} {k : Int} {nm : ByteArray} {j : Nat} {o : Ob} (h : l[j]? = some o) (hh : hit k nm o = true) (hb : ∀ i x, i < j → l[i]? = some x → hit k nm x = false) : idx l k nm = (j : Int) := by
  have hj := (List.getElem?_eq_some_iff.1 h)
  obtain ⟨hlt, he⟩ := hj
  have ha : l.any (hit k nm) = true := List.any_eq_true.2 ⟨o, List.mem_of_getElem? h, hh⟩
  unfold idx
  rw [if_pos ha]
  have : l.findIdx (hit k nm) = j := by
    rw [List.findIdx_eq hlt]
    refine ⟨by rw [he]; exact hh, fun i hi => ?_⟩
    exact hb i _ hi (List.getElem?_eq_getElem (by omega))
  rw [this]
theorem idx_none {l : List Ob} {k : Int} {nm : ByteArray} (hb : ∀ i x, i < l.length → l[i]? = some x → hit k nm x = false) : idx l k nm = -1 := by
  unfold idx
  rw [if_neg]
  intro h
  obtain ⟨x, hx, hp⟩ := List.any_eq_true.1 h
  obtain ⟨i, hi⟩ := List.getElem?_of_mem hx
  rw [hb i x (List.getElem?_eq_some_iff.1 hi).1 hi] at hp
  cases hp

end Go.Proofs.YtbkoepghmcdnhaaGreatDoor
/- Objects deleted. -/
namespace Go.Proofs.YtbkoepghmcdnhaaGreatDoor
open Go.RowKit Go.Shelf Go.Lib Go.Sort
open Go.Joins (cell_of_block unfrozen_of_block block_setCell)
set_option linter.unusedVariables false
set_option linter.unusedSimpArgs false
set_option maxRecDepth 20000

/-- What Delete is refused with; 0: it isn't. -/
def delE (k : Int) (nm : ByteArray) (ver : Nat) (l : List Ob) : Int := if k < 0 ∨ 5 ≤ k then 17 else match l.find? (hit k nm) with | none => 7 | some x => if ver ≠ 0 ∧ ver ≠ x.ver then 9 else 0

set_option maxHeartbeats 4000000 in
theorem delete_bad (w : World) (sp : Nat) (k : Int) (nm : ByteArray) (ver : Nat) (h : k < 0 ∨ 5 ≤ k) :
    Calls Tryz.prog 22 #[.pointer (some ⟨sp, 0, none⟩), .int .i64 k, .string nm, .int .u64 (ver : Int)] w fun e w' => e = .returned (.tuple #[.int .u64 0, .int .i64 17]) ∧ w = w' := by
  by_cases h1 : k < 0
  · have t : decide (k < 0) = true := decide_eq_true h1
    clear h
    go_enter Tryz.func22, Tryz.ntmps22
    go_wp2
    refine bodyPost_ret (results_tmp2 rfl _ _ _) rfl ?_
    exact ⟨rfl, rfl⟩
  · have t : decide (k < 0) = false := decide_eq_false h1
    have t2 : decide (5 ≤ k) = true := decide_eq_true (by omega)
    clear h
    go_enter Tryz.func22, Tryz.ntmps22
    go_wp2
    refine bodyPost_ret (results_tmp2 rfl _ _ _) rfl ?_
    exact ⟨rfl, rfl⟩

set_option maxHeartbeats 8000000 in
theorem delete_any (base : Nat) (w : World) (S : List Nat) (sp : Nat) (most : Int) (l : List Ob) (hist : List Ev) (k : Int) (nm : ByteArray) (ver : Nat) (hs : StIs base w S sp most l hist) (hn : hist.length < 1000000) (hk : 0 ≤ k ∧ k < 5) (hnm : nm.size ≤ maxLen) :
    Calls Tryz.prog 22 #[.pointer (some ⟨sp, 0, none⟩), .int .i64 k, .string nm, .int .u64 (ver : Int)] w fun e w' =>
      (delE k nm ver l ≠ 0 ∧ e = .returned (.tuple #[.int .u64 0, .int .i64 (delE k nm ver l)]) ∧ Below w.heap.size w w') ∨
      (delE k nm ver l = 0 ∧ e = .returned (.tuple #[.int .u64 ((hist.length + 1 : Nat) : Int), .int .i64 0]) ∧ After base w w' S sp most (del l k nm) (hist ++ [⟨2, k, nm, hist.length + 1⟩])) := by
  have mixed : Tryz.prog.follows .mixedOrders = true := by kernel_rfl
  obtain ⟨mb, Dm, ev, kept, h⟩ := hs
  have k64 : I64 k := by unfold I64; omega
  have hdE : delE k nm ver l = match l.find? (hit k nm) with | none => 7 | some x => if ver ≠ 0 ∧ ver ≠ x.ver then 9 else 0 := if_neg (by omega)
  obtain ⟨A, hA⟩ : ∃ A, A = w.heap.size := ⟨_, rfl⟩
  obtain ⟨n, hnw⟩ : ∃ n, n = w.alloc (.cells #[.int .i64 k, .string nm] KT) := ⟨_, rfl⟩
  have G0 : Gr w n := hnw ▸ (Gr.refl w).alloc _
  have a0 : n.heap[A]? = some (.cells #[.int .i64 k, .string nm] KT (0, 0)) := by rw [hnw, hA]; exact heap_alloc_new w _
  have hns : n.heap.size = A + 1 := by rw [hnw, hA]; simp
  have SN := (show StIs base w S sp most l hist from ⟨mb, Dm, ev, kept, h⟩).gr G0.below
  have hN : StAt base n S sp mb Dm ev kept most l hist := h.stay (fun g hg => G0.heap (h.prot g hg).2.1) (Fx.ofBelow G0.below)
  obtain ⟨th, V, hV, hVo, hfind, LK⟩ : ∃ th V, V.size = 47 ∧ V.all (·.oneCell') = true ∧ ((th = false ∧ l.find? (hit k nm) = none) ∨ ∃ x, th = true ∧ l.find? (hit k nm) = some x ∧ Kept base n V x) ∧ (∀ ws : World, ws.heap[mb]? = n.heap[mb]? → (Instr.lookup MT (.map (some mb)) (thing k nm) true).run Tryz.prog ws = .ok (.tuple #[.agg V, .bool th]) ws) := by
    rcases hN.map.look k64 hnm with ⟨a1, a2, a3⟩ | ⟨x, cx, a1, a2, a3, a4⟩
    · exact ⟨false, zerC, rfl, zer_all, .inl ⟨rfl, a2⟩, a3⟩
    · exact ⟨true, cx, a3.obj.1, objV_one a3.obj, .inr ⟨x, rfl, a2, a3⟩, a4⟩
  have hmc : n.cell? ⟨sp, 2, none⟩ = some (.map (some mb)) := cell_of_block hN.blk 2
  have hml : mb < n.heap.size := (map_prot hN.map h.bmb).2.1
  have hspl : sp < n.heap.size := (Array.getElem?_eq_some_iff.1 hN.blk).1
  have hAl : A < n.heap.size := (Array.getElem?_eq_some_iff.1 a0).1
  have KB : Hid (∀ ws : World, Below n.heap.size n ws → ws.cell? ⟨sp, 2, none⟩ = some (.map (some mb))) := fun ws b => (World.cell?_of_block (b.block sp hspl)).trans hmc
  have KL : Hid (∀ ws : World, Below n.heap.size n ws → ws.rangeAt A 0 [.int .i64 k, .string nm]) := fun ws b => rangeAt_block (cs := #[.int .i64 k, .string nm]) ((b.block A hAl).trans a0)
  have KK : Hid (∀ ws : World, Below n.heap.size n ws → (Instr.lookup MT (.map (some mb)) (.agg #[.int .i64 k, .string nm]) true).run Tryz.prog ws = .ok (.tuple #[.agg V, .bool th]) ws) := fun ws b => LK ws (b.block mb hml)
  have hik : (Tryz.prog.info? KT).map (·.size) = some ([.int .i64 k, .string nm] : List Value).length := by kernel_rfl
  have huk := Tryz.underlying83
  have IV : Hid ((Tryz.prog.info? OT).map (·.size) = some V.size) := by show _ = _; rw [hV]; exact info_ob47
  have OV := Lib.hid hVo
  have S0 : Hid (Below n.heap.size n n.drew) := ((Gr.refl n).drewN 1).below
  have t1 : decide (k < 0) = false := decide_eq_false (by omega)
  have t2 : decide (5 ≤ k) = false := decide_eq_false (by omega)
  have HW : Hid (w.alloc (.cells #[.int .i64 k, .string nm] KT) = n ∧ w.heap.size = A) := ⟨hnw.symm, hA.symm⟩
  have HT := Lib.hid (And.intro h (And.intro hN (And.intro hfind (And.intro G0 (And.intro a0 (And.intro hns (And.intro hA (And.intro hdE (And.intro k64 (And.intro hnm hml))))))))))
  have SV : Hid (∀ (v : World) (A : Nat), Below n.heap.size n v → n.heap.size ≤ A → v.heap[A]? = some (.cells zerC OT (0, 0)) → v.there A 0 V.size ∧ (v.setCells A 0 V.toList).heap[A]? = some (.cells V OT (0, 0)) ∧ Below n.heap.size n (v.setCells A 0 V.toList)) := fun v A b hA hz => by
    obtain ⟨a1, a2, a3, a4⟩ := store_ob (base := A) hz rfl hV (Nat.le_refl _)
    exact ⟨a1, a2, b.trans (a4.below (fun g hg => by simp at hg; omega) b.size)⟩
  clear h hN hfind G0 a0 hns hA hdE k64 hnm hml hspl hAl LK hV hVo hmc SN hnw hk
  go_enter Tryz.func22, Tryz.ntmps22
  go_upto_region 6 with fail
  rw [HW.out.1, HW.out.2]
  go_cut [11, 12] from 24 to 32 (fun v11 v12 wc => ∃ C, v11 = .pointer (some ⟨C, 0, none⟩) ∧ v12 = .bool th ∧ Hid (n.heap.size ≤ C ∧ wc.heap[C]? = some (.cells V OT (0, 0)) ∧ Below n.heap.size n wc))
  case first =>
    refine wp_region_held_drew (S := fun ws => Below n.heap.size n ws) mixed S0.out (fun hS => ?_)
    refine wpAnyH_takeD (i := 0) (d := 25) (v := .pointer (some ⟨sp, 0, none⟩)) _ rfl rfl (by kernel_rfl) (by kernel_rfl) (by kernel_rfl) (fun _ _ _ h => h) (Or.inl ⟨by kernel_rfl, fun ws hSw => by first | (go_simp; done) | (go_simp; with_reducible rfl) | (go_simp; rfl)⟩) hS ?_
    simp only [Act.put, List.setIfInBounds_toArray, List.set_cons_zero, List.set_cons_succ]
    refine wpAnyH_takeD (i := 1) (d := 26) (v := .pointer (some ⟨sp, 0, none⟩)) _ rfl rfl (by kernel_rfl) (by kernel_rfl) (by kernel_rfl) (fun _ _ _ h => h) (Or.inl ⟨by kernel_rfl, fun ws hSw => by first | (go_simp; done) | (go_simp; with_reducible rfl) | (go_simp; rfl)⟩) hS ?_
    simp only [Act.put, List.setIfInBounds_toArray, List.set_cons_zero, List.set_cons_succ]
    refine wpAnyH_takeD (i := 2) (d := 27) (v := .pointer (some ⟨sp, 2, none⟩)) _ rfl rfl (by kernel_rfl) (by kernel_rfl) (by kernel_rfl) (fun _ _ _ h => h) (Or.inl ⟨by kernel_rfl, fun ws hSw => by first | (go_simp; done) | (go_simp; with_reducible rfl) | (go_simp; rfl)⟩) hS ?_
    simp only [Act.put, List.setIfInBounds_toArray, List.set_cons_zero, List.set_cons_succ]
    refine wpAnyH_takeD (i := 3) (d := 28) (v := .map (some mb)) _ rfl rfl (by kernel_rfl) (by kernel_rfl) (by kernel_rfl) (fun _ _ _ h => h) (Or.inl ⟨by kernel_rfl, fun ws hSw => by have q := KB.out ws hSw; first | (go_simp; done) | (go_simp; with_reducible rfl) | (go_simp; rfl)⟩) hS ?_
    simp only [Act.put, List.setIfInBounds_toArray, List.set_cons_zero, List.set_cons_succ]
    refine wpAnyH_takeD (i := 4) (d := 29) (v := .agg #[.int .i64 k, .string nm]) _ rfl rfl (by kernel_rfl) (by kernel_rfl) (by kernel_rfl) (fun _ _ _ h => h) (yieldsIf_load_mid (by kernel_rfl) _ _ rfl A 0 (by kernel_rfl) [.int .i64 k, .string nm] _ (fun ws hSw => KL.out ws hSw) huk rfl hik) hS ?_
    simp only [Act.put, List.setIfInBounds_toArray, List.set_cons_zero, List.set_cons_succ]
    refine wpAnyH_takeD (i := 5) (d := 30) (v := .tuple #[.agg V, .bool th]) _ rfl rfl (by kernel_rfl) (by kernel_rfl) (by kernel_rfl) (fun _ _ _ h => h) (Or.inl ⟨by kernel_rfl, fun ws hSw => by have q := KK.out ws hSw; first | (go_simp; done) | (go_simp; with_reducible rfl) | (go_simp; rfl)⟩) hS ?_
    simp only [Act.put, List.setIfInBounds_toArray, List.set_cons_zero, List.set_cons_succ]
    refine wpAnyH_takeD (i := 6) (d := 24) (v := .tuple #[.agg V, .bool th]) _ rfl rfl (by kernel_rfl) (by kernel_rfl) (by kernel_rfl) (fun _ _ _ h => h) (Or.inl ⟨by kernel_rfl, fun ws hSw => by first | (go_simp; done) | (go_simp; with_reducible rfl) | (go_simp; rfl)⟩) hS ?_
    simp only [Act.put, List.setIfInBounds_toArray, List.set_cons_zero, List.set_cons_succ]
    refine wpAnyH_takeD (i := 7) (d := 31) (v := .agg V) _ rfl rfl (by kernel_rfl) (by kernel_rfl) (by kernel_rfl) (fun _ _ _ h => h) (Or.inl ⟨by kernel_rfl, fun ws hSw => by first | (go_simp; done) | (go_simp; with_reducible rfl) | (go_simp; rfl)⟩) hS ?_
    simp only [Act.put, List.setIfInBounds_toArray, List.set_cons_zero, List.set_cons_succ]
    refine wpAnyH_takeD (i := 8) (d := 32) (v := .bool th) _ rfl rfl (by kernel_rfl) (by kernel_rfl) (by kernel_rfl) (fun _ _ _ h => h) (Or.inl ⟨by kernel_rfl, fun ws hSw => by first | (go_simp; done) | (go_simp; with_reducible rfl) | (go_simp; rfl)⟩) hS ?_
    simp only [Act.put, List.setIfInBounds_toArray, List.set_cons_zero, List.set_cons_succ]
    refine wpAnyH_ready (rs := [9]) (by kernel_rfl) (by simp) ?_
    refine AllReadyH.cons rfl (fun K hK => ?_) AllReadyH.nil
    go_simp
    obtain ⟨w3, hw3⟩ : ∃ W, W = (n.alloc (.cells zerC OT)).drew := ⟨_, rfl⟩
    have z3 : w3.heap[n.heap.size]? = some (.cells zerC OT (0, 0)) := by rw [hw3]; exact heap_alloc_new n _
    have b3 : Below n.heap.size n w3 := by rw [hw3]; exact (((Gr.refl n).alloc _).drewN 1).below
    obtain ⟨th1, x1, x2⟩ := SV.out w3 n.heap.size b3 (Nat.le_refl _) z3
    obtain ⟨w6, hw6⟩ : ∃ W, W = w3.setCells n.heap.size 0 V.toList := ⟨_, rfl⟩
    rw [← hw6] at x1 x2
    have FIN : Hid (n.heap.size ≤ n.heap.size ∧ w6.heap[n.heap.size]? = some (.cells V OT (0, 0)) ∧ Below n.heap.size n w6) := ⟨Nat.le_refl _, x1, x2⟩
    have TH := Lib.hid th1
    have HW6 := Lib.hid hw6
    rw [← hw3]
    refine hK _ _ b3 (fun hS => ?_)
    clear th1 x1 x2 hw6 z3 hw3 b3
    try simp only [Act.put, List.setIfInBounds_toArray, List.set_cons_zero, List.set_cons_succ]
    refine wpAnyH_ready (rs := [10]) (by kernel_rfl) (by simp) ?_
    refine AllReadyH.cons rfl (fun K hK => ?_) AllReadyH.nil
    rw [if_pos (by rfl)]
    refine wp_store_mid OT _ _ rfl n.heap.size 0 V (by rfl) (by rfl) TH.out IV.out OV.out ?_
    rw [← HW6.out]
    refine hK _ _ FIN.out.2.2 (fun hS => ?_)
    try simp only [Act.put, List.setIfInBounds_toArray, List.set_cons_zero, List.set_cons_succ]
    refine wpAnyH_takeD (i := 11) (d := 12) (v := .bool th) _ rfl rfl (by kernel_rfl) (by kernel_rfl) (by kernel_rfl) (fun _ _ _ h => h) (Or.inl ⟨by kernel_rfl, fun ws hSw => by first | (go_simp; done) | (go_simp; with_reducible rfl) | (go_simp; rfl)⟩) hS ?_
    simp only [Act.put, List.setIfInBounds_toArray, List.set_cons_zero, List.set_cons_succ]
    refine wpAnyH_done (by kernel_rfl) ?_ _
    go_wp2_with fail
    go_meet
    case rel => exact ⟨_, rfl, rfl, FIN⟩
  case rest =>
    obtain ⟨C, rfl, rfl, HC⟩ := hcut
    obtain ⟨h, hN, hfind, G0, a0, hns, hA, hdE, k64, hnm, hml⟩ := HT.out
    obtain ⟨hC, c0, bc⟩ := HC.out
    have BW : Below w.heap.size w wc := G0.below.trans (bc.mono G0.below.size)
    rcases hfind with ⟨rfl, hf⟩ | ⟨x, rfl, hf, kx⟩
    · have FIN : Hid (delE k nm ver l = 7 ∧ Below w.heap.size w wc) := ⟨by rw [hdE, hf], BW⟩
      clear h hN G0 a0 hns hA hdE k64 hnm hml hC c0 bc BW hf HT HC KB KL KK IV OV S0 HW SV hik huk
      go_wp2
      refine bodyPost_ret (results_tmp2 rfl _ _ _) rfl ?_
      exact .inl ⟨by rw [FIN.out.1]; decide, by rw [FIN.out.1]; rfl, FIN.out.2⟩
    · have KX := kx.fx (Fx.ofBelow (base := base) bc)
      obtain ⟨vx, hvx⟩ : ∃ v, v = x.ver := ⟨_, rfl⟩
      have q2 : wc.cell? ⟨C, 2, none⟩ = some (.int .u64 (vx : Int)) := by rw [hvx]; exact (cell_of_block c0 2).trans KX.obj.2.1.2.2.1
      rw [hf] at hdE
      simp only [← hvx] at hdE
      by_cases hbad : ver ≠ 0 ∧ ver ≠ vx
      · have t3 : ((ver : Int) != 0) = true := by rw [bne_iff_ne]; omega
        have t4 : ((ver : Int) != (vx : Int)) = true := by rw [bne_iff_ne]; omega
        have FIN : Hid (delE k nm ver l = 9 ∧ Below w.heap.size w wc) := ⟨by rw [hdE]; exact if_pos hbad, BW⟩
        clear h hN G0 a0 hns hA hdE k64 hnm hml hC c0 bc BW hf HT HC KB KL KK IV OV S0 HW SV hik huk kx KX hvx hbad
        go_wp2
        refine bodyPost_ret (results_tmp2 rfl _ _ _) rfl ?_
        exact .inl ⟨by rw [FIN.out.1]; decide, by rw [FIN.out.1]; rfl, FIN.out.2⟩
      · have hz : delE k nm ver l = 0 := by rw [hdE]; exact if_neg hbad
        have HZ := Lib.hid hz
        have HV := Lib.hid hbad
        clear h hN G0 a0 hns hA hdE k64 hnm hml hC c0 bc BW hf kx KX hvx hbad hz
        go_upto_region 9 with fail
        go_cut [42] from 35 to 42 (fun v wx => v = .bool false ∧ wx = wc)
        case first =>
          by_cases h0 : ver = 0
          · have t3 : ((ver : Int) != 0) = false := by rw [h0]; rfl
            clear h0
            go_wp2_with fail
            go_meet
            case rel => exact ⟨rfl, rfl⟩
          · have t3 : ((ver : Int) != 0) = true := by rw [bne_iff_ne]; omega
            have t4 : ((ver : Int) != (vx : Int)) = false := by
              have := HV.out
              have e : ver = vx := by
                by_cases e : ver = vx
                · exact e
                · exact absurd ⟨h0, e⟩ this
              rw [e]; simp
            go_wp2_with fail
            go_meet
            case rel => exact ⟨rfl, rfl⟩
        case rest =>
          obtain ⟨rfl, rfl⟩ := hcut
          obtain ⟨h, hN, hfind, G0, a0, hns, hA, hdE, k64, hnm, hml⟩ := HT.out
          obtain ⟨hC, c0, bc⟩ := HC.out
          have BW : Below w.heap.size w wc := G0.below.trans (bc.mono G0.below.size)
          have hW : StAt base wc S sp mb Dm ev kept most l hist := h.stay (fun g hg => BW.block g (h.prot g hg).2.1) (Fx.ofBelow BW)
          have aW : wc.heap[A]? = some (.cells #[.int .i64 k, .string nm] KT (0, 0)) := (bc.block A (Array.getElem?_eq_some_iff.1 a0).1).trans a0
          have KC : Hid (∀ ws : World, (ws.heap[sp]? = some (.cells (stC most hist.length mb ev) ST (0, 0)) ∧ ws.heap[A]? = some (.cells #[.int .i64 k, .string nm] KT (0, 0))) → ws.cell? ⟨sp, 2, none⟩ = some (.map (some mb))) := fun ws h => cell_of_block h.1 2
          have KA : Hid (∀ ws : World, (ws.heap[sp]? = some (.cells (stC most hist.length mb ev) ST (0, 0)) ∧ ws.heap[A]? = some (.cells #[.int .i64 k, .string nm] KT (0, 0))) → ws.rangeAt A 0 [.int .i64 k, .string nm]) := fun ws h => rangeAt_block (cs := #[.int .i64 k, .string nm]) h.2
          have S9 : Hid (wc.drew.heap[sp]? = some (.cells (stC most hist.length mb ev) ST (0, 0)) ∧ wc.drew.heap[A]? = some (.cells #[.int .i64 k, .string nm] KT (0, 0))) := ⟨hW.blk, aW⟩
          have gd : Gr wc wc.drew := (Gr.refl wc).drewN 1
          have Md : MapIs base wc.drew mb hist.length Dm l := hW.map.fx rfl (Fx.ofBelow gd.below)
          obtain ⟨w5, hr, M5, t5⟩ := Md.del h.bmb k64 hnm 0
          have hr' : ∀ ty, (Builtin.delete_ #[MT, KT] ty #[.map (some mb), thing k nm]).run Tryz.prog wc.drew = .ok (.tuple #[]) w5 := fun ty => hr
          have T5 := t5.grown
          have nsm : sp ≠ mb := by
            rintro rfl
            obtain ⟨es, c, q1, _⟩ := hW.map.own
            rw [hW.blk] at q1; cases q1
          have nam : A ≠ mb := by
            rintro rfl
            obtain ⟨es, c, q1, _⟩ := hW.map.own
            rw [aW] at q1; cases q1
          have hs5 : w5.heap[sp]? = some (.cells (stC most hist.length mb ev) ST (0, 0)) := (T5.block sp (Array.getElem?_eq_some_iff.1 hW.blk).1 (by simpa using nsm)).trans hW.blk
          have a5 : w5.heap[A]? = some (.cells #[.int .i64 k, .string nm] KT (0, 0)) := (T5.block A (Array.getElem?_eq_some_iff.1 aW).1 (by simpa using nam)).trans aW
          have o5 : w5.ownsRow base ET 4 ev kept.length (flat encE kept) := own_block (w := wc) hW.evs (fun g hg => T5.block g (own_prot hW.evs (Nat.le_refl _) rfl g hg).2.1 (fun e => by
            cases e
            obtain ⟨es, c, q1, _⟩ := hW.map.own
            rcases hW.evs.2 with ⟨e, _⟩ | ⟨g', cap, cur, e, _, h3, _⟩
            · rw [e] at hg; cases hg
            · rw [e] at hg
              simp [Value.ownBlock] at hg
              subst hg
              rw [q1] at h3; cases h3))
          have CN := Lib.hid (note_any base w5 sp mb hist.length most 2 k nm ev kept (Nat.le_trans hW.bw T5.size) hs5 o5 (by omega) (by have := h.ring.1; omega))
          have e0 : w5.cell? ⟨A, 0, none⟩ = some (.int .i64 k) := cell_of_block a5 0
          have e1 : w5.cell? ⟨A, 1, none⟩ = some (.string nm) := cell_of_block a5 1
          have S5 : Hid (w5.heap[sp]? = some (.cells (stC most hist.length mb ev) ST (0, 0)) ∧ w5.heap[A]? = some (.cells #[.int .i64 k, .string nm] KT (0, 0))) := ⟨hs5, a5⟩
          have C5 : Chg [mb] w w5 := ((Chg.ofBelow BW [mb]).trans (Chg.ofGr gd []) (by simp)).trans (Chg.ofGrown (S := [mb]) T5 (fun g e => .inl (by simp at e; simp [e]))) (fun g hg => .inl hg)
          have HR := Lib.hid (And.intro hr' (And.intro M5 (And.intro C5 (And.intro h hW))))
          clear hN hfind G0 a0 hns hA hdE k64 hnm hml hC c0 bc BW hW aW gd Md hr hr' M5 t5 T5 nsm nam hs5 a5 o5 h HT HC KB KL KK IV OV S0 HW SV C5
          go_upto_region 11 with fail
          refine wp_region_held_drew (S := fun ws => ws.heap[sp]? = some (.cells (stC most hist.length mb ev) ST (0, 0)) ∧ ws.heap[A]? = some (.cells #[.int .i64 k, .string nm] KT (0, 0))) mixed S9.out (fun hS => ?_)
          refine wpAnyH_takeD (i := 0) (d := 43) (v := .pointer (some ⟨sp, 0, none⟩)) _ rfl rfl (by kernel_rfl) (by kernel_rfl) (by kernel_rfl) (fun _ _ _ h => h) (Or.inl ⟨by kernel_rfl, fun ws hSw => by first | (go_simp; done) | (go_simp; with_reducible rfl) | (go_simp; rfl)⟩) hS ?_
          simp only [Act.put, List.setIfInBounds_toArray, List.set_cons_zero, List.set_cons_succ]
          refine wpAnyH_takeD (i := 1) (d := 44) (v := .pointer (some ⟨sp, 0, none⟩)) _ rfl rfl (by kernel_rfl) (by kernel_rfl) (by kernel_rfl) (fun _ _ _ h => h) (Or.inl ⟨by kernel_rfl, fun ws hSw => by first | (go_simp; done) | (go_simp; with_reducible rfl) | (go_simp; rfl)⟩) hS ?_
          simp only [Act.put, List.setIfInBounds_toArray, List.set_cons_zero, List.set_cons_succ]
          refine wpAnyH_takeD (i := 2) (d := 45) (v := .pointer (some ⟨sp, 2, none⟩)) _ rfl rfl (by kernel_rfl) (by kernel_rfl) (by kernel_rfl) (fun _ _ _ h => h) (Or.inl ⟨by kernel_rfl, fun ws hSw => by first | (go_simp; done) | (go_simp; with_reducible rfl) | (go_simp; rfl)⟩) hS ?_
          simp only [Act.put, List.setIfInBounds_toArray, List.set_cons_zero, List.set_cons_succ]
          refine wpAnyH_takeD (i := 3) (d := 46) (v := .map (some mb)) _ rfl rfl (by kernel_rfl) (by kernel_rfl) (by kernel_rfl) (fun _ _ _ h => h) (Or.inl ⟨by kernel_rfl, fun ws hSw => by have q := KC.out ws hSw; first | (go_simp; done) | (go_simp; with_reducible rfl) | (go_simp; rfl)⟩) hS ?_
          simp only [Act.put, List.setIfInBounds_toArray, List.set_cons_zero, List.set_cons_succ]
          refine wpAnyH_takeD (i := 4) (d := 47) (v := .agg #[.int .i64 k, .string nm]) _ rfl rfl (by kernel_rfl) (by kernel_rfl) (by kernel_rfl) (fun _ _ _ h => h) (yieldsIf_load_mid (by kernel_rfl) _ _ rfl A 0 (by kernel_rfl) [.int .i64 k, .string nm] _ (fun ws hSw => KA.out ws hSw) huk rfl hik) hS ?_
          simp only [Act.put, List.setIfInBounds_toArray, List.set_cons_zero, List.set_cons_succ]
          refine wpAnyH_ready (rs := [5]) (by kernel_rfl) (by simp) ?_
          refine AllReadyH.cons rfl (fun K hK => ?_) AllReadyH.nil
          refine step_delete (by rfl) _ _ MT KT rfl rfl rfl (HR.out.1 _) ?_
          refine hK _ _ S5.out (fun hS => ?_)
          try simp only [Act.put, List.setIfInBounds_toArray, List.set_cons_zero, List.set_cons_succ]
          refine wpAnyH_done (by kernel_rfl) ?_ _
          go_wp2_with fail
          refine CN.out.mono ?_
          rintro e w6 ⟨rfl, ⟨ev', kept', s6, o6, r6, f6⟩, c6⟩
          have FIN : Hid (After base w w6 S sp most (del l k nm) (hist ++ [⟨2, k, nm, hist.length + 1⟩])) := by
            obtain ⟨_, M5, C5, h, hW⟩ := HR.out
            have lt5 : ∀ g, g < w.heap.size → g < w5.heap.size := fun g hg => Nat.lt_of_lt_of_le hg C5.size
            have nmb : mb ∉ sp :: ev.ownBlock.toList := by
              intro hm
              obtain ⟨es, c, q1, _⟩ := h.map.own
              simp only [List.mem_cons, Option.mem_toList] at hm
              rcases hm with rfl | hm
              · rw [h.blk] at q1; cases q1
              · rcases h.evs.2 with ⟨e, _⟩ | ⟨g', cap, cur, e, _, h3, _⟩
                · rw [e] at hm; cases hm
                · rw [e] at hm
                  simp [Value.ownBlock] at hm
                  subst hm
                  rw [q1] at h3; cases h3
            have h5blk := S5.out.1
            have F6 : Fx base w5 w6 := c6.fx (fun g hg _ hp => by
              simp only [List.mem_cons, Option.mem_toList] at hg
              rcases hg with rfl | hg
              · exact (cells_prot h5blk h.bsp rfl).2.2 hp
              · have e5 : w5.heap[g]? = w.heap[g]? := C5.block g (own_prot h.evs (Nat.le_refl _) rfl g hg).2.1 (fun hm => by
                  simp at hm; subst hm; exact nmb (by simp [hg]))
                refine (own_prot h.evs (Nat.le_refl _) rfl g hg).2.2 ?_
                rcases hp with hp | ⟨cs, T, fz, x1, x2⟩
                · exact .inl hp
                · exact .inr ⟨cs, T, fz, e5 ▸ x1, x2⟩)
            have M6 := (M5.fx (c6.block mb (map_prot M5 h.bmb).2.1 nmb) F6).mono (Nat.le_succ hist.length)
            refine ⟨sp :: mb :: ev'.ownBlock.toList, ⟨mb, _, ev', kept', rfl, h.bsp, h.bmb, Nat.le_trans h.bw (Nat.le_trans C5.size c6.size), by rw [List.length_append]; exact s6, by rw [List.length_append]; exact M6, o6, r6 hist rfl h.ring⟩, ?_, ?_⟩
            · refine (C5.less (S' := S) (fun g hg => .inl ?_)).trans c6 (fun g hg => .inl ?_)
              · simp at hg; rw [h.fp, hg]; simp
              · rw [h.fp]
                simp only [List.mem_cons] at hg ⊢
                rcases hg with hg | hg
                · exact .inl hg
                · exact .inr (.inr hg)
            · intro g hg
              rw [h.fp]
              simp only [List.mem_cons, Option.mem_toList] at hg ⊢
              rcases hg with hg | hg | hg
              · exact .inl (.inl hg)
              · exact .inl (.inr (.inl hg))
              · rcases f6 g hg with h4 | h4
                · exact .inl (.inr (.inr h4))
                · exact .inr (Nat.le_trans C5.size h4)
          clear s6 o6 r6 f6 c6 CN HR
          go_wp2
          refine bodyPost_ret (results_tmp2 rfl _ _ _) rfl ?_
          exact .inr ⟨HZ.out, rfl, FIN.out⟩
end Go.Proofs.YtbkoepghmcdnhaaGreatDoor
/- An act upon a store and its model: what they have in common. -/
namespace Go.Proofs.YtbkoepghmcdnhaaGreatDoor
open Go.RowKit Go.Shelf Go.Lib Go.Sort
open Go.Joins (cell_of_block unfrozen_of_block block_setCell)
set_option linter.unusedVariables false
set_option linter.unusedSimpArgs false
set_option maxRecDepth 20000

/-- What an act does. -/
inductive Move (l : List Ob) (hist : List Ev) : List Ob → List Ev → Prop
  | stay : Move l hist l hist
  | made (d : Ob) : l.any (hit d.kind d.name) = false → OkK d → Move l hist (l ++ [d]) (hist ++ [⟨0, d.kind, d.name, hist.length + 1⟩])
  | set (d : Ob) : l.any (hit d.kind d.name) = true → OkK d → Move l hist (put l d) (hist ++ [⟨1, d.kind, d.name, hist.length + 1⟩])
  | gone (k : Int) (nm : ByteArray) : l.any (hit k nm) = true → Move l hist (del l k nm) (hist ++ [⟨2, k, nm, hist.length + 1⟩])

def acC (kk : Int) (cs : Array Value) (r : Bool) : Array Value := (#[Value.int .i64 kk] ++ cs).push (.bool r)
theorem acC_0 (kk : Int) (cs : Array Value) (r : Bool) : (acC kk cs r)[0]? = some (.int .i64 kk) := by
  unfold acC
  rw [Array.getElem?_push_lt (by simp; omega)]
  simp
theorem acC_at (kk : Int) (cs : Array Value) (r : Bool) (j : Nat) (hj : j < cs.size) : (acC kk cs r)[1 + j]? = cs[j]? := by
  unfold acC
  rw [Array.getElem?_push, if_neg (by simp; omega), Array.getElem?_append_right (by simp)]
  simp
theorem acC_r (kk : Int) (cs : Array Value) (r : Bool) (h : cs.size = 47) : (acC kk cs r)[48]? = some (.bool r) := by
  unfold acC
  rw [Array.getElem?_push, if_pos (by simp; omega)]
theorem acC_set (kk : Int) (cs : Array Value) (r : Bool) (h : cs.size = 47) (v : Value) : (acC kk cs r).setIfInBounds 3 v = acC kk (cs.setIfInBounds 2 v) r := by
  apply Array.ext_getElem?
  intro i
  by_cases h3 : i = 3
  · subst h3
    rw [Array.getElem?_setIfInBounds_self_of_lt (by simp [acC]; omega)]
    have := acC_at kk (cs.setIfInBounds 2 v) r 2 (by simp; omega)
    rw [show 1 + 2 = 3 from rfl] at this
    rw [this, Array.getElem?_setIfInBounds_self_of_lt (by omega)]
  · rw [Array.getElem?_setIfInBounds_ne (fun e => h3 e.symm)]
    rcases Nat.eq_zero_or_pos i with h0 | h0
    · subst h0
      rw [acC_0, acC_0]
    · obtain ⟨j, rfl⟩ : ∃ j, i = 1 + j := ⟨i - 1, by omega⟩
      by_cases hj : j < 47
      · rw [acC_at _ _ _ _ (by omega), acC_at _ _ _ _ (by simp; omega), Array.getElem?_setIfInBounds_ne (by omega)]
      · by_cases h48 : j = 47
        · subst h48
          rw [show 1 + 47 = 48 from rfl, acC_r _ _ _ h, acC_r _ _ _ (by simpa using h)]
        · rw [Array.getElem?_eq_none (by simp [acC]; omega), Array.getElem?_eq_none (by simp [acC]; omega)]
theorem acC_range {w : World} {B : Nat} {kk : Int} {cs : Array Value} {r : Bool} {T : TypeId} {fz : Nat × Nat} (h : w.heap[B]? = some (.cells (acC kk cs r) T fz)) : w.rangeAt B 1 cs.toList := by
  intro j v hv
  rw [cell_of_block h, acC_at _ _ _ _ (by have := (List.getElem?_eq_some_iff.1 hv).1; simpa using this), ← Array.getElem?_toList]
  exact hv
end Go.Proofs.YtbkoepghmcdnhaaGreatDoor
/- An act upon a store and its model: how they go on. -/
namespace Go.Proofs.YtbkoepghmcdnhaaGreatDoor
open Go.RowKit Go.Shelf Go.Lib Go.Sort
open Go.Joins (cell_of_block unfrozen_of_block block_setCell)
set_option linter.unusedVariables false
set_option linter.unusedSimpArgs false
set_option maxRecDepth 20000

section
variable {P : Program} {ops : Array Oper} {Q : Exit → Act → World → Prop} {w : World} {o : Oper} {a : Act} {K : Act → World → Prop}
/-- A slice literal of one whole struct. -/
theorem step_build (hw : Region.wanted o (yielded ops a.tmps) = true) (t e : TypeId) (x : Operand) (ho : o.op = .buildSlice t 1 #[(0, x)]) (z : Value) (s : Nat) (X : Array Value) (hx : a.eval x = .agg X) (hX : X.size = s) (h0 : 0 < s) (h1 : s ≤ 1000000)
    (hu : P.underlying t = some (.slice e)) (hinfo : (P.info? e).map (fun i => (i.zero, i.size)) = some (some z, s)) (k : K (a.put o.dst (.slice (some ⟨w.heap.size, 0, none⟩) 1 1)) (w.alloc (.cells X e))) :
    if Region.wanted o (yielded ops a.tmps) = true then Oper.wp P o a w K Q else K (a.put o.dst undef) w := by
  rw [if_pos hw]
  cases hie : P.info? e with
  | none => rw [hie] at hinfo; cases hinfo
  | some i =>
    rw [hie] at hinfo
    simp only [Option.map_some, Option.some.injEq, Prod.mk.injEq] at hinfo
    obtain ⟨hz, hs⟩ := hinfo
    refine wp_buildSlice t e 1 _ ho X i z hu hie hz (by rw [hs]; omega) (by rw [hs]; omega) ?_ k
    have hc : (Value.agg X).cells = X := rfl
    have := Great.fill_whole h0 [Value.agg X] ((Array.range (1 * i.size)).map (z.cells[· % z.cells.size]!)) (fun v hv => by rw [List.mem_singleton.1 hv, hc]; exact hX) (by simp [hs])
    rw [hs] at this ⊢
    simp [hx, hc] at this ⊢
    exact this
end
theorem name_dfl (o : Ob) : (dfl o).name = o.name := by
  unfold dfl
  split
  · rfl
  · split <;> rfl
theorem own_at {w : World} {N n k : Nat} {E : TypeId} {v : Value} {xs : List Value} (h : w.ownsRow N E k v n xs) {g : Nat} (hg : v.ownBlock = some g) : ∃ cur, w.heap[g]? = some (.cells cur E (0, 0)) := by
  rcases h.2 with ⟨rfl, _⟩ | ⟨g', cap, cur, rfl, _, h2, _⟩
  · cases hg
  · simp [Value.ownBlock] at hg
    subst hg
    exact ⟨cur, h2⟩
theorem flat_take {csl : List Cs} {j t : Nat} {u : Value} (h : (flat encC (csl.take j))[t]? = some u) : (flat encC csl)[t]? = some u := by
  have e : flat encC csl = flat encC (csl.take j) ++ flat encC (csl.drop j) := by
    unfold flat
    rw [← List.flatMap_append, List.take_append_drop]
  rw [e, List.getElem?_append_left (List.getElem?_eq_some_iff.1 h).1]
  exact h
theorem flat_drop {csl : List Cs} {k t : Nat} {u : Value} (hk : k ≤ csl.length) (h : (flat encC (csl.drop k))[t]? = some u) : (flat encC csl)[k * 47 + t]? = some u := by
  have e : flat encC csl = flat encC (csl.take k) ++ flat encC (csl.drop k) := by
    unfold flat
    rw [← List.flatMap_append, List.take_append_drop]
  have hl : (flat encC (csl.take k)).length = k * 47 := by rw [flat_length lenC, List.length_take, Nat.min_eq_left hk]
  rw [e, List.getElem?_append_right (by omega), hl, Nat.add_sub_cancel_left]
  exact h
theorem flat_erase (csl : List Cs) (j : Nat) : flat encC (csl.take j) ++ flat encC (csl.drop (j + 1)) = flat encC (csl.eraseIdx j) := by
  unfold flat
  rw [← List.flatMap_append, List.eraseIdx_eq_take_drop_succ]
theorem erase_objs {base : Nat} {w : World} {l : List Ob} {csl : List Cs} (h : ∀ (i : Nat) (o : Ob), l[i]? = some o → ∃ c : Cs, csl[i]? = some c ∧ Kept base w c.1 o) (j : Nat) : ∀ (i : Nat) (o : Ob), (l.eraseIdx j)[i]? = some o → ∃ c : Cs, (csl.eraseIdx j)[i]? = some c ∧ Kept base w c.1 o := by
  intro i o hi
  rw [List.getElem?_eraseIdx] at hi ⊢
  split at hi
  · rename_i hlt; rw [if_pos hlt]; exact h i o hi
  · rename_i hlt; rw [if_neg hlt]; exact h _ o hi
theorem info_OT : ∃ b, (Tryz.prog.info? OT).map (fun i => (i.zero, i.size, i.bytes)) = some (some (.agg zerC), 47, b) ∧ b ≤ 10000 := by
  have h1 : (Tryz.prog.info? OT).map (fun i => (i.zero, i.size)) = some (some (.agg zerC), 47) := by kernel_rfl
  have h2 : (Tryz.prog.info? OT).map (fun i => decide (i.bytes ≤ 10000)) = some true := by kernel_rfl
  cases h : Tryz.prog.info? OT with
  | none => rw [h] at h1; cases h1
  | some i =>
    rw [h] at h1 h2
    simp only [Option.map_some, Option.some.injEq, Prod.mk.injEq, decide_eq_true_eq] at h1 h2
    exact ⟨i.bytes, by simp [h1.1, h1.2], h2⟩
end Go.Proofs.YtbkoepghmcdnhaaGreatDoor
/- An act upon a store and its model: Delete (by wip/tools/genstdo.py). -/
namespace Go.Proofs.YtbkoepghmcdnhaaGreatDoor
open Go.RowKit Go.Shelf Go.Lib Go.Sort
open Go.Joins (cell_of_block unfrozen_of_block block_setCell)
set_option linter.unusedVariables false
set_option linter.unusedSimpArgs false
set_option maxRecDepth 20000

end Go.Proofs.YtbkoepghmcdnhaaGreatDoor
/- An act upon a store and its model: Create (by wip/tools/genstdo.py). -/
namespace Go.Proofs.YtbkoepghmcdnhaaGreatDoor
open Go.RowKit Go.Shelf Go.Lib Go.Sort
open Go.Joins (cell_of_block unfrozen_of_block block_setCell)
set_option linter.unusedVariables false
set_option linter.unusedSimpArgs false
set_option maxRecDepth 20000

end Go.Proofs.YtbkoepghmcdnhaaGreatDoor
/- An act upon a store and its model: Update (by wip/tools/genstdo.py). -/
namespace Go.Proofs.YtbkoepghmcdnhaaGreatDoor
open Go.RowKit Go.Shelf Go.Lib Go.Sort
open Go.Joins (cell_of_block unfrozen_of_block block_setCell)
set_option linter.unusedVariables false
set_option linter.unusedSimpArgs false
set_option maxRecDepth 20000

end Go.Proofs.YtbkoepghmcdnhaaGreatDoor
/- Acts that came in: opened; few. -/
namespace Go.Proofs.YtbkoepghmcdnhaaGreatDoor
open Go.ChangeShapes Go.WideShapes Go.ChangeAt Go.RowKit Go.Deep Go.Lib Go.Shelf
open Go.Joins (cell_of_block unfrozen_of_block block_setCell)
set_option linter.unusedVariables false
set_option linter.unusedSimpArgs false
set_option maxRecDepth 20000

abbrev Acv := Int × Cs × Bool × Ob
instance : Inhabited Cs := ⟨⟨zerC, by kernel_rfl, zer_all⟩⟩
instance : Inhabited Ob := ⟨nnO ⟨#[]⟩ 0⟩
def cellsA (a : Acv) : Array Value := acC a.1 a.2.1.1 a.2.2.1
def encA (a : Acv) : List Value := (cellsA a).toList
theorem sizeA (a : Acv) : (cellsA a).size = 49 := by
  unfold cellsA acC
  simp [a.2.1.2.1]
def okA (W : World) (a : Acv) : Prop := ObjV W a.2.1.1 a.2.2.2 ∧ NilO a.2.1.1 ∧ FitsO a.2.2.2

theorem open_ob2 {H : Type} {enc : TypeId × Value → H} {W : World} {cs : Array Value} {d : DataW H} {p : List MemPlace} {fuel : Nat} (hs : cs.size = 47)
    (hf : DataW.trod enc Tryz.prog W 0 (fun _ => true) true fuel 51 cs.toList = some (d, p)) (wt : Wt 51 d) : ∃ o, ObjV W cs o ∧ FitsO o := by
  obtain ⟨nk, yk, tk, zk⟩ := fld (F := 3) (off := 0) (k := 1) 0 Tryz.underlying51 (by kernel_rfl) hf wt
  obtain ⟨k, a0, w0⟩ := leaf_i Tryz.underlying3 tk
  obtain ⟨ns, ys, ts, zs⟩ := fld (F := 9) (off := 1) (k := 1) 1 Tryz.underlying51 (by kernel_rfl) hf wt
  obtain ⟨s, a1, w1⟩ := leaf_s Tryz.underlying9 ts zs
  obtain ⟨nu, yu, tu, zu⟩ := fld (F := 29) (off := 2) (k := 1) 2 Tryz.underlying51 (by kernel_rfl) hf wt
  obtain ⟨u, a2, w2⟩ := leaf_u Tryz.underlying29 tu
  obtain ⟨nx0, yx0, tx0, zx0⟩ := fld (F := 36) (off := 3) (k := 7) 3 Tryz.underlying51 (by kernel_rfl) hf wt
  obtain ⟨x0, ⟨r0_0, r0_1, r0_2⟩, ⟨m0_0, m0_1, m0_2⟩, f0_0, f0_1, f0_2, f0_3, f0_4, f0_5, f0_6⟩ := open_wl tx0 zx0
  obtain ⟨nx1, yx1, tx1, zx1⟩ := fld (F := 38) (off := 10) (k := 10) 4 Tryz.underlying51 (by kernel_rfl) hf wt
  obtain ⟨x1, ⟨r1_0, r1_1, r1_2, r1_3, r1_4⟩, ⟨m1_0, m1_1, m1_2⟩, f1_0, f1_1, f1_2, f1_3, f1_4, f1_5, f1_6, f1_7, f1_8, f1_9⟩ := open_pd tx1 zx1
  obtain ⟨nx2, yx2, tx2, zx2⟩ := fld (F := 40) (off := 20) (k := 7) 5 Tryz.underlying51 (by kernel_rfl) hf wt
  obtain ⟨x2, ⟨r2_0, r2_1, r2_2⟩, ⟨m2_0, m2_1⟩, f2_0, f2_1, f2_2, f2_3, f2_4, f2_5, f2_6⟩ := open_nd tx2 zx2
  obtain ⟨nx3, yx3, tx3, zx3⟩ := fld (F := 42) (off := 27) (k := 8) 6 Tryz.underlying51 (by kernel_rfl) hf wt
  obtain ⟨x3, ⟨r3_0, r3_1⟩, ⟨m3_0, m3_1⟩, f3_0, f3_1, f3_2, f3_3, f3_4, f3_5, f3_6, f3_7⟩ := open_gp tx3 zx3
  obtain ⟨nx4, yx4, tx4, zx4⟩ := fld (F := 49) (off := 35) (k := 12) 7 Tryz.underlying51 (by kernel_rfl) hf wt
  obtain ⟨x4, ⟨r4_0, r4_1⟩, ⟨m4_0, m4_1, m4_2, m4_3⟩, f4_0, f4_1, f4_2, f4_3, f4_4, f4_5, f4_6, f4_7, f4_8, f4_9, f4_10, f4_11⟩ := open_hp tx4 zx4
  have e0 : cs[0]? = some (.int .i64 k) := by rw [← Array.getElem?_toList]; exact a0
  have e1 : cs[1]? = some (.string s) := by rw [← Array.getElem?_toList]; exact a1
  have e2 : cs[2]? = some (.int .u64 (u : Int)) := by rw [← Array.getElem?_toList]; exact a2
  exact ⟨⟨k, s, u, x0, x1, x2, x3, x4⟩, ⟨hs, ⟨e0, e1, e2, w2⟩, ⟨el_at f0_0, el_at f0_1, el_at f0_2, slr_at f0_3, slr_at f0_4, slr_at f0_5, el_at f0_6⟩, ⟨el_at f1_0, el_at f1_1, el_at f1_2, el_at f1_3, el_at f1_4, el_at f1_5, slr_at f1_6, slr_at f1_7, slr_at f1_8, el_at f1_9⟩, ⟨el_at f2_0, el_at f2_1, el_at f2_2, slr_at f2_3, slr_at f2_4, el_at f2_5, el_at f2_6⟩, ⟨el_at f3_0, el_at f3_1, el_at f3_2, el_at f3_3, el_at f3_4, slr_at f3_5, slr_at f3_6, el_at f3_7⟩, ⟨el_at f4_0, el_at f4_1, el_at f4_2, slr_at f4_3, el_at f4_4, el_at f4_5, el_at f4_6, slr_at f4_7, el_at f4_8, el_at f4_9, slr_at f4_10, slr_at f4_11⟩⟩, { name := w1, w_lab := List.all_eq_true.2 r0_0, w_sel := List.all_eq_true.2 r0_1, w_tol := List.all_eq_true.2 r0_2, w_lab_r := m0_0, w_sel_r := m0_1, w_tol_r := m0_2, p_own := r1_0, p_node := r1_1, p_lab := List.all_eq_true.2 r1_2, p_sel := List.all_eq_true.2 r1_3, p_tol := List.all_eq_true.2 r1_4, p_lab_r := m1_0, p_sel_r := m1_1, p_tol_r := m1_2, n_grp := r2_0, n_lab := List.all_eq_true.2 r2_1, n_tnt := List.all_eq_true.2 r2_2, n_lab_r := m2_0, n_tnt_r := m2_1, g_lab := List.all_eq_true.2 r3_0, g_tnt := List.all_eq_true.2 r3_1, g_lab_r := m3_0, g_tnt_r := m3_1, h_tg := r4_0, h_met := List.all_eq_true.2 r4_1, h_met_r := m4_0, h_upol_r := m4_1, h_dpol_r := m4_2, h_past_r := m4_3 }⟩
theorem sub_take {cs : List Value} {o m j : Nat} (h : j < m) : ((cs.drop o).take m)[j]? = cs[o + j]? := by
  rw [List.getElem?_take_of_lt h, List.getElem?_drop]
abbrev zerA : Array Value := #[.int .i64 0, .int .i64 0, .string { data := #[] }, .int .u64 0, .int .i64 0, .int .i64 0, .int .i64 0, .slice none 0 0, .slice none 0 0, .slice none 0 0, .int .i64 0, .string { data := #[] }, .string { data := #[] }, .int .i64 0, .int .i64 0, .int .i64 0, .int .i64 0, .slice none 0 0, .slice none 0 0, .slice none 0 0, .int .i64 0, .string { data := #[] }, .int .i64 0, .int .i64 0, .slice none 0 0, .slice none 0 0, .int .i64 0, .bool false, .int .i64 0, .int .i64 0, .int .i64 0, .int .i64 0, .int .i64 0, .slice none 0 0, .slice none 0 0, .int .i64 0, .string { data := #[] }, .int .i64 0, .int .i64 0, .slice none 0 0, .int .i64 0, .int .i64 0, .int .i64 0, .slice none 0 0, .int .i64 0, .int .i64 0, .slice none 0 0, .slice none 0 0, .bool false]
theorem oneA (a : Acv) : (cellsA a).all (·.oneCell') = true := by
  rw [← Array.all_toList]
  refine List.all_eq_true.2 (fun u hu => ?_)
  obtain ⟨t, ht⟩ := List.getElem?_of_mem hu
  rw [Array.getElem?_toList] at ht
  have hlt : t < 49 := by have := (Array.getElem?_eq_some_iff.1 ht).1; rw [sizeA] at this; exact this
  unfold cellsA at ht
  rcases Nat.eq_zero_or_pos t with rfl | h0
  · rw [acC_0] at ht; cases ht; rfl
  · by_cases h48 : t = 48
    · subst h48
      rw [acC_r _ _ _ a.2.1.2.1] at ht; cases ht; rfl
    · obtain ⟨j, rfl⟩ : ∃ j, t = 1 + j := ⟨t - 1, by omega⟩
      rw [acC_at _ _ _ _ (by rw [a.2.1.2.1]; omega)] at ht
      exact oneC a.2.1 u (by unfold encC; exact List.mem_of_getElem? (by rw [Array.getElem?_toList]; exact ht))

/-- Acts that a law takes. -/
def fewA (l : List Acv) : Bool := l.all (fun a => fewB a.2.2.2 && decide (a.2.2.2.name.size ≤ 100)) && decide (l.length ≤ 60)
theorem RowR.rangeAt {W : World} {b off : Nat} {l : List Acv} {j : Nat} {x : Acv} (h : RowR 49 encA W (some ⟨b, off, none⟩) l) (hx : l[j]? = some x) : b < W.heap.size ∧ W.rangeAt b (off + j * 49) (encA x) := by
  obtain ⟨b', off', e, h1, h2⟩ := h j x hx
  simp only [Option.some.injEq, Addr.mk.injEq] at e
  obtain ⟨rfl, rfl, _⟩ := e
  exact ⟨h1, fun t v hv => h2 t v hv⟩
theorem cellsA_obj {W : World} {x : Acv} (h : okA W x) : ObjV W x.2.1.1 x.2.2.2 := h.1

end Go.Proofs.YtbkoepghmcdnhaaGreatDoor
/- Get, Len and Now of a store that is there. -/
namespace Go.Proofs.YtbkoepghmcdnhaaGreatDoor
open Go.RowKit Go.Shelf Go.Lib Go.Sort
open Go.Joins (cell_of_block unfrozen_of_block block_setCell)
set_option linter.unusedVariables false
set_option linter.unusedSimpArgs false
set_option maxRecDepth 20000

theorem zer_obj (w : World) : ObjV w zerC zerO :=
  ⟨rfl, ⟨rfl, rfl, rfl, by decide⟩, ⟨rfl, rfl, rfl, ⟨none, 0, rfl, RowR.nil _ _ _ _⟩, ⟨none, 0, rfl, RowR.nil _ _ _ _⟩, ⟨none, 0, rfl, RowR.nil _ _ _ _⟩, rfl⟩, ⟨rfl, rfl, rfl, rfl, rfl, rfl, ⟨none, 0, rfl, RowR.nil _ _ _ _⟩, ⟨none, 0, rfl, RowR.nil _ _ _ _⟩, ⟨none, 0, rfl, RowR.nil _ _ _ _⟩, rfl⟩, ⟨rfl, rfl, rfl, ⟨none, 0, rfl, RowR.nil _ _ _ _⟩, ⟨none, 0, rfl, RowR.nil _ _ _ _⟩, rfl, rfl⟩, ⟨rfl, rfl, rfl, rfl, rfl, ⟨none, 0, rfl, RowR.nil _ _ _ _⟩, ⟨none, 0, rfl, RowR.nil _ _ _ _⟩, rfl⟩, ⟨rfl, rfl, rfl, ⟨none, 0, rfl, RowR.nil _ _ _ _⟩, rfl, rfl, rfl, ⟨none, 0, rfl, RowR.nil _ _ _ _⟩, rfl, rfl, ⟨none, 0, rfl, RowR.nil _ _ _ _⟩, ⟨none, 0, rfl, RowR.nil _ _ _ _⟩⟩⟩
theorem zer_nil : NilO zerC := by
  intro i n c hi hc
  simp only [rowsIx, List.mem_cons, List.not_mem_nil, or_false] at hi
  rcases hi with rfl | rfl | rfl | rfl | rfl | rfl | rfl | rfl | rfl | rfl | rfl | rfl | rfl | rfl <;> (simp at hc; exact hc.2.symm)
theorem zer_kept (base : Nat) (w : World) : Kept base w zerC zerO :=
  ⟨fun w' _ => zer_obj w', zer_nil, by unfold TinyO; simp [zerO], by constructor <;> first | rfl | exact Nat.zero_le _⟩

set_option maxHeartbeats 4000000 in
theorem now_any (base : Nat) (w : World) (S : List Nat) (sp : Nat) (most : Int) (l : List Ob) (hist : List Ev) (h : StIs base w S sp most l hist) :
    Calls Tryz.prog 18 #[.pointer (some ⟨sp, 0, none⟩)] w fun e w' => e = .returned (.int .u64 (hist.length : Int)) ∧ w' = w := by
  obtain ⟨mb, Dm, ev, kept, h⟩ := h
  have c1 : w.cell? ⟨sp, 1, none⟩ = some (.int .u64 (hist.length : Int)) := cell_of_block h.blk 1
  clear h
  go_enter Tryz.func18, Tryz.ntmps18
  go_wp2
  go_ret
  exact ⟨rfl, rfl⟩

set_option maxHeartbeats 4000000 in
theorem len_any (base : Nat) (w : World) (S : List Nat) (sp : Nat) (most : Int) (l : List Ob) (hist : List Ev) (h : StIs base w S sp most l hist) :
    Calls Tryz.prog 7 #[.pointer (some ⟨sp, 0, none⟩)] w fun e w' => e = .returned (.int .i64 (l.length : Int)) ∧ w' = w := by
  obtain ⟨mb, Dm, ev, kept, h⟩ := h
  have c1 : w.cell? ⟨sp, 2, none⟩ = some (.map (some mb)) := cell_of_block h.blk 2
  have hlen := h.map.own.len mapT 3
  rw [h.map.size] at hlen
  clear h
  go_enter Tryz.func7, Tryz.ntmps7
  go_wp2
  go_ret
  exact ⟨rfl, rfl⟩

set_option maxHeartbeats 4000000 in
theorem get_any (base : Nat) (w : World) (S : List Nat) (sp : Nat) (most : Int) (l : List Ob) (hist : List Ev) (k : Int) (nm : ByteArray) (h : StIs base w S sp most l hist) (hk : I64 k) (hnm : nm.size ≤ maxLen) :
    Calls Tryz.prog 21 #[.pointer (some ⟨sp, 0, none⟩), .int .i64 k, .string nm] w fun e w' => (∃ V, e = .returned (.tuple #[.agg V, .bool (l.any (hit k nm))]) ∧ V.size = 47 ∧ V.all (·.oneCell') = true ∧ ∀ x, l.find? (hit k nm) = some x → Kept base w' V x) ∧ Below w.heap.size w w' := by
  obtain ⟨mb, Dm, ev, kept, h⟩ := h
  obtain ⟨th, V, o, hth, hV, LK, hfo⟩ : ∃ th V o, l.any (hit k nm) = th ∧ Kept base w V o ∧ (∀ ws : World, ws.heap[mb]? = w.heap[mb]? → (Instr.lookup MT (.map (some mb)) (thing k nm) true).run Tryz.prog ws = .ok (.tuple #[.agg V, .bool th]) ws) ∧ (∀ x, l.find? (hit k nm) = some x → x = o) := by
    rcases h.map.look hk hnm with ⟨a1, a2, a3⟩ | ⟨x, cx, a1, a2, a3, a4⟩
    · exact ⟨false, zerC, zerO, a1, zer_kept base w, a3, fun x hx => by rw [a2] at hx; cases hx⟩
    · exact ⟨true, cx, x, a1, a3, a4, fun y hy => by rw [a2] at hy; cases hy; rfl⟩
  rw [hth]
  obtain ⟨B, hB⟩ : ∃ B, B = w.heap.size := ⟨_, rfl⟩
  obtain ⟨wb, hwb⟩ : ∃ wb, wb = w.alloc (.cells zerC OT) := ⟨_, rfl⟩
  have G0 : Gr w wb := hwb ▸ (Gr.refl w).alloc _
  have b1 : wb.heap[B]? = some (.cells zerC OT (0, 0)) := by rw [hwb, hB]; exact heap_alloc_new w _
  have hbs : wb.heap.size = B + 1 := by rw [hwb, hB]; simp
  have hml : mb < w.heap.size := (map_prot h.map h.bmb).2.1
  have c2 : wb.cell? ⟨sp, 2, none⟩ = some (.map (some mb)) := G0.cell (cell_of_block h.blk 2)
  have lk : (Instr.lookup MT (.map (some mb)) (.agg #[.int .i64 k, .string nm]) true).run Tryz.prog wb = .ok (.tuple #[.agg V, .bool th]) wb := LK wb (G0.heap hml)
  have z0 : (wb.alloc (.cells zerC OT)).heap[wb.heap.size]? = some (.cells zerC OT (0, 0)) := heap_alloc_new wb _
  obtain ⟨th1, n0, fx1, d1⟩ := store_ob (base := wb.heap.size) z0 rfl hV.obj.1 (Nat.le_refl _)
  obtain ⟨wc, hwc⟩ : ∃ W, W = (wb.alloc (.cells zerC OT)).setCells wb.heap.size 0 V.toList := ⟨_, rfl⟩
  obtain ⟨A, hA⟩ : ∃ A, A = wb.heap.size := ⟨_, rfl⟩
  rw [← hwc] at n0 d1
  rw [← hA] at n0 d1
  have bwc : Below wb.heap.size wb wc := by
    have g : Gr wb (wb.alloc (.cells zerC OT)) := (Gr.refl wb).alloc _
    exact ((Xb.ofGr g A).trans ⟨d1.os, d1.tape, d1.output, d1.size, fun k hk hne => d1.block k hk (by simpa using hne)⟩).below (by omega) (Nat.le_refl _)
  have hVc : Kept base wc V o := hV.fx ((Fx.ofBelow G0.below).trans (Fx.ofBelow bwc))
  have CC := Lib.hid (clone_any wc V o hVc.obj hVc.nil hVc.small.small)
  have TH1 := Lib.hid th1
  have IV : Hid ((Tryz.prog.info? OT).map (·.size) = some V.size) := by show _ = _; rw [hV.obj.1]; exact info_ob47
  have OV := Lib.hid (objV_one hV.obj)
  have HW : Hid ((wb.alloc (.cells zerC OT)).setCells wb.heap.size 0 V.toList = wc ∧ wb.heap.size = A) := ⟨hwc.symm, hA.symm⟩
  have LV := Lib.hid (load_ob n0 hV.obj.1)
  have HH := Lib.hid (And.intro G0 (And.intro b1 (And.intro hbs (And.intro bwc (And.intro hVc (And.intro hfo (And.intro hB h.bw)))))))
  clear h hth hV LK hfo G0 b1 hbs hml z0 th1 n0 fx1 d1 hwc hA bwc hVc hk hnm
  go_enter Tryz.func21, Tryz.ntmps21
  go_upto_region 3 with fail
  rw [← hwb, ← hB]
  clear hwb hB
  go_upto_region 4 with (refine wpList_store_mid rfl _ _ _ rfl wb.heap.size 0 V (by rfl) (by rfl) TH1.out IV.out OV.out ?_; rw [HW.out.1, HW.out.2])
  go_wp2_with (refine wpList_load_by (by kernel_rfl) OT _ rfl (.pointer (some ⟨A, 0, none⟩)) (.agg V) (by kernel_rfl) LV.out ?_)
  refine CC.out.mono ?_
  rintro e m ⟨⟨D, rfl, hC⟩, hbl⟩
  obtain ⟨G0, b1, hbs, bwc, hVc, hfo, hB, hbw⟩ := HH.out
  have KD : Kept base m D o := kept_copy hVc hC hVc.small hVc.fits
  have hwcz := bwc.size
  have m1 : m.heap[B]? = some (.cells zerC OT (0, 0)) := ((hbl.block B (by omega)).trans (bwc.block B (by omega))).trans b1
  obtain ⟨th, n0, fx1, c1⟩ := store_ob (base := base) m1 rfl KD.obj.1 (by omega)
  obtain ⟨n, hn⟩ : ∃ n, n = m.setCells B 0 D.toList := ⟨_, rfl⟩
  rw [← hn] at n0 fx1 c1
  have IN : Hid ((Tryz.prog.info? OT).map (·.size) = some D.size) := by show _ = _; rw [KD.obj.1]; exact info_ob47
  have TH := Lib.hid th
  have ON := Lib.hid (objV_one KD.obj)
  have HN := Lib.hid hn
  have bwn : Below w.heap.size w n := by
    have h1 : Below w.heap.size w m := G0.below.trans ((bwc.mono G0.below.size).trans (hbl.mono (by omega)))
    exact h1.trans (c1.below (fun g hg => by simp at hg; omega) h1.size)
  have FIN : Hid ((∃ V', D = V' ∧ V'.size = 47 ∧ V'.all (·.oneCell') = true ∧ ∀ x, l.find? (hit k nm) = some x → Kept base n V' x) ∧ Below w.heap.size w n) := ⟨⟨D, rfl, KD.obj.1, objV_one KD.obj, fun x hx => by rw [hfo x hx]; exact KD.fx fx1⟩, bwn⟩
  have N0 := Lib.hid n0
  clear G0 b1 hbs bwc hVc hfo hB hbw KD hwcz m1 th n0 fx1 c1 hn bwn hbl hC CC LV HW TH1 IV OV HH
  go_wp2_with (refine wpList_store_mid rfl _ _ _ rfl B 0 D (by rfl) (by rfl) TH.out IN.out ON.out ?_; rw [← HN.out])
  refine bodyPost_ret (results_row_tmp rfl _ _ B OT D (0, 0) _ (by rfl) N0.out Tryz.underlying51 rfl IN.out) rfl ?_
  obtain ⟨⟨V', rfl, h1, h2, h3⟩, h4⟩ := FIN.out
  exact ⟨⟨_, rfl, h1, h2, h3⟩, h4⟩
end Go.Proofs.YtbkoepghmcdnhaaGreatDoor
/- The names that one goes by: a map of names; what an event does to them; how many there are. -/
namespace Go.Proofs.YtbkoepghmcdnhaaGreatDoor
open Go.RowKit Go.Shelf Go.Lib Go.Sort
open Go.Maps (Keyed IsMap Tidy)
open Go.Joins (cell_of_block unfrozen_of_block block_setCell)
set_option linter.unusedVariables false
set_option linter.unusedSimpArgs false
set_option maxRecDepth 20000

/-- What an event does. -/
structure Step (l : List Ob) (e : Ev) (l' : List Ob) : Prop where
  kind : I64 e.kind
  name : e.name.size ≤ maxLen
  was : l.any (hit e.kind e.name) = !(decide (e.what = 0))
  now : ∀ k nm, l'.any (hit k nm) = if k = e.kind ∧ nm = e.name then !(decide (e.what = 2)) else l.any (hit k nm)
theorem hit_off {k k' : Int} {nm nm' : ByteArray} {o : Ob} (h : hit k nm o = true) : hit k' nm' o = decide (k' = k ∧ nm' = nm) := by
  obtain ⟨rfl, rfl⟩ := hit_iff.1 h
  rw [Bool.eq_iff_iff, hit_iff, decide_eq_true_eq]
  exact ⟨fun h => ⟨h.1.symm, h.2.symm⟩, fun h => ⟨h.1.symm, h.2.symm⟩⟩
theorem hit_own (o : Ob) (k : Int) (nm : ByteArray) : hit k nm o = decide (k = o.kind ∧ nm = o.name) := hit_off (hit_self o)
theorem step_made {l : List Ob} {d : Ob} {v : Nat} (ha : l.any (hit d.kind d.name) = false) (hd : OkK d) : Step l ⟨0, d.kind, d.name, v⟩ (l ++ [d]) :=
  ⟨hd.1, hd.2, ha, fun k nm => by
    rw [List.any_append]
    simp only [List.any_cons, List.any_nil, Bool.or_false]
    rw [hit_own d]
    by_cases e : k = d.kind ∧ nm = d.name
    · simp [e]
    · simp [e]⟩
theorem step_set {l : List Ob} {d : Ob} {v : Nat} (ha : l.any (hit d.kind d.name) = true) (hd : OkK d) : Step l ⟨1, d.kind, d.name, v⟩ (put l d) :=
  ⟨hd.1, hd.2, by rw [ha]; rfl, fun k nm => by
    by_cases e : k = d.kind ∧ nm = d.name
    · obtain ⟨rfl, rfl⟩ := e
      rw [if_pos ⟨rfl, rfl⟩]
      exact List.any_eq_true.2 ⟨d, put_self l d, hit_self d⟩
    · rw [if_neg e, Bool.eq_iff_iff, List.any_eq_true, List.any_eq_true]
      constructor
      · rintro ⟨x, hx, hp⟩
        rcases put_mem hx with rfl | ⟨hx, _⟩
        · rw [hit_own, decide_eq_true_eq] at hp
          exact absurd hp e
        · exact ⟨x, hx, hp⟩
      · rintro ⟨x, hx, hp⟩
        refine ⟨x, put_keeps hx (fun e2 => e ?_), hp⟩
        obtain ⟨a1, a2⟩ := hit_iff.1 hp
        unfold Key at e2
        rw [Prod.mk.injEq] at e2
        exact ⟨by rw [← a1, e2.1], by rw [← a2]; exact by_inj e2.2⟩⟩
theorem step_gone {l : List Ob} {k : Int} {nm : ByteArray} {v : Nat} (hp : l.Pairwise (fun a b => Key a ≠ Key b)) (hok : ∀ o ∈ l, OkK o) (ha : l.any (hit k nm) = true) : Step l ⟨2, k, nm, v⟩ (del l k nm) := by
  obtain ⟨x, hx, hpx⟩ := List.any_eq_true.1 ha
  obtain ⟨e1, e2⟩ := hit_iff.1 hpx
  refine ⟨e1 ▸ (hok x hx).1, e2 ▸ (hok x hx).2, by rw [ha]; rfl, fun k' nm' => ?_⟩
  by_cases e : k' = k ∧ nm' = nm
  · obtain ⟨rfl, rfl⟩ := e
    rw [if_pos ⟨rfl, rfl⟩]
    show _ = false
    rw [List.any_eq_false]
    intro y hy
    rw [del_mem hp] at hy
    rw [hy.2]
    simp
  · rw [if_neg e, Bool.eq_iff_iff, List.any_eq_true, List.any_eq_true]
    constructor
    · rintro ⟨y, hy, hpy⟩
      exact ⟨y, ((del_mem hp).1 hy).1, hpy⟩
    · rintro ⟨y, hy, hpy⟩
      refine ⟨y, (del_mem hp).2 ⟨hy, ?_⟩, hpy⟩
      cases h : hit k nm y with
      | false => rfl
      | true =>
        obtain ⟨a1, a2⟩ := hit_iff.1 h
        obtain ⟨b1, b2⟩ := hit_iff.1 hpy
        exact absurd ⟨by rw [← b1, a1], by rw [← b2, a2]⟩ e
theorem Move.step {l l' : List Ob} {hist hist' : List Ev} (h : Move l hist l' hist') (hp : l.Pairwise (fun a b => Key a ≠ Key b)) (hok : ∀ o ∈ l, OkK o) : (l' = l ∧ hist' = hist) ∨ ∃ e, hist' = hist ++ [e] ∧ Step l e l' := by
  cases h with
  | stay => exact .inl ⟨rfl, rfl⟩
  | made d h1 h2 => exact .inr ⟨_, rfl, step_made h1 h2⟩
  | set d h1 h2 => exact .inr ⟨_, rfl, step_set h1 h2⟩
  | gone k nm h1 => exact .inr ⟨_, rfl, step_gone hp hok h1⟩
/-- A row of events from one row of objects to another one. -/
def Chain (l0 : List Ob) (ext : List Ev) (l : List Ob) : Prop := ∃ f : Nat → List Ob, f 0 = l0 ∧ f ext.length = l ∧ ∀ i e, ext[i]? = some e → Step (f i) e (f (i + 1))
theorem Chain.nil (l : List Ob) : Chain l [] l := ⟨fun _ => l, rfl, rfl, fun i e h => by simp at h⟩
theorem Chain.snoc {l0 l l' : List Ob} {ext : List Ev} {e : Ev} (h : Chain l0 ext l) (s : Step l e l') : Chain l0 (ext ++ [e]) l' := by
  obtain ⟨f, h0, h1, h2⟩ := h
  refine ⟨fun i => if i ≤ ext.length then f i else l', by simp [h0], by simp only [List.length_append, List.length_singleton]; exact if_neg (by omega), fun i x hx => ?_⟩
  rw [List.getElem?_append] at hx
  split at hx
  · rename_i hlt
    have := h2 i x hx
    simp only
    rw [if_pos (by omega), if_pos (by omega)]
    exact this
  · rename_i hlt
    have hi : i - ext.length = 0 := by
      have := (List.getElem?_eq_some_iff.1 hx).1
      simpa using this
    rw [hi] at hx
    simp at hx
    subst hx
    have : i = ext.length := by omega
    subst this
    simp only
    rw [if_pos (Nat.le_refl _), if_neg (by omega), h1]
    exact s

/-- How many of a row's names are through. -/
def seen (left : Lit → Bool) (l : List Ob) : Nat := (l.filter (fun o => !left (kl o.kind o.name))).length
theorem seen_none {left : Lit → Bool} {l : List Ob} (h : ∀ o ∈ l, left (kl o.kind o.name) = true) : seen left l = 0 := by
  unfold seen
  rw [List.filter_eq_nil_iff.2 (fun o ho => by rw [h o ho]; simp)]
  rfl
theorem seen_all {left : Lit → Bool} {l : List Ob} (h : ∀ z, left z = false) : seen left l = l.length := by
  unfold seen
  rw [List.filter_eq_self.2 (fun o ho => by rw [h]; rfl)]
theorem seen_step {left left' : Lit → Bool} {k : Int} {nm : ByteArray} (hl : left (kl k nm) = true) : ∀ (l : List Ob), l.Pairwise (fun a b => Key a ≠ Key b) → (∀ o ∈ l, left' (kl o.kind o.name) = (left (kl o.kind o.name) && !(hit k nm o))) →
    seen left' l = seen left l + (if l.any (hit k nm) then 1 else 0)
  | [], _, _ => rfl
  | x :: l, hp, h => by
    have hp2 := List.pairwise_cons.1 hp
    have ih := seen_step hl l hp2.2 (fun o ho => h o (List.mem_cons_of_mem _ ho))
    have hx := h x List.mem_cons_self
    unfold seen at ih ⊢
    cases hh : hit k nm x with
    | true =>
      obtain ⟨e1, e2⟩ := hit_iff.1 hh
      have hno : l.any (hit k nm) = false := by
        rw [List.any_eq_false]
        intro y hy hpy
        obtain ⟨b1, b2⟩ := hit_iff.1 hpy
        exact hp2.1 y hy (by unfold Key; rw [e1, e2, b1, b2])
      rw [hno] at ih
      have hlx : left (kl x.kind x.name) = true := by rw [e1, e2]; exact hl
      rw [hh, hlx] at hx
      rw [List.filter_cons, List.filter_cons, hx, hlx]
      simp [hh] at ih ⊢
      exact ih
    | false =>
      rw [hh] at hx
      simp only [Bool.not_false, Bool.and_true] at hx
      rw [List.filter_cons, List.filter_cons, hx]
      cases hl2 : left (kl x.kind x.name) <;> simp [hh, hl2] at ih ⊢ <;> omega
end Go.Proofs.YtbkoepghmcdnhaaGreatDoor
/- Acts played upon a store and its model, one by one. -/
namespace Go.Proofs.YtbkoepghmcdnhaaGreatDoor
open Go.RowKit Go.Shelf Go.Lib Go.Sort
open Go.Joins (cell_of_block unfrozen_of_block block_setCell)
set_option linter.unusedVariables false
set_option linter.unusedSimpArgs false
set_option maxRecDepth 20000

theorem Move.len {l l' : List Ob} {hist hist' : List Ev} (h : Move l hist l' hist') : l'.length ≤ l.length + 1 := by
  cases h with
  | stay => omega
  | made d h1 h2 => simp
  | set d h1 h2 => rw [put_len, if_pos h1]; omega
  | gone k nm h1 => have := @del_len l k nm; rw [if_pos h1] at this; omega
theorem turned_chg {w w' : World} {mb : Nat} (h : w.mapTurned w' mb) : Chg [mb] w w' :=
  Chg.ofGrown (S := [mb]) (World.mapTurned.grown h) (fun g e => .inl (by simp at e; simp [e]))
end Go.Proofs.YtbkoepghmcdnhaaGreatDoor
