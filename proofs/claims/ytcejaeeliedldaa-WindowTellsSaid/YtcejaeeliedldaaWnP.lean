/- Layer 21 (window): the chapter's example; the law's map of ticks. -/
import Derived.Test.YtcejaeeliedldaaWnO
import Derived.Maps.OwnOps
import Derived.Maps.OwnSet
import Derived.Maps.Views
namespace Go.Proofs.Ytcejaeeliedldaa.Wn
open Go.RowKit Go.Shelf Go.Lib Go.Sort Go.Deep Go.Maps
open Go.Joins (cell_of_block unfrozen_of_block block_setCell)
open Go.Proofs.Ytcejaeeliedldaa.Ow
set_option linter.unusedVariables false
set_option linter.unusedSimpArgs false
set_option maxRecDepth 20000

set_option maxHeartbeats 4000000 in
theorem wlives (w : World) : Calls Try.prog 6 #[] w fun e w' => e = .returned (.bool true) ∧ Below w.heap.size w w' := by
  have C0 := Lib.hid (new_any w)
  obtain ⟨mb, hmb⟩ : ∃ mb, mb = w.heap.size := ⟨_, rfl⟩
  have C1 : Hid (∀ w1 v, Mem mb w1 mb v [] → Calls Try.prog 10 #[.pointer (some ⟨mb, 0, none⟩), .int .i64 10, .int .i64 5] w1 fun e w' => e = .returned (.int .i64 0) ∧ (∃ v', Mem mb w' mb v' [⟨10, 5, 5⟩]) ∧ Below mb w1 w') := fun w1 v h =>
    (note_ok mb w1 mb v [] h (by simp) Rep.nil.ris 10 5 (by unfold badN; omega) (by decide)).mono fun e w' q => ⟨q.1, by obtain ⟨v', m, _⟩ := q.2.1; exact ⟨v', m⟩, foot_below h q.2.2⟩
  have r1 : Ris [(⟨10, 5, 5⟩ : Tk)] := (Rep.nil.note (a := 10) (n := 5) (by unfold badN; omega) (by decide)).ris
  have C2 : Hid (∀ w1 v, Mem mb w1 mb v [⟨10, 5, 5⟩] → Calls Try.prog 10 #[.pointer (some ⟨mb, 0, none⟩), .int .i64 12, .int .i64 2] w1 fun e w' => e = .returned (.int .i64 0) ∧ (∃ v', Mem mb w' mb v' [⟨10, 5, 5⟩, ⟨12, 2, 2⟩]) ∧ Below mb w1 w') := fun w1 v h =>
    (note_ok mb w1 mb v _ h (by simp) r1 12 2 (by unfold badN; omega) (by decide)).mono fun e w' q => ⟨q.1, by obtain ⟨v', m, _⟩ := q.2.1; exact ⟨v', m⟩, foot_below h q.2.2⟩
  have r2 : Ris [(⟨10, 5, 5⟩ : Tk), ⟨12, 2, 2⟩] := ((Rep.nil.note (a := 10) (n := 5) (by unfold badN; omega) (by decide)).note (a := 12) (n := 2) (by unfold badN; omega) (by decide)).ris
  have C3 : Hid (∀ w1 v, Mem mb w1 mb v [⟨10, 5, 5⟩, ⟨12, 2, 2⟩] → Calls Try.prog 15 #[.pointer (some ⟨mb, 0, none⟩), .int .i64 12, .int .i64 4, .int .i64 0, .int .i64 5] w1 fun e w' => e = .returned (.int .i64 4) ∧ Below w1.heap.size w1 w') := fun w1 v h => stable_any mb w1 mb v _ h (by simp) r2 12 4 0 5 (by omega)
  have C4 : Hid (∀ w1 v, Mem mb w1 mb v [⟨10, 5, 5⟩, ⟨12, 2, 2⟩] → Calls Try.prog 15 #[.pointer (some ⟨mb, 0, none⟩), .int .i64 12, .int .i64 6, .int .i64 0, .int .i64 5] w1 fun e w' => e = .returned (.int .i64 5) ∧ Below w1.heap.size w1 w') := fun w1 v h => stable_any mb w1 mb v _ h (by simp) r2 12 6 0 5 (by omega)
  rw [← hmb] at C0
  rw [← hmb]
  clear r1 r2 hmb
  go_enter Try.func6, Try.ntmps6
  go_wp2_with fail
  refine C0.out.mono ?_
  rintro e w1 ⟨⟨v1, rfl, m1⟩, b1⟩
  have D1 := Lib.hid (C1.out w1 v1 m1)
  have B1 := Lib.hid b1
  clear m1 b1 C0 C1
  go_wp2_with fail
  refine D1.out.mono ?_
  rintro e w2 ⟨rfl, ⟨v2, m2⟩, b2⟩
  have D2 := Lib.hid (C2.out w2 v2 m2)
  have B2 := Lib.hid (B1.out.trans b2)
  clear m2 b2 D1 C2 B1
  go_wp2_with fail
  refine D2.out.mono ?_
  rintro e w3 ⟨rfl, ⟨v3, m3⟩, b3⟩
  have D3 := Lib.hid (C3.out w3 v3 m3)
  have B3 := Lib.hid (And.intro (B2.out.trans b3) m3)
  clear m3 b3 D2 C3 B2
  go_wp2_with fail
  refine D3.out.mono ?_
  rintro e w4 ⟨rfl, b4⟩
  have m4 := B3.out.2.below b4
  have D4 := Lib.hid (C4.out w4 v3 m4)
  have B4 := Lib.hid (And.intro (B3.out.1.trans (b4.mono (by have := B3.out.2.lt; omega))) m4)
  clear m4 b4 D3 C4 B3
  go_wp2_with fail
  refine D4.out.mono ?_
  rintro e w5 ⟨rfl, b5⟩
  have B5 := Lib.hid (B4.out.1.trans (b5.mono (by have := B4.out.2.lt; omega)))
  clear b5 D4 B4
  go_wp2
  go_ret
  exact ⟨rfl, B5.out⟩

/-! ### A map of ticks -/
abbrev MpT : TypeId := 30
theorem lawI : Keyed Try.prog AT := int_keyed Try.underlying2
theorem mapI : Try.prog.underlying MpT = some (.map AT 4) := Try.underlying30
def hB (v : Value) : Option (DataW Value × List MemPlace) := some (.held v, [])
def kI (k : Int) : Lit := .int .i64 k
theorem isKeyI (k : Int) : WideAt.IsKeyLit (kI k) := by simp [WideAt.IsKeyLit, kI]
theorem kI_ne {a b : Int} (h : a ≠ b) : kI a ≠ kI b := fun e => by unfold kI at e; injection e with _ e; exact h e
/-- The block is a map of these ticks, each once. -/
def KsIs (w : World) (mb n : Nat) (K : List Int) : Prop :=
  ∃ D : DataW Value, w.ownsMap Try.prog AT hB mb n D ∧ Maps.size D = K.length ∧ ∀ k, Maps.has D (kI k) = decide (k ∈ K)
theorem i64_wf {k : Int} (h : I64 k) : (Lit.int .i64 k).wf = true := by
  unfold I64 at h
  have e1 : IntKind.i64.min = -9223372036854775808 := rfl
  have e2 : IntKind.i64.max = 9223372036854775807 := rfl
  simp [Lit.wf, e1, e2]
  omega
/-- One more key. -/
def addK (K : List Int) (k : Int) : List Int := if k ∈ K then K else K ++ [k]
theorem addK_mem (K : List Int) (k x : Int) : x ∈ addK K k ↔ x ∈ K ∨ x = k := by
  unfold addK
  split
  · rename_i h
    exact ⟨.inl, fun q => q.elim id (fun e => by rw [e]; exact h)⟩
  · simp
theorem addK_nodup {K : List Int} (h : K.Nodup) (k : Int) : (addK K k).Nodup := by
  unfold addK
  split
  · exact h
  · rename_i hk
    refine List.nodup_append.2 ⟨h, by simp, fun a ha b hb => ?_⟩
    rw [List.mem_singleton] at hb
    intro e
    rw [e, hb] at ha
    exact hk ha
theorem KsIs.kept {w w' : World} {mb n : Nat} {K : List Int} (h : KsIs w mb n K) (hb : w'.heap[mb]? = w.heap[mb]?) : KsIs w' mb n K := by
  obtain ⟨D, ⟨es, c, h1, h2⟩, hD⟩ := h
  exact ⟨D, ⟨es, c, hb.trans h1, h2⟩, hD⟩
theorem KsIs.lt {w : World} {mb n : Nat} {K : List Int} (h : KsIs w mb n K) : mb < w.heap.size := by
  obtain ⟨D, h1, _⟩ := h
  exact h1.lt
theorem KsIs.below {w w' : World} {mb n : Nat} {K : List Int} (h : KsIs w mb n K) (hb : Below w.heap.size w w') : KsIs w' mb n K := h.kept (hb.block mb h.lt)
theorem KsIs.made (w : World) : KsIs (w.alloc (.map #[] 0)) w.heap.size 0 [] := ⟨.map [], World.ownsMap_made _ _ _ _, rfl, fun k => rfl⟩
theorem KsIs.put {w : World} {mb n : Nat} {K : List Int} (h : KsIs w mb n K) (hn : n < maxLen) {k : Int} (hk : I64 k) :
    ∃ w', (Instr.mapUpdate MpT (.map (some mb)) (.int .i64 k) (.bool true)).run Try.prog w = .ok () w' ∧ KsIs w' mb (n + 1) (addK K k) ∧ w.grownBy w' (some mb) := by
  obtain ⟨D, h1, hs, hf⟩ := h
  have T := h1.tidy lawI
  obtain ⟨w', e1, e2, e3⟩ := h1.update lawI mapI hn (val := .bool true) (d := .held (.bool true)) (ps := []) (keyOf_int_mk Try.underlying2 (i64_wf hk)) rfl
  refine ⟨w', e1, ⟨_, e2, ?_, fun x => ?_⟩, e3⟩
  · show Maps.size (D.put (kI k) (.held (.bool true))) = _
    rw [size_put T, hf k]
    unfold addK
    by_cases hm : k ∈ K
    · rw [if_pos hm]; simp [hm, hs]
    · rw [if_neg hm]; simp [hm, hs]
  · show Maps.has (D.put (kI k) (.held (.bool true))) (kI x) = _
    by_cases e : x = k
    · subst e
      rw [has_put_same T.isMap (isKeyI x)]
      exact (decide_eq_true ((addK_mem K x x).2 (.inr rfl))).symm
    · rw [has_put_other (kI_ne e), hf x]
      have : x ∈ addK K k ↔ x ∈ K := by rw [addK_mem]; simp [e]
      simp [this]
theorem KsIs.len {w : World} {mb n : Nat} {K : List Int} (h : KsIs w mb n K) (ty : TypeId) : (Builtin.len_ #[MpT] ty #[.map (some mb)]).run Try.prog w = .ok (.int .i64 (K.length : Int)) w := by
  obtain ⟨D, h1, hs, _⟩ := h
  have := h1.len mapI ty
  rwa [hs] at this
/-- So many are there that are each once, and the same ones. -/
theorem nodup_le : ∀ {a b : List Int}, a.Nodup → (∀ x ∈ a, x ∈ b) → a.length ≤ b.length
  | [], b, _, _ => Nat.zero_le _
  | x :: a, b, h, hs => by
    obtain ⟨h1, h2⟩ := List.nodup_cons.1 h
    have hx := hs x (by simp)
    have := nodup_le (b := b.erase x) h2 (fun y hy => (List.mem_erase_of_ne (fun e => h1 (by rw [← e]; exact hy))).2 (hs y (by simp [hy])))
    rw [List.length_erase_of_mem hx] at this
    have h0 : 0 < b.length := List.length_pos_of_mem hx
    simp only [List.length_cons]
    omega
def keysOf (l : List Nt) : List Int := l.foldl (fun K x => addK K x.1) []
theorem keysOf_take {l : List Nt} {j : Nat} {x : Nt} (h : l[j]? = some x) : keysOf (l.take (j + 1)) = addK (keysOf (l.take j)) x.1 := by
  unfold keysOf
  rw [List.take_add_one, h, List.foldl_append]
  rfl
theorem keys_fold : ∀ (l : List Nt) (K : List Int), K.Nodup → (l.foldl (fun K x => addK K x.1) K).Nodup ∧ ∀ k, k ∈ l.foldl (fun K x => addK K x.1) K ↔ k ∈ K ∨ ∃ x ∈ l, x.1 = k
  | [], K, h => ⟨h, fun k => by simp⟩
  | y :: l, K, h => by
    obtain ⟨h1, h2⟩ := keys_fold l (addK K y.1) (addK_nodup h _)
    refine ⟨h1, fun k => ?_⟩
    rw [List.foldl_cons, h2 k, addK_mem]
    constructor
    · rintro ((h | h) | ⟨x, hx, e⟩)
      · exact .inl h
      · exact .inr ⟨y, by simp, h.symm⟩
      · exact .inr ⟨x, by simp [hx], e⟩
    · rintro (h | ⟨x, hx, e⟩)
      · exact .inl (.inl h)
      · rcases List.mem_cons.1 hx with rfl | hx
        · exact .inl (.inr e.symm)
        · exact .inr ⟨x, hx, e⟩
/-- There are as many ticks as keys. -/
theorem Rep.keys {o : List Nt} {l : List Tk} (h : Rep o l) : (keysOf (leftN o)).length = l.length := by
  obtain ⟨h1, h2⟩ := keys_fold (leftN o) [] List.nodup_nil
  have hd : (l.map (·.tm)).Nodup := by
    unfold List.Nodup
    rw [List.pairwise_map]
    exact h.ris.1.imp (fun q => by omega)
  have e1 : ∀ k ∈ keysOf (leftN o), k ∈ l.map (·.tm) := fun k hk => by
    rcases (h2 k).1 hk with hk | ⟨x, hx, e⟩
    · cases hk
    · obtain ⟨a, b⟩ := List.mem_filter.1 hx
      obtain ⟨t, ht, et, _⟩ := h.has x a (of_decide_eq_true b)
      exact List.mem_map.2 ⟨t, ht, by rw [et]; exact e⟩
  have e2 : ∀ k ∈ l.map (·.tm), k ∈ keysOf (leftN o) := fun k hk => by
    obtain ⟨t, ht, rfl⟩ := List.mem_map.1 hk
    obtain ⟨a, b, _⟩ := h.from_ t ht
    exact (h2 _).2 (.inr ⟨_, List.mem_filter.2 ⟨b, decide_eq_true a⟩, rfl⟩)
  have a := nodup_le h1 e1
  have b := nodup_le hd e2
  rw [List.length_map] at a b
  exact Nat.le_antisymm a b
end Go.Proofs.Ytcejaeeliedldaa.Wn
