/- A map of rings, by series: what it holds, looked up, put in, struck. -/
import Derived.Test.YtajkhbdniadkkaaRingQ
import Derived.Maps.RangeWalk
import Derived.DeepKeys4
import Derived.Maps.AppendAt
namespace Go.Proofs.Ytajkhbdniadkkaa
open Go.RowKit Go.Shelf Go.Lib Go.Sort
open Go.Maps (Keyed IsMap Tidy)
open Go.Joins (cell_of_block unfrozen_of_block block_setCell)
set_option linter.unusedVariables false
set_option linter.unusedSimpArgs false
set_option maxRecDepth 20000

abbrev KS : TypeId := 43
abbrev MS : TypeId := 126
abbrev PR : TypeId := 141
theorem laidOutS : laidOutB Try.prog = true := by kernel_rfl
theorem lawSr : Keyed Try.prog KS := Keyed.of_law (deep_law_laid laidOutS (m := 2) (by omega) (of_decide_eq_true (by kernel_rfl)) (by kernel_rfl) (by kernel_rfl))
theorem mapTS : Try.prog.underlying MS = some (.map KS PR) := Try.underlying126

/-- A series: its subject, its metric. -/
abbrev Sr := ByteArray × ByteArray
def ser (s : Sr) : Value := .agg #[.string s.1, .string s.2]
def ks (s : Sr) : Lit := .string (keyBytes [.string s.1.data.toList, .string s.2.data.toList])
def OkS (s : Sr) : Prop := s.1.size ≤ maxLen ∧ s.2.size ≤ maxLen
theorem ks_at {s : Sr} (h : OkS s) : keyOf Try.prog KS (ser s) = some (ks s) := by
  obtain ⟨a, b⟩ := s
  obtain ⟨h1, h2⟩ := h
  simp only at h1 h2
  have e1 : Try.prog.keyType KS = true := by kernel_rfl
  have e2 : (ser (a, b)).formed Try.prog KS = true := by
    simp [Value.formed, ser, Try.underlying43]
    kernel_rfl
  obtain ⟨fs, hfs⟩ : ∃ fs, Try.prog.underlying KS = some (.struct fs) := ⟨_, Try.underlying43⟩
  have e3 : Try.prog.keyLits (Try.prog.types.size + 1) KS [.string a, .string b] = some [.string a.data.toList, .string b.data.toList] := by
    obtain ⟨m, hm⟩ : ∃ m, Try.prog.types.size = m + 1 := ⟨Try.prog.types.size - 1, by have : 0 < Try.prog.types.size := of_decide_eq_true (by kernel_rfl); omega⟩
    have c0 : Try.prog.cellsOf KS = 2 := by kernel_rfl
    have c2 : Try.prog.cellsOf 9 = 1 := by kernel_rfl
    rw [hm]
    simp [Program.keyLits, Try.underlying43, Try.underlying9, c0, c2, h1, h2]
  unfold keyOf
  rw [hfs]
  simp only
  rw [e1, e2]
  simp only [Bool.and_self, if_true]
  show Option.map _ (Try.prog.keyLits (Try.prog.types.size + 1) KS [.string a, .string b]) = _
  rw [e3]
  rfl
theorem ks_inj {s t : Sr} (hs : OkS s) (ht : OkS t) (h : ks s = ks t) : s = t := by
  have := lawSr.inj (ks_at hs) (h ▸ ks_at ht)
  simp only [ser, Value.agg.injEq] at this
  have h2 := congrArg Array.toList this
  simp at h2
  exact Prod.ext h2.1 h2.2
theorem ks_inv {x : Value} {z : Lit} (h : keyOf Try.prog KS x = some z) : ∃ s, OkS s ∧ x = ser s ∧ z = ks s := by
  obtain ⟨fs, hfs⟩ : ∃ fs, Try.prog.underlying KS = some (.struct fs) := ⟨_, Try.underlying43⟩
  unfold keyOf at h
  rw [hfs] at h
  simp only at h
  split at h
  · rename_i hc
    rw [Bool.and_eq_true] at hc
    have hf := hc.2
    obtain ⟨m, hm⟩ : ∃ m, Try.prog.types.size = m + 1 := ⟨Try.prog.types.size - 1, by have : 0 < Try.prog.types.size := of_decide_eq_true (by kernel_rfl); omega⟩
    have c0 : Try.prog.cellsOf KS = 2 := by kernel_rfl
    have c2 : Try.prog.cellsOf 9 = 1 := by kernel_rfl
    cases x with
    | agg cs =>
      have hs : cs.size = 2 := by
        simp only [Value.formed, hfs, c0, beq_iff_eq] at hf
        exact hf
      obtain ⟨a, b, rfl⟩ : ∃ a b, cs = #[a, b] := by
        obtain ⟨l⟩ := cs
        match l, hs with
        | [a, b], _ => exact ⟨a, b, rfl⟩
      rw [hm] at h
      have hcells : (Value.agg #[a, b]).cells.toList = [a, b] := rfl
      rw [hcells] at h
      cases a with
      | string n =>
        cases b with
        | string s =>
          simp [Program.keyLits, Try.underlying43, Try.underlying9, c0, c2] at h
          by_cases h1 : n.size ≤ maxLen
          · by_cases h2 : s.size ≤ maxLen
            · simp [h1, h2] at h
              exact ⟨(n, s), ⟨h1, h2⟩, rfl, h.symm⟩
            · simp [h1, h2] at h
          · simp [h1] at h
        | _ => simp [Program.keyLits, Try.underlying43, Try.underlying9, c0, c2] at h
      | _ => simp [Program.keyLits, Try.underlying43, Try.underlying9, c0, c2] at h
    | _ => simp [Value.formed, hfs] at hf
  · cases h
theorem isKeyS (s : Sr) : WideAt.IsKeyLit (ks s) := trivial
def hS (v : Value) : Option (DataW Value × List MemPlace) := some (.held v, [])

/-- A series that a book has: its ring's blocks, its samples. -/
structure En where
  (s : Sr)
  (rb gb : Nat)
  (l : List (Int × Int))
def hitS (s : Sr) (e : En) : Bool := decide (e.s = s)
theorem hitS_iff {s : Sr} {e : En} : hitS s e = true ↔ e.s = s := by unfold hitS; exact decide_eq_true_iff
abbrev ApartS (E : List En) : Prop := E.Pairwise (fun a b => a.s ≠ b.s)

/-- What a map's datum holds. -/
structure Rd (D : DataW Value) (E : List En) : Prop where
  size : Maps.size D = E.length
  apart : ApartS E
  ok : ∀ e ∈ E, OkS e.s
  has : ∀ s, OkS s → Maps.has D (ks s) = E.any (hitS s)
  ats : ∀ e ∈ E, ∀ z, D.atKey (ks e.s) z = .held (.pointer (some ⟨e.rb, 0, none⟩))
theorem Rd.nil : Rd (.map []) [] := ⟨rfl, List.Pairwise.nil, by simp, fun _ _ => rfl, by simp⟩
theorem any_none {E : List En} {s : Sr} (h : ∀ e ∈ E, e.s ≠ s) : E.any (hitS s) = false := by
  rw [List.any_eq_false]
  intro e he hh
  exact h e he (hitS_iff.1 hh)
theorem any_some {E : List En} {e : En} (h : e ∈ E) : E.any (hitS e.s) = true := List.any_eq_true.2 ⟨e, h, hitS_iff.2 rfl⟩
theorem Rd.put {D : DataW Value} {E : List En} (h : Rd D E) (ht : Tidy D) {e : En} (hk : OkS e.s) (hn : ∀ x ∈ E, x.s ≠ e.s) : Rd (D.put (ks e.s) (.held (.pointer (some ⟨e.rb, 0, none⟩)))) (E ++ [e]) := by
  have hm := ht.isMap
  refine ⟨?_, ?_, ?_, ?_, ?_⟩
  · rw [Maps.size_put ht, h.size, h.has _ hk, any_none hn]
    simp
  · refine List.pairwise_append.2 ⟨h.apart, List.pairwise_singleton _ _, fun a ha b hb => ?_⟩
    rw [List.mem_singleton] at hb
    subst hb
    exact hn a ha
  · intro x hx
    rcases List.mem_append.1 hx with hx | hx
    · exact h.ok x hx
    · rw [List.mem_singleton] at hx
      subst hx
      exact hk
  · intro s hs
    by_cases e1 : ks s = ks e.s
    · have := ks_inj hs hk e1
      subst this
      rw [Maps.has_put_same hm (isKeyS _)]
      exact (any_some (List.mem_append_right _ (List.mem_singleton_self e))).symm
    · rw [Maps.has_put_other e1, h.has s hs, List.any_append]
      have : hitS s e = false := by
        cases q : hitS s e with
        | false => rfl
        | true => exact absurd (by rw [hitS_iff.1 q]) e1
      simp [this]
  · intro x hx z
    rcases List.mem_append.1 hx with hx | hx
    · rw [Maps.atKey_put_other (fun e1 => hn x hx (ks_inj (h.ok x hx) hk e1))]
      exact h.ats x hx z
    · rw [List.mem_singleton] at hx
      subst hx
      exact Maps.atKey_put_same hm (isKeyS _) _ z
theorem not_hit {s : Sr} {e : En} : (!hitS s e) = true ↔ e.s ≠ s := by
  rw [Bool.not_eq_true', ← Bool.not_eq_true, hitS_iff]
theorem filter_len {E : List En} (ha : ApartS E) (s : Sr) : (E.filter (fun e => !hitS s e)).length + (if E.any (hitS s) then 1 else 0) = E.length := by
  induction E with
  | nil => rfl
  | cons x E ih =>
    have hp := List.pairwise_cons.1 ha
    have := ih hp.2
    cases e : hitS s x with
    | false =>
      rw [List.filter_cons, e, List.any_cons, e]
      simp only [Bool.not_false, if_true, List.length_cons, Bool.false_or]
      omega
    | true =>
      have : ∀ y ∈ E, y.s ≠ s := fun y hy e2 => hp.1 y hy (by rw [hitS_iff.1 e, e2])
      rw [any_none this] at ih
      rw [List.filter_cons, e, List.any_cons, e]
      have h2 := ih hp.2
      simp only [Bool.not_true, Bool.false_eq_true, if_false, List.length_cons, Bool.true_or, if_true]
      simp at h2
      simp
      omega
theorem Rd.del {D : DataW Value} {E : List En} (h : Rd D E) (ht : Tidy D) {s : Sr} (hk : OkS s) : Rd (D.del (ks s)) (E.filter (fun e => !hitS s e)) := by
  refine ⟨?_, h.apart.filter _, fun x hx => h.ok x (List.mem_filter.1 hx).1, ?_, ?_⟩
  · have a := Maps.size_del (k := ks s) ht
    have b := filter_len h.apart s
    rw [h.has s hk, h.size] at a
    omega
  · intro t hts
    by_cases e1 : ks t = ks s
    · have := ks_inj hts hk e1
      subst this
      rw [Maps.has_del_same]
      symm
      exact any_none (fun e he => not_hit.1 (List.mem_filter.1 he).2)
    · rw [Maps.has_del_other e1, h.has t hts, Bool.eq_iff_iff, List.any_eq_true, List.any_eq_true]
      constructor
      · rintro ⟨x, hx, hp⟩
        refine ⟨x, List.mem_filter.2 ⟨hx, not_hit.2 (fun e2 => e1 ?_)⟩, hp⟩
        rw [← hitS_iff.1 hp, e2]
      · rintro ⟨x, hx, hp⟩
        exact ⟨x, (List.mem_filter.1 hx).1, hp⟩
  · intro x hx z
    obtain ⟨hx1, hx2⟩ := List.mem_filter.1 hx
    rw [Maps.atKey_del_other (fun e1 => not_hit.1 hx2 (ks_inj (h.ok x hx1) hk e1))]
    exact h.ats x hx1 z
/-- A ring's samples are no part of it. -/
theorem Rd.same {D : DataW Value} {E1 E2 : List En} {e e' : En} (h : Rd D (E1 ++ e :: E2)) (hs : e'.s = e.s) (hr : e'.rb = e.rb) : Rd D (E1 ++ e' :: E2) := by
  refine ⟨by rw [h.size]; simp, ?_, ?_, ?_, ?_⟩
  · have := h.apart
    unfold ApartS at this ⊢
    rw [List.pairwise_append, List.pairwise_cons] at this ⊢
    obtain ⟨h1, ⟨h2, h3⟩, h4⟩ := this
    refine ⟨h1, ⟨fun a ha => by rw [hs]; exact h2 a ha, h3⟩, fun a ha b hb => ?_⟩
    rcases List.mem_cons.1 hb with rfl | hb
    · rw [hs]; exact h4 a ha e List.mem_cons_self
    · exact h4 a ha b (List.mem_cons_of_mem _ hb)
  · intro x hx
    rcases List.mem_append.1 hx with hx | hx
    · exact h.ok x (List.mem_append_left _ hx)
    · rcases List.mem_cons.1 hx with rfl | hx
      · rw [hs]; exact h.ok e (List.mem_append_right _ List.mem_cons_self)
      · exact h.ok x (List.mem_append_right _ (List.mem_cons_of_mem _ hx))
  · intro s hk
    rw [h.has s hk, List.any_append, List.any_append, List.any_cons, List.any_cons]
    have : hitS s e' = hitS s e := by unfold hitS; rw [hs]
    rw [this]
  · intro x hx z
    rcases List.mem_append.1 hx with hx | hx
    · exact h.ats x (List.mem_append_left _ hx) z
    · rcases List.mem_cons.1 hx with rfl | hx
      · rw [hs, hr]; exact h.ats e (List.mem_append_right _ List.mem_cons_self) z
      · exact h.ats x (List.mem_append_right _ (List.mem_cons_of_mem _ hx)) z

/-- The block is a map of these. -/
def MapS (w : World) (mb : Nat) (E : List En) : Prop := ∃ D, w.ownsMap Try.prog KS hS mb E.length D ∧ Rd D E
theorem size_own {w : World} {mb n : Nat} {D : DataW Value} (h : w.ownsMap Try.prog KS hS mb n D) : w.ownsMap Try.prog KS hS mb (Maps.size D) D := by
  obtain ⟨es, c, h1, h2, h3, h4⟩ := h
  have : Maps.size D = es.size := by rw [h4]; simp [Maps.size, Go.length_sorted]
  exact ⟨es, c, h1, h2, by rw [this]; exact Nat.le_refl _, h4⟩
theorem MapS.of {w : World} {mb n : Nat} {D : DataW Value} {E : List En} (h : w.ownsMap Try.prog KS hS mb n D) (hr : Rd D E) : MapS w mb E := ⟨D, by rw [← hr.size]; exact size_own h, hr⟩
theorem MapS.keep {w w' : World} {mb : Nat} {E : List En} (h : MapS w mb E) (hb : w'.heap[mb]? = w.heap[mb]?) : MapS w' mb E := by
  obtain ⟨D, ⟨es, c, h1, h2⟩, hr⟩ := h
  exact ⟨D, ⟨es, c, hb.trans h1, h2⟩, hr⟩
theorem MapS.lt {w : World} {mb : Nat} {E : List En} (h : MapS w mb E) : mb < w.heap.size := by
  obtain ⟨D, ⟨es, c, h1, h2⟩, hr⟩ := h
  exact (Array.getElem?_eq_some_iff.1 h1).1
theorem MapS.made (w : World) : MapS (w.alloc (.map #[] 0)) w.heap.size [] := ⟨_, World.ownsMap_made w _ _ _, Rd.nil⟩
theorem MapS.no {w : World} {mb : Nat} {E : List En} (h : MapS w mb E) {s : Sr} (hk : OkS s) (hn : ∀ e ∈ E, e.s ≠ s) (b : Bool) : (Instr.lookup MS (.map (some mb)) (ser s) b).run Try.prog w = .ok (if b then .tuple #[.pointer none, .bool false] else .pointer none) w := by
  obtain ⟨D, ho, hr⟩ := h
  have hz : (zeroValue PR).run Try.prog w = .ok (.pointer none) w := by kernel_rfl
  have hh := hr.has s hk
  rw [any_none hn] at hh
  cases b with
  | true =>
    obtain ⟨v, ps, hrun, hv⟩ := ho.look_ok lawSr mapTS hz (zd := .held (.pointer none)) (zp := []) rfl (ks_at hk)
    rw [hh] at hrun
    rw [Maps.atKey_of_not_has hh] at hv
    simp only [hS, Option.some.injEq, Prod.mk.injEq, DataW.held.injEq] at hv
    rw [hv.1] at hrun
    exact hrun
  | false =>
    obtain ⟨v, ps, hrun, hv⟩ := ho.lookup lawSr mapTS hz (zd := .held (.pointer none)) (zp := []) rfl (ks_at hk)
    rw [Maps.atKey_of_not_has hh] at hv
    simp only [hS, Option.some.injEq, Prod.mk.injEq, DataW.held.injEq] at hv
    rw [hv.1] at hrun
    exact hrun
theorem MapS.yes {w : World} {mb : Nat} {E : List En} (h : MapS w mb E) {e : En} (he : e ∈ E) (b : Bool) : (Instr.lookup MS (.map (some mb)) (ser e.s) b).run Try.prog w = .ok (if b then .tuple #[.pointer (some ⟨e.rb, 0, none⟩), .bool true] else .pointer (some ⟨e.rb, 0, none⟩)) w := by
  obtain ⟨D, ho, hr⟩ := h
  have hz : (zeroValue PR).run Try.prog w = .ok (.pointer none) w := by kernel_rfl
  have hk := hr.ok e he
  have hh := hr.has e.s hk
  rw [any_some he] at hh
  cases b with
  | true =>
    obtain ⟨v, ps, hrun, hv⟩ := ho.look_ok lawSr mapTS hz (zd := .held (.pointer none)) (zp := []) rfl (ks_at hk)
    rw [hh] at hrun
    rw [hr.ats e he] at hv
    simp only [hS, Option.some.injEq, Prod.mk.injEq, DataW.held.injEq] at hv
    rw [hv.1] at hrun
    exact hrun
  | false =>
    obtain ⟨v, ps, hrun, hv⟩ := ho.lookup lawSr mapTS hz (zd := .held (.pointer none)) (zp := []) rfl (ks_at hk)
    rw [hr.ats e he] at hv
    simp only [hS, Option.some.injEq, Prod.mk.injEq, DataW.held.injEq] at hv
    rw [hv.1] at hrun
    exact hrun
theorem MapS.len {w : World} {mb : Nat} {E : List En} (h : MapS w mb E) (ty : TypeId) : (Builtin.len_ #[MS] ty #[.map (some mb)]).run Try.prog w = .ok (.int .i64 (E.length : Int)) w := by
  obtain ⟨D, ho, hr⟩ := h
  have := ho.len mapTS ty
  rw [hr.size] at this
  exact this
theorem turned_tch {w w' : World} {mb : Nat} (h : w.mapTurned w' mb) : Tch [mb] w w' :=
  Tch.ofGrown (S := [mb]) (World.mapTurned.grown h) (fun g e => .inl (by simp at e; simp [e]))
theorem MapS.put {w : World} {mb : Nat} {E : List En} (h : MapS w mb E) (hl : E.length < maxLen) {e : En} (hk : OkS e.s) (hn : ∀ x ∈ E, x.s ≠ e.s) :
    ∃ w', (Instr.mapUpdate MS (.map (some mb)) (ser e.s) (.pointer (some ⟨e.rb, 0, none⟩))).run Try.prog w = .ok () w' ∧ MapS w' mb (E ++ [e]) ∧ Tch [mb] w w' := by
  obtain ⟨D, ho, hr⟩ := h
  obtain ⟨w', h1, h2, h3⟩ := ho.store lawSr mapTS hl (ks_at hk) (val := .pointer (some ⟨e.rb, 0, none⟩)) (d := .held (.pointer (some ⟨e.rb, 0, none⟩))) (ps := []) rfl
  exact ⟨w', h1, .of h2 (hr.put (ho.tidy lawSr) hk hn), turned_tch h3⟩
end Go.Proofs.Ytajkhbdniadkkaa
