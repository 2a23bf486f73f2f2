/- A map of objects, by kinds and names. -/
import Derived.Test.YtacgbagcddjlnaaStA
import Derived.Maps.RangeWalk
namespace Go.Proofs.Ytacgbagcddjlnaa
open Go.RowKit Go.Shelf Go.Lib Go.Sort
open Go.Maps (Keyed IsMap Tidy)
open Go.Joins (cell_of_block unfrozen_of_block block_setCell)
set_option linter.unusedVariables false
set_option linter.unusedSimpArgs false
set_option maxRecDepth 20000

abbrev KT : TypeId := 91
abbrev MT : TypeId := 83
abbrev OT : TypeId := 56
theorem laidOut : laidOutB Try.prog = true := by kernel_rfl
theorem lawK : Keyed Try.prog KT := Keyed.of_law (deep_law_laid laidOut (m := 2) (by omega) (of_decide_eq_true (by kernel_rfl)) (by kernel_rfl) (by kernel_rfl))
theorem mapT : Try.prog.underlying MT = some (.map KT OT) := Try.underlying83

def thing (k : Int) (nm : ByteArray) : Value := .agg #[.int .i64 k, .string nm]
def kl (k : Int) (nm : ByteArray) : Lit := .string (keyBytes [.int .i64 k, .string nm.data.toList])
theorem i64_wf {k : Int} (h : I64 k) : (Lit.int .i64 k).wf = true := by
  unfold I64 at h
  have e1 : IntKind.i64.min = -9223372036854775808 := rfl
  have e2 : IntKind.i64.max = 9223372036854775807 := rfl
  simp [Lit.wf, e1, e2]
  omega
theorem key_at {k : Int} {nm : ByteArray} (hk : I64 k) (hn : nm.size ≤ maxLen) : keyOf Try.prog KT (thing k nm) = some (kl k nm) := by
  have e1 : Try.prog.keyType KT = true := by kernel_rfl
  have e2 : (thing k nm).formed Try.prog KT = true := by
    simp [Value.formed, thing, Try.underlying91]
    kernel_rfl
  obtain ⟨fs, hfs⟩ : ∃ fs, Try.prog.underlying KT = some (.struct fs) := ⟨_, Try.underlying91⟩
  have e3 : Try.prog.keyLits (Try.prog.types.size + 1) KT [.int .i64 k, .string nm] = some [.int .i64 k, .string nm.data.toList] := by
    obtain ⟨m, hm⟩ : ∃ m, Try.prog.types.size = m + 1 := ⟨Try.prog.types.size - 1, by have : 0 < Try.prog.types.size := of_decide_eq_true (by kernel_rfl); omega⟩
    have c0 : Try.prog.cellsOf KT = 2 := by kernel_rfl
    have c1 : Try.prog.cellsOf 3 = 1 := by kernel_rfl
    have c2 : Try.prog.cellsOf 9 = 1 := by kernel_rfl
    rw [hm]
    simp [Program.keyLits, Try.underlying91, Try.underlying3, Try.underlying9, c0, c1, c2, i64_wf hk, hn]
  unfold keyOf
  rw [hfs]
  simp only
  rw [e1, e2]
  simp only [Bool.and_self, if_true]
  show Option.map _ (Try.prog.keyLits (Try.prog.types.size + 1) KT [.int .i64 k, .string nm]) = _
  rw [e3]
  rfl
theorem kl_inj {k k' : Int} {nm nm' : ByteArray} (hk : I64 k) (hn : nm.size ≤ maxLen) (hk' : I64 k') (hn' : nm'.size ≤ maxLen) (h : kl k nm = kl k' nm') : k = k' ∧ nm = nm' := by
  have := lawK.inj (key_at hk hn) (h ▸ key_at hk' hn')
  simp only [thing, Value.agg.injEq] at this
  have h2 := congrArg Array.toList this
  simp at h2
  exact h2

def hR (v : Value) : Option (DataW Value × List MemPlace) := some (.held v, [])

/-- By what an object is found. -/
abbrev Ky := Int × List UInt8
def Key (o : Ob) : Ky := (o.kind, by_ o.name)
def hit (k : Int) (nm : ByteArray) (o : Ob) : Bool := decide (Key o = (k, by_ nm))
theorem by_inj {a b : ByteArray} (h : by_ a = by_ b) : a = b := by
  have := congrArg mk h
  rwa [mk_by, mk_by] at this
theorem hit_iff {k : Int} {nm : ByteArray} {o : Ob} : hit k nm o = true ↔ o.kind = k ∧ o.name = nm := by
  unfold hit Key
  rw [decide_eq_true_eq, Prod.mk.injEq]
  exact ⟨fun h => ⟨h.1, by_inj h.2⟩, fun h => ⟨h.1, by rw [h.2]⟩⟩
theorem hit_self (o : Ob) : hit o.kind o.name o = true := hit_iff.2 ⟨rfl, rfl⟩

/-- What an object that is put in is. -/
def OkK (o : Ob) : Prop := I64 o.kind ∧ o.name.size ≤ maxLen

/-- The block is a map of these objects. -/
structure MapIs (base : Nat) (w : World) (mb n : Nat) (D : DataW Value) (l : List Ob) : Prop where
  own : w.ownsMap Try.prog KT hR mb n D
  size : Maps.size D = l.length
  apart : l.Pairwise (fun a b => Key a ≠ Key b)
  ok : ∀ o ∈ l, OkK o
  has : ∀ k nm, I64 k → nm.size ≤ maxLen → Maps.has D (kl k nm) = l.any (hit k nm)
  ats : ∀ o ∈ l, ∃ cs, (∀ z, D.atKey (kl o.kind o.name) z = .held (.agg cs)) ∧ Kept base w cs o

theorem isKey (k : Int) (nm : ByteArray) : WideAt.IsKeyLit (kl k nm) := trivial

theorem MapIs.fx {base : Nat} {w w' : World} {mb n : Nat} {D : DataW Value} {l : List Ob} (h : MapIs base w mb n D l) (hb : w'.heap[mb]? = w.heap[mb]?) (hf : Fx base w w') : MapIs base w' mb n D l := by
  refine ⟨?_, h.size, h.apart, h.ok, h.has, fun o ho => ?_⟩
  · obtain ⟨es, c, h1, h2⟩ := h.own
    exact ⟨es, c, hb.trans h1, h2⟩
  · obtain ⟨cs, h1, h2⟩ := h.ats o ho
    exact ⟨cs, h1, h2.fx hf⟩
theorem MapIs.mono {base : Nat} {w : World} {mb n n' : Nat} {D : DataW Value} {l : List Ob} (h : MapIs base w mb n D l) (hn : n ≤ n') : MapIs base w mb n' D l := ⟨h.own.mono hn, h.size, h.apart, h.ok, h.has, h.ats⟩

/-- 'o, there := m[thing{k, nm}]'. -/
theorem MapIs.look {base : Nat} {w : World} {mb n : Nat} {D : DataW Value} {l : List Ob} (h : MapIs base w mb n D l) {k : Int} {nm : ByteArray} (hk : I64 k) (hn : nm.size ≤ maxLen) :
    (l.any (hit k nm) = false ∧ l.find? (hit k nm) = none ∧ ∀ ws : World, ws.heap[mb]? = w.heap[mb]? → (Instr.lookup MT (.map (some mb)) (thing k nm) true).run Try.prog ws = .ok (.tuple #[.agg zerC, .bool false]) ws) ∨
    ∃ o cs, l.any (hit k nm) = true ∧ l.find? (hit k nm) = some o ∧ Kept base w cs o ∧ ∀ ws : World, ws.heap[mb]? = w.heap[mb]? → (Instr.lookup MT (.map (some mb)) (thing k nm) true).run Try.prog ws = .ok (.tuple #[.agg cs, .bool true]) ws := by
  have hh := h.has k nm hk hn
  have go : ∀ ws : World, ws.heap[mb]? = w.heap[mb]? → ∃ v ps, (Instr.lookup MT (.map (some mb)) (thing k nm) true).run Try.prog ws = .ok (.tuple #[v, .bool (Maps.has D (kl k nm))]) ws ∧ hR v = some (D.atKey (kl k nm) (.held (.agg zerC)), ps) := fun ws e => by
    have hz : (zeroValue OT).run Try.prog ws = .ok (.agg zerC) ws := by kernel_rfl
    obtain ⟨es, c, h1, h2⟩ := h.own
    have own : ws.ownsMap Try.prog KT hR mb n D := ⟨es, c, e.trans h1, h2⟩
    exact own.look_ok lawK mapT hz (zd := .held (.agg zerC)) (zp := []) rfl (key_at hk hn)
  cases hf : l.find? (hit k nm) with
  | none =>
    have ha : l.any (hit k nm) = false := by
      rw [List.any_eq_false]
      exact fun x hx => by have := List.find?_eq_none.1 hf x hx; simpa using this
    rw [ha] at hh
    refine .inl ⟨ha, rfl, fun ws e => ?_⟩
    obtain ⟨v, ps, hrun, hv⟩ := go ws e
    rw [hh] at hrun
    rw [Maps.atKey_of_not_has hh] at hv
    simp only [hR, Option.some.injEq, Prod.mk.injEq, DataW.held.injEq] at hv
    rw [hv.1] at hrun
    exact hrun
  | some o =>
    have hm := List.mem_of_find?_eq_some hf
    have hp := List.find?_some hf
    have ha : l.any (hit k nm) = true := List.any_eq_true.2 ⟨o, hm, hp⟩
    rw [ha] at hh
    obtain ⟨h1, h2⟩ := hit_iff.1 hp
    obtain ⟨cs, hc, hk⟩ := h.ats o hm
    refine .inr ⟨o, cs, ha, rfl, hk, fun ws e => ?_⟩
    obtain ⟨v, ps, hrun, hv⟩ := go ws e
    rw [hh] at hrun
    rw [h1, h2] at hc
    rw [hc] at hv
    simp only [hR, Option.some.injEq, Prod.mk.injEq, DataW.held.injEq] at hv
    rw [hv.1] at hrun
    exact hrun

theorem turned_fx {base : Nat} {w w' : World} {mb : Nat} (h : w.mapTurned w' mb) (hb : base ≤ mb) : Fx base w w' := by
  obtain ⟨es, c, es', c', h1, rfl⟩ := h
  refine (Chg.ofGrown (S := [mb]) (World.mapTurned.grown ⟨es, c, es', c', h1, rfl⟩) (fun g e => .inl (by simp at e; simp [e]))).fx ?_
  intro g hg _ hp
  simp at hg
  subst hg
  rcases hp with hp | ⟨cs, T, fz, h2, _⟩
  · omega
  · rw [h1] at h2; cases h2

/-- Put in: in the place of the one that is there, or behind all. -/
def put (l : List Ob) (o : Ob) : List Ob := if l.any (hit o.kind o.name) then l.set (l.findIdx (hit o.kind o.name)) o else l ++ [o]
def del (l : List Ob) (k : Int) (nm : ByteArray) : List Ob := l.eraseIdx (l.findIdx (hit k nm))

theorem key_ne {a b : Ob} (ha : OkK a) (hb : OkK b) (h : Key a ≠ Key b) : kl a.kind a.name ≠ kl b.kind b.name := fun e => by
  obtain ⟨h1, h2⟩ := kl_inj ha.1 ha.2 hb.1 hb.2 e
  exact h (by unfold Key; rw [h1, h2])

/-- Of a row without two of one key the others are all at other keys. -/
theorem apart_other {l : List Ob} (hp : l.Pairwise (fun a b => Key a ≠ Key b)) {i j : Nat} {a b : Ob} (hi : l[i]? = some a) (hj : l[j]? = some b) (hne : i ≠ j) : Key a ≠ Key b := by
  obtain ⟨h1, e1⟩ := List.getElem?_eq_some_iff.1 hi
  obtain ⟨h2, e2⟩ := List.getElem?_eq_some_iff.1 hj
  have hq := List.pairwise_iff_getElem.1 hp
  rcases Nat.lt_or_gt_of_ne hne with h | h
  · have := hq i j h1 h2 h
    rw [e1, e2] at this
    exact this
  · have := hq j i h2 h1 h
    rw [e1, e2] at this
    exact fun e => this e.symm
theorem find_idx {l : List Ob} {k : Int} {nm : ByteArray} (h : l.any (hit k nm) = true) : ∃ o, l[l.findIdx (hit k nm)]? = some o ∧ hit k nm o = true ∧ l.findIdx (hit k nm) < l.length := by
  obtain ⟨x, hx, hp⟩ := List.any_eq_true.1 h
  have hl : l.findIdx (hit k nm) < l.length := List.findIdx_lt_length_of_exists ⟨x, hx, hp⟩
  exact ⟨_, List.getElem?_eq_getElem hl, List.findIdx_getElem, hl⟩

theorem put_mem {l : List Ob} {o x : Ob} (hx : x ∈ put l o) : x = o ∨ (x ∈ l ∧ (l.Pairwise (fun a b => Key a ≠ Key b) → Key x ≠ Key o)) := by
  unfold put at hx
  split at hx
  · rename_i h
    obtain ⟨o', h1, h2, h3⟩ := find_idx h
    obtain ⟨i, hi⟩ := List.getElem?_of_mem hx
    rw [List.getElem?_set] at hi
    split at hi
    · cases hi
      exact .inl rfl
    · rename_i hne
      refine .inr ⟨List.mem_of_getElem? hi, fun hp e => apart_other hp hi h1 (fun e => hne e.symm) ?_⟩
      obtain ⟨a1, a2⟩ := hit_iff.1 h2
      rw [e]
      unfold Key
      rw [a1, a2]
  · rename_i h
    rcases List.mem_append.1 hx with hx | hx
    · refine .inr ⟨hx, fun _ e => h (List.any_eq_true.2 ⟨x, hx, ?_⟩)⟩
      unfold Key at e
      rw [Prod.mk.injEq] at e
      exact hit_iff.2 ⟨e.1, by_inj e.2⟩
    · simp at hx
      exact .inl hx
theorem put_self (l : List Ob) (o : Ob) : o ∈ put l o := by
  unfold put
  split
  · rename_i h
    obtain ⟨o', h1, h2, h3⟩ := find_idx h
    exact List.mem_iff_getElem?.2 ⟨_, by rw [List.getElem?_set_self h3]⟩
  · simp
theorem put_keeps {l : List Ob} {o x : Ob} (hx : x ∈ l) (hk : Key x ≠ Key o) : x ∈ put l o := by
  unfold put
  split
  · rename_i h
    obtain ⟨o', h1, h2, h3⟩ := find_idx h
    obtain ⟨i, hi⟩ := List.getElem?_of_mem hx
    refine List.mem_iff_getElem?.2 ⟨i, ?_⟩
    rw [List.getElem?_set]
    split
    · rename_i e
      rw [e, hi] at h1
      cases h1
      obtain ⟨a1, a2⟩ := hit_iff.1 h2
      exact absurd (by unfold Key; rw [a1, a2]) hk
    · exact hi
  · exact List.mem_append_left _ hx
theorem put_apart {l : List Ob} (hp : l.Pairwise (fun a b => Key a ≠ Key b)) (o : Ob) : (put l o).Pairwise (fun a b => Key a ≠ Key b) := by
  by_cases h : l.any (hit o.kind o.name) = true
  · have e : put l o = l.set (l.findIdx (hit o.kind o.name)) o := if_pos h
    obtain ⟨o', h1, h2, h3⟩ := find_idx h
    obtain ⟨a1, a2⟩ := hit_iff.1 h2
    have hk : Key o' = Key o := by unfold Key; rw [a1, a2]
    rw [e, List.pairwise_iff_getElem]
    intro i j hi hj hij
    rw [List.length_set] at hi hj
    rw [List.getElem_set, List.getElem_set]
    obtain ⟨h4, h5⟩ := List.getElem?_eq_some_iff.1 h1
    have q := List.pairwise_iff_getElem.1 hp i j hi hj hij
    split
    · rename_i e1
      split
      · omega
      · rw [← hk, ← h5]
        subst e1
        exact q
    · split
      · rename_i e1
        rw [← hk, ← h5]
        subst e1
        exact q
      · exact q
  · have e : put l o = l ++ [o] := if_neg h
    rw [e, List.pairwise_append]
    refine ⟨hp, by simp, fun a ha b hb => ?_⟩
    simp at hb
    subst hb
    intro e
    unfold Key at e
    rw [Prod.mk.injEq] at e
    exact h (List.any_eq_true.2 ⟨a, ha, hit_iff.2 ⟨e.1, by_inj e.2⟩⟩)
theorem put_len (l : List Ob) (o : Ob) : (put l o).length = if l.any (hit o.kind o.name) then l.length else l.length + 1 := by
  unfold put
  split <;> simp

/-- 'm[key(o)] = o'. -/
theorem MapIs.put {base : Nat} {w : World} {mb n : Nat} {D : DataW Value} {l : List Ob} (h : MapIs base w mb n D l) (hmb : base ≤ mb) (hn : n < maxLen) {o : Ob} {cs : Array Value} (hc : Kept base w cs o) (ho : OkK o) :
    ∃ w', (Instr.mapUpdate MT (.map (some mb)) (thing o.kind o.name) (.agg cs)).run Try.prog w = .ok () w' ∧ MapIs base w' mb (n + 1) (D.put (kl o.kind o.name) (.held (.agg cs))) (put l o) ∧ w.mapTurned w' mb := by
  obtain ⟨w', h1, h2, h3⟩ := h.own.store lawK mapT hn (key_at ho.1 ho.2) (val := .agg cs) (d := .held (.agg cs)) (ps := []) rfl
  have hf := turned_fx h3 hmb
  have ht := h.own.tidy lawK
  have hm := ht.isMap
  refine ⟨w', h1, ⟨h2, ?_, put_apart h.apart o, ?_, ?_, ?_⟩, h3⟩
  · rw [Maps.size_put ht, put_len, h.size, h.has _ _ ho.1 ho.2]
  · intro x hx
    rcases put_mem hx with rfl | ⟨hx, _⟩
    · exact ho
    · exact h.ok x hx
  · intro k nm hk hnm
    by_cases e : kl k nm = kl o.kind o.name
    · obtain ⟨e1, e2⟩ := kl_inj hk hnm ho.1 ho.2 e
      subst e1 e2
      rw [Maps.has_put_same hm (isKey _ _)]
      exact (List.any_eq_true.2 ⟨o, put_self l o, hit_self o⟩).symm
    · rw [Maps.has_put_other e, h.has k nm hk hnm, Bool.eq_iff_iff, List.any_eq_true, List.any_eq_true]
      constructor
      · rintro ⟨x, hx, hp⟩
        refine ⟨x, put_keeps hx (fun e2 => e ?_), hp⟩
        obtain ⟨a1, a2⟩ := hit_iff.1 hp
        unfold Key at e2
        rw [Prod.mk.injEq] at e2
        rw [← a1, ← a2, e2.1, by_inj e2.2]
      · rintro ⟨x, hx, hp⟩
        rcases put_mem hx with rfl | ⟨hx, _⟩
        · obtain ⟨a1, a2⟩ := hit_iff.1 hp
          exact absurd (by rw [a1, a2]) e
        · exact ⟨x, hx, hp⟩
  · intro x hx
    rcases put_mem hx with rfl | ⟨hx, hne⟩
    · exact ⟨cs, fun z => Maps.atKey_put_same hm (isKey _ _) _ z, hc.fx hf⟩
    · obtain ⟨ds, g1, g2⟩ := h.ats x hx
      exact ⟨ds, fun z => by rw [Maps.atKey_put_other (key_ne (h.ok x hx) ho (hne h.apart))]; exact g1 z, g2.fx hf⟩

theorem del_mem {l : List Ob} {k : Int} {nm : ByteArray} (hp : l.Pairwise (fun a b => Key a ≠ Key b)) {x : Ob} : x ∈ del l k nm ↔ x ∈ l ∧ hit k nm x = false := by
  unfold del
  rw [List.mem_eraseIdx_iff_getElem?]
  constructor
  · rintro ⟨i, hne, hi⟩
    refine ⟨List.mem_of_getElem? hi, ?_⟩
    cases e : hit k nm x with
    | false => rfl
    | true =>
      obtain ⟨o, h1, h2, h3⟩ := find_idx (List.any_eq_true.2 ⟨x, List.mem_of_getElem? hi, e⟩)
      refine absurd ?_ (apart_other hp hi h1 hne)
      obtain ⟨a1, a2⟩ := hit_iff.1 h2
      obtain ⟨b1, b2⟩ := hit_iff.1 e
      unfold Key
      rw [a1, a2, b1, b2]
  · rintro ⟨hx, hf⟩
    obtain ⟨i, hi⟩ := List.getElem?_of_mem hx
    refine ⟨i, fun e => ?_, hi⟩
    obtain ⟨hl, e2⟩ := List.getElem?_eq_some_iff.1 hi
    have := @List.findIdx_getElem _ (hit k nm) l (by rw [← e]; exact hl)
    subst e
    rw [e2, hf] at this
    cases this
theorem del_len {l : List Ob} {k : Int} {nm : ByteArray} : (del l k nm).length + (if l.any (hit k nm) then 1 else 0) = l.length := by
  unfold del
  split
  · rename_i h
    obtain ⟨o, h1, h2, h3⟩ := find_idx h
    rw [List.length_eraseIdx_of_lt h3]
    omega
  · rename_i h
    rw [List.eraseIdx_of_length_le]
    · omega
    · have : ∀ x ∈ l, hit k nm x = false := by
        have := Bool.not_eq_true _ ▸ h
        rw [List.any_eq_false] at this
        exact fun x hx => by simpa using this x hx
      rw [List.findIdx_eq_length_of_false this]
      exact Nat.le_refl _
/-- 'delete(m, thing{k, nm})'. -/
theorem MapIs.del {base : Nat} {w : World} {mb n : Nat} {D : DataW Value} {l : List Ob} (h : MapIs base w mb n D l) (hmb : base ≤ mb) {k : Int} {nm : ByteArray} (hk : I64 k) (hnm : nm.size ≤ maxLen) (ty : TypeId) :
    ∃ w', (Builtin.delete_ #[MT, KT] ty #[.map (some mb), thing k nm]).run Try.prog w = .ok (.tuple #[]) w' ∧ MapIs base w' mb n (D.del (kl k nm)) (del l k nm) ∧ w.mapTurned w' mb := by
  obtain ⟨w', h1, h2, h3⟩ := h.own.drop lawK mapT (key_at hk hnm) ty
  have hf := turned_fx h3 hmb
  have ht := h.own.tidy lawK
  refine ⟨w', h1, ⟨h2, ?_, ?_, fun x hx => h.ok x ((del_mem h.apart).1 hx).1, ?_, ?_⟩, h3⟩
  · have a := Maps.size_del (k := kl k nm) ht
    have b := del_len (l := l) (k := k) (nm := nm)
    rw [h.has k nm hk hnm, h.size] at a
    omega
  · exact h.apart.sublist (List.eraseIdx_sublist _ _)
  · intro k' nm' hk' hnm'
    by_cases e : kl k' nm' = kl k nm
    · obtain ⟨e1, e2⟩ := kl_inj hk' hnm' hk hnm e
      subst e1 e2
      rw [Maps.has_del_same]
      symm
      rw [List.any_eq_false]
      intro x hx
      have := ((del_mem h.apart).1 hx).2
      simpa using this
    · rw [Maps.has_del_other e, h.has k' nm' hk' hnm', Bool.eq_iff_iff, List.any_eq_true, List.any_eq_true]
      constructor
      · rintro ⟨x, hx, hp⟩
        refine ⟨x, (del_mem h.apart).2 ⟨hx, ?_⟩, hp⟩
        cases e2 : hit k nm x with
        | false => rfl
        | true =>
          obtain ⟨a1, a2⟩ := hit_iff.1 hp
          obtain ⟨b1, b2⟩ := hit_iff.1 e2
          exact absurd (by rw [← a1, ← a2, b1, b2]) e
      · rintro ⟨x, hx, hp⟩
        exact ⟨x, ((del_mem h.apart).1 hx).1, hp⟩
  · intro x hx
    obtain ⟨hx1, hx2⟩ := (del_mem h.apart).1 hx
    obtain ⟨cs, g1, g2⟩ := h.ats x hx1
    refine ⟨cs, fun z => ?_, g2.fx hf⟩
    rw [Maps.atKey_del_other (fun e => ?_)]
    · exact g1 z
    · obtain ⟨e1, e2⟩ := kl_inj (h.ok x hx1).1 (h.ok x hx1).2 hk hnm e
      rw [hit_iff.2 ⟨e1, e2⟩] at hx2
      cases hx2
theorem MapIs.made (base : Nat) (w : World) : MapIs base (w.alloc (.map #[] 0)) w.heap.size 0 (.map []) [] :=
  ⟨World.ownsMap_made w _ _ _, rfl, List.Pairwise.nil, by simp, fun _ _ _ _ => rfl, by simp⟩
end Go.Proofs.Ytacgbagcddjlnaa
