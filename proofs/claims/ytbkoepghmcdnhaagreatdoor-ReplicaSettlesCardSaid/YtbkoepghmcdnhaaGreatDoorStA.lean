/- What changes while a store works, and what stays: rows of objects; maps of objects. -/
import Derived.Test.YtbkoepghmcdnhaaGreatDoorVaDp
import Derived.Maps.RangeWalk
import Derived.DeepKeys4
import Derived.Test.YtbkoepghmcdnhaaGreatDoorObE
import Derived.Maps.AppendAt
import Derived.Deep.RegionHeld
import Derived.Test.YtbkoepghmcdnhaaGreatDoorVaG
import Derived.Deep.DeepCutAuto
import Derived.BigQuiet
import Derived.Deep.AppendLies
import Derived.Test.YtbkoepghmcdnhaaGreatDoorVaH
import Derived.Carry
import Derived.Test.YtbkoepghmcdnhaaGreatDoorHeldG
namespace Go.Proofs.YtbkoepghmcdnhaaGreatDoor
open Go.RowKit Go.Shelf Go.Lib Go.Sort
open Go.Maps (Keyed)
open Go.Joins (cell_of_block unfrozen_of_block block_setCell)
set_option linter.unusedVariables false
set_option linter.unusedSimpArgs false
set_option maxRecDepth 20000

/-- The types of what objects' rows hold. -/
def rowTy (T : TypeId) : Bool := T == 101 || T == 105 || T == 131 || T == 135 || T == 139
/-- A block that nothing writes into: one of before, or an object's row. -/
def Prot (base : Nat) (w : World) (g : Nat) : Prop := g < base ∨ ∃ cs T fz, w.heap[g]? = some (.cells cs T fz) ∧ rowTy T = true
structure Fx (base : Nat) (w w' : World) : Prop where
  os : w'.os = w.os
  tape : w'.tape = w.tape
  output : w'.output = w.output
  size : w.heap.size ≤ w'.heap.size
  block : ∀ g, g < w.heap.size → Prot base w g → w'.heap[g]? = w.heap[g]?
theorem Fx.refl (base : Nat) (w : World) : Fx base w w := ⟨rfl, rfl, rfl, Nat.le_refl _, fun _ _ _ => rfl⟩
theorem Fx.trans {base : Nat} {a b c : World} (h : Fx base a b) (k : Fx base b c) : Fx base a c := by
  refine ⟨k.os.trans h.os, k.tape.trans h.tape, k.output.trans h.output, Nat.le_trans h.size k.size, fun g hg hp => ?_⟩
  have e := h.block g hg hp
  refine (k.block g (Nat.lt_of_lt_of_le hg h.size) ?_).trans e
  rcases hp with hp | ⟨cs, T, fz, h1, h2⟩
  · exact .inl hp
  · exact .inr ⟨cs, T, fz, e.trans h1, h2⟩
theorem Fx.ofBelow {base : Nat} {w w' : World} (h : Below w.heap.size w w') : Fx base w w' := ⟨h.os, h.tape, h.output, h.size, fun g hg _ => h.block g hg⟩
theorem Fx.below {base : Nat} {w w' : World} (h : Fx base w w') (hb : base ≤ w.heap.size) : Below base w w' := ⟨h.os, h.tape, h.output, h.size, fun g hg => h.block g (Nat.lt_of_lt_of_le hg hb) (.inl hg)⟩

/-- Of the blocks that were there only these were changed. -/
structure Chg (S : List Nat) (w w' : World) : Prop where
  os : w'.os = w.os
  tape : w'.tape = w.tape
  output : w'.output = w.output
  size : w.heap.size ≤ w'.heap.size
  block : ∀ g, g < w.heap.size → g ∉ S → w'.heap[g]? = w.heap[g]?
theorem Chg.refl (S : List Nat) (w : World) : Chg S w w := ⟨rfl, rfl, rfl, Nat.le_refl _, fun _ _ _ => rfl⟩
theorem Chg.trans {S S' : List Nat} {a b c : World} (h : Chg S a b) (k : Chg S' b c) (hS : ∀ g ∈ S', g ∈ S ∨ a.heap.size ≤ g) : Chg S a c :=
  ⟨k.os.trans h.os, k.tape.trans h.tape, k.output.trans h.output, Nat.le_trans h.size k.size, fun g hg hn => (k.block g (Nat.lt_of_lt_of_le hg h.size) (fun hm => by
    rcases hS g hm with h1 | h1
    · exact hn h1
    · omega)).trans (h.block g hg hn)⟩
theorem Chg.ofBelow {w w' : World} (h : Below w.heap.size w w') (S : List Nat) : Chg S w w' := ⟨h.os, h.tape, h.output, h.size, fun g hg _ => h.block g hg⟩
theorem Chg.ofGr {w w' : World} (h : Gr w w') (S : List Nat) : Chg S w w' := .ofBelow h.below S
theorem Chg.less {S S' : List Nat} {w w' : World} (h : Chg S w w') (hs : ∀ g ∈ S, g ∈ S' ∨ w.heap.size ≤ g) : Chg S' w w' :=
  ⟨h.os, h.tape, h.output, h.size, fun g hg hn => h.block g hg (fun hm => by rcases hs g hm with h1 | h1; exact hn h1; omega)⟩
theorem Chg.ofGrown {w w' : World} {row : Option Nat} (h : w.grownBy w' row) {S : List Nat} (hs : ∀ g, row = some g → g ∈ S ∨ w.heap.size ≤ g) : Chg S w w' :=
  ⟨h.os, h.tape, h.output, h.size, fun g hg hn => h.block g hg (fun e => by rcases hs g e.symm with h1 | h1; exact hn h1; omega)⟩
theorem Chg.setCell {S : List Nat} {a b : World} (h : Chg S a b) {g : Nat} (i : Nat) (v : Value) (hg : g ∈ S ∨ a.heap.size ≤ g) : Chg S a (b.setCell ⟨g, i, none⟩ v) :=
  ⟨h.os, h.tape, h.output, by have := h.size; simpa [World.setCell] using this, fun k hk hn => by
    rw [Below.heap_setCell _ _ _ _ (by show k ≠ g; rintro rfl; rcases hg with h1 | h1; exact hn h1; omega)]
    exact h.block k hk hn⟩
theorem Chg.fx {S : List Nat} {base : Nat} {w w' : World} (h : Chg S w w') (hs : ∀ g ∈ S, g < w.heap.size → ¬ Prot base w g) : Fx base w w' :=
  ⟨h.os, h.tape, h.output, h.size, fun g hg hp => h.block g hg (fun hm => hs g hm hg hp)⟩
theorem Chg.below {S : List Nat} {base : Nat} {w w' : World} (h : Chg S w w') (hs : ∀ g ∈ S, base ≤ g) (hb : base ≤ w.heap.size) : Below base w w' :=
  ⟨h.os, h.tape, h.output, h.size, fun g hg => h.block g (Nat.lt_of_lt_of_le hg hb) (fun hm => by have := hs g hm; omega)⟩

theorem own_fx {base N n : Nat} {w w' : World} {e : TypeId} {s : Nat} {v : Value} {xs : List Value} (h : w.ownsRow N e s v n xs) (ht : rowTy e = true) (hf : Fx base w w') : w'.ownsRow N e s v n xs := by
  obtain ⟨h0, h⟩ := h
  refine ⟨h0, ?_⟩
  rcases h with h | ⟨g, cap, cur, e1, hb, hg, r⟩
  · exact .inl h
  · exact .inr ⟨g, cap, cur, e1, hb, (hf.block g (Array.getElem?_eq_some_iff.1 hg).1 (.inr ⟨_, _, _, hg, ht⟩)).trans hg, r⟩
theorem OwnC.fx {α : Type} {base N : Nat} {w w' : World} {E : TypeId} {k : Nat} {enc : α → List Value} {D : Array Value} {i : Nat} {l : List α} (h : OwnC N w E k enc D i l) (ht : rowTy E = true) (hf : Fx base w w') : OwnC N w' E k enc D i l := by
  obtain ⟨v, hv, ho⟩ := h
  exact ⟨v, hv, own_fx ho ht hf⟩
theorem OwnAt.fx {base N : Nat} {w w' : World} {o : Ob} {D : Array Value} {i : Nat} (h : OwnAt N w o D i) (hf : Fx base w w') : OwnAt N w' o D i := by
  unfold OwnAt at h ⊢
  split at h <;> first | exact OwnC.fx h rfl hf | trivial

/-- These cells hold this object, whatever a store does. -/
structure Kept (base : Nat) (w : World) (cs : Array Value) (o : Ob) : Prop where
  held : ∀ w', Fx base w w' → ObjV w' cs o
  nil : NilO cs
  small : TinyO o
  fits : FitsO o
theorem Kept.obj {base : Nat} {w : World} {cs : Array Value} {o : Ob} (h : Kept base w cs o) : ObjV w cs o := h.held w (Fx.refl _ _)
theorem Kept.fx {base : Nat} {w w' : World} {cs : Array Value} {o : Ob} (h : Kept base w cs o) (hf : Fx base w w') : Kept base w' cs o := ⟨fun w'' h' => h.held w'' (hf.trans h'), h.nil, h.small, h.fits⟩
theorem kept_own {base N : Nat} {w : World} {cs : Array Value} {o : Ob} (hv : ObjV w cs o) (hi : ∀ i ∈ rowsIx, OwnAt N w o cs i) (hs : TinyO o) (hf : FitsO o) : Kept base w cs o :=
  ⟨fun w' h => dup_obj hv rfl (fun _ _ => rfl) (fun i hi' => (hi i hi').fx h), nil_own hi, hs, hf⟩
theorem kept_arg {base : Nat} {W w : World} {cs : Array Value} {o : Ob} (hv : ObjV W cs o) (hb : W.heap.size = base) (hf : Fx base W w) (hn : NilO cs) (hs : TinyO o) (ff : FitsO o) : Kept base w cs o :=
  ⟨fun w' h => hv.below (by have := (hf.trans h).below (by omega); rwa [← hb] at this), hn, hs, ff⟩
theorem kept_copy {base N : Nat} {w0 w : World} {cs ds : Array Value} {o : Ob} (h : Kept base w0 cs o) (hc : CopyO N w cs ds o) (hs : TinyO o) (hf : FitsO o) : Kept base w ds o :=
  kept_own (dup_obj h.obj hc.1 hc.2.1 hc.2.2) hc.2.2 hs hf

/-- A version set. -/
def setV (o : Ob) (v : Nat) : Ob := { o with ver := v }
theorem set_obj_v {w : World} {L : Array Value} {o : Ob} {v : Nat} (hv : ObjV w L o) (h64 : v < 18446744073709551616) : ObjV w (L.setIfInBounds 2 (.int .u64 v)) (setV o v) := by
  obtain ⟨hsz, ⟨c0, c1, c2, hver⟩, hW, hP, hN, hG, hH⟩ := hv
  obtain ⟨c3, c4, c5, c6, c7, c8, c9⟩ := hW
  obtain ⟨c10, c11, c12, c13, c14, c15, c16, c17, c18, c19⟩ := hP
  obtain ⟨c20, c21, c22, c23, c24, c25, c26⟩ := hN
  obtain ⟨c27, c28, c29, c30, c31, c32, c33, c34⟩ := hG
  obtain ⟨c35, c36, c37, c38, c39, c40, c41, c42, c43, c44, c45, c46⟩ := hH
  have ne : ∀ i, 2 ≠ i → (L.setIfInBounds 2 (.int .u64 v))[i]? = L[i]? := fun i h => Array.getElem?_setIfInBounds_ne h
  have e2 : (L.setIfInBounds 2 (.int .u64 v))[2]? = some (.int .u64 v) := Array.getElem?_setIfInBounds_self_of_lt (by omega)
  exact ⟨by simp [hsz], ⟨(by rw [ne 0 (by decide)]; exact c0), (by rw [ne 1 (by decide)]; exact c1), e2, h64⟩, ⟨(by rw [ne 3 (by decide)]; exact c3), (by rw [ne 4 (by decide)]; exact c4), (by rw [ne 5 (by decide)]; exact c5), (by rw [ne 6 (by decide)]; exact c6), (by rw [ne 7 (by decide)]; exact c7), (by rw [ne 8 (by decide)]; exact c8), (by rw [ne 9 (by decide)]; exact c9)⟩, ⟨(by rw [ne 10 (by decide)]; exact c10), (by rw [ne 11 (by decide)]; exact c11), (by rw [ne 12 (by decide)]; exact c12), (by rw [ne 13 (by decide)]; exact c13), (by rw [ne 14 (by decide)]; exact c14), (by rw [ne 15 (by decide)]; exact c15), (by rw [ne 16 (by decide)]; exact c16), (by rw [ne 17 (by decide)]; exact c17), (by rw [ne 18 (by decide)]; exact c18), (by rw [ne 19 (by decide)]; exact c19)⟩, ⟨(by rw [ne 20 (by decide)]; exact c20), (by rw [ne 21 (by decide)]; exact c21), (by rw [ne 22 (by decide)]; exact c22), (by rw [ne 23 (by decide)]; exact c23), (by rw [ne 24 (by decide)]; exact c24), (by rw [ne 25 (by decide)]; exact c25), (by rw [ne 26 (by decide)]; exact c26)⟩, ⟨(by rw [ne 27 (by decide)]; exact c27), (by rw [ne 28 (by decide)]; exact c28), (by rw [ne 29 (by decide)]; exact c29), (by rw [ne 30 (by decide)]; exact c30), (by rw [ne 31 (by decide)]; exact c31), (by rw [ne 32 (by decide)]; exact c32), (by rw [ne 33 (by decide)]; exact c33), (by rw [ne 34 (by decide)]; exact c34)⟩, ⟨(by rw [ne 35 (by decide)]; exact c35), (by rw [ne 36 (by decide)]; exact c36), (by rw [ne 37 (by decide)]; exact c37), (by rw [ne 38 (by decide)]; exact c38), (by rw [ne 39 (by decide)]; exact c39), (by rw [ne 40 (by decide)]; exact c40), (by rw [ne 41 (by decide)]; exact c41), (by rw [ne 42 (by decide)]; exact c42), (by rw [ne 43 (by decide)]; exact c43), (by rw [ne 44 (by decide)]; exact c44), (by rw [ne 45 (by decide)]; exact c45), (by rw [ne 46 (by decide)]; exact c46)⟩⟩
theorem fits_v {o : Ob} (F : FitsO o) (t : Nat) : FitsO (setV o t) := ⟨F.name, F.w_lab_r, F.w_lab, F.w_sel_r, F.w_sel, F.w_tol_r, F.w_tol, F.p_own, F.p_node, F.p_lab_r, F.p_lab, F.p_sel_r, F.p_sel, F.p_tol_r, F.p_tol, F.n_grp, F.n_lab_r, F.n_lab, F.n_tnt_r, F.n_tnt, F.g_lab_r, F.g_lab, F.g_tnt_r, F.g_tnt, F.h_tg, F.h_met_r, F.h_met, F.h_upol_r, F.h_dpol_r, F.h_past_r⟩
theorem Kept.setV {base : Nat} {w : World} {cs : Array Value} {o : Ob} (h : Kept base w cs o) {v : Nat} (h64 : v < 18446744073709551616) : Kept base w (cs.setIfInBounds 2 (.int .u64 v)) (setV o v) := by
  refine ⟨fun w' hf => set_obj_v (h.held w' hf) h64, fun i n c hi hc => h.nil i n c hi ?_, h.small, fits_v h.fits v⟩
  rw [Array.getElem?_setIfInBounds_ne (by rintro rfl; revert hi; decide)] at hc
  exact hc
end Go.Proofs.YtbkoepghmcdnhaaGreatDoor
/- A map of objects, by kinds and names. -/
namespace Go.Proofs.YtbkoepghmcdnhaaGreatDoor
open Go.RowKit Go.Shelf Go.Lib Go.Sort
open Go.Maps (Keyed IsMap Tidy)
open Go.Joins (cell_of_block unfrozen_of_block block_setCell)
set_option linter.unusedVariables false
set_option linter.unusedSimpArgs false
set_option maxRecDepth 20000

abbrev KT : TypeId := 83
abbrev MT : TypeId := 69
abbrev OT : TypeId := 51
theorem laidOut : laidOutB Tryz.prog = true := by kernel_rfl
theorem lawK : Keyed Tryz.prog KT := Keyed.of_law (deep_law_laid laidOut (m := 2) (by omega) (of_decide_eq_true (by kernel_rfl)) (by kernel_rfl) (by kernel_rfl))
theorem mapT : Tryz.prog.underlying MT = some (.map KT OT) := Tryz.underlying69

def thing (k : Int) (nm : ByteArray) : Value := .agg #[.int .i64 k, .string nm]
def kl (k : Int) (nm : ByteArray) : Lit := .string (keyBytes [.int .i64 k, .string nm.data.toList])
theorem i64_wf {k : Int} (h : I64 k) : (Lit.int .i64 k).wf = true := by
  unfold I64 at h
  have e1 : IntKind.i64.min = -9223372036854775808 := rfl
  have e2 : IntKind.i64.max = 9223372036854775807 := rfl
  simp [Lit.wf, e1, e2]
  omega
theorem key_at {k : Int} {nm : ByteArray} (hk : I64 k) (hn : nm.size ≤ maxLen) : keyOf Tryz.prog KT (thing k nm) = some (kl k nm) := by
  have e1 : Tryz.prog.keyType KT = true := by kernel_rfl
  have e2 : (thing k nm).formed Tryz.prog KT = true := by
    simp [Value.formed, thing, Tryz.underlying83]
    kernel_rfl
  obtain ⟨fs, hfs⟩ : ∃ fs, Tryz.prog.underlying KT = some (.struct fs) := ⟨_, Tryz.underlying83⟩
  have e3 : Tryz.prog.keyLits (Tryz.prog.types.size + 1) KT [.int .i64 k, .string nm] = some [.int .i64 k, .string nm.data.toList] := by
    obtain ⟨m, hm⟩ : ∃ m, Tryz.prog.types.size = m + 1 := ⟨Tryz.prog.types.size - 1, by have : 0 < Tryz.prog.types.size := of_decide_eq_true (by kernel_rfl); omega⟩
    have c0 : Tryz.prog.cellsOf KT = 2 := by kernel_rfl
    have c1 : Tryz.prog.cellsOf 3 = 1 := by kernel_rfl
    have c2 : Tryz.prog.cellsOf 9 = 1 := by kernel_rfl
    rw [hm]
    simp [Program.keyLits, Tryz.underlying83, Tryz.underlying3, Tryz.underlying9, c0, c1, c2, i64_wf hk, hn]
  unfold keyOf
  rw [hfs]
  simp only
  rw [e1, e2]
  simp only [Bool.and_self, if_true]
  show Option.map _ (Tryz.prog.keyLits (Tryz.prog.types.size + 1) KT [.int .i64 k, .string nm]) = _
  rw [e3]
  rfl
theorem kl_inj {k k' : Int} {nm nm' : ByteArray} (hk : I64 k) (hn : nm.size ≤ maxLen) (hk' : I64 k') (hn' : nm'.size ≤ maxLen) (h : kl k nm = kl k' nm') : k = k' ∧ nm = nm' := by
  have := lawK.inj (key_at hk hn) (h ▸ key_at hk' hn')
  simp only [thing, Value.agg.injEq] at this
  have h2 := congrArg Array.toList this
  simp at h2
  exact h2

def hR (v : Value) : Option (DataW Value × List MemPlace) := some (.held v, [])

/-- By what an object is found. -/
abbrev Ky := Int × List UInt8
def Key (o : Ob) : Ky := (o.kind, by_ o.name)
def hit (k : Int) (nm : ByteArray) (o : Ob) : Bool := decide (Key o = (k, by_ nm))
theorem by_inj {a b : ByteArray} (h : by_ a = by_ b) : a = b := by
  have := congrArg mk h
  rwa [mk_by, mk_by] at this
theorem hit_iff {k : Int} {nm : ByteArray} {o : Ob} : hit k nm o = true ↔ o.kind = k ∧ o.name = nm := by
  unfold hit Key
  rw [decide_eq_true_eq, Prod.mk.injEq]
  exact ⟨fun h => ⟨h.1, by_inj h.2⟩, fun h => ⟨h.1, by rw [h.2]⟩⟩
theorem hit_self (o : Ob) : hit o.kind o.name o = true := hit_iff.2 ⟨rfl, rfl⟩

/-- What an object that is put in is. -/
structure OkK (o : Ob) : Prop where
  kd : I64 o.kind
  nm : o.name.size ≤ maxLen
  chk : chkE o = 0

/-- The block is a map of these objects. -/
structure MapIs (base : Nat) (w : World) (mb n : Nat) (D : DataW Value) (l : List Ob) : Prop where
  own : w.ownsMap Tryz.prog KT hR mb n D
  size : Maps.size D = l.length
  apart : l.Pairwise (fun a b => Key a ≠ Key b)
  ok : ∀ o ∈ l, OkK o
  has : ∀ k nm, I64 k → nm.size ≤ maxLen → Maps.has D (kl k nm) = l.any (hit k nm)
  ats : ∀ o ∈ l, ∃ cs, (∀ z, D.atKey (kl o.kind o.name) z = .held (.agg cs)) ∧ Kept base w cs o

theorem isKey (k : Int) (nm : ByteArray) : WideAt.IsKeyLit (kl k nm) := trivial

theorem MapIs.fx {base : Nat} {w w' : World} {mb n : Nat} {D : DataW Value} {l : List Ob} (h : MapIs base w mb n D l) (hb : w'.heap[mb]? = w.heap[mb]?) (hf : Fx base w w') : MapIs base w' mb n D l := by
  refine ⟨?_, h.size, h.apart, h.ok, h.has, fun o ho => ?_⟩
  · obtain ⟨es, c, h1, h2⟩ := h.own
    exact ⟨es, c, hb.trans h1, h2⟩
  · obtain ⟨cs, h1, h2⟩ := h.ats o ho
    exact ⟨cs, h1, h2.fx hf⟩
theorem MapIs.mono {base : Nat} {w : World} {mb n n' : Nat} {D : DataW Value} {l : List Ob} (h : MapIs base w mb n D l) (hn : n ≤ n') : MapIs base w mb n' D l := ⟨h.own.mono hn, h.size, h.apart, h.ok, h.has, h.ats⟩

/-- 'o, there := m[thing{k, nm}]'. -/
theorem MapIs.look {base : Nat} {w : World} {mb n : Nat} {D : DataW Value} {l : List Ob} (h : MapIs base w mb n D l) {k : Int} {nm : ByteArray} (hk : I64 k) (hn : nm.size ≤ maxLen) :
    (l.any (hit k nm) = false ∧ l.find? (hit k nm) = none ∧ ∀ ws : World, ws.heap[mb]? = w.heap[mb]? → (Instr.lookup MT (.map (some mb)) (thing k nm) true).run Tryz.prog ws = .ok (.tuple #[.agg zerC, .bool false]) ws) ∨
    ∃ o cs, l.any (hit k nm) = true ∧ l.find? (hit k nm) = some o ∧ Kept base w cs o ∧ ∀ ws : World, ws.heap[mb]? = w.heap[mb]? → (Instr.lookup MT (.map (some mb)) (thing k nm) true).run Tryz.prog ws = .ok (.tuple #[.agg cs, .bool true]) ws := by
  have hh := h.has k nm hk hn
  have go : ∀ ws : World, ws.heap[mb]? = w.heap[mb]? → ∃ v ps, (Instr.lookup MT (.map (some mb)) (thing k nm) true).run Tryz.prog ws = .ok (.tuple #[v, .bool (Maps.has D (kl k nm))]) ws ∧ hR v = some (D.atKey (kl k nm) (.held (.agg zerC)), ps) := fun ws e => by
    have hz : (zeroValue OT).run Tryz.prog ws = .ok (.agg zerC) ws := by kernel_rfl
    obtain ⟨es, c, h1, h2⟩ := h.own
    have own : ws.ownsMap Tryz.prog KT hR mb n D := ⟨es, c, e.trans h1, h2⟩
    exact own.look_ok lawK mapT hz (zd := .held (.agg zerC)) (zp := []) rfl (key_at hk hn)
  cases hf : l.find? (hit k nm) with
  | none =>
    have ha : l.any (hit k nm) = false := by
      rw [List.any_eq_false]
      exact fun x hx => by have := List.find?_eq_none.1 hf x hx; simpa using this
    rw [ha] at hh
    refine .inl ⟨ha, rfl, fun ws e => ?_⟩
    obtain ⟨v, ps, hrun, hv⟩ := go ws e
    rw [hh] at hrun
    rw [Maps.atKey_of_not_has hh] at hv
    simp only [hR, Option.some.injEq, Prod.mk.injEq, DataW.held.injEq] at hv
    rw [hv.1] at hrun
    exact hrun
  | some o =>
    have hm := List.mem_of_find?_eq_some hf
    have hp := List.find?_some hf
    have ha : l.any (hit k nm) = true := List.any_eq_true.2 ⟨o, hm, hp⟩
    rw [ha] at hh
    obtain ⟨h1, h2⟩ := hit_iff.1 hp
    obtain ⟨cs, hc, hk⟩ := h.ats o hm
    refine .inr ⟨o, cs, ha, rfl, hk, fun ws e => ?_⟩
    obtain ⟨v, ps, hrun, hv⟩ := go ws e
    rw [hh] at hrun
    rw [h1, h2] at hc
    rw [hc] at hv
    simp only [hR, Option.some.injEq, Prod.mk.injEq, DataW.held.injEq] at hv
    rw [hv.1] at hrun
    exact hrun

theorem turned_fx {base : Nat} {w w' : World} {mb : Nat} (h : w.mapTurned w' mb) (hb : base ≤ mb) : Fx base w w' := by
  obtain ⟨es, c, es', c', h1, rfl⟩ := h
  refine (Chg.ofGrown (S := [mb]) (World.mapTurned.grown ⟨es, c, es', c', h1, rfl⟩) (fun g e => .inl (by simp at e; simp [e]))).fx ?_
  intro g hg _ hp
  simp at hg
  subst hg
  rcases hp with hp | ⟨cs, T, fz, h2, _⟩
  · omega
  · rw [h1] at h2; cases h2

/-- Put in: in the place of the one that is there, or behind all. -/
def put (l : List Ob) (o : Ob) : List Ob := if l.any (hit o.kind o.name) then l.set (l.findIdx (hit o.kind o.name)) o else l ++ [o]
def del (l : List Ob) (k : Int) (nm : ByteArray) : List Ob := l.eraseIdx (l.findIdx (hit k nm))

theorem key_ne {a b : Ob} (ha : OkK a) (hb : OkK b) (h : Key a ≠ Key b) : kl a.kind a.name ≠ kl b.kind b.name := fun e => by
  obtain ⟨h1, h2⟩ := kl_inj ha.1 ha.2 hb.1 hb.2 e
  exact h (by unfold Key; rw [h1, h2])

/-- Of a row without two of one key the others are all at other keys. -/
theorem apart_other {l : List Ob} (hp : l.Pairwise (fun a b => Key a ≠ Key b)) {i j : Nat} {a b : Ob} (hi : l[i]? = some a) (hj : l[j]? = some b) (hne : i ≠ j) : Key a ≠ Key b := by
  obtain ⟨h1, e1⟩ := List.getElem?_eq_some_iff.1 hi
  obtain ⟨h2, e2⟩ := List.getElem?_eq_some_iff.1 hj
  have hq := List.pairwise_iff_getElem.1 hp
  rcases Nat.lt_or_gt_of_ne hne with h | h
  · have := hq i j h1 h2 h
    rw [e1, e2] at this
    exact this
  · have := hq j i h2 h1 h
    rw [e1, e2] at this
    exact fun e => this e.symm
theorem find_idx {l : List Ob} {k : Int} {nm : ByteArray} (h : l.any (hit k nm) = true) : ∃ o, l[l.findIdx (hit k nm)]? = some o ∧ hit k nm o = true ∧ l.findIdx (hit k nm) < l.length := by
  obtain ⟨x, hx, hp⟩ := List.any_eq_true.1 h
  have hl : l.findIdx (hit k nm) < l.length := List.findIdx_lt_length_of_exists ⟨x, hx, hp⟩
  exact ⟨_, List.getElem?_eq_getElem hl, List.findIdx_getElem, hl⟩

theorem put_mem {l : List Ob} {o x : Ob} (hx : x ∈ put l o) : x = o ∨ (x ∈ l ∧ (l.Pairwise (fun a b => Key a ≠ Key b) → Key x ≠ Key o)) := by
  unfold put at hx
  split at hx
  · rename_i h
    obtain ⟨o', h1, h2, h3⟩ := find_idx h
    obtain ⟨i, hi⟩ := List.getElem?_of_mem hx
    rw [List.getElem?_set] at hi
    split at hi
    · cases hi
      exact .inl rfl
    · rename_i hne
      refine .inr ⟨List.mem_of_getElem? hi, fun hp e => apart_other hp hi h1 (fun e => hne e.symm) ?_⟩
      obtain ⟨a1, a2⟩ := hit_iff.1 h2
      rw [e]
      unfold Key
      rw [a1, a2]
  · rename_i h
    rcases List.mem_append.1 hx with hx | hx
    · refine .inr ⟨hx, fun _ e => h (List.any_eq_true.2 ⟨x, hx, ?_⟩)⟩
      unfold Key at e
      rw [Prod.mk.injEq] at e
      exact hit_iff.2 ⟨e.1, by_inj e.2⟩
    · simp at hx
      exact .inl hx
theorem put_self (l : List Ob) (o : Ob) : o ∈ put l o := by
  unfold put
  split
  · rename_i h
    obtain ⟨o', h1, h2, h3⟩ := find_idx h
    exact List.mem_iff_getElem?.2 ⟨_, by rw [List.getElem?_set_self h3]⟩
  · simp
theorem put_keeps {l : List Ob} {o x : Ob} (hx : x ∈ l) (hk : Key x ≠ Key o) : x ∈ put l o := by
  unfold put
  split
  · rename_i h
    obtain ⟨o', h1, h2, h3⟩ := find_idx h
    obtain ⟨i, hi⟩ := List.getElem?_of_mem hx
    refine List.mem_iff_getElem?.2 ⟨i, ?_⟩
    rw [List.getElem?_set]
    split
    · rename_i e
      rw [e, hi] at h1
      cases h1
      obtain ⟨a1, a2⟩ := hit_iff.1 h2
      exact absurd (by unfold Key; rw [a1, a2]) hk
    · exact hi
  · exact List.mem_append_left _ hx
theorem put_apart {l : List Ob} (hp : l.Pairwise (fun a b => Key a ≠ Key b)) (o : Ob) : (put l o).Pairwise (fun a b => Key a ≠ Key b) := by
  by_cases h : l.any (hit o.kind o.name) = true
  · have e : put l o = l.set (l.findIdx (hit o.kind o.name)) o := if_pos h
    obtain ⟨o', h1, h2, h3⟩ := find_idx h
    obtain ⟨a1, a2⟩ := hit_iff.1 h2
    have hk : Key o' = Key o := by unfold Key; rw [a1, a2]
    rw [e, List.pairwise_iff_getElem]
    intro i j hi hj hij
    rw [List.length_set] at hi hj
    rw [List.getElem_set, List.getElem_set]
    obtain ⟨h4, h5⟩ := List.getElem?_eq_some_iff.1 h1
    have q := List.pairwise_iff_getElem.1 hp i j hi hj hij
    split
    · rename_i e1
      split
      · omega
      · rw [← hk, ← h5]
        subst e1
        exact q
    · split
      · rename_i e1
        rw [← hk, ← h5]
        subst e1
        exact q
      · exact q
  · have e : put l o = l ++ [o] := if_neg h
    rw [e, List.pairwise_append]
    refine ⟨hp, by simp, fun a ha b hb => ?_⟩
    simp at hb
    subst hb
    intro e
    unfold Key at e
    rw [Prod.mk.injEq] at e
    exact h (List.any_eq_true.2 ⟨a, ha, hit_iff.2 ⟨e.1, by_inj e.2⟩⟩)
theorem put_len (l : List Ob) (o : Ob) : (put l o).length = if l.any (hit o.kind o.name) then l.length else l.length + 1 := by
  unfold put
  split <;> simp

/-- 'm[key(o)] = o'. -/
theorem MapIs.put {base : Nat} {w : World} {mb n : Nat} {D : DataW Value} {l : List Ob} (h : MapIs base w mb n D l) (hmb : base ≤ mb) (hn : n < maxLen) {o : Ob} {cs : Array Value} (hc : Kept base w cs o) (ho : OkK o) :
    ∃ w', (Instr.mapUpdate MT (.map (some mb)) (thing o.kind o.name) (.agg cs)).run Tryz.prog w = .ok () w' ∧ MapIs base w' mb (n + 1) (D.put (kl o.kind o.name) (.held (.agg cs))) (put l o) ∧ w.mapTurned w' mb := by
  obtain ⟨w', h1, h2, h3⟩ := h.own.store lawK mapT hn (key_at ho.1 ho.2) (val := .agg cs) (d := .held (.agg cs)) (ps := []) rfl
  have hf := turned_fx h3 hmb
  have ht := h.own.tidy lawK
  have hm := ht.isMap
  refine ⟨w', h1, ⟨h2, ?_, put_apart h.apart o, ?_, ?_, ?_⟩, h3⟩
  · rw [Maps.size_put ht, put_len, h.size, h.has _ _ ho.1 ho.2]
  · intro x hx
    rcases put_mem hx with rfl | ⟨hx, _⟩
    · exact ho
    · exact h.ok x hx
  · intro k nm hk hnm
    by_cases e : kl k nm = kl o.kind o.name
    · obtain ⟨e1, e2⟩ := kl_inj hk hnm ho.1 ho.2 e
      subst e1 e2
      rw [Maps.has_put_same hm (isKey _ _)]
      exact (List.any_eq_true.2 ⟨o, put_self l o, hit_self o⟩).symm
    · rw [Maps.has_put_other e, h.has k nm hk hnm, Bool.eq_iff_iff, List.any_eq_true, List.any_eq_true]
      constructor
      · rintro ⟨x, hx, hp⟩
        refine ⟨x, put_keeps hx (fun e2 => e ?_), hp⟩
        obtain ⟨a1, a2⟩ := hit_iff.1 hp
        unfold Key at e2
        rw [Prod.mk.injEq] at e2
        rw [← a1, ← a2, e2.1, by_inj e2.2]
      · rintro ⟨x, hx, hp⟩
        rcases put_mem hx with rfl | ⟨hx, _⟩
        · obtain ⟨a1, a2⟩ := hit_iff.1 hp
          exact absurd (by rw [a1, a2]) e
        · exact ⟨x, hx, hp⟩
  · intro x hx
    rcases put_mem hx with rfl | ⟨hx, hne⟩
    · exact ⟨cs, fun z => Maps.atKey_put_same hm (isKey _ _) _ z, hc.fx hf⟩
    · obtain ⟨ds, g1, g2⟩ := h.ats x hx
      exact ⟨ds, fun z => by rw [Maps.atKey_put_other (key_ne (h.ok x hx) ho (hne h.apart))]; exact g1 z, g2.fx hf⟩

theorem del_mem {l : List Ob} {k : Int} {nm : ByteArray} (hp : l.Pairwise (fun a b => Key a ≠ Key b)) {x : Ob} : x ∈ del l k nm ↔ x ∈ l ∧ hit k nm x = false := by
  unfold del
  rw [List.mem_eraseIdx_iff_getElem?]
  constructor
  · rintro ⟨i, hne, hi⟩
    refine ⟨List.mem_of_getElem? hi, ?_⟩
    cases e : hit k nm x with
    | false => rfl
    | true =>
      obtain ⟨o, h1, h2, h3⟩ := find_idx (List.any_eq_true.2 ⟨x, List.mem_of_getElem? hi, e⟩)
      refine absurd ?_ (apart_other hp hi h1 hne)
      obtain ⟨a1, a2⟩ := hit_iff.1 h2
      obtain ⟨b1, b2⟩ := hit_iff.1 e
      unfold Key
      rw [a1, a2, b1, b2]
  · rintro ⟨hx, hf⟩
    obtain ⟨i, hi⟩ := List.getElem?_of_mem hx
    refine ⟨i, fun e => ?_, hi⟩
    obtain ⟨hl, e2⟩ := List.getElem?_eq_some_iff.1 hi
    have := @List.findIdx_getElem _ (hit k nm) l (by rw [← e]; exact hl)
    subst e
    rw [e2, hf] at this
    cases this
theorem del_len {l : List Ob} {k : Int} {nm : ByteArray} : (del l k nm).length + (if l.any (hit k nm) then 1 else 0) = l.length := by
  unfold del
  split
  · rename_i h
    obtain ⟨o, h1, h2, h3⟩ := find_idx h
    rw [List.length_eraseIdx_of_lt h3]
    omega
  · rename_i h
    rw [List.eraseIdx_of_length_le]
    · omega
    · have : ∀ x ∈ l, hit k nm x = false := by
        have := Bool.not_eq_true _ ▸ h
        rw [List.any_eq_false] at this
        exact fun x hx => by simpa using this x hx
      rw [List.findIdx_eq_length_of_false this]
      exact Nat.le_refl _
/-- 'delete(m, thing{k, nm})'. -/
theorem MapIs.del {base : Nat} {w : World} {mb n : Nat} {D : DataW Value} {l : List Ob} (h : MapIs base w mb n D l) (hmb : base ≤ mb) {k : Int} {nm : ByteArray} (hk : I64 k) (hnm : nm.size ≤ maxLen) (ty : TypeId) :
    ∃ w', (Builtin.delete_ #[MT, KT] ty #[.map (some mb), thing k nm]).run Tryz.prog w = .ok (.tuple #[]) w' ∧ MapIs base w' mb n (D.del (kl k nm)) (del l k nm) ∧ w.mapTurned w' mb := by
  obtain ⟨w', h1, h2, h3⟩ := h.own.drop lawK mapT (key_at hk hnm) ty
  have hf := turned_fx h3 hmb
  have ht := h.own.tidy lawK
  refine ⟨w', h1, ⟨h2, ?_, ?_, fun x hx => h.ok x ((del_mem h.apart).1 hx).1, ?_, ?_⟩, h3⟩
  · have a := Maps.size_del (k := kl k nm) ht
    have b := del_len (l := l) (k := k) (nm := nm)
    rw [h.has k nm hk hnm, h.size] at a
    omega
  · exact h.apart.sublist (List.eraseIdx_sublist _ _)
  · intro k' nm' hk' hnm'
    by_cases e : kl k' nm' = kl k nm
    · obtain ⟨e1, e2⟩ := kl_inj hk' hnm' hk hnm e
      subst e1 e2
      rw [Maps.has_del_same]
      symm
      rw [List.any_eq_false]
      intro x hx
      have := ((del_mem h.apart).1 hx).2
      simpa using this
    · rw [Maps.has_del_other e, h.has k' nm' hk' hnm', Bool.eq_iff_iff, List.any_eq_true, List.any_eq_true]
      constructor
      · rintro ⟨x, hx, hp⟩
        refine ⟨x, (del_mem h.apart).2 ⟨hx, ?_⟩, hp⟩
        cases e2 : hit k nm x with
        | false => rfl
        | true =>
          obtain ⟨a1, a2⟩ := hit_iff.1 hp
          obtain ⟨b1, b2⟩ := hit_iff.1 e2
          exact absurd (by rw [← a1, ← a2, b1, b2]) e
      · rintro ⟨x, hx, hp⟩
        exact ⟨x, ((del_mem h.apart).1 hx).1, hp⟩
  · intro x hx
    obtain ⟨hx1, hx2⟩ := (del_mem h.apart).1 hx
    obtain ⟨cs, g1, g2⟩ := h.ats x hx1
    refine ⟨cs, fun z => ?_, g2.fx hf⟩
    rw [Maps.atKey_del_other (fun e => ?_)]
    · exact g1 z
    · obtain ⟨e1, e2⟩ := kl_inj (h.ok x hx1).1 (h.ok x hx1).2 hk hnm e
      rw [hit_iff.2 ⟨e1, e2⟩] at hx2
      cases hx2
theorem MapIs.made (base : Nat) (w : World) : MapIs base (w.alloc (.map #[] 0)) w.heap.size 0 (.map []) [] :=
  ⟨World.ownsMap_made w _ _ _, rfl, List.Pairwise.nil, by simp, fun _ _ _ _ => rfl, by simp⟩
end Go.Proofs.YtbkoepghmcdnhaaGreatDoor
/- Operations of a region that draws its order, by laws. -/
namespace Go.Proofs.YtbkoepghmcdnhaaGreatDoor
open Go.RowKit Go.Shelf Go.Lib Go.Sort
open Go.Joins (cell_of_block unfrozen_of_block block_setCell)
set_option linter.unusedVariables false
set_option linter.unusedSimpArgs false

section
variable {P : Program} {ops : Array Oper} {Q : Exit → Act → World → Prop} {w : World} {o : Oper} {a : Act} {K : Act → World → Prop}

/-- A call of a builtin that is known to run. -/
theorem step_run {t : Array Bool} {v : Value} {w' : World} (hw : Region.wanted o (yielded ops a.tmps) = true) (hr : (execOp a.eval o).run P w = .ok (.value v) w') (k : K (a.put o.dst v) w') :
    if Region.wanted o (yielded ops a.tmps) = true then Oper.wp P o a w K Q else K (a.put o.dst undef) w := by
  rw [if_pos hw]
  unfold Oper.wp
  rw [hr]
  exact k
theorem step_append (hw : Region.wanted o (yielded ops a.tmps) = true) (s x : Operand) (t : TypeId) (ho : o.op = .call { callee := .builtin .append, args := #[s, x], argTypes := #[t, t] })
    (base : Nat) (e : TypeId) (z : Value) (size bytes : Nat) (ht : P.underlying t = some (.slice e)) (hinfo : (P.info? e).map (fun i => (i.zero, i.size, i.bytes)) = some (some z, size, bytes)) (hzs : z.cells.size = size) (hsz : 0 < size)
    (v : Value) (n : Nat) (xs : List Value) (hs : a.eval s = v) (hown : w.ownsRow base e size v n xs)
    (ad : Addr) (m c : Nat) (news : List Value) (hx : a.eval x = .slice (some ad) m c) (hl : news.length = m * size) (hnews : ∀ j u, news[j]? = some u → w.cell? (ad.add j) = some u) (h1 : ∀ u ∈ news, u.oneCell' = true)
    (h63 : n + m ≤ maxLen) (hbytes : (n + m) * bytes ≤ 140737488355328) (hbase : base ≤ w.heap.size)
    (h : ∀ v' w', w'.ownsRow base e size v' (n + m) (xs ++ news) → w.grownBy w' v.ownBlock → (v'.ownBlock = v.ownBlock ∨ v'.ownBlock = some w.heap.size) → K (a.put o.dst v') w') :
    if Region.wanted o (yielded ops a.tmps) = true then Oper.wp P o a w K Q else K (a.put o.dst undef) w := by
  rw [if_pos hw]
  cases hi : P.info? e with
  | none => rw [hi] at hinfo; cases hinfo
  | some i =>
    rw [hi] at hinfo
    simp only [Option.map_some, Option.some.injEq, Prod.mk.injEq] at hinfo
    obtain ⟨hz, hsize, hby⟩ := hinfo
    obtain ⟨v', w', hr, h2, h3, h4, h5⟩ := run_append_own_at (P := P) w base t o.type e i z size bytes ht hi hz hsize hby hzs hsz v n xs hown ad m c news hl hnews h1 h63 hbytes hbase
    unfold Oper.wp execOp
    simp only [ho, resolve, invoke, builtin, Sem.run_bind, Sem.run_pure, Result.andThen_ok, List.map_toArray, List.map_cons, List.map_nil, hs, hx, hr]
    exact h v' w' h2 h3 h5
theorem step_mapUpdate (hw : Region.wanted o (yielded ops a.tmps) = true) (m x v : Operand) (t : TypeId) (ho : o.op = Op.mapUpdate t m x v) {mv key val : Value} (hm : a.eval m = mv) (hx : a.eval x = key) (hv : a.eval v = val) {w' : World}
    (hr : (Instr.mapUpdate t mv key val).run P w = .ok () w') (k : K (a.put o.dst undef) w') :
    if Region.wanted o (yielded ops a.tmps) = true then Oper.wp P o a w K Q else K (a.put o.dst undef) w := by
  rw [if_pos hw]
  unfold Oper.wp
  simp [execOp, ho, hm, hx, hv, hr, Result.andThen]
  exact k
theorem step_delete (hw : Region.wanted o (yielded ops a.tmps) = true) (m x : Operand) (t k' : TypeId) (ho : o.op = Op.call { callee := Callee.builtin Builtin.delete, args := #[m, x], argTypes := #[t, k'] }) {mv key : Value} (hm : a.eval m = mv) (hx : a.eval x = key) {w' : World}
    (hr : (Builtin.delete_ #[t, k'] o.type #[mv, key]).run P w = .ok (.tuple #[]) w') (k : K (a.put o.dst (.tuple #[])) w') :
    if Region.wanted o (yielded ops a.tmps) = true then Oper.wp P o a w K Q else K (a.put o.dst undef) w := by
  rw [if_pos hw]
  unfold Oper.wp
  simp [execOp, ho, resolve, invoke, builtin, hm, hx, hr, Result.andThen]
  exact k
end
end Go.Proofs.YtbkoepghmcdnhaaGreatDoor
/- Keys; the event of a change. -/
namespace Go.Proofs.YtbkoepghmcdnhaaGreatDoor
open Go.RowKit Go.Shelf Go.Lib Go.Sort
open Go.Joins (cell_of_block unfrozen_of_block block_setCell)
set_option linter.unusedVariables false
set_option linter.unusedSimpArgs false
set_option maxRecDepth 20000

set_option maxHeartbeats 4000000 in
theorem key_any (w : World) (cs : Array Value) (k : Int) (nm : ByteArray) (h0 : cs[0]? = some (.int .i64 k)) (h1 : cs[1]? = some (.string nm)) :
    Calls Tryz.prog 25 #[.agg cs] w fun e w' => e = .returned (thing k nm) ∧ Gr w w' := by
  have G := Lib.hid (Gr.refl w)
  go_enter Tryz.func25, Tryz.ntmps25
  go_wp2
  refine bodyPost_ret (results_cell_row rfl _ _ (w.heap.size + 1) 83 #[.int .i64 k, .string nm] (0, 0) _ (by rfl) (by simpa using heap_alloc_new (w.alloc (.cells cs 51)) (.cells #[.int .i64 k, .string nm] 83)) Tryz.underlying83 rfl (by kernel_rfl)) rfl ?_
  exact ⟨rfl, (G.out.alloc _).alloc _⟩

structure Ev where
  (what kind : Int)
  (name : ByteArray)
  (ver : Nat)
def encE (e : Ev) : List Value := [.int .i64 e.what, .int .i64 e.kind, .string e.name, .int .u64 (e.ver : Int)]
theorem lenE (e : Ev) : (encE e).length = 4 := rfl
theorem oneE (e : Ev) : ∀ u ∈ encE e, u.oneCell' = true := by intro u hu; simp [encE] at hu; rcases hu with rfl | rfl | rfl | rfl <;> rfl
abbrev ET : TypeId := 113
abbrev SlE : TypeId := 53
abbrev ST : TypeId := 71

/-- Of what came the last are kept, each at its place. -/
def Ring (hist kept : List Ev) : Prop := kept.length = min hist.length 1024 ∧ ∀ v, v < hist.length → hist.length ≤ v + 1024 → kept[v % 1024]? = hist[v]?
theorem ring_nil : Ring [] [] := ⟨rfl, by simp⟩
theorem ring_app {hist kept : List Ev} (h : Ring hist kept) (hl : kept.length < 1024) (e : Ev) : Ring (hist ++ [e]) (kept ++ [e]) := by
  obtain ⟨h1, h2⟩ := h
  have hh : hist.length = kept.length := by omega
  refine ⟨by simp; omega, fun v hv hv2 => ?_⟩
  rw [List.length_append, List.length_singleton] at hv hv2
  rw [Nat.mod_eq_of_lt (by omega)]
  by_cases e1 : v = hist.length
  · rw [e1, List.getElem?_append_right (by omega), List.getElem?_append_right (by omega), hh]
  · rw [List.getElem?_append_left (by omega), List.getElem?_append_left (by omega)]
    have := h2 v (by omega) (by omega)
    rwa [Nat.mod_eq_of_lt (by omega)] at this
theorem ring_set {hist kept : List Ev} (h : Ring hist kept) (hl : kept.length = 1024) (e : Ev) : Ring (hist ++ [e]) (kept.set (hist.length % 1024) e) := by
  obtain ⟨h1, h2⟩ := h
  refine ⟨by simp; omega, fun v hv hv2 => ?_⟩
  rw [List.length_append, List.length_singleton] at hv hv2
  by_cases e1 : v = hist.length
  · rw [e1, List.getElem?_set_self (by omega), List.getElem?_append_right (by omega), Nat.sub_self]
    rfl
  · rw [List.getElem?_set_ne (by omega), List.getElem?_append_left (by omega)]
    exact h2 v (by omega) (by omega)

end Go.Proofs.YtbkoepghmcdnhaaGreatDoor
/- The event of a change is kept. -/
namespace Go.Proofs.YtbkoepghmcdnhaaGreatDoor
open Go.RowKit Go.Shelf Go.Lib Go.Sort
open Go.Joins (cell_of_block unfrozen_of_block block_setCell)
set_option linter.unusedVariables false
set_option linter.unusedSimpArgs false
set_option maxRecDepth 20000

/-- A store's own cells. -/
def stC (most : Int) (now : Nat) (mb : Nat) (ev : Value) : Array Value := #[.int .i64 most, .int .u64 (now : Int), .map (some mb), ev]
theorem own_slice {w : World} {N : Nat} {E : TypeId} {k n : Nat} {v : Value} {xs : List Value} (h : w.ownsRow N E k v n xs) : ∃ q c, v = .slice q n c := by
  rcases h.2 with ⟨rfl, rfl⟩ | ⟨g, cap, cur, rfl, _⟩
  · exact ⟨_, _, rfl⟩
  · exact ⟨_, _, rfl⟩
theorem own_ne {w : World} {N : Nat} {E T : TypeId} {k n sp : Nat} {v : Value} {xs : List Value} {cs : Array Value} {fz : Nat × Nat} (h : w.ownsRow N E k v n xs) (hs : w.heap[sp]? = some (.cells cs T fz)) (hne : T ≠ E) : v.ownBlock ≠ some sp := by
  rcases h.2 with ⟨rfl, rfl⟩ | ⟨g, cap, cur, rfl, _, hg, _⟩
  · intro e; cases e
  · intro e
    simp [Value.ownBlock] at e
    subst e
    rw [hs] at hg
    simp only [Option.some.injEq, Obj.cells.injEq] at hg
    exact hne hg.2.1

theorem setAt_out : ∀ (vs : List Value) (L : Array Value) (i j : Nat), (j < i ∨ i + vs.length ≤ j) → (setAt L i vs)[j]? = L[j]?
  | [], L, i, j, h => rfl
  | v :: r, L, i, j, h => by
    simp only [List.length_cons] at h
    rw [setAt, setAt_out r _ (i + 1) j (by omega), Array.getElem?_setIfInBounds_ne (by omega)]
/-- One thing of a row of the call's own is written anew. -/
theorem own_set {α : Type} {enc : α → List Value} {k base : Nat} {E : TypeId} (hk : ∀ x, (enc x).length = k) {w : World} {v : Value} {l : List α} (h : w.ownsRow base E k v l.length (flat enc l)) {p : Nat} (hp : p < l.length) (x : α) :
    ∃ g c, v = .slice (some ⟨g, 0, none⟩) l.length c ∧ base ≤ g ∧ g < w.heap.size ∧ (w.setCells g (p * k) (enc x)).ownsRow base E k v l.length (flat enc (l.set p x)) ∧ w.there g (p * k) k := by
  obtain ⟨h0, h⟩ := h
  rcases h with ⟨_, h⟩ | ⟨g, cap, cur, rfl, hb, hg, hn, hm, hc, ht⟩
  · omega
  · have hpk : p * k + k ≤ l.length * k := by rw [← Nat.succ_mul]; exact Nat.mul_le_mul_right _ hp
    have hlk : l.length * k ≤ cap * k := Nat.mul_le_mul_right _ hn
    refine ⟨g, cap, rfl, hb, (Array.getElem?_eq_some_iff.1 hg).1, ⟨by rw [flat_length hk, List.length_set], .inr ⟨g, cap, setAt cur (p * k) (enc x), rfl, hb, setCells_block _ _ _ _ _ _ _ hg, hn, hm, by rw [setAt_size, hc], ?_⟩⟩, fun t htk => ⟨?_, unfrozen_of_block hg _⟩⟩
    · apply List.ext_getElem?
      intro j
      rw [List.getElem?_take]
      split
      · rename_i hj
        rw [Array.getElem?_toList]
        have hk0 : 0 < k := by
          rcases Nat.eq_zero_or_pos k with e | e
          · subst e; omega
          · exact e
        have hi : j / k < l.length := Nat.div_lt_of_lt_mul (by rw [Nat.mul_comm]; exact hj)
        have hr : j % k < k := Nat.mod_lt _ hk0
        have ej : j = j / k * k + j % k := by rw [Nat.mul_comm]; exact (Nat.div_add_mod j k).symm
        by_cases e : j / k = p
        · rw [e] at ej
          have := flat_at hk (l.set p x) p (j % k) x (List.getElem?_set_self hp) hr
          rw [ej, this, setAt_get _ _ _ _ (by rw [hk]; exact hr) (by rw [hk]; omega)]
        · have hjj : j < p * k ∨ p * k + k ≤ j := by
            rcases Nat.lt_or_gt_of_ne e with e1 | e1
            · left
              have : (j / k + 1) * k ≤ p * k := Nat.mul_le_mul_right _ e1
              rw [Nat.add_mul] at this
              omega
            · right
              have : (p + 1) * k ≤ j / k * k := Nat.mul_le_mul_right _ e1
              rw [Nat.add_mul] at this
              omega
          rw [setAt_out _ _ _ _ (by rw [hk]; exact hjj)]
          have a1 := flat_at hk l (j / k) (j % k) _ (List.getElem?_eq_getElem hi) hr
          have a2 := flat_at hk (l.set p x) (j / k) (j % k) l[j / k] (by rw [List.getElem?_set_ne (fun e2 => e e2.symm)]; exact List.getElem?_eq_getElem hi) hr
          rw [← ej] at a1 a2
          rw [a2, ← a1, ← ht, List.getElem?_take, if_pos hj, Array.getElem?_toList]
      · rename_i hj
        rw [List.getElem?_eq_none]
        rw [flat_length hk, List.length_set]
        omega
    · rw [cell_of_block hg]
      rw [Array.getElem?_eq_getElem (by omega)]
      rfl

theorem noted {base : Nat} {w wa w4 : World} {sp g cap mb now : Nat} {most : Int} {ev : Value} {kept : List Ev} {e : Ev} (ha : Chg [sp] w wa) (h4 : w4.heap[sp]? = some (.cells (stC most (now + 1) mb ev) ST (0, 0)))
    (ho : w4.ownsRow base ET 4 (.slice (some ⟨g, 0, none⟩) (kept.length + 1) cap) (kept.length + 1) (flat encE kept ++ encE e)) (hg : wa.grownBy w4 ev.ownBlock) (hat : ev.ownBlock = some g ∨ g = wa.heap.size) :
    (∃ ev', (w4.setCell ⟨sp, 3, none⟩ (.slice (some ⟨g, 0, none⟩) (kept.length + 1) cap)).heap[sp]? = some (.cells (stC most (now + 1) mb ev') ST (0, 0)) ∧
      (w4.setCell ⟨sp, 3, none⟩ (.slice (some ⟨g, 0, none⟩) (kept.length + 1) cap)).ownsRow base ET 4 ev' (kept.length + 1) (flat encE (kept ++ [e])) ∧ (ev'.ownBlock = ev.ownBlock ∨ ∃ g, ev'.ownBlock = some g ∧ w.heap.size ≤ g)) ∧
      Chg (sp :: ev.ownBlock.toList) w (w4.setCell ⟨sp, 3, none⟩ (.slice (some ⟨g, 0, none⟩) (kept.length + 1) cap)) := by
  have hne := own_ne ho h4 (by decide)
  refine ⟨⟨_, by rw [block_setCell h4]; rfl, ?_, ?_⟩, ?_⟩
  · have := ownsRow_setCell_other ho (a := ⟨sp, 3, none⟩) hne (.slice (some ⟨g, 0, none⟩) (kept.length + 1) cap)
    simpa [flat] using this
  · rcases hat with h | h
    · exact .inl h.symm
    · exact .inr ⟨g, rfl, h ▸ ha.size⟩
  · refine Chg.setCell ?_ 3 _ (.inl (by simp))
    exact Chg.trans (ha.less (S' := sp :: ev.ownBlock.toList) (fun g hg => .inl (by simp at hg; simp [hg]))) (Chg.ofGrown (S := ev.ownBlock.toList) hg (fun g e => .inl (by rw [e]; simp))) (fun g hg => .inl (List.mem_cons_of_mem _ hg))

set_option maxHeartbeats 4000000 in
theorem note_a (base : Nat) (w : World) (sp mb now : Nat) (most what k : Int) (nm : ByteArray) (ev : Value) (kept : List Ev) (hb : base ≤ w.heap.size) (hs : w.heap[sp]? = some (.cells (stC most now mb ev) ST (0, 0)))
    (ho : w.ownsRow base ET 4 ev kept.length (flat encE kept)) (hn : now < 4611686018427387904) (hl : kept.length < 1024) :
    Calls Tryz.prog 40 #[.pointer (some ⟨sp, 0, none⟩), .int .i64 what, thing k nm] w fun e w' => e = .returned (.int .u64 ((now + 1 : Nat) : Int)) ∧ (∃ ev', w'.heap[sp]? = some (.cells (stC most (now + 1) mb ev') ST (0, 0)) ∧
      w'.ownsRow base ET 4 ev' (kept.length + 1) (flat encE (kept ++ [⟨what, k, nm, now + 1⟩])) ∧ (ev'.ownBlock = ev.ownBlock ∨ ∃ g, ev'.ownBlock = some g ∧ w.heap.size ≤ g)) ∧ Chg (sp :: ev.ownBlock.toList) w w' := by
  have mixed : Tryz.prog.follows .mixedOrders = true := by kernel_rfl
  have c1 : w.cell? ⟨sp, 1, none⟩ = some (.int .u64 (now : Int)) := cell_of_block hs 1
  have f1 : w.frozen? ⟨sp, 1, none⟩ = false := unfrozen_of_block hs 1
  have lt : sp < w.heap.size := (Array.getElem?_eq_some_iff.1 hs).1
  have HS := Lib.hid (And.intro hs ho)
  have HL := Lib.hid hl
  clear hs ho hl
  obtain ⟨B, hB⟩ : ∃ B, B = w.heap.size := ⟨_, rfl⟩
  obtain ⟨w1, hw1⟩ : ∃ W, W = (w.setCell ⟨sp, 1, none⟩ (.int .u64 ((now : Int) + 1))).alloc (.cells #[.int .i64 k, .string nm] KT) := ⟨_, rfl⟩
  have h1 : w1.heap[sp]? = some (.cells (stC most (now + 1) mb ev) ST (0, 0)) := by
    rw [hw1, (Gr.alloc (Gr.refl (w.setCell ⟨sp, 1, none⟩ (.int .u64 ((now : Int) + 1)))) _).heap (by simpa [World.setCell] using lt), block_setCell HS.out.1]
    rfl
  have hz : (w.setCell ⟨sp, 1, none⟩ (.int .u64 ((now : Int) + 1))).heap.size = w.heap.size := by simp [World.setCell]
  have h2 : w1.heap[B]? = some (.cells #[.int .i64 k, .string nm] KT (0, 0)) := by
    rw [hw1, hB, ← hz]
    exact heap_alloc_new _ _
  have g1 : Chg [sp] w w1 := by
    rw [hw1]
    exact ((Chg.refl [sp] w).setCell 1 _ (.inl (by simp))).trans (Chg.ofGr ((Gr.refl _).alloc _) []) (by simp)
  have s1 : w1.heap.size = w.heap.size + 1 := by rw [hw1]; simp [World.setCell]
  have b0 : w1.cell? ⟨B, 0, none⟩ = some (.int .i64 k) := cell_of_block h2 0
  have b1 : w1.cell? ⟨B, 1, none⟩ = some (.string nm) := cell_of_block h2 1
  have b2 : w1.cell? ⟨sp, 1, none⟩ = some (.int .u64 ((now : Int) + 1)) := cell_of_block h1 1
  have ne := own_ne HS.out.2 HS.out.1 (by decide)
  have o1 : w1.ownsRow base ET 4 ev kept.length (flat encE kept) := by
    rw [hw1]
    exact (ownsRow_setCell_other HS.out.2 ne _).alloc _
  have HW := Lib.hid (And.intro hw1 (And.intro h1 (And.intro g1 (And.intro s1 (And.intro ne (And.intro o1 hB))))))
  clear h1 h2 g1 s1 ne o1
  unfold thing
  go_enter Tryz.func40, Tryz.ntmps40
  go_upto_region 3 with fail
  rw [← hw1, ← hB]
  clear hw1 hB c1 f1 hz lt
  go_cut [8] from 21 to 30 (fun e wc => ∃ E, e = .pointer (some ⟨E, 0, none⟩) ∧ Hid (w1.heap.size ≤ E ∧ wc.heap[E]? = some (.cells (encE ⟨what, k, nm, now + 1⟩).toArray ET (0, 0)) ∧ Below w1.heap.size w1 wc))
  case first =>
    go_region_held (fun W => W.cell? ⟨B, 0, none⟩ = some (.int .i64 k) ∧ W.cell? ⟨B, 1, none⟩ = some (.string nm) ∧ W.cell? ⟨sp, 1, none⟩ = some (.int .u64 ((now : Int) + 1))) (go_keep) (fail)
    go_wp2
    go_meet
    case rel =>
      refine ⟨w1.heap.size, rfl, Nat.le_refl _, ?_, (((Gr.refl w1).drewN 1).alloc _).below⟩
      have := heap_alloc_new w1.drew (.cells (encE ⟨what, k, nm, now + 1⟩).toArray ET)
      exact this
  case rest =>
    obtain ⟨E, rfl, HE⟩ := hcut
    obtain ⟨e0, e1, e2⟩ := HE.out
    obtain ⟨hw1, h1, g1, s1, ne, o1, hB⟩ := HW.out
    have hc1 : wc.heap[sp]? = some (.cells (stC most (now + 1) mb ev) ST (0, 0)) := (e2.block sp (Array.getElem?_eq_some_iff.1 h1).1).trans h1
    have oc : wc.ownsRow base ET 4 ev kept.length (flat encE kept) := by
      obtain ⟨o0, ox⟩ := o1
      refine ⟨o0, ?_⟩
      rcases ox with h | ⟨g, cap, cur, q1, q2, q3, r⟩
      · exact .inl h
      · exact .inr ⟨g, cap, cur, q1, q2, (e2.block g (Array.getElem?_eq_some_iff.1 q3).1).trans q3, r⟩
    obtain ⟨q, c, hev⟩ := own_slice oc
    have k3 : wc.cell? ⟨sp, 3, none⟩ = some (.slice q kept.length c) := by rw [cell_of_block hc1 3, ← hev]; rfl
    have k1 : wc.cell? ⟨sp, 1, none⟩ = some (.int .u64 ((now : Int) + 1)) := cell_of_block hc1 1
    have ltl : decide ((kept.length : Int) < 1024) = true := decide_eq_true (by have := HL.out; omega)
    have KE : Hid (wc.rangeAt E 0 (encE ⟨what, k, nm, now + 1⟩)) := rangeAt_block (cs := (encE ⟨what, k, nm, now + 1⟩).toArray) e1
    have HC := Lib.hid (And.intro hc1 (And.intro oc (And.intro hev (And.intro g1 (And.intro s1 (And.intro ne (And.intro hB (And.intro e2 h1))))))))
    have le0 : wc.cell? ⟨E, 0, none⟩ = some (.int .i64 what) := cell_of_block e1 0
    have le1 : wc.cell? ⟨E, 1, none⟩ = some (.int .i64 k) := cell_of_block e1 1
    have le2 : wc.cell? ⟨E, 2, none⟩ = some (.string nm) := cell_of_block e1 2
    have le3 : wc.cell? ⟨E, 3, none⟩ = some (.int .u64 ((now : Int) + 1)) := cell_of_block e1 3
    have hlt : sp < wc.heap.size := (Array.getElem?_eq_some_iff.1 hc1).1
    have hel : Hid (E < wc.heap.size) := (Array.getElem?_eq_some_iff.1 e1).1
    have hw : Hid (w1.heap.size ≤ wc.heap.size) := e2.size
    obtain ⟨inf, hi, hz0, hz1, hz2⟩ : ∃ i, Tryz.prog.info? ET = some i ∧ i.zero = some (.agg #[.int .i64 0, .int .i64 0, .string ⟨#[]⟩, .int .u64 0]) ∧ i.size = 4 ∧ i.bytes = 40 := ⟨_, rfl, by kernel_rfl, by kernel_rfl, by kernel_rfl⟩
    have HI := Lib.hid (And.intro hi (And.intro hz0 (And.intro hz1 hz2)))
    have own : Hid ((wc.drew.alloc (.cells (encE ⟨what, k, nm, now + 1⟩).toArray ET)).ownsRow base ET 4 (.slice q kept.length c) kept.length (flat encE kept)) := by
      show World.ownsRow _ _ _ _ _ _ _
      rw [← hev]
      exact World.ownsRow.alloc (w := wc.drew) oc _
    have news : Hid (∀ j u, (encE ⟨what, k, nm, now + 1⟩)[j]? = some u → (wc.drew.alloc (.cells (encE ⟨what, k, nm, now + 1⟩).toArray ET)).cell? ((⟨wc.heap.size, 0, none⟩ : Addr).add j) = some u) := fun j u hu => World.news_of_block (heap_alloc_new wc.drew (.cells (encE ⟨what, k, nm, now + 1⟩).toArray ET)) j u (by simpa using hu)
    have hll : Hid (kept.length + 1 ≤ 1024 ∧ base ≤ (wc.drew.alloc (.cells (encE ⟨what, k, nm, now + 1⟩).toArray ET)).heap.size) := ⟨by have := HL.out; omega, by have := hw.out; have h9 : (wc.drew.alloc (.cells (encE ⟨what, k, nm, now + 1⟩).toArray ET)).heap.size = wc.heap.size + 1 := (by simp); omega⟩
    have nsp : Hid (sp < wc.heap.size ∧ some sp ≠ (Value.slice q kept.length c).ownBlock) := ⟨hlt, by rw [← hev]; exact fun e => ne e.symm⟩
    have AB : Hid (sp < (wc.drew.alloc (.cells (encE ⟨what, k, nm, now + 1⟩).toArray ET)).heap.size ∧ (wc.drew.alloc (.cells (encE ⟨what, k, nm, now + 1⟩).toArray ET)).heap[sp]? = some (.cells (stC most (now + 1) mb (.slice q kept.length c)) ST (0, 0)) ∧ Chg [sp] w (wc.drew.alloc (.cells (encE ⟨what, k, nm, now + 1⟩).toArray ET))) := by
      have G : Gr wc (wc.drew.alloc (.cells (encE ⟨what, k, nm, now + 1⟩).toArray ET)) := ((Gr.refl wc).drewN 1).alloc _
      refine ⟨by have := G.below.size; have := hlt; omega, ?_, (g1.trans (Chg.ofBelow e2 []) (by simp)).trans (Chg.ofGr G []) (by simp)⟩
      rw [G.heap hlt, hc1, hev]
    clear e0 e1 e2 hw1 h1 g1 s1 ne o1 hB hc1 oc hev hi hz0 hz1 hz2 b0 b1 b2
    go_upto_region 5 with fail
    go_region_law (refine step_append_lies _ rfl _ _ SlE (by rfl) base ET inf (.agg #[.int .i64 0, .int .i64 0, .string ⟨#[]⟩, .int .u64 0]) 4 40 Tryz.underlying53 HI.out.1 HI.out.2.1 HI.out.2.2.1 HI.out.2.2.2 rfl (by omega) (.slice q kept.length c) kept.length (flat encE kept) (by rfl) own.out ⟨wc.heap.size, 0, none⟩ 1 1 (encE ⟨what, k, nm, now + 1⟩) (by rfl) (by rfl) news.out (oneE _) (by omega) (by have := hll.out.1; unfold maxLen; omega) (by have := hll.out.1; omega) hll.out.2 _ rfl ?_; intro g cap w4 hown4 hgrow4 hat4 hlt4; have hb4 := (hgrow4.block sp AB.out.1 nsp.out.2).trans AB.out.2.1; have u1 : w4.cell? ⟨sp, 3, none⟩ = some (.slice q kept.length c) := cell_of_block hb4 3; have u2 : w4.frozen? ⟨sp, 3, none⟩ = false := unfrozen_of_block hb4 3; have u3 : w4.cell? ⟨sp, 1, none⟩ = some (.int .u64 ((now : Int) + 1)) := cell_of_block hb4 1; have FIN := Lib.hid (noted (e := ⟨what, k, nm, now + 1⟩) AB.out.2.2 hb4 hown4 hgrow4 (hat4.imp id id)); clear hb4 hown4 hgrow4 hat4 hlt4)
    all_goals
      go_wp2
      go_ret
      rw [HC.out.2.2.1]
      exact ⟨by push_cast; rfl, FIN.out⟩
set_option maxHeartbeats 4000000 in
theorem note_b (base : Nat) (w : World) (sp mb now : Nat) (most what k : Int) (nm : ByteArray) (ev : Value) (kept : List Ev) (hb : base ≤ w.heap.size) (hs : w.heap[sp]? = some (.cells (stC most now mb ev) ST (0, 0)))
    (ho : w.ownsRow base ET 4 ev kept.length (flat encE kept)) (hn : now < 4611686018427387904) (hl : kept.length = 1024) :
    Calls Tryz.prog 40 #[.pointer (some ⟨sp, 0, none⟩), .int .i64 what, thing k nm] w fun e w' => e = .returned (.int .u64 ((now + 1 : Nat) : Int)) ∧ (w'.heap[sp]? = some (.cells (stC most (now + 1) mb ev) ST (0, 0)) ∧
      w'.ownsRow base ET 4 ev kept.length (flat encE (kept.set (now % 1024) ⟨what, k, nm, now + 1⟩))) ∧ Chg (sp :: ev.ownBlock.toList) w w' := by
  have mixed : Tryz.prog.follows .mixedOrders = true := by kernel_rfl
  have c1 : w.cell? ⟨sp, 1, none⟩ = some (.int .u64 (now : Int)) := cell_of_block hs 1
  have f1 : w.frozen? ⟨sp, 1, none⟩ = false := unfrozen_of_block hs 1
  have lt : sp < w.heap.size := (Array.getElem?_eq_some_iff.1 hs).1
  have HS := Lib.hid (And.intro hs ho)
  have HL := Lib.hid hl
  clear hs ho hl
  obtain ⟨B, hB⟩ : ∃ B, B = w.heap.size := ⟨_, rfl⟩
  obtain ⟨w1, hw1⟩ : ∃ W, W = (w.setCell ⟨sp, 1, none⟩ (.int .u64 ((now : Int) + 1))).alloc (.cells #[.int .i64 k, .string nm] KT) := ⟨_, rfl⟩
  have h1 : w1.heap[sp]? = some (.cells (stC most (now + 1) mb ev) ST (0, 0)) := by
    rw [hw1, (Gr.alloc (Gr.refl (w.setCell ⟨sp, 1, none⟩ (.int .u64 ((now : Int) + 1)))) _).heap (by simpa [World.setCell] using lt), block_setCell HS.out.1]
    rfl
  have hz : (w.setCell ⟨sp, 1, none⟩ (.int .u64 ((now : Int) + 1))).heap.size = w.heap.size := by simp [World.setCell]
  have h2 : w1.heap[B]? = some (.cells #[.int .i64 k, .string nm] KT (0, 0)) := by
    rw [hw1, hB, ← hz]
    exact heap_alloc_new _ _
  have g1 : Chg [sp] w w1 := by
    rw [hw1]
    exact ((Chg.refl [sp] w).setCell 1 _ (.inl (by simp))).trans (Chg.ofGr ((Gr.refl _).alloc _) []) (by simp)
  have s1 : w1.heap.size = w.heap.size + 1 := by rw [hw1]; simp [World.setCell]
  have b0 : w1.cell? ⟨B, 0, none⟩ = some (.int .i64 k) := cell_of_block h2 0
  have b1 : w1.cell? ⟨B, 1, none⟩ = some (.string nm) := cell_of_block h2 1
  have b2 : w1.cell? ⟨sp, 1, none⟩ = some (.int .u64 ((now : Int) + 1)) := cell_of_block h1 1
  have ne := own_ne HS.out.2 HS.out.1 (by decide)
  have o1 : w1.ownsRow base ET 4 ev kept.length (flat encE kept) := by
    rw [hw1]
    exact (ownsRow_setCell_other HS.out.2 ne _).alloc _
  have HW := Lib.hid (And.intro hw1 (And.intro h1 (And.intro g1 (And.intro s1 (And.intro ne (And.intro o1 hB))))))
  clear h1 h2 g1 s1 ne o1
  unfold thing
  go_enter Tryz.func40, Tryz.ntmps40
  go_upto_region 3 with fail
  rw [← hw1, ← hB]
  clear hw1 hB c1 f1 hz lt
  go_cut [8] from 21 to 30 (fun e wc => ∃ E, e = .pointer (some ⟨E, 0, none⟩) ∧ Hid (w1.heap.size ≤ E ∧ wc.heap[E]? = some (.cells (encE ⟨what, k, nm, now + 1⟩).toArray ET (0, 0)) ∧ Below w1.heap.size w1 wc))
  case first =>
    go_region_held (fun W => W.cell? ⟨B, 0, none⟩ = some (.int .i64 k) ∧ W.cell? ⟨B, 1, none⟩ = some (.string nm) ∧ W.cell? ⟨sp, 1, none⟩ = some (.int .u64 ((now : Int) + 1))) (go_keep) (fail)
    go_wp2
    go_meet
    case rel =>
      refine ⟨w1.heap.size, rfl, Nat.le_refl _, ?_, (((Gr.refl w1).drewN 1).alloc _).below⟩
      have := heap_alloc_new w1.drew (.cells (encE ⟨what, k, nm, now + 1⟩).toArray ET)
      exact this
  case rest =>
    obtain ⟨E, rfl, HE⟩ := hcut
    obtain ⟨e0, e1, e2⟩ := HE.out
    obtain ⟨hw1, h1, g1, s1, ne, o1, hB⟩ := HW.out
    have hc1 : wc.heap[sp]? = some (.cells (stC most (now + 1) mb ev) ST (0, 0)) := (e2.block sp (Array.getElem?_eq_some_iff.1 h1).1).trans h1
    have oc : wc.ownsRow base ET 4 ev kept.length (flat encE kept) := by
      obtain ⟨o0, ox⟩ := o1
      refine ⟨o0, ?_⟩
      rcases ox with h | ⟨g, cap, cur, q1, q2, q3, r⟩
      · exact .inl h
      · exact .inr ⟨g, cap, cur, q1, q2, (e2.block g (Array.getElem?_eq_some_iff.1 q3).1).trans q3, r⟩
    obtain ⟨q, c, hev⟩ := own_slice oc
    have k3 : wc.cell? ⟨sp, 3, none⟩ = some (.slice q kept.length c) := by rw [cell_of_block hc1 3, ← hev]; rfl
    have k1 : wc.cell? ⟨sp, 1, none⟩ = some (.int .u64 ((now : Int) + 1)) := cell_of_block hc1 1
    have ltl : decide ((kept.length : Int) < 1024) = false := decide_eq_false (by have := HL.out; omega)
    obtain ⟨g, c', hgv, hgb, hgs, hset, hth⟩ := own_set lenE oc (p := now % 1024) (by have := HL.out; omega) (⟨what, k, nm, now + 1⟩ : Ev)
    have hq : q = some ⟨g, 0, none⟩ := by rw [hev] at hgv; simp only [Value.slice.injEq] at hgv; exact hgv.1
    subst hq
    obtain ⟨p, hp⟩ : ∃ p, p = now % 1024 := ⟨_, rfl⟩
    have hp2 : (now : Int) % 1024 = (p : Int) := by omega
    have hp3 : p < 1024 := by omega
    rw [← hp] at hset hth
    have kl4 : (kept.length : Int) = 1024 := by have := HL.out; omega
    have le0 : wc.cell? ⟨E, 0, none⟩ = some (.int .i64 what) := cell_of_block e1 0
    have le1 : wc.cell? ⟨E, 1, none⟩ = some (.int .i64 k) := cell_of_block e1 1
    have le2 : wc.cell? ⟨E, 2, none⟩ = some (.string nm) := cell_of_block e1 2
    have le3 : wc.cell? ⟨E, 3, none⟩ = some (.int .u64 ((now : Int) + 1)) := cell_of_block e1 3
    obtain ⟨t0, f0⟩ := hth 0 (by decide)
    obtain ⟨t1, f1⟩ := hth 1 (by decide)
    obtain ⟨t2, f2⟩ := hth 2 (by decide)
    obtain ⟨t3, f3⟩ := hth 3 (by decide)
    rw [Nat.add_zero] at t0 f0
    obtain ⟨y0, t0⟩ := Option.isSome_iff_exists.1 t0
    obtain ⟨y1, t1⟩ := Option.isSome_iff_exists.1 t1
    obtain ⟨y2, t2⟩ := Option.isSome_iff_exists.1 t2
    obtain ⟨y3, t3⟩ := Option.isSome_iff_exists.1 t3
    have gsp : g ≠ sp := by
      have e := own_ne oc hc1 (by decide)
      rw [hev] at e
      intro e2
      exact e (by simp [Value.ownBlock, e2])
    obtain ⟨w5, hw5⟩ : ∃ W, W = wc.drew.setCells g (p * 4) (encE ⟨what, k, nm, now + 1⟩) := ⟨_, rfl⟩
    have s5 : w5.heap[sp]? = some (.cells (stC most (now + 1) mb ev) ST (0, 0)) := by
      rw [hw5, setCells_out _ _ _ _ _ (fun e => gsp e.symm)]
      exact hc1
    have o5 : w5.ownsRow base ET 4 ev kept.length (flat encE (kept.set p ⟨what, k, nm, now + 1⟩)) := by
      rw [hw5]
      exact hset
    have x5 : Chg (sp :: ev.ownBlock.toList) w w5 := by
      have a1 : Chg [sp] w wc.drew := (g1.trans (Chg.ofBelow e2 []) (by simp)).trans (Chg.ofGr ((Gr.refl wc).drewN 1) []) (by simp)
      have a2 : Chg [g] wc.drew w5 := by
        obtain ⟨r1, r2, r3⟩ := setCells_rest (encE ⟨what, k, nm, now + 1⟩) wc.drew g (p * 4)
        rw [hw5]
        exact ⟨r1, r2, r3, by rw [setCells_size]; exact Nat.le_refl _, fun k _ hk => setCells_out _ _ _ _ _ (by simpa using hk)⟩
      refine Chg.trans (a1.less (fun g hg => .inl (by simp at hg; simp [hg]))) a2 (fun g' hg' => .inl ?_)
      simp at hg'
      rw [hev]
      simp [Value.ownBlock, hg']
    have n5 : w5.cell? ⟨sp, 1, none⟩ = some (.int .u64 ((now : Int) + 1)) := cell_of_block s5 1
    have FIN := Lib.hid (And.intro s5 (And.intro o5 (And.intro x5 (And.intro hp hw5))))
    clear e0 e1 e2 hw1 h1 g1 s1 ne o1 hB hc1 oc hev b0 b1 b2 hgv hgb hgs hset hth gsp s5 o5 x5 hp
    have HX : Hid (((((wc.setCell ⟨g, p * 4, none⟩ (.int .i64 what)).setCell ⟨g, p * 4 + 1, none⟩ (.int .i64 k)).setCell ⟨g, p * 4 + 2, none⟩ (.string nm)).setCell ⟨g, p * 4 + 3, none⟩ (.int .u64 ((now : Int) + 1))).drew = w5) := by
      show _ = _
      rw [hw5]
      rfl
    clear hw5
    go_upto_region 6 with fail
    go_region
    all_goals
      rw [HX.out]
      go_wp2
      go_ret
      exact ⟨by push_cast; rfl, ⟨FIN.out.1, FIN.out.2.2.2.1 ▸ FIN.out.2.1⟩, FIN.out.2.2.1⟩


theorem note_any (base : Nat) (w : World) (sp mb now : Nat) (most what k : Int) (nm : ByteArray) (ev : Value) (kept : List Ev) (hb : base ≤ w.heap.size) (hs : w.heap[sp]? = some (.cells (stC most now mb ev) ST (0, 0)))
    (ho : w.ownsRow base ET 4 ev kept.length (flat encE kept)) (hn : now < 4611686018427387904) (hl : kept.length ≤ 1024) :
    Calls Tryz.prog 40 #[.pointer (some ⟨sp, 0, none⟩), .int .i64 what, thing k nm] w fun e w' => e = .returned (.int .u64 ((now + 1 : Nat) : Int)) ∧ (∃ ev' kept', w'.heap[sp]? = some (.cells (stC most (now + 1) mb ev') ST (0, 0)) ∧
      w'.ownsRow base ET 4 ev' kept'.length (flat encE kept') ∧ (∀ hist, hist.length = now → Ring hist kept → Ring (hist ++ [⟨what, k, nm, now + 1⟩]) kept') ∧ (∀ g, ev'.ownBlock = some g → ev.ownBlock = some g ∨ w.heap.size ≤ g)) ∧ Chg (sp :: ev.ownBlock.toList) w w' := by
  rcases Nat.lt_or_ge kept.length 1024 with h | h
  · refine (note_a base w sp mb now most what k nm ev kept hb hs ho hn h).mono ?_
    rintro e w' ⟨h1, ⟨ev', h2, h3, h4⟩, h5⟩
    refine ⟨h1, ⟨ev', kept ++ [⟨what, k, nm, now + 1⟩], h2, by simpa using h3, fun hist _ hr => ring_app hr h _, fun g hg => ?_⟩, h5⟩
    rcases h4 with h4 | ⟨g', h4, h6⟩
    · exact .inl (h4 ▸ hg)
    · rw [h4] at hg
      cases hg
      exact .inr h6
  · have hl' : kept.length = 1024 := by omega
    refine (note_b base w sp mb now most what k nm ev kept hb hs ho hn hl').mono ?_
    rintro e w' ⟨h1, ⟨h2, h3⟩, h5⟩
    exact ⟨h1, ⟨ev, _, h2, by rw [List.length_set]; exact h3, fun hist hh hr => by rw [← hh]; exact ring_set hr hl' _, fun g hg => .inl hg⟩, h5⟩

/-- A store at sp: of at most so many objects, these in it, behind these changes; its own blocks. -/
structure StAt (base : Nat) (w : World) (S : List Nat) (sp mb : Nat) (D : DataW Value) (ev : Value) (kept : List Ev) (most : Int) (l : List Ob) (hist : List Ev) : Prop where
  fp : S = sp :: mb :: ev.ownBlock.toList
  bsp : base ≤ sp
  bmb : base ≤ mb
  bw : base ≤ w.heap.size
  blk : w.heap[sp]? = some (.cells (stC most hist.length mb ev) ST (0, 0))
  map : MapIs base w mb hist.length D l
  evs : w.ownsRow base ET 4 ev kept.length (flat encE kept)
  ring : Ring hist kept
def StIs (base : Nat) (w : World) (S : List Nat) (sp : Nat) (most : Int) (l : List Ob) (hist : List Ev) : Prop := ∃ mb D ev kept, StAt base w S sp mb D ev kept most l hist

theorem own_prot {base N n k : Nat} {w : World} {E : TypeId} {v : Value} {xs : List Value} (h : w.ownsRow N E k v n xs) (hN : base ≤ N) (hE : rowTy E = false) : ∀ g, v.ownBlock = some g → base ≤ g ∧ g < w.heap.size ∧ ¬ Prot base w g := by
  intro g hg
  rcases h.2 with ⟨rfl, _⟩ | ⟨g', cap, cur, rfl, hb, h2, _⟩
  · cases hg
  · simp [Value.ownBlock] at hg
    subst hg
    refine ⟨by omega, (Array.getElem?_eq_some_iff.1 h2).1, fun hp => ?_⟩
    rcases hp with hp | ⟨cs, T, fz, h3, h4⟩
    · omega
    · rw [h2] at h3
      simp only [Option.some.injEq, Obj.cells.injEq] at h3
      rw [← h3.2.1, hE] at h4
      cases h4
theorem cells_prot {base g : Nat} {w : World} {T : TypeId} {cs : Array Value} {fz : Nat × Nat} (h : w.heap[g]? = some (.cells cs T fz)) (hb : base ≤ g) (hT : rowTy T = false) : base ≤ g ∧ g < w.heap.size ∧ ¬ Prot base w g := by
  refine ⟨hb, (Array.getElem?_eq_some_iff.1 h).1, fun hp => ?_⟩
  rcases hp with hp | ⟨cs, T, fz, h3, h4⟩
  · omega
  · rw [h] at h3
    simp only [Option.some.injEq, Obj.cells.injEq] at h3
    rw [← h3.2.1, hT] at h4
    cases h4
theorem map_prot {base mb n : Nat} {w : World} {D : DataW Value} {l : List Ob} (h : MapIs base w mb n D l) (hb : base ≤ mb) : base ≤ mb ∧ mb < w.heap.size ∧ ¬ Prot base w mb := by
  obtain ⟨es, c, h1, _⟩ := h.own
  refine ⟨hb, (Array.getElem?_eq_some_iff.1 h1).1, fun hp => ?_⟩
  rcases hp with hp | ⟨cs, T, fz, h3, h4⟩
  · omega
  · rw [h1] at h3; cases h3
theorem StAt.prot {base : Nat} {w : World} {S : List Nat} {sp mb : Nat} {D : DataW Value} {ev : Value} {kept hist : List Ev} {most : Int} {l : List Ob} (h : StAt base w S sp mb D ev kept most l hist) : ∀ g ∈ S, base ≤ g ∧ g < w.heap.size ∧ ¬ Prot base w g := by
  intro g hg
  rw [h.fp] at hg
  simp only [List.mem_cons, Option.mem_toList] at hg
  rcases hg with rfl | rfl | hg
  · exact cells_prot h.blk h.bsp rfl
  · exact map_prot h.map h.bmb
  · exact own_prot h.evs (Nat.le_refl _) rfl g hg
theorem StIs.prot {base : Nat} {w : World} {S : List Nat} {sp : Nat} {hist : List Ev} {most : Int} {l : List Ob} (h : StIs base w S sp most l hist) : ∀ g ∈ S, base ≤ g ∧ g < w.heap.size ∧ ¬ Prot base w g := by
  obtain ⟨mb, D, ev, kept, h⟩ := h
  exact h.prot
theorem own_block {base n k : Nat} {w w' : World} {E : TypeId} {v : Value} {xs : List Value} (h : w.ownsRow base E k v n xs) (he : ∀ g, v.ownBlock = some g → w'.heap[g]? = w.heap[g]?) : w'.ownsRow base E k v n xs := by
  obtain ⟨h0, h⟩ := h
  refine ⟨h0, ?_⟩
  rcases h with h | ⟨g, cap, cur, rfl, hb, hg, r⟩
  · exact .inl h
  · exact .inr ⟨g, cap, cur, rfl, hb, (he g rfl).trans hg, r⟩
/-- It stays while others are written. -/
theorem StAt.stay {base : Nat} {w w' : World} {S : List Nat} {sp mb : Nat} {D : DataW Value} {ev : Value} {kept hist : List Ev} {most : Int} {l : List Ob} (h : StAt base w S sp mb D ev kept most l hist) (hs : ∀ g ∈ S, w'.heap[g]? = w.heap[g]?) (hf : Fx base w w') : StAt base w' S sp mb D ev kept most l hist := by
  have e := h.fp
  refine ⟨e, h.bsp, h.bmb, Nat.le_trans h.bw hf.size, (hs sp (by rw [e]; simp)).trans h.blk, h.map.fx (hs mb (by rw [e]; simp)) hf, own_block h.evs (fun g hg => hs g (by rw [e, hg]; simp)), h.ring⟩
theorem StIs.stay {base : Nat} {w w' : World} {S : List Nat} {sp : Nat} {hist : List Ev} {most : Int} {l : List Ob} (h : StIs base w S sp most l hist) (hs : ∀ g ∈ S, w'.heap[g]? = w.heap[g]?) (hf : Fx base w w') : StIs base w' S sp most l hist := by
  obtain ⟨mb, D, ev, kept, h⟩ := h
  exact ⟨mb, D, ev, kept, h.stay hs hf⟩
theorem StIs.gr {base : Nat} {w w' : World} {S : List Nat} {sp : Nat} {hist : List Ev} {most : Int} {l : List Ob} (h : StIs base w S sp most l hist) (g : Below w.heap.size w w') : StIs base w' S sp most l hist :=
  h.stay (fun k hk => g.block k (h.prot k hk).2.1) (Fx.ofBelow g)
/-- .. while others' blocks are. -/
theorem StIs.chg {base : Nat} {w w' : World} {S T : List Nat} {sp : Nat} {hist : List Ev} {most : Int} {l : List Ob} (h : StIs base w S sp most l hist) (c : Chg T w w') (hd : ∀ g ∈ S, g ∉ T) (hp : ∀ g ∈ T, g < w.heap.size → ¬ Prot base w g) : StIs base w' S sp most l hist :=
  h.stay (fun k hk => c.block k (h.prot k hk).2.1 (hd k hk)) (c.fx hp)

/-- What a change leaves. -/
def After (base : Nat) (w w' : World) (S : List Nat) (sp : Nat) (most : Int) (l : List Ob) (hist : List Ev) : Prop := ∃ S', StIs base w' S' sp most l hist ∧ Chg S w w' ∧ ∀ g ∈ S', g ∈ S ∨ w.heap.size ≤ g
end Go.Proofs.YtbkoepghmcdnhaaGreatDoor
/- An object is made ready; it is put in. -/
--VaH
namespace Go.Proofs.YtbkoepghmcdnhaaGreatDoor
open Go.RowKit Go.Shelf Go.Lib Go.Sort
open Go.Joins (cell_of_block unfrozen_of_block block_setCell)
set_option linter.unusedVariables false
set_option linter.unusedSimpArgs false
set_option maxRecDepth 20000

set_option maxHeartbeats 4000000 in
theorem put_any (base : Nat) (w : World) (S : List Nat) (sp : Nat) (most what : Int) (l : List Ob) (hist : List Ev) (cs : Array Value) (o : Ob) (h : StIs base w S sp most l hist) (hc : Kept base w cs o) (hk : OkK o) (hn : hist.length < 1000000) :
    Calls Tryz.prog 26 #[.pointer (some ⟨sp, 0, none⟩), .int .i64 what, .agg cs] w fun e w' => e = .returned (.int .u64 ((hist.length + 1 : Nat) : Int)) ∧
      After base w w' S sp most (put l (setV o (hist.length + 1))) (hist ++ [⟨what, o.kind, o.name, hist.length + 1⟩]) := by
  have mixed : Tryz.prog.follows .mixedOrders = true := by kernel_rfl
  obtain ⟨mb, D, ev, kept, h⟩ := h
  obtain ⟨B, hB⟩ : ∃ B, B = w.heap.size := ⟨_, rfl⟩
  obtain ⟨wb, hwb⟩ : ∃ wb, wb = w.alloc (.cells cs OT) := ⟨_, rfl⟩
  have G0 : Gr w wb := hwb ▸ (Gr.refl w).alloc _
  have b0 : wb.heap[B]? = some (.cells cs OT (0, 0)) := by rw [hwb, hB]; exact heap_alloc_new w _
  have LO := Lib.hid (load_ob b0 hc.obj.1)
  have CK := Lib.hid (key_any wb cs o.kind o.name hc.obj.2.1.1 hc.obj.2.1.2.1)
  have HH := Lib.hid (And.intro h (And.intro hc (And.intro hk (And.intro hwb (And.intro hB (And.intro G0 b0))))))
  have hkl : kept.length ≤ 1024 := by have := h.ring.1; omega
  clear h hc hk G0 b0
  go_enter Tryz.func26, Tryz.ntmps26
  go_upto_region 1 with fail
  rw [← hwb, ← hB]
  clear hwb hB
  go_wp2_with (refine wpList_load_by (by kernel_rfl) OT _ rfl (.pointer (some ⟨B, 0, none⟩)) (.agg cs) (by kernel_rfl) LO.out ?_)
  refine CK.out.mono ?_
  rintro e w1 ⟨rfl, g1⟩
  obtain ⟨h, hc, hk, hwb, hB, G0, b0⟩ := HH.out
  have G1 := G0.trans g1
  have CN := Lib.hid (note_any base w1 sp mb hist.length most what o.kind o.name ev kept (Nat.le_trans h.bw G1.below.size) ((G1.heap (Array.getElem?_eq_some_iff.1 h.blk).1).trans h.blk) (own_block h.evs (fun g hg => G1.heap (own_prot h.evs (Nat.le_refl _) rfl g hg).2.1)) (by omega) hkl)
  have HG := Lib.hid (And.intro G1 g1)
  clear h hc hk hwb hB G0 b0 g1 G1
  go_wp2_with fail
  refine CN.out.mono ?_
  rintro e w2 ⟨rfl, ⟨ev', kept', hs2, ho2, hr2, hf2⟩, c2⟩
  obtain ⟨h, hc, hk, hwb, hB, G0, b0⟩ := HH.out
  obtain ⟨G1, g1⟩ := HG.out
  have hbs : sp < w.heap.size ∧ mb < w.heap.size ∧ (∀ g, ev.ownBlock = some g → g < w.heap.size) := ⟨(h.prot sp (by rw [h.fp]; simp)).2.1, (h.prot mb (by rw [h.fp]; simp)).2.1, fun g hg => (h.prot g (by rw [h.fp, hg]; simp)).2.1⟩
  have nB : B ∉ sp :: ev.ownBlock.toList := by
    intro hm
    simp only [List.mem_cons, Option.mem_toList] at hm
    rcases hm with rfl | hm
    · omega
    · have := hbs.2.2 B hm; omega
  have hlt1 : w.heap.size < w1.heap.size := by
    have := g1.below.size
    have e : wb.heap.size = w.heap.size + 1 := by rw [hwb]; simp
    omega
  have b2 : w2.heap[B]? = some (.cells cs OT (0, 0)) := (c2.block B (by omega) nB).trans ((g1.heap (Array.getElem?_eq_some_iff.1 b0).1).trans b0)
  obtain ⟨w3, hw3⟩ : ∃ W, W = w2.setCell ⟨B, 2, none⟩ (.int .u64 ((hist.length : Int) + 1)) := ⟨_, rfl⟩
  obtain ⟨cs', hcs'⟩ : ∃ c, c = cs.setIfInBounds 2 (.int .u64 ((hist.length + 1 : Nat) : Int)) := ⟨_, rfl⟩
  have b3 : w3.heap[B]? = some (.cells cs' OT (0, 0)) := by
    rw [hw3, block_setCell b2, hcs']
    push_cast
    rfl
  have C13 : Chg S w w3 := by
    have a : Chg (sp :: ev.ownBlock.toList) w w2 := (Chg.ofGr G1 _).trans c2 (fun g hg => .inl hg)
    have a' : Chg S w w2 := a.less (fun g hg => .inl (by
      rw [h.fp]
      simp only [List.mem_cons] at hg ⊢
      rcases hg with hg | hg
      · exact .inl hg
      · exact .inr (.inr hg)))
    rw [hw3]
    exact a'.setCell 2 _ (.inr (by omega))
  have FX : Fx base w w3 := C13.fx (fun g hg _ => (h.prot g hg).2.2)
  have hs3 : w3.heap[sp]? = some (.cells (stC most (hist.length + 1) mb ev') ST (0, 0)) := by
    rw [hw3, heap_setCell_other _ _ _ _ (by show sp ≠ B; omega)]
    exact hs2
  have ho3 : w3.ownsRow base ET 4 ev' kept'.length (flat encE kept') := by
    rw [hw3]
    refine ownsRow_setCell_other ho2 (fun e => ?_) _
    rcases hf2 B e with h4 | h4
    · exact nB (by rw [h4]; simp)
    · obtain ⟨q2, c', hx⟩ := own_slice ho2
      have := own_ne ho2 b2 (by decide)
      exact this e
  have hm3 : w3.heap[mb]? = w.heap[mb]? := by
    have a : Chg (sp :: ev.ownBlock.toList) w w2 := (Chg.ofGr G1 _).trans c2 (fun g hg => .inl hg)
    rw [hw3, heap_setCell_other _ _ _ _ (by show mb ≠ B; omega)]
    refine a.block mb hbs.2.1 (fun hm => ?_)
    obtain ⟨es, c, q1, _⟩ := h.map.own
    simp only [List.mem_cons, Option.mem_toList] at hm
    rcases hm with rfl | hm
    · rw [h.blk] at q1; cases q1
    · rcases h.evs.2 with ⟨e, _⟩ | ⟨g', cap, cur, e, _, h3, _⟩
      · rw [e] at hm; cases hm
      · rw [e] at hm
        simp [Value.ownBlock] at hm
        subst hm
        rw [q1] at h3; cases h3
  have M3 : MapIs base w3 mb hist.length D l := h.map.fx hm3 FX
  have K3 : Kept base w3 cs' (setV o (hist.length + 1)) := by
    rw [hcs']
    exact (hc.fx FX).setV (by omega)
  have ok3 : OkK (setV o (hist.length + 1)) := ⟨hk.1, hk.2, hk.3⟩
  have f2 : w2.frozen? ⟨B, 2, none⟩ = false := unfrozen_of_block b2 2
  have q2 : w2.cell? ⟨B, 2, none⟩ = some (.int .u64 (o.ver : Int)) := (cell_of_block b2 2).trans hc.obj.2.1.2.2.1
  have HW3 : Hid (w2.setCell ⟨B, 2, none⟩ (.int .u64 ((hist.length : Int) + 1)) = w3) := hw3.symm
  have H1 : Hid (w.heap.size ≤ w1.heap.size) := G1.below.size
  have H3 := Lib.hid (And.intro b3 (And.intro C13 (And.intro hs3 (And.intro ho3 (And.intro M3 (And.intro K3 (And.intro ok3 (And.intro hr2 (And.intro hf2 (And.intro h hbs))))))))))
  have hsz : cs'.size = 47 := K3.obj.1
  have hmapc : w3.cell? ⟨sp, 2, none⟩ = some (.map (some mb)) := cell_of_block hs3 2
  have S0 : Hid (w3.drew.cell? ⟨sp, 2, none⟩ = some (.map (some mb)) ∧ w3.drew.heap[B]? = some (.cells cs' OT (0, 0))) := ⟨hmapc, b3⟩
  clear LO CK CN HH HG hs2 ho2 hr2 hf2 c2 h hc hk hwb hB G0 b0 G1 g1 hbs nB hlt1 b2 hw3 b3 C13 FX hs3 ho3 hm3 M3 K3 ok3 hcs'
  have KC : Hid (∀ ws : World, (ws.cell? ⟨sp, 2, none⟩ = some (.map (some mb)) ∧ ws.heap[B]? = some (.cells cs' OT (0, 0))) → ws.cell? ⟨sp, 2, none⟩ = some (.map (some mb))) := fun ws h => h.1
  have KL : Hid (∀ ws : World, (ws.cell? ⟨sp, 2, none⟩ = some (.map (some mb)) ∧ ws.heap[B]? = some (.cells cs' OT (0, 0))) → ws.rangeAt B 0 cs'.toList) := fun ws h => rangeAt_block h.2
  have hi : (Tryz.prog.info? OT).map (·.size) = some cs'.toList.length := by rw [Array.length_toList, hsz]; exact info_ob47
  have hu := Tryz.underlying51
  go_upto_region 2 with fail
  rw [HW3.out]
  refine wp_region_held_drew (S := fun ws => ws.cell? ⟨sp, 2, none⟩ = some (.map (some mb)) ∧ ws.heap[B]? = some (.cells cs' OT (0, 0))) mixed S0.out (fun hS => ?_)
  refine wpAnyH_takeD (i := 0) (d := 13) (v := .pointer (some ⟨sp, 0, none⟩)) _ rfl rfl (by kernel_rfl) (by kernel_rfl) (by kernel_rfl) (fun _ _ _ h => h) (Or.inl ⟨by kernel_rfl, fun ws hSw => by first | (go_simp; done) | (go_simp; with_reducible rfl) | (go_simp; rfl)⟩) hS ?_
  simp only [Act.put, List.setIfInBounds_toArray, List.set_cons_zero, List.set_cons_succ]
  refine wpAnyH_takeD (i := 1) (d := 14) (v := .pointer (some ⟨sp, 0, none⟩)) _ rfl rfl (by kernel_rfl) (by kernel_rfl) (by kernel_rfl) (fun _ _ _ h => h) (Or.inl ⟨by kernel_rfl, fun ws hSw => by first | (go_simp; done) | (go_simp; with_reducible rfl) | (go_simp; rfl)⟩) hS ?_
  simp only [Act.put, List.setIfInBounds_toArray, List.set_cons_zero, List.set_cons_succ]
  refine wpAnyH_takeD (i := 2) (d := 15) (v := .pointer (some ⟨sp, 2, none⟩)) _ rfl rfl (by kernel_rfl) (by kernel_rfl) (by kernel_rfl) (fun _ _ _ h => h) (Or.inl ⟨by kernel_rfl, fun ws hSw => by first | (go_simp; done) | (go_simp; with_reducible rfl) | (go_simp; rfl)⟩) hS ?_
  simp only [Act.put, List.setIfInBounds_toArray, List.set_cons_zero, List.set_cons_succ]
  refine wpAnyH_takeD (i := 3) (d := 16) (v := .map (some mb)) _ rfl rfl (by kernel_rfl) (by kernel_rfl) (by kernel_rfl) (fun _ _ _ h => h) (Or.inl ⟨by kernel_rfl, fun ws hSw => by have q := KC.out ws hSw; first | (go_simp; done) | (go_simp; with_reducible rfl) | (go_simp; rfl)⟩) hS ?_
  simp only [Act.put, List.setIfInBounds_toArray, List.set_cons_zero, List.set_cons_succ]
  refine wpAnyH_takeD (i := 4) (d := 17) (v := .agg cs'.toList.toArray) _ rfl rfl (by kernel_rfl) (by kernel_rfl) (by kernel_rfl) (fun _ _ _ h => h) (yieldsIf_load_mid (by kernel_rfl) _ _ rfl B 0 (by kernel_rfl) cs'.toList _ (fun ws hSw => KL.out ws hSw) hu rfl hi) hS ?_
  simp only [Act.put, List.setIfInBounds_toArray, List.set_cons_zero, List.set_cons_succ]
  refine wpAnyH_takeD (i := 6) (d := 19) (v := .agg cs'.toList.toArray) _ rfl rfl (by kernel_rfl) (by kernel_rfl) (by kernel_rfl) (fun _ _ _ h => h) (yieldsIf_load_mid (by kernel_rfl) _ _ rfl B 0 (by kernel_rfl) cs'.toList _ (fun ws hSw => KL.out ws hSw) hu rfl hi) hS ?_
  simp only [Act.put, List.setIfInBounds_toArray, List.set_cons_zero, List.set_cons_succ]
  refine wpAnyH_ready (rs := [5]) (by kernel_rfl) (by simp) ?_
  refine AllReadyH.cons rfl (fun K hK => ?_) AllReadyH.nil
  go_simp
  have CK : Hid (Calls Tryz.prog 25 #[.agg cs'] w3.drew _) := key_any w3.drew cs' o.kind o.name H3.out.2.2.2.2.2.1.obj.2.1.1 H3.out.2.2.2.2.2.1.obj.2.1.2.1
  refine CK.out.mono ?_
  rintro e w4 ⟨rfl, g4⟩
  obtain ⟨b3, C13, hs3, ho3, M3, K3, ok3, hr2, hf2, h, hbs⟩ := H3.out
  have G4 : Gr w3 w4 := ((Gr.refl w3).drewN 1).trans g4
  have hs4 : w4.heap[sp]? = some (.cells (stC most (hist.length + 1) mb ev') ST (0, 0)) := (G4.heap (Array.getElem?_eq_some_iff.1 hs3).1).trans hs3
  have b4 : w4.heap[B]? = some (.cells cs' OT (0, 0)) := (G4.heap (Array.getElem?_eq_some_iff.1 b3).1).trans b3
  have F4 : Fx base w3 w4 := Fx.ofBelow G4.below
  have M4 : MapIs base w4 mb hist.length D l := M3.fx (G4.heap (map_prot M3 h.bmb).2.1) F4
  have o4 : w4.ownsRow base ET 4 ev' kept'.length (flat encE kept') := own_block ho3 (fun g hg => G4.heap (own_prot ho3 (Nat.le_refl _) rfl g hg).2.1)
  obtain ⟨w5, hr, M5, t5⟩ := M4.put h.bmb (by unfold maxLen; omega) (K3.fx F4) ok3
  have T5 := t5.grown
  have nsm : sp ≠ mb := by
    rintro rfl
    obtain ⟨es, c, q1, _⟩ := M4.own
    rw [hs4] at q1; cases q1
  have nbm : B ≠ mb := by
    rintro rfl
    obtain ⟨es, c, q1, _⟩ := M4.own
    rw [b4] at q1; cases q1
  have hs5 : w5.heap[sp]? = some (.cells (stC most (hist.length + 1) mb ev') ST (0, 0)) := (T5.block sp (Array.getElem?_eq_some_iff.1 hs4).1 (by simpa using nsm)).trans hs4
  have b5 : w5.heap[B]? = some (.cells cs' OT (0, 0)) := (T5.block B (Array.getElem?_eq_some_iff.1 b4).1 (by simpa using nbm)).trans b4
  have o5 : w5.ownsRow base ET 4 ev' kept'.length (flat encE kept') := own_block o4 (fun g hg => T5.block g (own_prot o4 (Nat.le_refl _) rfl g hg).2.1 (fun e => by
    cases e
    obtain ⟨es, c, q1, _⟩ := M4.own
    rcases o4.2 with ⟨e, _⟩ | ⟨g', cap, cur, e, _, h3, _⟩
    · rw [e] at hg; cases hg
    · rw [e] at hg
      simp [Value.ownBlock] at hg
      subst hg
      rw [q1] at h3; cases h3))
  have FIN : Hid (After base w w5 S sp most (put l (setV o (hist.length + 1))) (hist ++ [⟨what, o.kind, o.name, hist.length + 1⟩])) := by
    refine ⟨sp :: mb :: ev'.ownBlock.toList, ⟨mb, _, ev', kept', rfl, h.bsp, h.bmb, Nat.le_trans h.bw (Nat.le_trans C13.size (Nat.le_trans G4.below.size T5.size)), by rw [List.length_append]; exact hs5, by rw [List.length_append]; exact M5, o5, hr2 hist rfl h.ring⟩, ?_, ?_⟩
    · refine (C13.trans (Chg.ofGr G4 []) (by simp)).trans (Chg.ofGrown (S := [mb]) T5 (fun g e => .inl (by simp at e; simp [e]))) (fun g hg => .inl ?_)
      simp at hg
      rw [h.fp, hg]
      simp
    · intro g hg
      rw [h.fp]
      simp only [List.mem_cons, Option.mem_toList] at hg ⊢
      rcases hg with hg | hg | hg
      · exact .inl (.inl hg)
      · exact .inl (.inr (.inl hg))
      · rcases hf2 g hg with h4 | h4
        · exact .inl (.inr (.inr h4))
        · exact .inr (Nat.le_trans H1.out h4)
  have y5 : w5.cell? ⟨B, 2, none⟩ = some (.int .u64 ((hist.length + 1 : Nat) : Int)) := by
    rw [cell_of_block b5 2]
    exact K3.obj.2.1.2.2.1
  have SS : Hid (w5.cell? ⟨sp, 2, none⟩ = some (.map (some mb)) ∧ w5.heap[B]? = some (.cells cs' OT (0, 0))) := ⟨cell_of_block hs5 2, b5⟩
  have HR := Lib.hid hr
  refine hK _ _ ⟨cell_of_block hs4 2, b4⟩ (fun hS => ?_)
  clear b3 C13 hs3 ho3 M3 K3 ok3 hr2 hf2 h hbs G4 g4 hs4 b4 F4 M4 o4 hr M5 t5 T5 nsm nbm hs5 b5 o5 CK H3
  try simp only [Act.put, List.setIfInBounds_toArray, List.set_cons_zero, List.set_cons_succ]
  refine wpAnyH_ready (rs := [7]) (by kernel_rfl) (by simp) ?_
  refine AllReadyH.cons rfl (fun K hK => ?_) AllReadyH.nil
  refine step_mapUpdate (by rfl) _ _ _ MT rfl rfl rfl rfl HR.out ?_
  refine hK _ _ SS.out (fun hS => ?_)
  try simp only [Act.put, List.setIfInBounds_toArray, List.set_cons_zero, List.set_cons_succ]
  refine wpAnyH_done (by kernel_rfl) ?_ _
  go_wp2
  go_ret
  exact ⟨rfl, FIN.out⟩
end Go.Proofs.YtbkoepghmcdnhaaGreatDoor
/- An object is made ready. -/
namespace Go.Proofs.YtbkoepghmcdnhaaGreatDoor
open Go.RowKit Go.Shelf Go.Lib Go.Sort
open Go.Joins (cell_of_block unfrozen_of_block block_setCell)
set_option linter.unusedVariables false
set_option linter.unusedSimpArgs false
set_option maxRecDepth 20000

theorem results_row_tmp {P : Program} {fn : Func} {p u : Tmp} {ty : TypeId} (h : fn.results = #[.cell p ty, .tmp u]) (tmps : Array Value) (w : World) (g : Nat) (t : TypeId) (cs : Array Value) (fr : Nat × Nat) (d : TypeDesc)
    (hp : tmps.getD p undef = .pointer (some ⟨g, 0, none⟩)) (hg : w.heap[g]? = some (.cells cs t fr))
    (hu : P.underlying ty = some d) (hd : (match d with | .struct _ | .array _ _ => true | _ => false) = true) (hi : (P.info? ty).map (·.size) = some cs.size) :
    (results fn tmps).run P w = .ok (.tuple #[.agg cs, tmps.getD u undef]) w := by
  have hp' : tmps[p]?.getD undef = .pointer (some ⟨g, 0, none⟩) := by simpa using hp
  simp [results, h, hp', asAddr, run_loadVar_row w g t ty cs fr d hg hu hd hi]

/-- A store of a whole object into a block of the call's own that holds one. -/
theorem store_ob {base : Nat} {w : World} {g : Nat} {Z D : Array Value} (hg : w.heap[g]? = some (.cells Z OT (0, 0))) (hz : Z.size = 47) (hd : D.size = 47) (hb : base ≤ g) :
    w.there g 0 D.size ∧ (w.setCells g 0 D.toList).heap[g]? = some (.cells D OT (0, 0)) ∧ Fx base w (w.setCells g 0 D.toList) ∧ Chg [g] w (w.setCells g 0 D.toList) := by
  have c : Chg [g] w (w.setCells g 0 D.toList) := by
    obtain ⟨r1, r2, r3⟩ := setCells_rest D.toList w g 0
    exact ⟨r1, r2, r3, by rw [setCells_size]; exact Nat.le_refl _, fun k _ hk => setCells_out _ _ _ _ _ (by simpa using hk)⟩
  refine ⟨?_, ?_, c.fx (fun k hk _ => ?_), c⟩
  · intro j hj
    rw [Nat.zero_add, cell_of_block hg, unfrozen_of_block hg]
    refine ⟨?_, rfl⟩
    rw [Array.getElem?_eq_getElem (by omega)]
    rfl
  · rw [setCells_block _ _ _ _ _ _ _ hg, setAt_full (by omega)]
  · simp at hk
    subst hk
    exact (cells_prot hg hb rfl).2.2

theorem zer_all : (zerC : Array Value).all (·.oneCell') = true := by kernel_rfl
set_option maxHeartbeats 4000000 in
theorem ready_nil (w : World) (cs : Array Value) :
    Calls Tryz.prog 24 #[.pointer none, .agg cs] w fun e w' => e = .returned (.tuple #[.agg zerC, .int .i64 1]) ∧ Below w.heap.size w w' := by
  have mixed : Tryz.prog.follows .mixedOrders = true := by kernel_rfl
  obtain ⟨B, hB⟩ : ∃ B, B = w.heap.size := ⟨_, rfl⟩
  obtain ⟨wb, hwb⟩ : ∃ wb, wb = (w.alloc (.cells cs OT)).alloc (.cells zerC OT) := ⟨_, rfl⟩
  have G0 : Gr w wb := hwb ▸ ((Gr.refl w).alloc _).alloc _
  have b1 : wb.heap[B + 1]? = some (.cells zerC OT (0, 0)) := by
    rw [hwb, hB]
    simpa using heap_alloc_new (w.alloc (.cells cs OT)) (.cells zerC OT)
  obtain ⟨Z, hZ⟩ : ∃ Z, Z = (zerC : Array Value) := ⟨_, rfl⟩
  have hzs : Z.size = 47 := by rw [hZ]; rfl
  obtain ⟨th, n0, fx1, c1⟩ := store_ob (base := B + 1) b1 rfl hzs (Nat.le_refl _)
  have IN : Hid ((Tryz.prog.info? OT).map (·.size) = some Z.size) := by show _ = _; rw [hzs]; exact info_ob47
  have TH := Lib.hid th
  have ON : Hid (Z.all (·.oneCell') = true) := by show _ = _; rw [hZ]; exact zer_all
  have HZ := Lib.hid hZ
  obtain ⟨n, hn⟩ : ∃ n, n = wb.setCells (B + 1) 0 Z.toList := ⟨_, rfl⟩
  rw [← hn] at n0 fx1 c1
  have HN := Lib.hid hn
  have FIN : Hid (n.heap[B + 1]? = some (.cells Z OT (0, 0)) ∧ Below w.heap.size w n) := ⟨n0, ((Xb.ofGr G0 (B + 1)).trans ⟨c1.os, c1.tape, c1.output, c1.size, fun k hk hne => c1.block k hk (by simpa using hne)⟩).below (by omega) (Nat.le_refl _)⟩
  clear hZ hzs th n0 fx1 c1 hn b1 G0
  go_enter Tryz.func24, Tryz.ntmps24
  go_upto_region 2 with fail
  rw [← hwb, ← hB]
  clear hwb hB
  go_wp2_with (refine wpList_store_mid rfl _ _ _ rfl (B + 1) 0 Z (by rfl) (by rw [HZ.out]; rfl) TH.out IN.out ON.out ?_)
  rw [← HN.out]
  refine bodyPost_ret (results_row_tmp rfl _ _ (B + 1) OT Z (0, 0) _ (by rfl) FIN.out.1 Tryz.underlying51 rfl IN.out) rfl ?_
  exact ⟨by rw [HZ.out]; rfl, FIN.out.2⟩

set_option maxHeartbeats 4000000 in
theorem ready_any (base : Nat) (w : World) (sp : Nat) (cs : Array Value) (o : Ob) (hc : Kept base w cs o) (hb : base ≤ w.heap.size) :
    Calls Tryz.prog 24 #[.pointer (some ⟨sp, 0, none⟩), .agg cs] w fun e w' => (∃ D, e = .returned (.tuple #[.agg D, .int .i64 (chkE (dfl o))]) ∧ Kept base w' D (dfl o)) ∧ Below w.heap.size w w' := by
  have mixed : Tryz.prog.follows .mixedOrders = true := by kernel_rfl
  obtain ⟨B, hB⟩ : ∃ B, B = w.heap.size := ⟨_, rfl⟩
  obtain ⟨wb, hwb⟩ : ∃ wb, wb = (w.alloc (.cells cs OT)).alloc (.cells zerC OT) := ⟨_, rfl⟩
  have G0 : Gr w wb := hwb ▸ ((Gr.refl w).alloc _).alloc _
  have b0 : wb.heap[B]? = some (.cells cs OT (0, 0)) := by
    rw [hwb, hB, ((Gr.refl (w.alloc (.cells cs OT))).alloc _).heap (by simp)]
    exact heap_alloc_new w _
  have b1 : wb.heap[B + 1]? = some (.cells zerC OT (0, 0)) := by
    rw [hwb, hB]
    simpa using heap_alloc_new (w.alloc (.cells cs OT)) (.cells zerC OT)
  have hbs : wb.heap.size = B + 2 := by rw [hwb, hB]; simp
  have K0 := hc.fx (Fx.ofBelow (base := base) G0.below)
  have LO := Lib.hid (load_ob b0 hc.obj.1)
  have CD := Lib.hid (default_own wb cs o K0.obj K0.nil K0.small.small)
  have HH := Lib.hid (And.intro hc (And.intro K0 (And.intro hb (And.intro hwb (And.intro hB (And.intro G0 (And.intro b0 (And.intro b1 hbs))))))))
  clear hc K0 hb G0 b0 b1 hbs
  go_enter Tryz.func24, Tryz.ntmps24
  go_upto_region 3 with fail
  rw [← hwb, ← hB]
  clear hwb hB
  go_wp2_with (refine wpList_load_by (by kernel_rfl) OT _ rfl (.pointer (some ⟨B, 0, none⟩)) (.agg cs) (by kernel_rfl) LO.out ?_)
  refine CD.out.mono ?_
  rintro e m ⟨⟨D, rfl, vD, nD, oD⟩, hbl⟩
  obtain ⟨hc, K0, hb, hwb, hB, G0, b0, b1, hbs⟩ := HH.out
  have KD : Kept base m D (dfl o) := kept_own vD oD (tiny_dfl hc.small) (fits_dfl hc.fits hc.small)
  have m0 : m.heap[B]? = some (.cells cs OT (0, 0)) := (hbl.block B (by omega)).trans b0
  have m1 : m.heap[B + 1]? = some (.cells zerC OT (0, 0)) := (hbl.block (B + 1) (by omega)).trans b1
  have hsz : D.size = 47 := vD.1
  obtain ⟨th, n0, fx1, c1⟩ := store_ob (base := base) m0 hc.obj.1 hsz (by omega)
  obtain ⟨n, hn⟩ : ∃ n, n = m.setCells B 0 D.toList := ⟨_, rfl⟩
  rw [← hn] at n0 fx1 c1
  have n1 : n.heap[B + 1]? = some (.cells zerC OT (0, 0)) := (c1.block (B + 1) (by have := (Array.getElem?_eq_some_iff.1 m1).1; omega) (by simp)).trans m1
  have IN : Hid ((Tryz.prog.info? OT).map (·.size) = some D.size) := by show _ = _; rw [hsz]; exact info_ob47
  have TH := Lib.hid th
  have ON := Lib.hid (objV_one vD)
  have HN := Lib.hid hn
  have KN := KD.fx fx1
  have hB2 : Below w.heap.size w n := ((Xb.ofGr G0 B).trans ((Xb.ofBelow hbl B).trans ⟨c1.os, c1.tape, c1.output, c1.size, fun k hk hne => c1.block k hk (by simpa using hne)⟩)).below (by omega) (Nat.le_refl _)
  have KL : Hid (∀ ws : World, Below n.heap.size n ws → ws.rangeAt B 0 D.toList) := fun ws h => rangeAt_block ((h.block B (Array.getElem?_eq_some_iff.1 n0).1).trans n0)
  have hi : (Tryz.prog.info? OT).map (·.size) = some D.toList.length := by rw [Array.length_toList, hsz]; exact info_ob47
  have hu := Tryz.underlying51
  have HM := Lib.hid (And.intro KN (And.intro n0 (And.intro n1 (And.intro hB2 (And.intro hB (And.intro hb hsz))))))
  clear hc K0 hb hwb hB G0 b0 b1 hbs KD m0 m1 hsz th n0 fx1 c1 hn n1 KN hB2 vD nD oD hbl LO CD
  go_upto_region 4 with (refine wpList_store_mid rfl _ _ _ rfl B 0 D (by rfl) (by rfl) TH.out IN.out ON.out ?_)
  rw [← HN.out]
  clear TH HN
  obtain ⟨KN, n0, n1, hB2, hB, hb, hsz⟩ := HM.out
  have KS : Hid (∀ ws : World, (ws.heap[B]? = some (.cells D OT (0, 0))) → ws.rangeAt B 0 D.toList) := fun ws h => rangeAt_block h
  have S0 : Hid (n.drew.heap[B]? = some (.cells D OT (0, 0))) := by show _ = _; exact n0
  have KF : Hid (∀ v : World, Chg [B + 1] n v → Kept base v D (dfl o)) := fun v c => KN.fx (c.fx (fun g hg _ => by
    simp at hg
    subst hg
    exact (cells_prot n1 (by omega) rfl).2.2))
  have CC : Hid (∀ v : World, Chg [B + 1] n v → Calls Tryz.prog 42 #[.agg D] v fun e w' => e = .returned (.int .i64 (chkE (dfl o))) ∧ Gr v w') := fun v c => check_any v D (dfl o) (KF.out v c).obj (KF.out v c).fits
  have ST1 : Hid (∀ v : World, Chg [B + 1] n v → v.heap[B + 1]? = some (.cells zerC OT (0, 0)) → v.there (B + 1) 0 D.size ∧ (v.setCells (B + 1) 0 D.toList).heap[B + 1]? = some (.cells D OT (0, 0)) ∧ Chg [B + 1] n (v.setCells (B + 1) 0 D.toList)) := fun v c h => by
    obtain ⟨th, a1, a2, a3⟩ := store_ob (base := base) h rfl hsz (by omega)
    exact ⟨th, a1, c.trans a3 (fun g hg => .inl hg)⟩
  have BB : Hid (∀ v : World, Chg [B + 1] n v → v.heap[B]? = some (.cells D OT (0, 0)) ∧ Below w.heap.size w v) := fun v c => ⟨(c.block B (Array.getElem?_eq_some_iff.1 n0).1 (by simp)).trans n0, hB2.trans (c.below (fun g hg => by simp at hg; omega) (by have := hB2.size; omega))⟩
  have c0 : Chg [B + 1] n n.drew := Chg.ofGr ((Gr.refl n).drewN 1) _
  have hz1 : n.drew.heap[B + 1]? = some (.cells zerC OT (0, 0)) := n1
  have C0 := Lib.hid (And.intro c0 hz1)
  clear KN n0 n1 hB2 hB hb hsz HM c0 hz1 KL
  refine wp_region_held_drew (S := fun ws => ws.heap[B]? = some (.cells D OT (0, 0))) mixed S0.out (fun hS => ?_)
  refine wpAnyH_takeD (i := 0) (d := 11) (v := .agg D.toList.toArray) _ rfl rfl (by kernel_rfl) (by kernel_rfl) (by kernel_rfl) (fun _ _ _ h => h) (yieldsIf_load_mid (by kernel_rfl) _ _ rfl B 0 (by kernel_rfl) D.toList _ (fun ws hSw => KS.out ws hSw) hu rfl hi) hS ?_
  simp only [Act.put, List.setIfInBounds_toArray, List.set_cons_zero, List.set_cons_succ]
  refine wpAnyH_takeD (i := 1) (d := 12) (v := .agg D.toList.toArray) _ rfl rfl (by kernel_rfl) (by kernel_rfl) (by kernel_rfl) (fun _ _ _ h => h) (yieldsIf_load_mid (by kernel_rfl) _ _ rfl B 0 (by kernel_rfl) D.toList _ (fun ws hSw => KS.out ws hSw) hu rfl hi) hS ?_
  simp only [Act.put, List.setIfInBounds_toArray, List.set_cons_zero, List.set_cons_succ]
  refine wpAnyH_ready (rs := [2]) (by kernel_rfl) (by simp) ?_
  refine AllReadyH.cons rfl (fun K hK => ?_) AllReadyH.nil
  go_simp
  refine (CC.out _ C0.out.1).mono ?_
  rintro e w4 ⟨rfl, g4⟩
  have c4 : Chg [B + 1] n w4 := C0.out.1.trans (Chg.ofGr g4 []) (by simp)
  have z4 := (g4.heap (Array.getElem?_eq_some_iff.1 C0.out.2).1).trans C0.out.2
  obtain ⟨th, a1, a2⟩ := ST1.out w4 c4 z4
  obtain ⟨w5, hw5⟩ : ∃ W, W = w4.setCells (B + 1) 0 D.toList := ⟨_, rfl⟩
  rw [← hw5] at a1 a2
  have FIN : Hid (Kept base w5 D (dfl o) ∧ w5.heap[B]? = some (.cells D OT (0, 0)) ∧ Below w.heap.size w w5 ∧ w5.heap[B + 1]? = some (.cells D OT (0, 0))) := ⟨KF.out _ a2, (BB.out _ a2).1, (BB.out _ a2).2, a1⟩
  have TH := Lib.hid th
  have HW5 := Lib.hid hw5
  have hS4 := (BB.out _ c4).1
  refine hK _ _ hS4 (fun hS => ?_)
  clear c4 z4 th a1 a2 g4 hw5
  try simp only [Act.put, List.setIfInBounds_toArray, List.set_cons_zero, List.set_cons_succ]
  refine wpAnyH_ready (rs := [3]) (by kernel_rfl) (by simp) ?_
  refine AllReadyH.cons rfl (fun K hK => ?_) AllReadyH.nil
  rw [if_pos (by rfl)]
  refine wp_store_mid OT _ _ rfl (B + 1) 0 D (by rfl) (by rfl) TH.out IN.out ON.out ?_
  rw [← HW5.out]
  refine hK _ _ FIN.out.2.1 (fun hS => ?_)
  try simp only [Act.put, List.setIfInBounds_toArray, List.set_cons_zero, List.set_cons_succ]
  refine wpAnyH_takeD (i := 4) (d := 5) (v := .int .i64 (chkE (dfl o))) _ rfl rfl (by kernel_rfl) (by kernel_rfl) (by kernel_rfl) (fun _ _ _ h => h) (Or.inl ⟨by kernel_rfl, fun ws hSw => by first | (go_simp; done) | (go_simp; with_reducible rfl) | (go_simp; rfl)⟩) hS ?_
  simp only [Act.put, List.setIfInBounds_toArray, List.set_cons_zero, List.set_cons_succ]
  refine wpAnyH_done (by kernel_rfl) ?_ _
  go_wp2
  refine bodyPost_ret (results_row_tmp rfl _ _ (B + 1) OT D (0, 0) _ (by rfl) FIN.out.2.2.2 Tryz.underlying51 rfl IN.out) rfl ?_
  exact ⟨⟨D, rfl, FIN.out.1⟩, FIN.out.2.2.1⟩
end Go.Proofs.YtbkoepghmcdnhaaGreatDoor
/- Stores made; objects created, updated. -/
namespace Go.Proofs.YtbkoepghmcdnhaaGreatDoor
open Go.RowKit Go.Shelf Go.Lib Go.Sort
open Go.Joins (cell_of_block unfrozen_of_block block_setCell)
set_option linter.unusedVariables false
set_option linter.unusedSimpArgs false
set_option maxRecDepth 20000

set_option maxHeartbeats 4000000 in
theorem new_bad (w : World) (most : Int) (h : most < 1 ∨ 512 < most) :
    Calls Tryz.prog 10 #[.int .i64 most] w fun e w' => e = .returned (.tuple #[.pointer none, .int .i64 1]) ∧ Gr w w' := by
  have G := Lib.hid (Gr.refl w)
  by_cases h1 : most < 1
  · have t : decide (most < 1) = true := decide_eq_true h1
    clear h
    go_enter Tryz.func10, Tryz.ntmps10
    go_wp2
    refine bodyPost_ret (results_tmp2 rfl _ _ _) rfl ?_
    exact ⟨rfl, G.out⟩
  · have t : decide (most < 1) = false := decide_eq_false h1
    have t2 : decide (512 < most) = true := decide_eq_true (by omega)
    clear h
    go_enter Tryz.func10, Tryz.ntmps10
    go_wp2
    refine bodyPost_ret (results_tmp2 rfl _ _ _) rfl ?_
    exact ⟨rfl, G.out⟩
set_option maxHeartbeats 4000000 in
theorem new_any (base : Nat) (w : World) (most : Int) (h1 : 1 ≤ most) (h2 : most ≤ 512) (hb : base ≤ w.heap.size) :
    Calls Tryz.prog 10 #[.int .i64 most] w fun e w' => (∃ S sp, e = .returned (.tuple #[.pointer (some ⟨sp, 0, none⟩), .int .i64 0]) ∧ StIs base w' S sp most [] [] ∧ ∀ g ∈ S, w.heap.size ≤ g) ∧ Below w.heap.size w w' := by
  have t1 : decide (most < 1) = false := decide_eq_false (by omega)
  have t2 : decide (512 < most) = false := decide_eq_false (by omega)
  have G := Lib.hid (Gr.refl w)
  have HB := Lib.hid hb
  have mk := @run_makeMap Tryz.prog
  clear h1 h2 hb
  go_enter Tryz.func10, Tryz.ntmps10
  go_wp2
  refine bodyPost_ret (results_tmp2 rfl _ _ _) rfl ?_
  have e1 : ((w.alloc (.map #[] 0)).alloc (.cells (stC most 0 w.heap.size (.slice none 0 0)) ST)).heap[w.heap.size + 1]? = some (.cells (stC most 0 w.heap.size (.slice none 0 0)) ST (0, 0)) := by simpa using heap_alloc_new (w.alloc (.map #[] 0)) (.cells (stC most 0 w.heap.size (.slice none 0 0)) ST)
  refine ⟨⟨[w.heap.size + 1, w.heap.size], w.heap.size + 1, rfl, ⟨w.heap.size, .map [], .slice none 0 0, [], rfl, by have := HB.out; omega, HB.out, by have := HB.out; simp; omega, e1, ?_, World.ownsRow_nil _ _ _ _, ring_nil⟩, fun g hg => ?_⟩, ((G.out.alloc _).alloc _).below⟩
  · exact (MapIs.made base w).fx (((Gr.refl _).alloc _).heap (by simp)) (Fx.ofBelow ((Gr.refl _).alloc _).below)
  · simp at hg
    omega

/-- What Create is refused with; 0: it isn't. -/
def creE (d : Ob) (l : List Ob) (most : Int) : Int := if chkE d ≠ 0 then chkE d else if l.any (hit d.kind d.name) then 8 else if most ≤ (l.length : Int) then 10 else 0
theorem ok_chk {d : Ob} (h : chkE d = 0) (F : FitsO d) : OkK d := by
  have h1 : withinB d.kind 0 4 = true := by
    cases hw : withinB d.kind 0 4 with
    | true => rfl
    | false => rw [chkE, if_pos hw] at h; cases h
  have hf := F.name
  unfold withinB at h1
  unfold ftT at hf
  simp at h1 hf
  exact ⟨by unfold I64; omega, by unfold maxLen; omega, h⟩

set_option maxHeartbeats 4000000 in
theorem create_bad (base : Nat) (w : World) (sp : Nat) (cs : Array Value) (o : Ob) (hc : Kept base w cs o) (hb : base ≤ w.heap.size) (he : chkE (dfl o) ≠ 0) :
    Calls Tryz.prog 12 #[.pointer (some ⟨sp, 0, none⟩), .agg cs] w fun e w' => e = .returned (.tuple #[.int .u64 0, .int .i64 (chkE (dfl o))]) ∧ Below w.heap.size w w' := by
  have mixed : Tryz.prog.follows .mixedOrders = true := by kernel_rfl
  obtain ⟨B, hB⟩ : ∃ B, B = w.heap.size := ⟨_, rfl⟩
  obtain ⟨wb, hwb⟩ : ∃ wb, wb = w.alloc (.cells cs OT) := ⟨_, rfl⟩
  have G0 : Gr w wb := hwb ▸ (Gr.refl w).alloc _
  have b0 : wb.heap[B]? = some (.cells cs OT (0, 0)) := by rw [hwb, hB]; exact heap_alloc_new w _
  have hbs : wb.heap.size = B + 1 := by rw [hwb, hB]; simp
  have LO := Lib.hid (load_ob b0 hc.obj.1)
  have K0 := hc.fx (Fx.ofBelow (base := base) G0.below)
  have CR := Lib.hid (ready_any base wb sp cs o K0 (by omega))
  have HH := Lib.hid (And.intro hc (And.intro hb (And.intro hwb (And.intro hB (And.intro G0 (And.intro b0 hbs))))))
  have te : (chkE (dfl o) != 0) = true := by simpa using he
  generalize chkE (dfl o) = ce at *
  clear hc hb G0 b0 hbs K0 he
  go_enter Tryz.func12, Tryz.ntmps12
  go_upto_region 1 with fail
  rw [← hwb, ← hB]
  clear hwb hB
  go_wp2_with (refine wpList_load_by (by kernel_rfl) OT _ rfl (.pointer (some ⟨B, 0, none⟩)) (.agg cs) (by kernel_rfl) LO.out ?_)
  refine CR.out.mono ?_
  rintro e m ⟨⟨D, rfl, KD⟩, hbl⟩
  obtain ⟨hc, hb, hwb, hB, G0, b0, hbs⟩ := HH.out
  have m0 : m.heap[B]? = some (.cells cs OT (0, 0)) := (hbl.block B (by omega)).trans b0
  obtain ⟨th, n0, fx1, c1⟩ := store_ob (base := base) m0 hc.obj.1 KD.obj.1 (by omega)
  obtain ⟨n, hn⟩ : ∃ n, n = m.setCells B 0 D.toList := ⟨_, rfl⟩
  rw [← hn] at n0 fx1 c1
  have IN : Hid ((Tryz.prog.info? OT).map (·.size) = some D.size) := by show _ = _; rw [KD.obj.1]; exact info_ob47
  have TH := Lib.hid th
  have ON := Lib.hid (objV_one KD.obj)
  have HN := Lib.hid hn
  have FIN : Hid (Below w.heap.size w n) := ((Xb.ofGr G0 B).trans ((Xb.ofBelow hbl B).trans ⟨c1.os, c1.tape, c1.output, c1.size, fun k hk hne => c1.block k hk (by simpa using hne)⟩)).below (by omega) (Nat.le_refl _)
  clear hc hb hwb hB G0 b0 hbs m0 th n0 fx1 c1 hn KD hbl LO CR HH
  go_wp2_with (refine wpList_store_mid rfl _ _ _ rfl B 0 D (by rfl) (by rfl) TH.out IN.out ON.out ?_; rw [← HN.out])
  refine bodyPost_ret (results_tmp2 rfl _ _ _) rfl ?_
  exact ⟨rfl, FIN.out⟩
end Go.Proofs.YtbkoepghmcdnhaaGreatDoor
/- Objects created. -/
namespace Go.Proofs.YtbkoepghmcdnhaaGreatDoor
open Go.RowKit Go.Shelf Go.Lib Go.Sort
open Go.Joins (cell_of_block unfrozen_of_block block_setCell)
set_option linter.unusedVariables false
set_option linter.unusedSimpArgs false
set_option maxRecDepth 20000

set_option maxHeartbeats 4000000 in
theorem create_any (base : Nat) (w : World) (S : List Nat) (sp : Nat) (most : Int) (l : List Ob) (hist : List Ev) (cs : Array Value) (o : Ob) (hs : StIs base w S sp most l hist) (hc : Kept base w cs o) (hn : hist.length < 1000000) (he : chkE (dfl o) = 0) :
    Calls Tryz.prog 12 #[.pointer (some ⟨sp, 0, none⟩), .agg cs] w fun e w' =>
      (creE (dfl o) l most ≠ 0 ∧ e = .returned (.tuple #[.int .u64 0, .int .i64 (creE (dfl o) l most)]) ∧ Below w.heap.size w w') ∨
      (creE (dfl o) l most = 0 ∧ e = .returned (.tuple #[.int .u64 ((hist.length + 1 : Nat) : Int), .int .i64 0]) ∧ After base w w' S sp most (put l (setV (dfl o) (hist.length + 1))) (hist ++ [⟨0, (dfl o).kind, (dfl o).name, hist.length + 1⟩])) := by
  have mixed : Tryz.prog.follows .mixedOrders = true := by kernel_rfl
  obtain ⟨B, hB⟩ : ∃ B, B = w.heap.size := ⟨_, rfl⟩
  obtain ⟨wb, hwb⟩ : ∃ wb, wb = w.alloc (.cells cs OT) := ⟨_, rfl⟩
  have hb : base ≤ w.heap.size := by obtain ⟨_, _, _, _, h⟩ := hs; exact h.bw
  have G0 : Gr w wb := hwb ▸ (Gr.refl w).alloc _
  have b0 : wb.heap[B]? = some (.cells cs OT (0, 0)) := by rw [hwb, hB]; exact heap_alloc_new w _
  have hbs : wb.heap.size = B + 1 := by rw [hwb, hB]; simp
  have LO := Lib.hid (load_ob b0 hc.obj.1)
  have K0 := hc.fx (Fx.ofBelow (base := base) G0.below)
  have CR := Lib.hid (ready_any base wb sp cs o K0 (by omega))
  have HH := Lib.hid (And.intro hc (And.intro hb (And.intro hwb (And.intro hB (And.intro G0 (And.intro b0 (And.intro hbs hs)))))))
  have HE := Lib.hid he
  rw [he] at CR
  clear hc hb G0 b0 hbs K0 hs he
  obtain ⟨d, hd⟩ : ∃ d, d = dfl o := ⟨_, rfl⟩
  rw [← hd] at HE CR ⊢
  clear hd
  go_enter Tryz.func12, Tryz.ntmps12
  go_upto_region 1 with fail
  rw [← hwb, ← hB]
  clear hwb hB
  go_wp2_with (refine wpList_load_by (by kernel_rfl) OT _ rfl (.pointer (some ⟨B, 0, none⟩)) (.agg cs) (by kernel_rfl) LO.out ?_)
  refine CR.out.mono ?_
  rintro e m ⟨⟨D, rfl, KD⟩, hbl⟩
  obtain ⟨hc, hb, hwb, hB, G0, b0, hbs, hs⟩ := HH.out
  have m0 : m.heap[B]? = some (.cells cs OT (0, 0)) := (hbl.block B (by omega)).trans b0
  obtain ⟨th, n0, fx1, c1⟩ := store_ob (base := base) m0 hc.obj.1 KD.obj.1 (by omega)
  obtain ⟨n, hn'⟩ : ∃ n, n = m.setCells B 0 D.toList := ⟨_, rfl⟩
  rw [← hn'] at n0 fx1 c1
  have IN : Hid ((Tryz.prog.info? OT).map (·.size) = some D.size) := by show _ = _; rw [KD.obj.1]; exact info_ob47
  have TH := Lib.hid th
  have ON := Lib.hid (objV_one KD.obj)
  have HN := Lib.hid hn'
  have KN := KD.fx fx1
  have BN : Below w.heap.size w n := ((Xb.ofGr G0 B).trans ((Xb.ofBelow hbl B).trans ⟨c1.os, c1.tape, c1.output, c1.size, fun k hk hne => c1.block k hk (by simpa using hne)⟩)).below (by omega) (Nat.le_refl _)
  have SN := hs.gr BN
  have hBw : B = w.heap.size := hB
  have HM := Lib.hid (And.intro KN (And.intro n0 (And.intro BN (And.intro SN (And.intro hs hBw)))))
  clear hc hb hwb hB G0 b0 hbs m0 th n0 fx1 c1 hn' KD hbl LO CR HH KN BN SN hs hBw
  go_upto_region 4 with (refine wpList_store_mid rfl _ _ _ rfl B 0 D (by rfl) (by rfl) TH.out IN.out ON.out ?_; rw [← HN.out])
  clear TH HN
  obtain ⟨KN, n0, BN, SN, hs, hBw⟩ := HM.out
  obtain ⟨mb, Dm, ev, kept, h⟩ := SN
  have okd : OkK d := ok_chk HE.out KN.fits
  obtain ⟨th, V, hV, hth, LK, hfind⟩ : ∃ th V, V.size = 47 ∧ l.any (hit d.kind d.name) = th ∧ (∀ ws : World, ws.heap[mb]? = n.heap[mb]? → (Instr.lookup MT (.map (some mb)) (thing d.kind d.name) true).run Tryz.prog ws = .ok (.tuple #[.agg V, .bool th]) ws) ∧ (∀ x, l.find? (hit d.kind d.name) = some x → Kept base n V x) := by
    rcases h.map.look okd.1 okd.2 with ⟨a1, a2, a3⟩ | ⟨x, cx, a1, a2, a3, a4⟩
    · exact ⟨false, zerC, rfl, a1, a3, fun x hx => by rw [a2] at hx; cases hx⟩
    · exact ⟨true, cx, a3.obj.1, a1, a4, fun y hy => by rw [a2] at hy; cases hy; exact a3⟩
  have hVo : V.all (·.oneCell') = true := by
    by_cases e : th = true
    · subst e
      obtain ⟨x, hx⟩ := Option.isSome_iff_exists.1 (show (l.find? (hit d.kind d.name)).isSome = true by rw [List.find?_isSome]; simpa using hth)
      exact objV_one (hfind x hx).obj
    · rcases h.map.look okd.1 okd.2 with ⟨a1, a2, a3⟩ | ⟨x, cx, a1, a2, a3, a4⟩
      · have e1 := LK n rfl
        rw [a3 n rfl] at e1
        simp only [Result.ok.injEq, Value.tuple.injEq, and_true] at e1
        have e2 := congrArg Array.toList e1
        simp at e2
        rw [← e2.1]
        exact zer_all
      · rw [a1] at hth; exact absurd hth.symm e
  have hmc : n.cell? ⟨sp, 2, none⟩ = some (.map (some mb)) := cell_of_block h.blk 2
  have hml : mb < n.heap.size := (map_prot h.map h.bmb).2.1
  have hspl : sp < n.heap.size := (Array.getElem?_eq_some_iff.1 h.blk).1
  have hBl : B < n.heap.size := (Array.getElem?_eq_some_iff.1 n0).1
  have KB : Hid (∀ ws : World, Below n.heap.size n ws → ws.cell? ⟨sp, 2, none⟩ = some (.map (some mb))) := fun ws b => (World.cell?_of_block (b.block sp hspl)).trans hmc
  have KL : Hid (∀ ws : World, Below n.heap.size n ws → ws.rangeAt B 0 D.toList) := fun ws b => rangeAt_block ((b.block B hBl).trans n0)
  have KK : Hid (∀ ws : World, Below n.heap.size n ws → (Instr.lookup MT (.map (some mb)) (thing d.kind d.name) true).run Tryz.prog ws = .ok (.tuple #[.agg V, .bool th]) ws) := fun ws b => LK ws (b.block mb hml)
  have hi : (Tryz.prog.info? OT).map (·.size) = some D.toList.length := by rw [Array.length_toList, KN.obj.1]; exact info_ob47
  have hu := Tryz.underlying51
  have CK : Hid (∀ ws : World, Below n.heap.size n ws → Calls Tryz.prog 25 #[.agg D] ws fun e w' => e = .returned (thing d.kind d.name) ∧ Below n.heap.size n w' ∧ Gr ws w') := fun ws b =>
    (key_any ws D d.kind d.name KN.obj.2.1.1 KN.obj.2.1.2.1).mono fun e w' h => ⟨h.1, ⟨h.2.below.os.trans b.os, h.2.below.tape.trans b.tape, h.2.below.output.trans b.output, Nat.le_trans b.size h.2.below.size, fun k hk => (h.2.heap (Nat.lt_of_lt_of_le hk b.size)).trans (b.block k hk)⟩, h.2⟩
  have S0 : Hid (Below n.heap.size n n.drew) := ((Gr.refl n).drewN 1).below
  have IV : Hid ((Tryz.prog.info? OT).map (·.size) = some V.size) := by show _ = _; rw [hV]; exact info_ob47
  have OV := Lib.hid hVo
  have AL : Hid (∀ v : World, Below n.heap.size n v → Below n.heap.size n (v.alloc (.cells zerC OT))) := fun v b => b.alloc b.size _
  have SV : Hid (∀ (v : World) (A : Nat), Below n.heap.size n v → n.heap.size ≤ A → v.heap[A]? = some (.cells zerC OT (0, 0)) → v.there A 0 V.size ∧ (v.setCells A 0 V.toList).heap[A]? = some (.cells V OT (0, 0)) ∧ Below n.heap.size n (v.setCells A 0 V.toList)) := fun v A b hA hz => by
    obtain ⟨a1, a2, a3, a4⟩ := store_ob (base := A) hz rfl hV (Nat.le_refl _)
    exact ⟨a1, a2, b.trans (a4.below (fun g hg => by simp at hg; omega) b.size)⟩
  have HT := Lib.hid (And.intro h (And.intro okd (And.intro hth hfind)))
  clear KN n0 BN hs h okd hV hVo hth LK hfind hmc hml hspl hBl hBw
  go_cut [7, 8] from 18 to 27 (fun v7 v8 wc => ∃ A, v7 = .pointer (some ⟨A, 0, none⟩) ∧ v8 = .bool th ∧ Hid (n.heap.size ≤ A ∧ wc.heap[A]? = some (.cells V OT (0, 0)) ∧ Below n.heap.size n wc))
  case first =>
    refine wp_region_held_drew (S := fun ws => Below n.heap.size n ws) mixed S0.out (fun hS => ?_)
    refine wpAnyH_takeD (i := 0) (d := 19) (v := .pointer (some ⟨sp, 0, none⟩)) _ rfl rfl (by kernel_rfl) (by kernel_rfl) (by kernel_rfl) (fun _ _ _ h => h) (Or.inl ⟨by kernel_rfl, fun ws hSw => by first | (go_simp; done) | (go_simp; with_reducible rfl) | (go_simp; rfl)⟩) hS ?_
    simp only [Act.put, List.setIfInBounds_toArray, List.set_cons_zero, List.set_cons_succ]
    refine wpAnyH_takeD (i := 1) (d := 20) (v := .pointer (some ⟨sp, 0, none⟩)) _ rfl rfl (by kernel_rfl) (by kernel_rfl) (by kernel_rfl) (fun _ _ _ h => h) (Or.inl ⟨by kernel_rfl, fun ws hSw => by first | (go_simp; done) | (go_simp; with_reducible rfl) | (go_simp; rfl)⟩) hS ?_
    simp only [Act.put, List.setIfInBounds_toArray, List.set_cons_zero, List.set_cons_succ]
    refine wpAnyH_takeD (i := 2) (d := 21) (v := .pointer (some ⟨sp, 2, none⟩)) _ rfl rfl (by kernel_rfl) (by kernel_rfl) (by kernel_rfl) (fun _ _ _ h => h) (Or.inl ⟨by kernel_rfl, fun ws hSw => by first | (go_simp; done) | (go_simp; with_reducible rfl) | (go_simp; rfl)⟩) hS ?_
    simp only [Act.put, List.setIfInBounds_toArray, List.set_cons_zero, List.set_cons_succ]
    refine wpAnyH_takeD (i := 3) (d := 22) (v := .map (some mb)) _ rfl rfl (by kernel_rfl) (by kernel_rfl) (by kernel_rfl) (fun _ _ _ h => h) (Or.inl ⟨by kernel_rfl, fun ws hSw => by have q := KB.out ws hSw; first | (go_simp; done) | (go_simp; with_reducible rfl) | (go_simp; rfl)⟩) hS ?_
    simp only [Act.put, List.setIfInBounds_toArray, List.set_cons_zero, List.set_cons_succ]
    refine wpAnyH_takeD (i := 4) (d := 23) (v := .agg D.toList.toArray) _ rfl rfl (by kernel_rfl) (by kernel_rfl) (by kernel_rfl) (fun _ _ _ h => h) (yieldsIf_load_mid (by kernel_rfl) _ _ rfl B 0 (by kernel_rfl) D.toList _ (fun ws hSw => KL.out ws hSw) hu rfl hi) hS ?_
    simp only [Act.put, List.setIfInBounds_toArray, List.set_cons_zero, List.set_cons_succ]
    refine wpAnyH_ready (rs := [5, 10]) (by kernel_rfl) (by simp) ?_
    refine AllReadyH.cons rfl (fun K hK => ?_) (AllReadyH.cons rfl (fun K hK => ?_) AllReadyH.nil)
    · go_simp
      refine (CK.out _ hS).mono ?_
      rintro e w4 ⟨rfl, b4, g4⟩
      refine hK _ _ b4 (fun hS => ?_)
      try simp only [Act.put, List.setIfInBounds_toArray, List.set_cons_zero, List.set_cons_succ]
      refine wpAnyH_takeD (i := 6) (d := 25) (v := .tuple #[.agg V, .bool th]) _ rfl rfl (by kernel_rfl) (by kernel_rfl) (by kernel_rfl) (fun _ _ _ h => h) (Or.inl ⟨by kernel_rfl, fun ws hSw => by have q := KK.out ws hSw; first | (go_simp; done) | (go_simp; with_reducible rfl) | (go_simp; rfl)⟩) hS ?_
      simp only [Act.put, List.setIfInBounds_toArray, List.set_cons_zero, List.set_cons_succ]
      refine wpAnyH_takeD (i := 7) (d := 18) (v := .tuple #[.agg V, .bool th]) _ rfl rfl (by kernel_rfl) (by kernel_rfl) (by kernel_rfl) (fun _ _ _ h => h) (Or.inl ⟨by kernel_rfl, fun ws hSw => by first | (go_simp; done) | (go_simp; with_reducible rfl) | (go_simp; rfl)⟩) hS ?_
      simp only [Act.put, List.setIfInBounds_toArray, List.set_cons_zero, List.set_cons_succ]
      refine wpAnyH_takeD (i := 8) (d := 26) (v := .agg V) _ rfl rfl (by kernel_rfl) (by kernel_rfl) (by kernel_rfl) (fun _ _ _ h => h) (Or.inl ⟨by kernel_rfl, fun ws hSw => by first | (go_simp; done) | (go_simp; with_reducible rfl) | (go_simp; rfl)⟩) hS ?_
      simp only [Act.put, List.setIfInBounds_toArray, List.set_cons_zero, List.set_cons_succ]
      refine wpAnyH_takeD (i := 9) (d := 27) (v := .bool th) _ rfl rfl (by kernel_rfl) (by kernel_rfl) (by kernel_rfl) (fun _ _ _ h => h) (Or.inl ⟨by kernel_rfl, fun ws hSw => by first | (go_simp; done) | (go_simp; with_reducible rfl) | (go_simp; rfl)⟩) hS ?_
      simp only [Act.put, List.setIfInBounds_toArray, List.set_cons_zero, List.set_cons_succ]
      refine wpAnyH_ready (rs := [10]) (by kernel_rfl) (by simp) ?_
      refine AllReadyH.cons rfl (fun K hK => ?_) AllReadyH.nil
      go_simp
      refine hK _ _ (AL.out _ hS) (fun hS => ?_)
      try simp only [Act.put, List.setIfInBounds_toArray, List.set_cons_zero, List.set_cons_succ]
      obtain ⟨A, hA⟩ : ∃ A, A = w4.heap.size := ⟨_, rfl⟩
      obtain ⟨w5, hw5⟩ : ∃ W, W = w4.alloc (.cells zerC OT) := ⟨_, rfl⟩
      have z5 : w5.heap[A]? = some (.cells zerC OT (0, 0)) := by rw [hw5, hA]; exact heap_alloc_new w4 _
      have hA2 : n.heap.size ≤ A := by rw [hA]; exact b4.size
      rw [← hw5] at hS ⊢
      rw [← hA]
      obtain ⟨th1, a1, a2⟩ := SV.out w5 A hS hA2 z5
      obtain ⟨w6, hw6⟩ : ∃ W, W = w5.setCells A 0 V.toList := ⟨_, rfl⟩
      rw [← hw6] at a1 a2
      have FIN : Hid (n.heap.size ≤ A ∧ w6.heap[A]? = some (.cells V OT (0, 0)) ∧ Below n.heap.size n w6) := ⟨hA2, a1, a2⟩
      have TH := Lib.hid th1
      have HW6 := Lib.hid hw6
      clear th1 a1 a2 hw6 z5 hA2 hw5 hA
      refine wpAnyH_ready (rs := [11]) (by kernel_rfl) (by simp) ?_
      refine AllReadyH.cons rfl (fun K hK => ?_) AllReadyH.nil
      rw [if_pos (by rfl)]
      refine wp_store_mid OT _ _ rfl A 0 V (by rfl) (by rfl) TH.out IV.out OV.out ?_
      rw [← HW6.out]
      refine hK _ _ FIN.out.2.2 (fun hS => ?_)
      try simp only [Act.put, List.setIfInBounds_toArray, List.set_cons_zero, List.set_cons_succ]
      refine wpAnyH_takeD (i := 12) (d := 8) (v := .bool th) _ rfl rfl (by kernel_rfl) (by kernel_rfl) (by kernel_rfl) (fun _ _ _ h => h) (Or.inl ⟨by kernel_rfl, fun ws hSw => by first | (go_simp; done) | (go_simp; with_reducible rfl) | (go_simp; rfl)⟩) hS ?_
      simp only [Act.put, List.setIfInBounds_toArray, List.set_cons_zero, List.set_cons_succ]
      refine wpAnyH_done (by kernel_rfl) ?_ _
      go_wp2_with fail
      go_meet
      case rel => exact ⟨A, rfl, rfl, FIN⟩

    · go_simp
      refine hK _ _ (AL.out _ hS) (fun hS => ?_)
      obtain ⟨w3, hw3⟩ : ∃ W, W = (n.alloc (.cells zerC OT)).drew := ⟨_, rfl⟩
      have z3 : w3.heap[n.heap.size]? = some (.cells zerC OT (0, 0)) := by rw [hw3]; exact heap_alloc_new n _
      rw [← hw3] at hS
      rw [← hw3]
      have hA2 : Hid (n.heap.size ≤ n.heap.size ∧ n.heap.size < w3.heap.size ∧ w3.heap[n.heap.size]? = some (.cells zerC OT (0, 0))) := ⟨Nat.le_refl _, (Array.getElem?_eq_some_iff.1 z3).1, z3⟩
      clear hw3 z3
      try simp only [Act.put, List.setIfInBounds_toArray, List.set_cons_zero, List.set_cons_succ]
      refine wpAnyH_ready (rs := [5]) (by kernel_rfl) (by simp) ?_
      refine AllReadyH.cons rfl (fun K hK => ?_) AllReadyH.nil
      go_simp
      refine (CK.out _ hS).mono ?_
      rintro e w5 ⟨rfl, b4, g4⟩
      have z5 : w5.heap[n.heap.size]? = some (.cells zerC OT (0, 0)) := (g4.heap hA2.out.2.1).trans hA2.out.2.2
      refine hK _ _ b4 (fun hS => ?_)
      have hA2 := hA2.out.1
      try simp only [Act.put, List.setIfInBounds_toArray, List.set_cons_zero, List.set_cons_succ]
      refine wpAnyH_takeD (i := 6) (d := 25) (v := .tuple #[.agg V, .bool th]) _ rfl rfl (by kernel_rfl) (by kernel_rfl) (by kernel_rfl) (fun _ _ _ h => h) (Or.inl ⟨by kernel_rfl, fun ws hSw => by have q := KK.out ws hSw; first | (go_simp; done) | (go_simp; with_reducible rfl) | (go_simp; rfl)⟩) hS ?_
      simp only [Act.put, List.setIfInBounds_toArray, List.set_cons_zero, List.set_cons_succ]
      refine wpAnyH_takeD (i := 7) (d := 18) (v := .tuple #[.agg V, .bool th]) _ rfl rfl (by kernel_rfl) (by kernel_rfl) (by kernel_rfl) (fun _ _ _ h => h) (Or.inl ⟨by kernel_rfl, fun ws hSw => by first | (go_simp; done) | (go_simp; with_reducible rfl) | (go_simp; rfl)⟩) hS ?_
      simp only [Act.put, List.setIfInBounds_toArray, List.set_cons_zero, List.set_cons_succ]
      refine wpAnyH_takeD (i := 8) (d := 26) (v := .agg V) _ rfl rfl (by kernel_rfl) (by kernel_rfl) (by kernel_rfl) (fun _ _ _ h => h) (Or.inl ⟨by kernel_rfl, fun ws hSw => by first | (go_simp; done) | (go_simp; with_reducible rfl) | (go_simp; rfl)⟩) hS ?_
      simp only [Act.put, List.setIfInBounds_toArray, List.set_cons_zero, List.set_cons_succ]
      refine wpAnyH_takeD (i := 9) (d := 27) (v := .bool th) _ rfl rfl (by kernel_rfl) (by kernel_rfl) (by kernel_rfl) (fun _ _ _ h => h) (Or.inl ⟨by kernel_rfl, fun ws hSw => by first | (go_simp; done) | (go_simp; with_reducible rfl) | (go_simp; rfl)⟩) hS ?_
      simp only [Act.put, List.setIfInBounds_toArray, List.set_cons_zero, List.set_cons_succ]
      obtain ⟨th1, a1, a2⟩ := SV.out w5 n.heap.size hS hA2 z5
      obtain ⟨w6, hw6⟩ : ∃ W, W = w5.setCells n.heap.size 0 V.toList := ⟨_, rfl⟩
      rw [← hw6] at a1 a2
      have FIN : Hid (n.heap.size ≤ n.heap.size ∧ w6.heap[n.heap.size]? = some (.cells V OT (0, 0)) ∧ Below n.heap.size n w6) := ⟨hA2, a1, a2⟩
      have TH := Lib.hid th1
      have HW6 := Lib.hid hw6
      clear th1 a1 a2 hw6 z5 hA2 g4
      refine wpAnyH_ready (rs := [11]) (by kernel_rfl) (by simp) ?_
      refine AllReadyH.cons rfl (fun K hK => ?_) AllReadyH.nil
      rw [if_pos (by rfl)]
      refine wp_store_mid OT _ _ rfl n.heap.size 0 V (by rfl) (by rfl) TH.out IV.out OV.out ?_
      rw [← HW6.out]
      refine hK _ _ FIN.out.2.2 (fun hS => ?_)
      try simp only [Act.put, List.setIfInBounds_toArray, List.set_cons_zero, List.set_cons_succ]
      refine wpAnyH_takeD (i := 12) (d := 8) (v := .bool th) _ rfl rfl (by kernel_rfl) (by kernel_rfl) (by kernel_rfl) (fun _ _ _ h => h) (Or.inl ⟨by kernel_rfl, fun ws hSw => by first | (go_simp; done) | (go_simp; with_reducible rfl) | (go_simp; rfl)⟩) hS ?_
      simp only [Act.put, List.setIfInBounds_toArray, List.set_cons_zero, List.set_cons_succ]
      refine wpAnyH_done (by kernel_rfl) ?_ _
      go_wp2_with fail
      go_meet
      case rel => exact ⟨n.heap.size, rfl, rfl, FIN⟩
  case rest =>
    obtain ⟨A, rfl, rfl, HA⟩ := hcut
    obtain ⟨h, okd, hth, hfind⟩ := HT.out
    obtain ⟨KN, n0, BN, SN, hs, hBw⟩ := HM.out
    obtain ⟨hA, hA2, bc⟩ := HA.out
    have BW : Below w.heap.size w wc := BN.trans (bc.mono BN.size)
    have SW : StIs base wc S sp most l hist := hs.gr BW
    have KW : Kept base wc D d := KN.fx (Fx.ofBelow bc)
    have hCre : creE d l most = if l.any (hit d.kind d.name) then 8 else if most ≤ (l.length : Int) then 10 else 0 := if_neg (by rw [HE.out]; exact fun h => h rfl)
    rw [hth] at hCre
    cases th with
    | true =>
      have FIN : Hid (creE d l most = 8 ∧ Below w.heap.size w wc) := ⟨hCre, BW⟩
      clear h okd hth hfind KN n0 BN SN hs hBw hA hA2 bc BW SW KW hCre HT HM HA KB KL KK CK S0 IV OV AL SV hi hu IN ON HE
      go_wp2
      refine bodyPost_ret (results_tmp2 rfl _ _ _) rfl ?_
      exact .inl ⟨by rw [FIN.out.1]; decide, by rw [FIN.out.1]; rfl, FIN.out.2⟩
    | false =>
      obtain ⟨es, ck, hb, F, hes, hD⟩ := h.map.own
      have hmb : wc.heap[mb]? = some (.map es ck) := (bc.block mb (Array.getElem?_eq_some_iff.1 hb).1).trans hb
      have own2 : wc.drew.ownsMap Tryz.prog KT hR mb hist.length Dm := ⟨es, ck, hmb, F, hes, hD⟩
      have hlen := own2.len mapT 3
      rw [h.map.size] at hlen
      have hblk : wc.heap[sp]? = some (.cells (stC most hist.length mb ev) ST (0, 0)) := (bc.block sp (Array.getElem?_eq_some_iff.1 h.blk).1).trans h.blk
      have c0 : wc.cell? ⟨sp, 0, none⟩ = some (.int .i64 most) := cell_of_block hblk 0
      have c2 : wc.cell? ⟨sp, 2, none⟩ = some (.map (some mb)) := cell_of_block hblk 2
      have nB : wc.heap[B]? = some (.cells D OT (0, 0)) := (bc.block B (Array.getElem?_eq_some_iff.1 n0).1).trans n0
      by_cases hm : most ≤ (l.length : Int)
      · have t : decide (most ≤ (l.length : Int)) = true := decide_eq_true hm
        have FIN : Hid (creE d l most = 10 ∧ Below w.heap.size w wc.drew) := ⟨by rw [hCre]; exact if_pos hm, BW.drew⟩
        clear h okd hth hfind KN n0 BN SN hs hBw hA hA2 bc BW SW KW hCre HT HM HA KB KL KK CK S0 IV OV AL SV hi hu IN ON HE hb F hes hD hm hblk nB hmb own2
        go_upto_region 7 with fail
        go_region
        all_goals
          go_wp2
          refine bodyPost_ret (results_tmp2 rfl _ _ _) rfl ?_
          exact .inl ⟨by rw [FIN.out.1]; decide, by rw [FIN.out.1]; rfl, FIN.out.2⟩
      · have t : decide (most ≤ (l.length : Int)) = false := decide_eq_false hm
        have LO := Lib.hid (load_ob (w := wc.drew) nB KW.obj.1)
        have gd : Gr wc wc.drew := (Gr.refl wc).drewN 1
        have CP := Lib.hid (put_any base wc.drew S sp most 0 l hist D d (SW.gr gd.below) (KW.fx (Fx.ofBelow gd.below)) okd hn)
        have FIN : Hid (creE d l most = 0 ∧ Below w.heap.size w wc.drew) := ⟨by rw [hCre]; exact if_neg hm, BW.drew⟩
        clear h okd hth hfind KN n0 BN SN hs hBw hA hA2 bc BW SW KW hCre HT HM HA KB KL KK CK S0 IV OV AL SV hi hu IN ON HE hb F hes hD hm hblk nB hmb own2 gd
        go_upto_region 7 with fail
        go_region
        all_goals
          go_wp2_with (refine wpList_load_by (by kernel_rfl) OT _ rfl (.pointer (some ⟨B, 0, none⟩)) (.agg D) (by kernel_rfl) LO.out ?_)
          refine CP.out.mono ?_
          rintro e w9 ⟨rfl, S9, a1, a2, a3⟩
          have R := Lib.hid (And.intro a1 (And.intro a2 a3))
          clear a1 a2 a3
          go_wp2
          refine bodyPost_ret (results_tmp2 rfl _ _ _) rfl ?_
          exact .inr ⟨FIN.out.1, rfl, S9, R.out.1, (Chg.ofBelow FIN.out.2 S).trans R.out.2.1 (fun g hg => .inl hg), fun g hg => (R.out.2.2 g hg).imp id (fun h => Nat.le_trans FIN.out.2.size h)⟩
end Go.Proofs.YtbkoepghmcdnhaaGreatDoor
/- Objects updated (by wip/tools/genstu.py). -/
namespace Go.Proofs.YtbkoepghmcdnhaaGreatDoor
open Go.RowKit Go.Shelf Go.Lib Go.Sort
open Go.Joins (cell_of_block unfrozen_of_block block_setCell)
set_option linter.unusedVariables false
set_option linter.unusedSimpArgs false
set_option maxRecDepth 20000

/-- What Update is refused with; 0: it isn't. -/
def updE (d : Ob) (l : List Ob) : Int := if chkE d ≠ 0 then chkE d else match l.find? (hit d.kind d.name) with | none => 7 | some x => if d.ver ≠ x.ver then 9 else 0

end Go.Proofs.YtbkoepghmcdnhaaGreatDoor
/- The law's example. -/
namespace Go.Proofs.YtbkoepghmcdnhaaGreatDoor
open Go.RowKit Go.Shelf Go.Lib Go.Sort
open Go.Joins (cell_of_block unfrozen_of_block block_setCell)
set_option linter.unusedVariables false
set_option linter.unusedSimpArgs false
set_option maxRecDepth 20000

def nnO (nm : ByteArray) (ver : Nat) : Ob := ⟨2, nm, ver, zerO.w, zerO.p, ⟨⟨#[]⟩, 1, 0, [], [], 0, false⟩, zerO.g, zerO.h⟩
abbrev nnC (nm : ByteArray) (ver : Nat) : Array Value := #[.int .i64 2, .string nm, .int .u64 (ver : Int), .int .i64 0, .int .i64 0, .int .i64 0, .slice none 0 0, .slice none 0 0, .slice none 0 0, .int .i64 0, .string { data := #[] }, .string { data := #[] }, .int .i64 0, .int .i64 0, .int .i64 0, .int .i64 0, .slice none 0 0, .slice none 0 0, .slice none 0 0, .int .i64 0, .string { data := #[] }, .int .i64 1, .int .i64 0, .slice none 0 0, .slice none 0 0, .int .i64 0, .bool false, .int .i64 0, .int .i64 0, .int .i64 0, .int .i64 0, .int .i64 0, .slice none 0 0, .slice none 0 0, .int .i64 0, .string { data := #[] }, .int .i64 0, .int .i64 0, .slice none 0 0, .int .i64 0, .int .i64 0, .int .i64 0, .slice none 0 0, .int .i64 0, .int .i64 0, .slice none 0 0, .slice none 0 0]
theorem nn_obj (w : World) (nm : ByteArray) (ver : Nat) (hv : ver < 18446744073709551616) : ObjV w (nnC nm ver) (nnO nm ver) :=
  ⟨rfl, ⟨rfl, rfl, rfl, hv⟩, ⟨rfl, rfl, rfl, ⟨none, 0, rfl, RowR.nil _ _ _ _⟩, ⟨none, 0, rfl, RowR.nil _ _ _ _⟩, ⟨none, 0, rfl, RowR.nil _ _ _ _⟩, rfl⟩, ⟨rfl, rfl, rfl, rfl, rfl, rfl, ⟨none, 0, rfl, RowR.nil _ _ _ _⟩, ⟨none, 0, rfl, RowR.nil _ _ _ _⟩, ⟨none, 0, rfl, RowR.nil _ _ _ _⟩, rfl⟩, ⟨rfl, rfl, rfl, ⟨none, 0, rfl, RowR.nil _ _ _ _⟩, ⟨none, 0, rfl, RowR.nil _ _ _ _⟩, rfl, rfl⟩, ⟨rfl, rfl, rfl, rfl, rfl, ⟨none, 0, rfl, RowR.nil _ _ _ _⟩, ⟨none, 0, rfl, RowR.nil _ _ _ _⟩, rfl⟩, ⟨rfl, rfl, rfl, ⟨none, 0, rfl, RowR.nil _ _ _ _⟩, rfl, rfl, rfl, ⟨none, 0, rfl, RowR.nil _ _ _ _⟩, rfl, rfl, ⟨none, 0, rfl, RowR.nil _ _ _ _⟩, ⟨none, 0, rfl, RowR.nil _ _ _ _⟩⟩⟩
theorem nn_fits (nm : ByteArray) (ver : Nat) (h : ftT nm = true) : FitsO (nnO nm ver) := by constructor <;> first | exact h | rfl | exact Nat.zero_le _
theorem nn_nil (nm : ByteArray) (ver : Nat) : NilO (nnC nm ver) := by
  intro i n c hi hc
  simp only [rowsIx, List.mem_cons, List.not_mem_nil, or_false] at hi
  rcases hi with rfl | rfl | rfl | rfl | rfl | rfl | rfl | rfl | rfl | rfl | rfl | rfl | rfl | rfl <;> (simp at hc; exact hc.2.symm)
theorem nn_kept (base : Nat) (w : World) (nm : ByteArray) (ver : Nat) (hv : ver < 18446744073709551616) (h : ftT nm = true) : Kept base w (nnC nm ver) (nnO nm ver) :=
  ⟨fun w' _ => nn_obj w' nm ver hv, nn_nil nm ver, by unfold TinyO; simp [nnO, zerO], nn_fits nm ver h⟩
theorem nn_dfl (nm : ByteArray) (ver : Nat) : dfl (nnO nm ver) = nnO nm ver := (if_neg (show ¬ (2 : Int) = 3 by decide)).trans (if_neg (show ¬ (2 : Int) = 4 by decide))
theorem nn_size (nm : ByteArray) (ver : Nat) : (nnC nm ver).size = 47 := rfl

theorem After.keep {base : Nat} {w w' : World} {S : List Nat} {sp : Nat} {most m0 : Int} {l l0 : List Ob} {hist h0 : List Ev} (h : After base w w' S sp most l hist) (hs : StIs base w S sp m0 l0 h0) :
    ∃ S', StIs base w' S' sp most l hist ∧ (∀ B, B < w.heap.size → B ∉ S → B ∉ S' ∧ w'.heap[B]? = w.heap[B]?) ∧ Below base w w' := by
  obtain ⟨S', h1, h2, h3⟩ := h
  refine ⟨S', h1, fun B hB hn => ⟨fun hm => ?_, h2.block B hB hn⟩, h2.below (fun g hg => (hs.prot g hg).1) ?_⟩
  · rcases h3 B hm with h | h
    · exact hn h
    · omega
  · obtain ⟨_, _, _, _, q⟩ := hs
    exact q.bw
/-- The store stays while a block that isn't its own is written. -/
theorem StIs.set {base : Nat} {w : World} {S : List Nat} {sp : Nat} {most : Int} {l : List Ob} {hist : List Ev} (h : StIs base w S sp most l hist) {B : Nat} {cs : Array Value} {T : TypeId} {fz : Nat × Nat} (hB : w.heap[B]? = some (.cells cs T fz)) (hT : rowTy T = false) (hb : base ≤ B) (hn : B ∉ S) (i : Nat) (v : Value) : StIs base (w.setCell ⟨B, i, none⟩ v) S sp most l hist := by
  refine h.chg (T := [B]) ((Chg.refl [B] w).setCell i v (.inl (by simp))) (fun g hg hm => ?_) (fun g hg _ => ?_)
  · simp at hm; subst hm; exact hn hg
  · simp at hg; subst hg; exact (cells_prot hB hb hT).2.2

theorem nn_chk {nm : ByteArray} (h : chkE (nnO nm 0) = 0) (v : Nat) : chkE (nnO nm v) = 0 := h
theorem hit_nn (nm : ByteArray) (a b : Nat) : hit (nnO nm a).kind (nnO nm a).name (nnO nm b) = true := hit_iff.2 ⟨rfl, rfl⟩
theorem put_nn (nm : ByteArray) (a b : Nat) : put [nnO nm a] (nnO nm b) = [nnO nm b] := by
  unfold put
  rw [if_pos (by simp [hit_nn])]
  have : List.findIdx (hit (nnO nm b).kind (nnO nm b).name) [nnO nm a] = 0 := by
    rw [List.findIdx_cons, hit_nn]
    rfl
  rw [this]
  rfl
theorem one_create (base : Nat) (w : World) (S : List Nat) (sp : Nat) (most : Int) (nm : ByteArray) (hs : StIs base w S sp most [] []) (hf : ftT nm = true) (hc : chkE (nnO nm 0) = 0) (hm : 1 ≤ most) :
    Calls Tryz.prog 12 #[.pointer (some ⟨sp, 0, none⟩), .agg (nnC nm 0)] w fun e w' => e = .returned (.tuple #[.int .u64 1, .int .i64 0]) ∧
      After base w w' S sp most [nnO nm 1] [⟨0, 2, nm, 1⟩] := by
  have hu : creE (dfl (nnO nm 0)) [] most = 0 := by
    rw [nn_dfl, creE, if_neg (by rw [hc]; exact fun h => h rfl), if_neg (by simp), if_neg (by simp; omega)]
  refine (create_any base w S sp most [] [] (nnC nm 0) (nnO nm 0) hs (nn_kept base w nm 0 (by decide) hf) (by decide) (by rw [nn_dfl]; exact hc)).mono ?_
  rintro e w' (⟨h1, _⟩ | ⟨_, h2, h3⟩)
  · exact absurd hu h1
  · refine ⟨h2, ?_⟩
    rw [nn_dfl] at h3
    exact h3
theorem nn1_chk : chkE (nnO ⟨#[110, 49]⟩ 0) = 0 := by decide +kernel
theorem nn2_chk : chkE (nnO ⟨#[110, 50]⟩ 0) = 0 := by decide +kernel

/-- An object of the law's own, and a store beside it. -/
structure Beside (base : Nat) (w : World) (B : Nat) (cs : Array Value) (S : List Nat) (sp : Nat) (most : Int) (l : List Ob) (hist : List Ev) : Prop where
  blk : w.heap[B]? = some (.cells cs OT (0, 0))
  st : StIs base w S sp most l hist
  nm : B ∉ S
  lo : base ≤ B
theorem Beside.gr {base : Nat} {w w' : World} {B : Nat} {cs : Array Value} {S : List Nat} {sp : Nat} {most : Int} {l : List Ob} {hist : List Ev} (h : Beside base w B cs S sp most l hist) (g : Below w.heap.size w w') : Beside base w' B cs S sp most l hist :=
  ⟨(g.block B (Array.getElem?_eq_some_iff.1 h.blk).1).trans h.blk, h.st.gr g, h.nm, h.lo⟩
theorem Beside.set {base : Nat} {w : World} {B : Nat} {cs : Array Value} {S : List Nat} {sp : Nat} {most : Int} {l : List Ob} {hist : List Ev} (h : Beside base w B cs S sp most l hist) (i : Nat) (v : Value) : Beside base (w.setCell ⟨B, i, none⟩ v) B (cs.setIfInBounds i v) S sp most l hist :=
  ⟨block_setCell h.blk v, h.st.set h.blk rfl h.lo h.nm i v, h.nm, h.lo⟩
theorem Beside.after {base : Nat} {w w' : World} {B : Nat} {cs : Array Value} {S : List Nat} {sp : Nat} {most m : Int} {l l' : List Ob} {hist hist' : List Ev} (h : Beside base w B cs S sp most l hist) (a : After base w w' S sp m l' hist') : ∃ S', Beside base w' B cs S' sp m l' hist' ∧ Below base w w' := by
  obtain ⟨S', h1, h2, h3⟩ := a.keep h.st
  obtain ⟨h4, h5⟩ := h2 B (Array.getElem?_eq_some_iff.1 h.blk).1 h.nm
  exact ⟨S', ⟨h5.trans h.blk, h1, h4, h.lo⟩, h3⟩
theorem Beside.load {base : Nat} {w : World} {B : Nat} {cs : Array Value} {S : List Nat} {sp : Nat} {most : Int} {l : List Ob} {hist : List Ev} (h : Beside base w B cs S sp most l hist) (hs : cs.size = 47) : (Instr.loadAt OT (.pointer (some ⟨B, 0, none⟩))).run Tryz.prog w = .ok (.agg cs) w := load_ob h.blk hs

end Go.Proofs.YtbkoepghmcdnhaaGreatDoor
/- The events since a version. -/
namespace Go.Proofs.YtbkoepghmcdnhaaGreatDoor
open Go.RowKit Go.Shelf Go.Lib Go.Sort
open Go.Joins (cell_of_block unfrozen_of_block block_setCell)
set_option linter.unusedVariables false
set_option linter.unusedSimpArgs false
set_option maxRecDepth 20000

set_option maxHeartbeats 4000000 in
theorem since_above (base : Nat) (w : World) (S : List Nat) (sp : Nat) (most : Int) (l : List Ob) (hist : List Ev) (ver : Nat) (h : StIs base w S sp most l hist) (hn : hist.length < 1000000) (hv : hist.length < ver) :
    Calls Tryz.prog 23 #[.pointer (some ⟨sp, 0, none⟩), .int .u64 (ver : Int)] w fun e w' => e = .returned (.tuple #[.slice none 0 0, .int .i64 1]) ∧ w = w' := by
  have mixed : Tryz.prog.follows .mixedOrders = true := by kernel_rfl
  obtain ⟨mb, D, ev, kept, h⟩ := h
  obtain ⟨now, hnow⟩ : ∃ n, n = hist.length := ⟨_, rfl⟩
  have c1 : w.cell? ⟨sp, 1, none⟩ = some (.int .u64 (now : Int)) := by rw [hnow]; exact cell_of_block h.blk 1
  have t : now < ver := by omega
  clear h hn hv hnow
  go_enter Tryz.func23, Tryz.ntmps23
  go_wp2
  refine bodyPost_ret (results_tmp2 rfl _ _ _) rfl ?_
  exact ⟨rfl, rfl⟩
set_option maxHeartbeats 4000000 in
theorem since_gone (base : Nat) (w : World) (S : List Nat) (sp : Nat) (most : Int) (l : List Ob) (hist : List Ev) (ver : Nat) (h : StIs base w S sp most l hist) (hn : hist.length < 1000000) (hv : ver ≤ hist.length) (hg : min hist.length 1024 < hist.length - ver) :
    Calls Tryz.prog 23 #[.pointer (some ⟨sp, 0, none⟩), .int .u64 (ver : Int)] w fun e w' => e = .returned (.tuple #[.slice none 0 0, .int .i64 11]) ∧ Gr w w' := by
  have mixed : Tryz.prog.follows .mixedOrders = true := by kernel_rfl
  obtain ⟨mb, D, ev, kept, h⟩ := h
  obtain ⟨q, c, rfl⟩ := own_slice h.evs
  obtain ⟨now, hnow⟩ : ∃ n, n = hist.length := ⟨_, rfl⟩
  obtain ⟨dd, hdd⟩ : ∃ d, d = now - ver := ⟨_, rfl⟩
  have c1 : w.cell? ⟨sp, 1, none⟩ = some (.int .u64 (now : Int)) := by rw [hnow]; exact cell_of_block h.blk 1
  have c3 : w.cell? ⟨sp, 3, none⟩ = some (.slice q kept.length c) := cell_of_block h.blk 3
  have hr := h.ring.1
  have t : ver ≤ now := by omega
  have td : (now : Int) - (ver : Int) = (dd : Int) := by omega
  have tk : kept.length < dd := by omega
  have b1 : dd < 1000000 := by omega
  have b2 : kept.length < 1000000 := by omega
  have G := Lib.hid (Gr.refl w)
  clear h hn hv hnow hr hdd hg
  go_enter Tryz.func23, Tryz.ntmps23
  go_upto_region 3 with fail
  go_region
  all_goals
    go_wp2
    refine bodyPost_ret (results_tmp2 rfl _ _ _) rfl ?_
    exact ⟨rfl, G.out.drew⟩

/-- The events behind the ver-th, up to the j-th. -/
def evsTo (hist : List Ev) (ver j : Nat) : List Ev := (hist.drop ver).take (j - ver)
theorem evsTo_len {hist : List Ev} {ver j : Nat} (h1 : ver ≤ j) (h2 : j ≤ hist.length) : (evsTo hist ver j).length = j - ver := by
  unfold evsTo
  rw [List.length_take, List.length_drop]
  omega
theorem evsTo_next {hist : List Ev} {ver j : Nat} {e : Ev} (h1 : ver ≤ j) (h2 : hist[j]? = some e) : evsTo hist ver (j + 1) = evsTo hist ver j ++ [e] := by
  unfold evsTo
  rw [show j + 1 - ver = (j - ver) + 1 by omega, List.take_add_one, List.getElem?_drop, show ver + (j - ver) = j by omega, h2]
  rfl
theorem evsTo_all (hist : List Ev) (ver : Nat) : evsTo hist ver hist.length = hist.drop ver := by
  unfold evsTo
  rw [List.take_of_length_le]
  rw [List.length_drop]
  exact Nat.le_refl _

set_option maxHeartbeats 8000000 in
theorem since_any (base : Nat) (w : World) (S : List Nat) (sp : Nat) (most : Int) (l : List Ob) (hist : List Ev) (ver : Nat) (h : StIs base w S sp most l hist) (hn : hist.length < 1000000) (hv : ver ≤ hist.length) (hg : hist.length - ver ≤ min hist.length 1024) :
    Calls Tryz.prog 23 #[.pointer (some ⟨sp, 0, none⟩), .int .u64 (ver : Int)] w fun e w' => (∃ v, e = .returned (.tuple #[v, .int .i64 0]) ∧ w'.ownsRow w.heap.size ET 4 v (hist.drop ver).length (flat encE (hist.drop ver))) ∧ Below w.heap.size w w' := by
  have mixed : Tryz.prog.follows .mixedOrders = true := by kernel_rfl
  obtain ⟨mb, D, ev, kept, h⟩ := h
  obtain ⟨q, c, rfl⟩ := own_slice h.evs
  obtain ⟨now, hnow⟩ : ∃ n, n = hist.length := ⟨_, rfl⟩
  obtain ⟨dd, hdd⟩ : ∃ d, d = now - ver := ⟨_, rfl⟩
  have c1 : w.cell? ⟨sp, 1, none⟩ = some (.int .u64 (now : Int)) := by rw [hnow]; exact cell_of_block h.blk 1
  have c3 : w.cell? ⟨sp, 3, none⟩ = some (.slice q kept.length c) := cell_of_block h.blk 3
  have hr := h.ring.1
  have t : ver ≤ now := by omega
  have td : (now : Int) - (ver : Int) = (dd : Int) := by omega
  have tk : dd ≤ kept.length := by omega
  have t2 : decide (now < ver) = false := decide_eq_false (by omega)
  have tk2 : decide (kept.length < dd) = false := decide_eq_false (by omega)
  have b1 : dd < 1000000 := by omega
  have b2 : kept.length < 1000000 := by omega
  have b3 : now < 1000000 := by omega
  have HH := Lib.hid (And.intro h (And.intro hnow (And.intro hg hdd)))
  obtain ⟨inf, hi, hz0, hz1, hz2⟩ : ∃ i, Tryz.prog.info? ET = some i ∧ i.zero = some (.agg #[.int .i64 0, .int .i64 0, .string ⟨#[]⟩, .int .u64 0]) ∧ i.size = 4 ∧ i.bytes = 40 := ⟨_, rfl, by kernel_rfl, by kernel_rfl, by kernel_rfl⟩
  have HI := Lib.hid (And.intro hi (And.intro hz0 (And.intro hz1 hz2)))
  clear h hn hv hnow hr hdd hg hi hz0 hz1 hz2
  go_enter Tryz.func23, Tryz.ntmps23
  go_upto_region 3 with fail
  go_region
  go_wp2_with fail
  go_loopg [6, 7] dd (fun g vl vv wr => ∃ j : Nat, vv = .int .u64 (j : Int) ∧ ver ≤ j ∧ j ≤ now ∧ now - j ≤ g ∧ Hid (wr.ownsRow w.heap.size ET 4 vl (j - ver) (flat encE (evsTo hist ver j))) ∧ Hid (Below w.heap.size w wr))
  case atStart =>
    refine ⟨ver, rfl, Nat.le_refl _, t, by have := HH.out.2.2.2; omega, ?_, ((Gr.refl w).drewN 1).below⟩
    show World.ownsRow _ _ _ _ _ _ _
    unfold evsTo
    rw [Nat.sub_self]
    exact World.ownsRow_nil _ _ _ _
  case round =>
    obtain ⟨j, rfl, h1, h2, h3, HO, HB⟩ := hrel
    have hblk := HH.out.1.blk
    have hlsp := (Array.getElem?_eq_some_iff.1 hblk).1
    have d1 : wr.cell? ⟨sp, 1, none⟩ = some (.int .u64 (now : Int)) := by rw [World.cell?_of_block (HB.out.block sp hlsp)]; exact c1
    by_cases hlt : j < now
    · obtain ⟨p, hp⟩ : ∃ p, p = j % 1024 := ⟨_, rfl⟩
      have hp2 : (j : Int) % 1024 = (p : Int) := by omega
      have hkp : kept.length = min hist.length 1024 ∧ now = hist.length ∧ now - ver ≤ min hist.length 1024 := ⟨HH.out.1.ring.1, HH.out.2.1, by have := HH.out.2.1; have := HH.out.2.2.1; omega⟩
      have hpk : p < kept.length := by omega
      obtain ⟨e, he⟩ : ∃ e, hist[j]? = some e := ⟨hist[j]'(by omega), List.getElem?_eq_getElem (by omega)⟩
      have hke : kept[p]? = some e := by rw [hp, HH.out.1.ring.2 j (by omega) (by omega)]; exact he
      obtain ⟨g, cap, cur, hgq, hgb, hgh, _⟩ : ∃ g cap cur, Value.slice q kept.length c = .slice (some ⟨g, 0, none⟩) kept.length cap ∧ base ≤ g ∧ w.heap[g]? = some (.cells cur ET (0, 0)) ∧ True := by
        rcases HH.out.1.evs.2 with ⟨_, h0⟩ | ⟨g, cap, cur, e1, e2, e3, _⟩
        · omega
        · exact ⟨g, cap, cur, e1, e2, e3, trivial⟩
      have hq : q = some ⟨g, 0, none⟩ := by simp only [Value.slice.injEq] at hgq; exact hgq.1
      have hlg := (Array.getElem?_eq_some_iff.1 hgh).1
      have cl : ∀ t u, t < 4 → (encE e)[t]? = some u → wr.cell? ⟨g, p * 4 + t, none⟩ = some u := fun t u ht hu => by
        rw [World.cell?_of_block (HB.out.block g hlg)]
        have := HH.out.1.evs.cells (g := g) (by rw [hgq]; rfl) (p * 4 + t) u (by rw [flat_at lenE kept p t e hke ht]; exact hu)
        rwa [add_none', Nat.zero_add] at this
      have e0 : wr.cell? ⟨g, p * 4, none⟩ = some (.int .i64 e.what) := cl 0 _ (by decide) rfl
      have e1 : wr.cell? ⟨g, p * 4 + 1, none⟩ = some (.int .i64 e.kind) := cl 1 _ (by decide) rfl
      have e2 : wr.cell? ⟨g, p * 4 + 2, none⟩ = some (.string e.name) := cl 2 _ (by decide) rfl
      have e3 : wr.cell? ⟨g, p * 4 + 3, none⟩ = some (.int .u64 (e.ver : Int)) := cl 3 _ (by decide) rfl
      have d3 : wr.cell? ⟨sp, 3, none⟩ = some (.slice q kept.length c) := by rw [World.cell?_of_block (HB.out.block sp hlsp)]; exact c3
      have own : Hid ((wr.alloc (.cells (encE e).toArray ET)).ownsRow w.heap.size ET 4 u6 (j - ver) (flat encE (evsTo hist ver j))) := World.ownsRow.alloc HO.out _
      have news : Hid (∀ i u, (encE e)[i]? = some u → (wr.alloc (.cells (encE e).toArray ET)).cell? ((⟨wr.heap.size, 0, none⟩ : Addr).add i) = some u) := fun i u hu => World.news_of_block (heap_alloc_new wr (.cells (encE e).toArray ET)) i u (by simpa using hu)
      have hbd : Hid (j - ver + 1 ≤ 1000000 ∧ w.heap.size ≤ (wr.alloc (.cells (encE e).toArray ET)).heap.size) := ⟨by omega, by have := HB.out.size; have h9 : (wr.alloc (.cells (encE e).toArray ET)).heap.size = wr.heap.size + 1 := (by simp); omega⟩
      subst hq
      have HE := Lib.hid (And.intro he (And.intro h1 hkp))
      clear hp hgq hgb hgh hlg cl hke he hkp hblk
      go_wp2_with (at_builtin; refine wpList_append_own_at _ rfl _ _ SlE (by rfl) w.heap.size ET inf (.agg #[.int .i64 0, .int .i64 0, .string ⟨#[]⟩, .int .u64 0]) 4 40 Tryz.underlying53 HI.out.1 HI.out.2.1 HI.out.2.2.1 HI.out.2.2.2 rfl (by decide) u6 (j - ver) (flat encE (evsTo hist ver j)) (by rfl) own.out ⟨wr.heap.size, 0, none⟩ 1 1 (encE e) (by rfl) (by rfl) news.out (oneE _) (by have := hbd.out.1; unfold maxLen; omega) (by have := hbd.out.1; omega) hbd.out.2 ?_; intro v' w4 o4 gb4 _ at4; have H4 := Lib.hid (And.intro o4 (And.intro gb4 at4)); clear o4 gb4 at4)
      have N4 : Hid (w4.ownsRow w.heap.size ET 4 v' (j + 1 - ver) (flat encE (evsTo hist ver (j + 1))) ∧ Below w.heap.size w w4) := by
        obtain ⟨o4, gb4', at4⟩ := H4.out
        have gb4 : (wr.alloc (.cells (encE e).toArray ET)).grownBy w4 u6.ownBlock := gb4'
        refine ⟨?_, ?_⟩
        · rw [evsTo_next HE.out.2.1 HE.out.1, show j + 1 - ver = j - ver + 1 by have := HE.out.2.1; omega]
          show World.ownsRow _ _ _ _ _ _ (flat encE (_ ++ [e]))
          unfold flat
          rw [List.flatMap_append]
          simpa [flat] using o4
        · have hb := HB.out
          have a := (Gr.refl wr).alloc (.cells (encE e).toArray ET)
          refine ⟨gb4.os.trans (a.below.os.trans hb.os), gb4.tape.trans (a.below.tape.trans hb.tape), gb4.output.trans (a.below.output.trans hb.output), Nat.le_trans hb.size (Nat.le_trans a.below.size gb4.size), fun k hk => ?_⟩
          rw [gb4.block k (by have := hb.size; have := a.below.size; omega) (fun e => by
            have := (World.ownsRow.lt own.out k e.symm).1
            omega), a.heap (by have := hb.size; omega)]
          exact hb.block k hk
      clear H4 own news hbd e0 e1 e2 e3 d1 d3 HE
      go_wp2
      go_roundg (now - (j + 1))
      case measure => omega
      case rel => exact ⟨j + 1, by push_cast; rfl, by omega, by omega, by omega, N4.out.1, N4.out.2⟩
    · have hj : j = now := by omega
      subst hj
      have FIN : Hid (wr.ownsRow w.heap.size ET 4 u6 (hist.drop ver).length (flat encE (hist.drop ver)) ∧ Below w.heap.size w wr) := by
        have := HO.out
        have e := HH.out.2.1
        refine ⟨?_, HB.out⟩
        rw [← evsTo_all, evsTo_len (by omega) (Nat.le_refl _), ← e]
        exact this
      clear HO HB hblk hlsp
      go_wp2
      refine bodyPost_ret (results_tmp2 rfl _ _ _) rfl ?_
      exact ⟨⟨u6, rfl, FIN.out.1⟩, FIN.out.2⟩
end Go.Proofs.YtbkoepghmcdnhaaGreatDoor
/- A store that isn't there. -/
namespace Go.Proofs.YtbkoepghmcdnhaaGreatDoor
open Go.RowKit Go.Shelf Go.Lib Go.Sort
open Go.Joins (cell_of_block unfrozen_of_block block_setCell)
set_option linter.unusedVariables false
set_option linter.unusedSimpArgs false
set_option maxRecDepth 20000

theorem len_nil (w : World) : Calls Tryz.prog 7 #[.pointer none] w fun e w' => e = .returned (.int .i64 0) ∧ w = w' := by
  go_enter Tryz.func7, Tryz.ntmps7
  go_wp2
  go_ret
  exact ⟨rfl, rfl⟩
theorem now_nil (w : World) : Calls Tryz.prog 18 #[.pointer none] w fun e w' => e = .returned (.int .u64 0) ∧ w = w' := by
  go_enter Tryz.func18, Tryz.ntmps18
  go_wp2
  go_ret
  exact ⟨rfl, rfl⟩
theorem since_nil (w : World) (v : Int) : Calls Tryz.prog 23 #[.pointer none, .int .u64 v] w fun e w' => e = .returned (.tuple #[.slice none 0 0, .int .i64 1]) ∧ w = w' := by
  go_enter Tryz.func23, Tryz.ntmps23
  go_wp2
  refine bodyPost_ret (results_tmp2 rfl _ _ _) rfl ?_
  exact ⟨rfl, rfl⟩
theorem delete_nil (w : World) (k v : Int) (nm : ByteArray) : Calls Tryz.prog 22 #[.pointer none, .int .i64 k, .string nm, .int .u64 v] w fun e w' => e = .returned (.tuple #[.int .u64 0, .int .i64 1]) ∧ w = w' := by
  go_enter Tryz.func22, Tryz.ntmps22
  go_wp2
  refine bodyPost_ret (results_tmp2 rfl _ _ _) rfl ?_
  exact ⟨rfl, rfl⟩
theorem all_nil (w : World) (k : Int) : Calls Tryz.prog 15 #[.pointer none, .int .i64 k] w fun e w' => e = .returned (.slice none 0 0) ∧ w = w' := by
  go_enter Tryz.func15, Tryz.ntmps15
  go_wp2
  go_ret
  exact ⟨rfl, rfl⟩
theorem list_any (w : World) (s : Value) (k : Int) (hs : ∃ p, s = .pointer p) : Calls Tryz.prog 6 #[s, .int .i64 k] w fun e w' => e = .returned (.func (.func 14) #[] #[.pointer (some ⟨w.heap.size, 0, none⟩), .pointer (some ⟨w.heap.size + 1, 0, none⟩)]) ∧
    w' = (w.alloc (.cells #[s] 23)).alloc (.cells #[.int .i64 k] 3) := by
  obtain ⟨p, rfl⟩ := hs
  have hmf : ∀ (fn : Fn) (first cap : Array Value) (w : World), (Instr.makeFunc fn first cap).run Tryz.prog w = .ok (.func fn first cap) w := fun _ _ _ _ => rfl
  go_enter Tryz.func6, Tryz.ntmps6
  go_wp2
  go_ret
  exact ⟨rfl, rfl⟩

set_option maxHeartbeats 4000000 in
theorem get_nil (w : World) (k : Int) (nm : ByteArray) :
    Calls Tryz.prog 21 #[.pointer none, .int .i64 k, .string nm] w fun e w' => e = .returned (.tuple #[.agg zerC, .bool false]) ∧ Below w.heap.size w w' := by
  obtain ⟨B, hB⟩ : ∃ B, B = w.heap.size := ⟨_, rfl⟩
  obtain ⟨wb, hwb⟩ : ∃ wb, wb = w.alloc (.cells zerC OT) := ⟨_, rfl⟩
  have G0 : Gr w wb := hwb ▸ (Gr.refl w).alloc _
  have b1 : wb.heap[B]? = some (.cells zerC OT (0, 0)) := by rw [hwb, hB]; exact heap_alloc_new w _
  obtain ⟨Z, hZ⟩ : ∃ Z, Z = (zerC : Array Value) := ⟨_, rfl⟩
  have hzs : Z.size = 47 := by rw [hZ]; rfl
  obtain ⟨th, n0, fx1, c1⟩ := store_ob (base := B) b1 rfl hzs (Nat.le_refl _)
  have IN : Hid ((Tryz.prog.info? OT).map (·.size) = some Z.size) := by show _ = _; rw [hzs]; exact info_ob47
  have TH := Lib.hid th
  have ON : Hid (Z.all (·.oneCell') = true) := by show _ = _; rw [hZ]; exact zer_all
  have HZ := Lib.hid hZ
  obtain ⟨n, hn⟩ : ∃ n, n = wb.setCells B 0 Z.toList := ⟨_, rfl⟩
  rw [← hn] at n0 fx1 c1
  have HN := Lib.hid hn
  have FIN : Hid (n.heap[B]? = some (.cells Z OT (0, 0)) ∧ Below w.heap.size w n) := ⟨n0, ((Xb.ofGr G0 B).trans ⟨c1.os, c1.tape, c1.output, c1.size, fun k hk hne => c1.block k hk (by simpa using hne)⟩).below (by omega) (Nat.le_refl _)⟩
  clear hZ hzs th n0 fx1 c1 hn b1 G0
  go_enter Tryz.func21, Tryz.ntmps21
  go_upto_region 2 with fail
  rw [← hwb, ← hB]
  clear hwb hB
  go_wp2_with (refine wpList_store_mid rfl _ _ _ rfl B 0 Z (by rfl) (by rw [HZ.out]; rfl) TH.out IN.out ON.out ?_; rw [← HN.out])
  refine bodyPost_ret (results_row_tmp rfl _ _ B OT Z (0, 0) _ (by rfl) FIN.out.1 Tryz.underlying51 rfl IN.out) rfl ?_
  exact ⟨by rw [HZ.out]; rfl, FIN.out.2⟩

set_option maxHeartbeats 4000000 in
theorem create_nil (w : World) (cs : Array Value) (hcs : cs.size = 47) :
    Calls Tryz.prog 12 #[.pointer none, .agg cs] w fun e w' => e = .returned (.tuple #[.int .u64 0, .int .i64 1]) ∧ Below w.heap.size w w' := by
  obtain ⟨B, hB⟩ : ∃ B, B = w.heap.size := ⟨_, rfl⟩
  obtain ⟨wb, hwb⟩ : ∃ wb, wb = w.alloc (.cells cs OT) := ⟨_, rfl⟩
  have G0 : Gr w wb := hwb ▸ (Gr.refl w).alloc _
  have b0 : wb.heap[B]? = some (.cells cs OT (0, 0)) := by rw [hwb, hB]; exact heap_alloc_new w _
  have hbs : wb.heap.size = B + 1 := by rw [hwb, hB]; simp
  obtain ⟨Z, hZ⟩ : ∃ Z, Z = (zerC : Array Value) := ⟨_, rfl⟩
  have hzs : Z.size = 47 := by rw [hZ]; rfl
  have LO := Lib.hid (load_ob b0 hcs)
  have CR := Lib.hid (ready_nil wb cs)
  rw [← hZ] at CR
  have HH := Lib.hid (And.intro hwb (And.intro hB (And.intro G0 (And.intro b0 (And.intro hbs hzs)))))
  have ON : Hid (Z.all (·.oneCell') = true) := by show _ = _; rw [hZ]; exact zer_all
  clear G0 b0 hbs hzs hZ
  go_enter Tryz.func12, Tryz.ntmps12
  go_upto_region 1 with fail
  rw [← hwb, ← hB]
  clear hwb hB
  go_wp2_with (refine wpList_load_by (by kernel_rfl) OT _ rfl (.pointer (some ⟨B, 0, none⟩)) (.agg cs) (by kernel_rfl) LO.out ?_)
  refine CR.out.mono ?_
  rintro e m ⟨rfl, hbl⟩
  obtain ⟨hwb, hB, G0, b0, hbs, hzs⟩ := HH.out
  have m0 : m.heap[B]? = some (.cells cs OT (0, 0)) := (hbl.block B (by omega)).trans b0
  obtain ⟨th, n0, fx1, c1⟩ := store_ob (base := B) m0 hcs hzs (Nat.le_refl _)
  obtain ⟨n, hn⟩ : ∃ n, n = m.setCells B 0 Z.toList := ⟨_, rfl⟩
  rw [← hn] at n0 fx1 c1
  have IN : Hid ((Tryz.prog.info? OT).map (·.size) = some Z.size) := by show _ = _; rw [hzs]; exact info_ob47
  have TH := Lib.hid th
  have HN := Lib.hid hn
  have FIN : Hid (Below w.heap.size w n) := ((Xb.ofGr G0 B).trans ((Xb.ofBelow hbl B).trans ⟨c1.os, c1.tape, c1.output, c1.size, fun k hk hne => c1.block k hk (by simpa using hne)⟩)).below (by omega) (Nat.le_refl _)
  clear hwb hB G0 b0 hbs m0 th n0 fx1 c1 hn hbl LO CR HH hzs
  go_wp2_with (refine wpList_store_mid rfl _ _ _ rfl B 0 Z (by rfl) (by rfl) TH.out IN.out ON.out ?_; rw [← HN.out])
  refine bodyPost_ret (results_tmp2 rfl _ _ _) rfl ?_
  exact ⟨rfl, FIN.out⟩
end Go.Proofs.YtbkoepghmcdnhaaGreatDoor
