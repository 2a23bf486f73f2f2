/- What changes while a store works, and what stays: rows of objects; maps of objects. -/
import Derived.Test.YtacgbagcddjlnaaVaDp
import Derived.Maps.RangeWalk
import Derived.DeepKeys4
namespace Go.Proofs.Ytacgbagcddjlnaa
open Go.RowKit Go.Shelf Go.Lib Go.Sort
open Go.Maps (Keyed)
open Go.Joins (cell_of_block unfrozen_of_block block_setCell)
set_option linter.unusedVariables false
set_option linter.unusedSimpArgs false
set_option maxRecDepth 20000

/-- The types of what objects' rows hold. -/
def rowTy (T : TypeId) : Bool := T == 118 || T == 122 || T == 110 || T == 128 || T == 108
/-- A block that nothing writes into: one of before, or an object's row. -/
def Prot (base : Nat) (w : World) (g : Nat) : Prop := g < base ∨ ∃ cs T fz, w.heap[g]? = some (.cells cs T fz) ∧ rowTy T = true
structure Fx (base : Nat) (w w' : World) : Prop where
  os : w'.os = w.os
  tape : w'.tape = w.tape
  output : w'.output = w.output
  size : w.heap.size ≤ w'.heap.size
  block : ∀ g, g < w.heap.size → Prot base w g → w'.heap[g]? = w.heap[g]?
theorem Fx.refl (base : Nat) (w : World) : Fx base w w := ⟨rfl, rfl, rfl, Nat.le_refl _, fun _ _ _ => rfl⟩
theorem Fx.trans {base : Nat} {a b c : World} (h : Fx base a b) (k : Fx base b c) : Fx base a c := by
  refine ⟨k.os.trans h.os, k.tape.trans h.tape, k.output.trans h.output, Nat.le_trans h.size k.size, fun g hg hp => ?_⟩
  have e := h.block g hg hp
  refine (k.block g (Nat.lt_of_lt_of_le hg h.size) ?_).trans e
  rcases hp with hp | ⟨cs, T, fz, h1, h2⟩
  · exact .inl hp
  · exact .inr ⟨cs, T, fz, e.trans h1, h2⟩
theorem Fx.ofBelow {base : Nat} {w w' : World} (h : Below w.heap.size w w') : Fx base w w' := ⟨h.os, h.tape, h.output, h.size, fun g hg _ => h.block g hg⟩
theorem Fx.below {base : Nat} {w w' : World} (h : Fx base w w') (hb : base ≤ w.heap.size) : Below base w w' := ⟨h.os, h.tape, h.output, h.size, fun g hg => h.block g (Nat.lt_of_lt_of_le hg hb) (.inl hg)⟩

/-- Of the blocks that were there only these were changed. -/
structure Chg (S : List Nat) (w w' : World) : Prop where
  os : w'.os = w.os
  tape : w'.tape = w.tape
  output : w'.output = w.output
  size : w.heap.size ≤ w'.heap.size
  block : ∀ g, g < w.heap.size → g ∉ S → w'.heap[g]? = w.heap[g]?
theorem Chg.refl (S : List Nat) (w : World) : Chg S w w := ⟨rfl, rfl, rfl, Nat.le_refl _, fun _ _ _ => rfl⟩
theorem Chg.trans {S S' : List Nat} {a b c : World} (h : Chg S a b) (k : Chg S' b c) (hS : ∀ g ∈ S', g ∈ S ∨ a.heap.size ≤ g) : Chg S a c :=
  ⟨k.os.trans h.os, k.tape.trans h.tape, k.output.trans h.output, Nat.le_trans h.size k.size, fun g hg hn => (k.block g (Nat.lt_of_lt_of_le hg h.size) (fun hm => by
    rcases hS g hm with h1 | h1
    · exact hn h1
    · omega)).trans (h.block g hg hn)⟩
theorem Chg.ofBelow {w w' : World} (h : Below w.heap.size w w') (S : List Nat) : Chg S w w' := ⟨h.os, h.tape, h.output, h.size, fun g hg _ => h.block g hg⟩
theorem Chg.ofGr {w w' : World} (h : Gr w w') (S : List Nat) : Chg S w w' := .ofBelow h.below S
theorem Chg.less {S S' : List Nat} {w w' : World} (h : Chg S w w') (hs : ∀ g ∈ S, g ∈ S' ∨ w.heap.size ≤ g) : Chg S' w w' :=
  ⟨h.os, h.tape, h.output, h.size, fun g hg hn => h.block g hg (fun hm => by rcases hs g hm with h1 | h1; exact hn h1; omega)⟩
theorem Chg.ofGrown {w w' : World} {row : Option Nat} (h : w.grownBy w' row) {S : List Nat} (hs : ∀ g, row = some g → g ∈ S ∨ w.heap.size ≤ g) : Chg S w w' :=
  ⟨h.os, h.tape, h.output, h.size, fun g hg hn => h.block g hg (fun e => by rcases hs g e.symm with h1 | h1; exact hn h1; omega)⟩
theorem Chg.setCell {S : List Nat} {a b : World} (h : Chg S a b) {g : Nat} (i : Nat) (v : Value) (hg : g ∈ S ∨ a.heap.size ≤ g) : Chg S a (b.setCell ⟨g, i, none⟩ v) :=
  ⟨h.os, h.tape, h.output, by have := h.size; simpa [World.setCell] using this, fun k hk hn => by
    rw [Below.heap_setCell _ _ _ _ (by show k ≠ g; rintro rfl; rcases hg with h1 | h1; exact hn h1; omega)]
    exact h.block k hk hn⟩
theorem Chg.fx {S : List Nat} {base : Nat} {w w' : World} (h : Chg S w w') (hs : ∀ g ∈ S, g < w.heap.size → ¬ Prot base w g) : Fx base w w' :=
  ⟨h.os, h.tape, h.output, h.size, fun g hg hp => h.block g hg (fun hm => hs g hm hg hp)⟩
theorem Chg.below {S : List Nat} {base : Nat} {w w' : World} (h : Chg S w w') (hs : ∀ g ∈ S, base ≤ g) (hb : base ≤ w.heap.size) : Below base w w' :=
  ⟨h.os, h.tape, h.output, h.size, fun g hg => h.block g (Nat.lt_of_lt_of_le hg hb) (fun hm => by have := hs g hm; omega)⟩

theorem own_fx {base N n : Nat} {w w' : World} {e : TypeId} {s : Nat} {v : Value} {xs : List Value} (h : w.ownsRow N e s v n xs) (ht : rowTy e = true) (hf : Fx base w w') : w'.ownsRow N e s v n xs := by
  obtain ⟨h0, h⟩ := h
  refine ⟨h0, ?_⟩
  rcases h with h | ⟨g, cap, cur, e1, hb, hg, r⟩
  · exact .inl h
  · exact .inr ⟨g, cap, cur, e1, hb, (hf.block g (Array.getElem?_eq_some_iff.1 hg).1 (.inr ⟨_, _, _, hg, ht⟩)).trans hg, r⟩
theorem OwnC.fx {α : Type} {base N : Nat} {w w' : World} {E : TypeId} {k : Nat} {enc : α → List Value} {D : Array Value} {i : Nat} {l : List α} (h : OwnC N w E k enc D i l) (ht : rowTy E = true) (hf : Fx base w w') : OwnC N w' E k enc D i l := by
  obtain ⟨v, hv, ho⟩ := h
  exact ⟨v, hv, own_fx ho ht hf⟩
theorem OwnAt.fx {base N : Nat} {w w' : World} {o : Ob} {D : Array Value} {i : Nat} (h : OwnAt N w o D i) (hf : Fx base w w') : OwnAt N w' o D i := by
  unfold OwnAt at h ⊢
  split at h <;> first | exact OwnC.fx h rfl hf | trivial

/-- These cells hold this object, whatever a store does. -/
structure Kept (base : Nat) (w : World) (cs : Array Value) (o : Ob) : Prop where
  held : ∀ w', Fx base w w' → ObjV w' cs o
  nil : NilO cs
  small : TinyO o
  fits : FitsO o
theorem Kept.obj {base : Nat} {w : World} {cs : Array Value} {o : Ob} (h : Kept base w cs o) : ObjV w cs o := h.held w (Fx.refl _ _)
theorem Kept.fx {base : Nat} {w w' : World} {cs : Array Value} {o : Ob} (h : Kept base w cs o) (hf : Fx base w w') : Kept base w' cs o := ⟨fun w'' h' => h.held w'' (hf.trans h'), h.nil, h.small, h.fits⟩
theorem kept_own {base N : Nat} {w : World} {cs : Array Value} {o : Ob} (hv : ObjV w cs o) (hi : ∀ i ∈ rowsIx, OwnAt N w o cs i) (hs : TinyO o) (hf : FitsO o) : Kept base w cs o :=
  ⟨fun w' h => dup_obj hv rfl (fun _ _ => rfl) (fun i hi' => (hi i hi').fx h), nil_own hi, hs, hf⟩
theorem kept_arg {base : Nat} {W w : World} {cs : Array Value} {o : Ob} (hv : ObjV W cs o) (hb : W.heap.size = base) (hf : Fx base W w) (hn : NilO cs) (hs : TinyO o) (ff : FitsO o) : Kept base w cs o :=
  ⟨fun w' h => hv.below (by have := (hf.trans h).below (by omega); rwa [← hb] at this), hn, hs, ff⟩
theorem kept_copy {base N : Nat} {w0 w : World} {cs ds : Array Value} {o : Ob} (h : Kept base w0 cs o) (hc : CopyO N w cs ds o) (hs : TinyO o) (hf : FitsO o) : Kept base w ds o :=
  kept_own (dup_obj h.obj hc.1 hc.2.1 hc.2.2) hc.2.2 hs hf

/-- A version set. -/
def setV (o : Ob) (v : Nat) : Ob := { o with ver := v }
theorem set_obj_v {w : World} {L : Array Value} {o : Ob} {v : Nat} (hv : ObjV w L o) (h64 : v < 18446744073709551616) : ObjV w (L.setIfInBounds 2 (.int .u64 v)) (setV o v) := by
  obtain ⟨hsz, ⟨c0, c1, c2, hver⟩, hW, hP, hN, hG, hH⟩ := hv
  obtain ⟨c3, c4, c5, c6, c7, c8, c9⟩ := hW
  obtain ⟨c10, c11, c12, c13, c14, c15, c16, c17, c18, c19⟩ := hP
  obtain ⟨c20, c21, c22, c23, c24, c25, c26⟩ := hN
  obtain ⟨c27, c28, c29, c30, c31, c32, c33, c34⟩ := hG
  obtain ⟨c35, c36, c37, c38, c39, c40, c41, c42, c43, c44, c45, c46⟩ := hH
  have ne : ∀ i, 2 ≠ i → (L.setIfInBounds 2 (.int .u64 v))[i]? = L[i]? := fun i h => Array.getElem?_setIfInBounds_ne h
  have e2 : (L.setIfInBounds 2 (.int .u64 v))[2]? = some (.int .u64 v) := Array.getElem?_setIfInBounds_self_of_lt (by omega)
  exact ⟨by simp [hsz], ⟨(by rw [ne 0 (by decide)]; exact c0), (by rw [ne 1 (by decide)]; exact c1), e2, h64⟩, ⟨(by rw [ne 3 (by decide)]; exact c3), (by rw [ne 4 (by decide)]; exact c4), (by rw [ne 5 (by decide)]; exact c5), (by rw [ne 6 (by decide)]; exact c6), (by rw [ne 7 (by decide)]; exact c7), (by rw [ne 8 (by decide)]; exact c8), (by rw [ne 9 (by decide)]; exact c9)⟩, ⟨(by rw [ne 10 (by decide)]; exact c10), (by rw [ne 11 (by decide)]; exact c11), (by rw [ne 12 (by decide)]; exact c12), (by rw [ne 13 (by decide)]; exact c13), (by rw [ne 14 (by decide)]; exact c14), (by rw [ne 15 (by decide)]; exact c15), (by rw [ne 16 (by decide)]; exact c16), (by rw [ne 17 (by decide)]; exact c17), (by rw [ne 18 (by decide)]; exact c18), (by rw [ne 19 (by decide)]; exact c19)⟩, ⟨(by rw [ne 20 (by decide)]; exact c20), (by rw [ne 21 (by decide)]; exact c21), (by rw [ne 22 (by decide)]; exact c22), (by rw [ne 23 (by decide)]; exact c23), (by rw [ne 24 (by decide)]; exact c24), (by rw [ne 25 (by decide)]; exact c25), (by rw [ne 26 (by decide)]; exact c26)⟩, ⟨(by rw [ne 27 (by decide)]; exact c27), (by rw [ne 28 (by decide)]; exact c28), (by rw [ne 29 (by decide)]; exact c29), (by rw [ne 30 (by decide)]; exact c30), (by rw [ne 31 (by decide)]; exact c31), (by rw [ne 32 (by decide)]; exact c32), (by rw [ne 33 (by decide)]; exact c33), (by rw [ne 34 (by decide)]; exact c34)⟩, ⟨(by rw [ne 35 (by decide)]; exact c35), (by rw [ne 36 (by decide)]; exact c36), (by rw [ne 37 (by decide)]; exact c37), (by rw [ne 38 (by decide)]; exact c38), (by rw [ne 39 (by decide)]; exact c39), (by rw [ne 40 (by decide)]; exact c40), (by rw [ne 41 (by decide)]; exact c41), (by rw [ne 42 (by decide)]; exact c42), (by rw [ne 43 (by decide)]; exact c43), (by rw [ne 44 (by decide)]; exact c44), (by rw [ne 45 (by decide)]; exact c45), (by rw [ne 46 (by decide)]; exact c46)⟩⟩
theorem fits_v {o : Ob} (F : FitsO o) (t : Nat) : FitsO (setV o t) := ⟨F.name, F.w_lab_r, F.w_lab, F.w_sel_r, F.w_sel, F.w_tol_r, F.w_tol, F.p_own, F.p_node, F.p_lab_r, F.p_lab, F.p_sel_r, F.p_sel, F.p_tol_r, F.p_tol, F.n_grp, F.n_lab_r, F.n_lab, F.n_tnt_r, F.n_tnt, F.g_lab_r, F.g_lab, F.g_tnt_r, F.g_tnt, F.h_tg, F.h_met_r, F.h_met, F.h_upol_r, F.h_dpol_r, F.h_past_r⟩
theorem Kept.setV {base : Nat} {w : World} {cs : Array Value} {o : Ob} (h : Kept base w cs o) {v : Nat} (h64 : v < 18446744073709551616) : Kept base w (cs.setIfInBounds 2 (.int .u64 v)) (setV o v) := by
  refine ⟨fun w' hf => set_obj_v (h.held w' hf) h64, fun i n c hi hc => h.nil i n c hi ?_, h.small, fits_v h.fits v⟩
  rw [Array.getElem?_setIfInBounds_ne (by rintro rfl; revert hi; decide)] at hc
  exact hc
end Go.Proofs.Ytacgbagcddjlnaa
