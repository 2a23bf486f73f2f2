/- Objects written are read: the course's steps, one after the other. -/
import Derived.Test.YtlajiochpdlhaaaOctU
import Derived.Test.YtlajiochpdlhaaaOctJ
namespace Go.Proofs.Ytlajiochpdlhaaa
open Go.RowKit Go.Shelf Go.Lib Go.Sort
set_option linter.unusedVariables false

/-- A number of 64 bits with a sign. -/
def I64 (x : Int) : Prop := -9223372036854775808 ≤ x ∧ x < 9223372036854775808
theorem numT_read {ro : Option Addr} {x y : Int} {r : List UInt8} (h : I64 x) : numT (.rd ro (some (num x ++ r))) y = (.rd ro (some r), x) := by
  obtain ⟨h1, h2⟩ := int_num (r := r) h.1 h.2
  simp only [numT, h1, h2]
theorem numU_read {ro : Option Addr} {x y : Nat} {r : List UInt8} (h : x < 18446744073709551616) : numU (.rd ro (some (le x 8 ++ r))) y = (.rd ro (some r), x) := by
  obtain ⟨h1, h2⟩ := get_le (n := 8) (x := x) (r := r)
  simp only [numU, h1, h2]
  rw [show x % 256 ^ 8 = x from Nat.mod_eq_of_lt h]
theorem txtT_read {ro : Option Addr} {t y : ByteArray} {r : List UInt8} (h : t.size ≤ 255) : txtT (.rd ro (some (txt t ++ r))) y = (.rd ro (some r), t) := by
  obtain ⟨h1, h2⟩ := text_txt (r := r) h
  simp only [txtT, h1, h2, mk_by]
theorem oneT_read {ro : Option Addr} {k : Nat} {y : Int} {r : List UInt8} (h : k < 256) : oneT (.rd ro (some (le k 1 ++ r))) y = (.rd ro (some r), (k : Int)) := by
  obtain ⟨h1, h2⟩ := get_le (n := 1) (x := k) (r := r)
  simp only [oneT, h1, h2]
  rw [show k % 256 ^ 1 = k from Nat.mod_eq_of_lt (by omega)]
theorem tru_le (b : Bool) : tru b = le (if b then 1 else 0) 1 := by cases b <;> rfl
theorem truT_read {ro : Option Addr} {b y : Bool} {r : List UInt8} : truT (.rd ro (some (tru b ++ r))) y = (.rd ro (some r), b) := by
  rw [tru_le]
  obtain ⟨h1, h2⟩ := get_le (n := 1) (x := if b then 1 else 0) (r := r)
  simp only [truT, h1, h2]
  cases b <;> rfl
/-- A thing of a row is read as it was written. -/
def Reads {α : Type} (tr : St → α → St × α) (by_ : α → List UInt8) (ok : α → Prop) : Prop := ∀ (ro : Option Addr) (x y : α) (r : List UInt8), ok x → tr (.rd ro (some (by_ x ++ r))) y = (.rd ro (some r), x)
theorem labT_read : Reads labT byL (fun x => okL x = true) := by
  intro ro x y r h
  simp [okL] at h
  unfold labT byL
  rw [List.append_assoc, txtT_read h.1]
  dsimp only
  rw [txtT_read h.2]
theorem reqT_read : Reads reqT byR (fun x => okR x = true ∧ I64 x.2.2) := by
  intro ro x y r h
  obtain ⟨h, hi⟩ := h
  simp [okR] at h
  unfold reqT byR
  rw [List.append_assoc, List.append_assoc, txtT_read h.1]
  dsimp only
  rw [txtT_read h.2]
  dsimp only
  rw [numT_read hi]
theorem metT_read : Reads metT byM (fun x => okM x = true ∧ I64 x.1 ∧ I64 x.2.2) := by
  intro ro x y r h
  obtain ⟨h, h1, h2⟩ := h
  simp [okM] at h
  unfold metT byM
  rw [List.append_assoc, List.append_assoc, numT_read h1]
  dsimp only
  rw [txtT_read h]
  dsimp only
  rw [numT_read h2]
theorem polT_read : Reads polT byP (fun x => I64 x.2.1 ∧ I64 x.2.2) := by
  intro ro x y r h
  unfold polT byP
  rw [List.append_assoc, List.append_assoc, truT_read]
  dsimp only
  rw [numT_read h.1]
  dsimp only
  rw [numT_read h.2]
theorem scaT_read : Reads scaT byS (fun x => I64 x.1 ∧ I64 x.2.1 ∧ I64 x.2.2) := by
  intro ro x y r h
  unfold scaT byS
  rw [List.append_assoc, List.append_assoc, numT_read h.1]
  dsimp only
  rw [numT_read h.2.1]
  dsimp only
  rw [numT_read h.2.2]
theorem rdRow_read {α : Type} {tr : St → α → St × α} {f : α → List UInt8} {ok : α → Prop} (hr : Reads tr f ok) (z : α) (ro : Option Addr) : ∀ (l : List α) (r : List UInt8) (acc : List α), (∀ x ∈ l, ok x) → rdRow tr z l.length (.rd ro (some (l.flatMap f ++ r))) acc = (.rd ro (some r), acc ++ l)
  | [], r, acc, _ => by simp [rdRow]
  | x :: l, r, acc, h => by
    rw [List.flatMap_cons, List.append_assoc, List.length_cons, rdRow, hr ro x z _ (h x List.mem_cons_self)]
    rw [if_neg (by simp [St.dead])]
    rw [rdRow_read hr z ro l r _ (fun y hy => h y (List.mem_cons_of_mem _ hy))]
    simp
theorem rowT_read {α : Type} {tr : St → α → St × α} {f : α → List UInt8} {ok : α → Prop} (hr : Reads tr f ok) (z : α) {ro : Option Addr} {l y : List α} {r : List UInt8} (hl : l.length ≤ 255) (h : ∀ x ∈ l, ok x) : rowT tr z (.rd ro (some (rowB f l ++ r))) y = (.rd ro (some r), l) := by
  unfold rowB rowT
  obtain ⟨h1, h2⟩ := get_le (n := 1) (x := l.length) (r := l.flatMap f ++ r)
  dsimp only
  rw [List.append_assoc, h1, h2, show l.length % 256 ^ 1 = l.length from Nat.mod_eq_of_lt (by omega), rdRow_read hr z ro l r [] h]
  rfl

/-- All numbers of a shape are of 64 bits. -/
def ranL (l : List Lab) : Prop := True
def ranR (l : List Req) : Prop := ∀ x ∈ l, I64 x.2.2
def ranM (l : List Met) : Prop := ∀ x ∈ l, I64 x.1 ∧ I64 x.2.2
def ranP (l : List Pol) : Prop := ∀ x ∈ l, I64 x.2.1 ∧ I64 x.2.2
def ranS (l : List Sca) : Prop := ∀ x ∈ l, I64 x.1 ∧ I64 x.2.1 ∧ I64 x.2.2
def ranW (x : Wl) : Prop := I64 x.rep ∧ I64 x.cpu ∧ I64 x.mem ∧ ranR x.sel ∧ I64 x.warm
def ranPd (x : Pd) : Prop := I64 x.ph ∧ I64 x.since ∧ I64 x.cpu ∧ I64 x.mem ∧ ranR x.sel ∧ I64 x.warm
def ranN (x : Nd) : Prop := I64 x.cpu ∧ I64 x.mem ∧ I64 x.since
def ranG (x : Gp) : Prop := I64 x.mn ∧ I64 x.mx ∧ I64 x.tg ∧ I64 x.cpu ∧ I64 x.mem ∧ I64 x.prio
def ranH (x : Hp) : Prop := I64 x.mn ∧ I64 x.mx ∧ ranM x.met ∧ I64 x.tol ∧ I64 x.uw ∧ I64 x.up ∧ ranP x.upol ∧ I64 x.dw ∧ I64 x.dp ∧ ranP x.dpol ∧ ranS x.past
def ranO (o : Ob) : Prop := o.ver < 18446744073709551616 ∧ ranW o.w ∧ ranPd o.p ∧ ranN o.n ∧ ranG o.g ∧ ranH o.h
theorem row_l {ro : Option Addr} {l y : List Lab} {r : List UInt8} {z : Lab} (h : okRow okL l = true) : rowT labT z (.rd ro (some (rowB byL l ++ r))) y = (.rd ro (some r), l) := by
  rw [okRow_iff] at h
  exact rowT_read labT_read z h.2 (fun x hx => List.all_eq_true.1 h.1 x hx)
theorem row_r {ro : Option Addr} {l y : List Req} {r : List UInt8} {z : Req} (h : okRow okR l = true) (g : ranR l) : rowT reqT z (.rd ro (some (rowB byR l ++ r))) y = (.rd ro (some r), l) := by
  rw [okRow_iff] at h
  exact rowT_read reqT_read z h.2 (fun x hx => ⟨List.all_eq_true.1 h.1 x hx, g x hx⟩)
theorem row_m {ro : Option Addr} {l y : List Met} {r : List UInt8} {z : Met} (h : l.all okM = true) (hl : l.length ≤ 255) (g : ranM l) : rowT metT z (.rd ro (some (rowB byM l ++ r))) y = (.rd ro (some r), l) :=
  rowT_read metT_read z hl (fun x hx => ⟨List.all_eq_true.1 h x hx, g x hx⟩)
theorem row_p {ro : Option Addr} {l y : List Pol} {r : List UInt8} {z : Pol} (hl : l.length ≤ 255) (g : ranP l) : rowT polT z (.rd ro (some (rowB byP l ++ r))) y = (.rd ro (some r), l) := rowT_read polT_read z hl g
theorem row_s {ro : Option Addr} {l y : List Sca} {r : List UInt8} {z : Sca} (hl : l.length ≤ 255) (g : ranS l) : rowT scaT z (.rd ro (some (rowB byS l ++ r))) y = (.rd ro (some r), l) := rowT_read scaT_read z hl g

theorem wlT_read {ro : Option Addr} {x y : Wl} {r : List UInt8} (h : okW x = true) (g : ranW x) : wlT (.rd ro (some (wlB x ++ r))) y = (.rd ro (some r), x) := by
  simp only [okW, Bool.and_eq_true] at h
  obtain ⟨g1, g2, g3, g4, g5⟩ := g
  unfold wlT wlB
  simp only [List.append_assoc, numT_read g1, numT_read g2, numT_read g3, row_l h.1.1, row_r h.1.2 g4, row_l h.2, numT_read g5]
theorem pdT_read {ro : Option Addr} {x y : Pd} {r : List UInt8} (h : okP x = true) (g : ranPd x) : pdT (.rd ro (some (pdB x ++ r))) y = (.rd ro (some r), x) := by
  simp only [okP, Bool.and_eq_true, okT_iff] at h
  obtain ⟨g1, g2, g3, g4, g5, g6⟩ := g
  unfold pdT pdB
  simp only [List.append_assoc, txtT_read h.1.1.1.1, txtT_read h.1.1.1.2, numT_read g1, numT_read g2, numT_read g3, numT_read g4, row_l h.1.1.2, row_r h.1.2 g5, row_l h.2, numT_read g6]
theorem ndT_read {ro : Option Addr} {x y : Nd} {r : List UInt8} (h : okN x = true) (g : ranN x) : ndT (.rd ro (some (ndB x ++ r))) y = (.rd ro (some r), x) := by
  simp only [okN, Bool.and_eq_true, okT_iff] at h
  obtain ⟨g1, g2, g3⟩ := g
  unfold ndT ndB
  simp only [List.append_assoc, txtT_read h.1.1, numT_read g1, numT_read g2, row_l h.1.2, row_l h.2, numT_read g3, truT_read]
theorem gpT_read {ro : Option Addr} {x y : Gp} {r : List UInt8} (h : okG x = true) (g : ranG x) : gpT (.rd ro (some (gpB x ++ r))) y = (.rd ro (some r), x) := by
  simp only [okG, Bool.and_eq_true] at h
  obtain ⟨g1, g2, g3, g4, g5, g6⟩ := g
  unfold gpT gpB
  simp only [List.append_assoc, numT_read g1, numT_read g2, numT_read g3, numT_read g4, numT_read g5, row_l h.1, row_l h.2, numT_read g6]
theorem hpT_read {ro : Option Addr} {x y : Hp} {r : List UInt8} (h : okH x = true) (g : ranH x) : hpT (.rd ro (some (hpB x ++ r))) y = (.rd ro (some r), x) := by
  simp only [okH, Bool.and_eq_true, okT_iff, decide_eq_true_eq] at h
  obtain ⟨g1, g2, g3, g4, g5, g6, g7, g8, g9, g10, g11⟩ := g
  obtain ⟨⟨⟨⟨⟨h1, h2⟩, h3⟩, h4⟩, h5⟩, h6⟩ := h
  unfold hpT hpB behB
  simp only [List.append_assoc, txtT_read h2, numT_read g1, numT_read g2, row_m h1 h3 g3, numT_read g4, numT_read g5, numT_read g6, row_p h5 g7, numT_read g8, numT_read g9, row_p h6 g10, row_s h4 g11]
/-- An object that was written is read, with the shapes of other kinds empty. -/
theorem objT_read {ro : Option Addr} {x y : Ob} {r : List UInt8} (hk : 0 ≤ x.kind ∧ x.kind ≤ 4) (h : okO x = true) (g : ranO x) :
    objT (.rd ro (some (objB x ++ r))) y = (.rd ro (some r), if x.kind = 0 then ⟨x.kind, x.name, x.ver, x.w, y.p, y.n, y.g, y.h⟩ else if x.kind = 1 then ⟨x.kind, x.name, x.ver, y.w, x.p, y.n, y.g, y.h⟩ else if x.kind = 2 then ⟨x.kind, x.name, x.ver, y.w, y.p, x.n, y.g, y.h⟩ else if x.kind = 3 then ⟨x.kind, x.name, x.ver, y.w, y.p, y.n, x.g, y.h⟩ else ⟨x.kind, x.name, x.ver, y.w, y.p, y.n, y.g, x.h⟩) := by
  simp only [okO, Bool.and_eq_true, okT_iff] at h
  obtain ⟨hn, hs⟩ := h
  obtain ⟨gv, g1, g2, g3, g4, g5⟩ := g
  have hu : u64 x.kind = x.kind.toNat := by unfold u64; omega
  have hki : ((x.kind.toNat : Nat) : Int) = x.kind := by omega
  unfold objT objB hdB
  simp only [List.append_assoc, hu, oneT_read (show x.kind.toNat < 256 by omega), txtT_read hn, numU_read gv, hki]
  unfold shB okS at *
  by_cases k0 : x.kind = 0
  · simp only [k0, if_true] at hs ⊢
    rw [wlT_read hs g1]
  · by_cases k1 : x.kind = 1
    · simp only [k1, if_true, if_false, show (1 : Int) ≠ 0 by decide] at hs ⊢
      rw [pdT_read hs g2]
    · by_cases k2 : x.kind = 2
      · simp only [k2, if_true, if_false, show (2 : Int) ≠ 0 by decide, show (2 : Int) ≠ 1 by decide] at hs ⊢
        rw [ndT_read hs g3]
      · by_cases k3 : x.kind = 3
        · simp only [k3, if_true, if_false, show (3 : Int) ≠ 0 by decide, show (3 : Int) ≠ 1 by decide, show (3 : Int) ≠ 2 by decide] at hs ⊢
          rw [gpT_read hs g4]
        · have k4 : x.kind = 4 := by omega
          simp only [k4, if_true, if_false, show (4 : Int) ≠ 0 by decide, show (4 : Int) ≠ 1 by decide, show (4 : Int) ≠ 2 by decide, show (4 : Int) ≠ 3 by decide] at hs ⊢
          rw [hpT_read hs g5]
end Go.Proofs.Ytlajiochpdlhaaa
