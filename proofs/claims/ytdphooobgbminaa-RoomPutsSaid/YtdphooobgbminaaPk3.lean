/- Labels in memory, and who finds one: the document's Get, the library's search, the program's Get. -/
import Derived.Test.YtdphooobgbminaaProg
import Derived.WalkKit
import Derived.Below
import Derived.Lib.Hide
import Derived.Deep.QuietTactic
import Derived.BigQuiet
import Derived.WalkLawsBesides
import Derived.Shelf.Abstract
import Derived.Deep.LoopGhost
import Derived.Test.YtdphooobgbminaaPkRmD
namespace Go.Proofs.Ytdphooobgbminaa.Lb
open Go.RowKit Go.Shelf Go.Lib
set_option linter.unusedVariables false

abbrev Lab := ByteArray × ByteArray
/-- The slice at 'q' reads as the labels 'l'. -/
def Labs (w : World) (q : Option Addr) (l : List Lab) : Prop :=
  ∀ (j : Nat) (x : Lab), l[j]? = some x → ∃ b off, q = some ⟨b, off, none⟩ ∧ b < w.heap.size ∧ w.cell? ⟨b, off + j * 2, none⟩ = some (.string x.1) ∧ w.cell? ⟨b, off + j * 2 + 1, none⟩ = some (.string x.2)
theorem Labs.below {w w' : World} {q : Option Addr} {l : List Lab} (h : Labs w q l) (hb : Below w.heap.size w w') : Labs w' q l := by
  intro j x hj
  obtain ⟨b, off, e, h1, h2, h3⟩ := h j x hj
  exact ⟨b, off, e, Nat.lt_of_lt_of_le h1 hb.size, (hb.cell (p := ⟨b, off + j * 2, none⟩) h1).trans h2, (hb.cell (p := ⟨b, off + j * 2 + 1, none⟩) h1).trans h3⟩
theorem Labs.nil (w : World) (q : Option Addr) : Labs w q [] := fun j x hj => by simp at hj
/-- A step of a world, below the heap's old end. -/
theorem bel_alloc {w wr : World} (h : Below w.heap.size w wr) (o : Obj) : Below w.heap.size w (wr.alloc o) := h.alloc h.size o
theorem bel_trans {w w1 w2 : World} (h : Below w.heap.size w w1) (k : Below w1.heap.size w1 w2) : Below w.heap.size w w2 := h.trans (k.mono h.size)
theorem bel_drew {w wr : World} (h : Below w.heap.size w wr) (n : Nat) : Below w.heap.size w (wr.drewN n) := h.trans ⟨rfl, rfl, rfl, Nat.le_refl _, fun _ _ => rfl⟩

/-- Has the label this key? -/
def hit (k : ByteArray) (x : Lab) : Bool := x.1.toList == k.toList
def getV (l : List Lab) (k : ByteArray) : ByteArray := match l.find? (hit k) with | some x => x.2 | none => ByteArray.empty
def getB (l : List Lab) (k : ByteArray) : Bool := (l.find? (hit k)).isSome
theorem find_hit {l : List Lab} {k : ByteArray} {i : Nat} {x : Lab} (hx : l[i]? = some x) (hm : ∀ j y, j < i → l[j]? = some y → hit k y = false) (hh : hit k x = true) : l.find? (hit k) = some x := by
  induction l generalizing i with
  | nil => simp at hx
  | cons y l ih =>
    cases i with
    | zero => simp at hx; subst hx; simp [hh]
    | succ i =>
      have h0 := hm 0 y (by omega) rfl
      rw [List.find?_cons, h0]
      exact ih (i := i) (by simpa using hx) (fun j z hj hz => hm (j + 1) z (by omega) (by simpa using hz))
theorem find_miss {l : List Lab} {k : ByteArray} (hm : ∀ (j : Nat) (y : Lab), l[j]? = some y → hit k y = false) : l.find? (hit k) = none := by
  rw [List.find?_eq_none]
  intro x hx
  obtain ⟨j, hj⟩ := List.getElem?_of_mem hx
  simp [hm j x hj]

/-! ### the library's search, and the program's Get -/
theorem closure_hit (x : Lab) (k : ByteArray) (B : Nat) (w : World) (hB : w.cell? ⟨B, 0, none⟩ = some (.string k)) (hlt : B < w.heap.size) :
    Calls Try.prog 56 #[.agg #[.string x.1, .string x.2], .pointer (some ⟨B, 0, none⟩)] w fun e w' => e = .returned (.bool (hit k x)) ∧ Below w.heap.size w w' := by
  have hne : B ≠ w.heap.size := by omega
  have t : (x.1.toList == k.toList) = hit k x := rfl
  obtain ⟨r, hr⟩ : ∃ r, r = hit k x := ⟨_, rfl⟩
  rw [← hr] at t ⊢
  clear hr
  go_enter Try.func56, Try.ntmps56
  go_wp2
  go_ret
  exact ⟨rfl, bel_alloc (Below.refl _ _) _⟩

/-- The first place of a key, or -1. -/
def place (l : List Lab) (k : ByteArray) : Int := match l.findIdx? (hit k) with | some i => (i : Int) | none => -1
theorem index_any (w : World) (q : Option Addr) (c : Nat) (l : List Lab) (k : ByteArray) (B : Nat) (h : Labs w q l) (hl : l.length ≤ 9223372036854775807) (hB : w.cell? ⟨B, 0, none⟩ = some (.string k)) (hlt : B < w.heap.size) :
    Calls Try.prog 55 #[.slice q l.length c, .func (.func 56) #[] #[.pointer (some ⟨B, 0, none⟩)]] w fun e w' =>
      ((∃ (i : Nat) (x : Lab), e = .returned (.int .i64 (i : Int)) ∧ l[i]? = some x ∧ l.find? (hit k) = some x) ∨ (e = .returned (.int .i64 (-1)) ∧ l.find? (hit k) = none)) ∧ Below w.heap.size w w' := by
  have HL := Lib.hid h
  have eg : ∀ args w, (callFunc 56 args).run Try.prog w = .ok (.enter 56 args) w := enters_of Try.func56 (by kernel_rfl) rfl
  clear h
  go_enter Try.func55, Try.ntmps55
  go_wp2_with fail
  go_loopw [5, 8] (fun s i wr => ∃ k0 : Nat, k0 ≤ l.length ∧ i = .int .i64 (k0 : Int) ∧ Hid (∀ j y, j < k0 → l[j]? = some y → hit k y = false) ∧ Below w.heap.size w wr) (fun _ i _ => l.length - (intOf i).toNat)
  case atStart => exact ⟨0, Nat.zero_le _, rfl, fun j y hj => absurd hj (Nat.not_lt_zero _), Below.refl _ _⟩
  case round =>
    obtain ⟨k0, hk, rfl, hm, hbel⟩ := hrel
    have HB := Lib.hid hbel
    have HM := hm
    by_cases hlt0 : k0 < l.length
    · obtain ⟨x, hx⟩ : ∃ x, l[k0]? = some x := ⟨l[k0], List.getElem?_eq_getElem hlt0⟩
      obtain ⟨b, off, rfl, hb, c1, c2⟩ := HL.out k0 x hx
      have d1 := (hbel.cell (p := ⟨b, off + k0 * 2, none⟩) hb).trans c1
      have d2 := (hbel.cell (p := ⟨b, off + k0 * 2 + 1, none⟩) hb).trans c2
      have HX := Lib.hid hx
      have hs := hbel.size
      have C := Lib.hid (fun W : World => fun (hW : Below wr.heap.size wr W) => closure_hit x k B W ((hW.cell (p := ⟨B, 0, none⟩) (by show B < _; omega)).trans ((hbel.cell (p := ⟨B, 0, none⟩) hlt).trans hB)) (by have := hW.size; omega))
      cases ht : hit k x with
      | true =>
        rw [ht] at C
        have HT := Lib.hid ht
        clear ht hx hbel c1 c2 hb hs hm
        go_wp2_with (go_at_fn 56; refine (C.out _ (Below.refl _ _)).mono ?_; rintro e w1 ⟨rfl, b1⟩)
        go_ret
        exact ⟨.inl ⟨k0, x, rfl, HX.out, find_hit HX.out HM.out HT.out⟩, bel_trans HB.out b1⟩
      | false =>
        rw [ht] at C
        have HT := Lib.hid ht
        clear ht hx hbel c1 c2 hb hs hm
        go_wp2_with (go_at_fn 56; refine (C.out _ (Below.refl _ _)).mono ?_; rintro e w1 ⟨rfl, b1⟩)
        refine ⟨⟨k0 + 1, hlt0, by go_num, ?_, bel_trans HB.out b1⟩, by simp [intOf]; omega⟩
        intro j y hj hy
        by_cases e : j = k0
        · subst e
          rw [HX.out] at hy
          injection hy with hy
          rw [← hy]
          exact HT.out
        · exact HM.out j y (by omega) hy
    · obtain rfl : k0 = l.length := by omega
      clear hbel hm
      go_wp2
      go_ret
      exact ⟨.inr ⟨rfl, find_miss (fun j y hy => HM.out j y (List.getElem?_eq_some_iff.1 hy).1 hy)⟩, HB.out⟩

theorem get_any (w : World) (q : Option Addr) (c : Nat) (l : List Lab) (k : ByteArray) (h : Labs w q l) (hl : l.length ≤ 9223372036854775807) :
    Calls Try.prog 51 #[.slice q l.length c, .string k] w fun e w' => e = .returned (.tuple #[.string (getV l k), .bool (getB l k)]) ∧ Below w.heap.size w w' := by
  have b0 : Below w.heap.size w (w.alloc (.cells #[.string k] 9)) := bel_alloc (Below.refl _ _) _
  have C := Lib.hid (index_any (w.alloc (.cells #[.string k] 9)) q c l k w.heap.size (h.below b0) hl (by simp) (by simp))
  have HL := Lib.hid (h.below b0)
  have HB := Lib.hid b0
  clear h b0
  go_enter Try.func51, Try.ntmps51
  go_wp2_with fail
  refine C.out.mono ?_
  rintro e w1 ⟨hc, b1⟩
  rcases hc with ⟨i, x, rfl, hi, hf⟩ | ⟨rfl, hf⟩
  · obtain ⟨b, off, rfl, hb, c1, c2⟩ := (HL.out.below b1) i x hi
    have hil := (List.getElem?_eq_some_iff.1 hi).1
    have HF := Lib.hid hf
    have B1 := Lib.hid b1
    clear hf b1 hi
    go_wp2
    go_ret2
    exact ⟨by simp only [getV, getB, HF.out]; rfl, (bel_trans HB.out B1.out)⟩
  · have HF := Lib.hid hf
    have B1 := Lib.hid b1
    clear hf b1
    go_wp2
    go_ret2
    exact ⟨by simp only [getV, getB, HF.out]; rfl, (bel_trans HB.out B1.out)⟩
end Go.Proofs.Ytdphooobgbminaa.Lb
/- What is asked of labels: the program's Match and the document's. -/
namespace Go.Proofs.Ytdphooobgbminaa.Lb
open Go.RowKit Go.Shelf Go.Lib
set_option linter.unusedVariables false

abbrev Req := ByteArray × ByteArray × Int
/-- The slice at 'q' reads as the asks 'r'. -/
def Reqs (w : World) (q : Option Addr) (r : List Req) : Prop :=
  ∀ (j : Nat) (x : Req), r[j]? = some x → ∃ b off, q = some ⟨b, off, none⟩ ∧ b < w.heap.size ∧ w.cell? ⟨b, off + j * 3, none⟩ = some (.string x.1) ∧ w.cell? ⟨b, off + j * 3 + 1, none⟩ = some (.string x.2.1) ∧ w.cell? ⟨b, off + j * 3 + 2, none⟩ = some (.int .i64 x.2.2)
theorem Reqs.below {w w' : World} {q : Option Addr} {r : List Req} (h : Reqs w q r) (hb : Below w.heap.size w w') : Reqs w' q r := by
  intro j x hj
  obtain ⟨b, off, e, h1, h2, h3, h4⟩ := h j x hj
  exact ⟨b, off, e, Nat.lt_of_lt_of_le h1 hb.size, (hb.cell (p := ⟨b, off + j * 3, none⟩) h1).trans h2, (hb.cell (p := ⟨b, off + j * 3 + 1, none⟩) h1).trans h3, (hb.cell (p := ⟨b, off + j * 3 + 2, none⟩) h1).trans h4⟩
theorem Reqs.nil (w : World) (q : Option Addr) : Reqs w q [] := fun j x hj => by simp at hj

/-- Does it hold, by whether the key is there, whether the value is that one, and the Op? -/
def holdsO (t e : Bool) (op : Int) : Bool := if op = 0 then t && e else if op = 1 then !(t && e) else if op = 2 then t else if op = 3 then !t else false
def holdsB (l : List Lab) (x : Req) : Bool := holdsO (getB l x.1) ((getV l x.1).toList == x.2.1.toList) x.2.2
theorem ops_of (op : Int) : op = 0 ∨ op = 1 ∨ op = 2 ∨ op = 3 ∨ ((op == 0) = false ∧ (op == 1) = false ∧ (op == 2) = false ∧ (op == 3) = false) := by
  by_cases h0 : op = 0
  · exact .inl h0
  by_cases h1 : op = 1
  · exact .inr (.inl h1)
  by_cases h2 : op = 2
  · exact .inr (.inr (.inl h2))
  by_cases h3 : op = 3
  · exact .inr (.inr (.inr (.inl h3)))
  exact .inr (.inr (.inr (.inr ⟨by simpa using h0, by simpa using h1, by simpa using h2, by simpa using h3⟩)))
theorem holdsO_none {t e : Bool} {op : Int} (h0 : (op == 0) = false) (h1 : (op == 1) = false) (h2 : (op == 2) = false) (h3 : (op == 3) = false) : holdsO t e op = false := by
  simp at h0 h1 h2 h3
  simp [holdsO, h0, h1, h2, h3]

set_option maxHeartbeats 1000000 in
theorem holds_any (w : World) (q : Option Addr) (c : Nat) (l : List Lab) (k v : ByteArray) (op : Int) (h : Labs w q l) (hl : l.length ≤ 9223372036854775807) :
    Calls Try.prog 45 #[.slice q l.length c, .agg #[.string k, .string v, .int .i64 op]] w fun e w' => e = .returned (.bool (holdsB l (k, v, op))) ∧ Below w.heap.size w w' := by
  have b0 : Below w.heap.size w (w.alloc (.cells #[.string k, .string v, .int .i64 op] 105)) := bel_alloc (Below.refl _ _) _
  have C := Lib.hid (get_any _ q c l k (h.below b0) hl)
  have HB := Lib.hid b0
  have f1 : (w.alloc (.cells #[.string k, .string v, .int .i64 op] 105)).cell? ⟨w.heap.size, 1, none⟩ = some (.string v) := by simp
  have f2 : (w.alloc (.cells #[.string k, .string v, .int .i64 op] 105)).cell? ⟨w.heap.size, 2, none⟩ = some (.int .i64 op) := by simp
  have F1 := Lib.hid f1
  have F2 := Lib.hid f2
  have hz : w.heap.size < (w.alloc (.cells #[.string k, .string v, .int .i64 op] 105)).heap.size := by simp
  have HZ := Lib.hid hz
  clear h b0 f1 f2 hz
  unfold holdsB
  dsimp only
  generalize getV l k = g at C ⊢
  generalize getB l k = t at C ⊢
  obtain ⟨e, he⟩ : ∃ e, (g.toList == v.toList) = e := ⟨_, rfl⟩
  rw [he]
  rcases ops_of op with rfl | rfl | rfl | rfl | ⟨o0, o1, o2, o3⟩
  case inr.inr.inr.inr =>
    rw [holdsO_none o0 o1 o2 o3]
    go_enter Try.func45, Try.ntmps45
    go_wp2_with fail
    refine C.out.mono ?_
    rintro e2 w1 ⟨rfl, b1⟩
    have c2 := (b1.cell (p := ⟨w.heap.size, 2, none⟩) HZ.out).trans F2.out
    have B1 := Lib.hid b1
    clear b1
    go_wp2
    go_ret
    exact ⟨rfl, bel_trans HB.out B1.out⟩
  all_goals
    cases t <;> cases e
    all_goals
      go_enter Try.func45, Try.ntmps45
      go_wp2_with fail
      refine C.out.mono ?_
      rintro e2 w1 ⟨rfl, b1⟩
      have c1 := (b1.cell (p := ⟨w.heap.size, 1, none⟩) HZ.out).trans F1.out
      have c2 := (b1.cell (p := ⟨w.heap.size, 2, none⟩) HZ.out).trans F2.out
      have B1 := Lib.hid b1
      clear b1
      go_wp2
      go_ret
      exact ⟨rfl, bel_trans HB.out B1.out⟩

set_option maxHeartbeats 1000000 in
theorem match_any (w : World) (q p : Option Addr) (c d : Nat) (l : List Lab) (r : List Req) (h : Labs w q l) (hl : l.length ≤ 9223372036854775807) (hp : Reqs w p r) (hr : r.length ≤ 9223372036854775807) :
    Calls Try.prog 35 #[.slice q l.length c, .slice p r.length d] w fun e w' => e = .returned (.bool (r.all (holdsB l))) ∧ Below w.heap.size w w' := by
  have HL := Lib.hid h
  have HP := Lib.hid hp
  clear h hp
  go_enter Try.func35, Try.ntmps35
  go_wp2_with fail
  go_loopw [9] (fun i wr => ∃ k0 : Nat, k0 ≤ r.length ∧ i = .int .i64 (k0 : Int) ∧ Hid (r.all (holdsB l) = (r.drop k0).all (holdsB l)) ∧ Below w.heap.size w wr) (fun i _ => r.length - (intOf i).toNat)
  case atStart => exact ⟨0, Nat.zero_le _, rfl, rfl, Below.refl _ _⟩
  case round =>
    obtain ⟨k0, hk, rfl, hm, hbel⟩ := hrel
    have HB := Lib.hid hbel
    have HM := hm
    by_cases hlt0 : k0 < r.length
    · obtain ⟨x, hx⟩ : ∃ x, r[k0]? = some x := ⟨r[k0], List.getElem?_eq_getElem hlt0⟩
      have HD : Hid ((r.drop k0).all (holdsB l) = (holdsB l x && (r.drop (k0 + 1)).all (holdsB l))) := by
        show _ = _
        rw [List.drop_eq_getElem_cons hlt0, List.all_cons]
        rw [List.getElem?_eq_getElem hlt0] at hx
        injection hx with hx
        rw [hx]
      obtain ⟨k, v, op⟩ := x
      obtain ⟨b, off, rfl, hb, c1, c2, c3⟩ := HP.out k0 _ hx
      have d1 := (hbel.cell (p := ⟨b, off + k0 * 3, none⟩) hb).trans c1
      have d2 := (hbel.cell (p := ⟨b, off + k0 * 3 + 1, none⟩) hb).trans c2
      have d3 := (hbel.cell (p := ⟨b, off + k0 * 3 + 2, none⟩) hb).trans c3
      have HX := Lib.hid hx
      have hs := hbel.size
      have C := Lib.hid (fun W : World => fun (hW : Below wr.heap.size wr W) => holds_any W q c l k v op ((HL.out.below hbel).below hW) hl)
      dsimp only at d1 d2 d3
      cases ht : holdsB l (k, v, op) with
      | true =>
        rw [ht] at C HD
        clear ht hx hbel c1 c2 c3 hb hs hm
        go_wp2_with fail
        refine (C.out _ (bel_alloc (Below.refl _ _) _)).mono ?_
        rintro e w1 ⟨rfl, b1⟩
        have B1 := Lib.hid b1
        clear b1
        go_wp2_with fail
        refine ⟨⟨k0 + 1, hlt0, by go_num, ?_, bel_trans (bel_alloc HB.out _) B1.out⟩, by simp [intOf]; omega⟩
        show _ = _
        rw [HM.out, HD.out, Bool.true_and]
      | false =>
        rw [ht] at C HD
        clear ht hx hbel c1 c2 c3 hb hs hm
        go_wp2_with fail
        refine (C.out _ (bel_alloc (Below.refl _ _) _)).mono ?_
        rintro e w1 ⟨rfl, b1⟩
        have B1 := Lib.hid b1
        clear b1
        go_wp2
        go_ret
        exact ⟨by rw [HM.out, HD.out, Bool.false_and]; rfl, bel_trans (bel_alloc HB.out _) B1.out⟩
    · obtain rfl : k0 = r.length := by omega
      clear hbel hm
      go_wp2
      go_ret
      exact ⟨by rw [HM.out, List.drop_length]; rfl, HB.out⟩
end Go.Proofs.Ytdphooobgbminaa.Lb
/- Taints and who tolerates them: the program's Tolerates and the document's. -/
namespace Go.Proofs.Ytdphooobgbminaa.Lb
open Go.RowKit Go.Shelf Go.Lib
set_option linter.unusedVariables false

/-- Does the toleration 'x' meet the taint 't'? -/
def meets (t x : Lab) : Bool := (x.1.toList == t.1.toList) && ((x.2.toList == t.2.toList) || (x.2.toList.isEmpty))
def tolB (l t : List Lab) : Bool := l.all fun x => t.any (meets x)
theorem all_more {l : List Lab} {p : Lab → Bool} {k : Nat} {x : Lab} (hx : l[k]? = some x) : (l.drop k).all p = (p x && (l.drop (k + 1)).all p) := by
  have h := (List.getElem?_eq_some_iff.1 hx).1
  rw [List.drop_eq_getElem_cons h, List.all_cons]
  rw [List.getElem?_eq_getElem h] at hx
  injection hx with hx
  rw [hx]
theorem any_more {l : List Lab} {p : Lab → Bool} {k : Nat} {x : Lab} (hx : l[k]? = some x) : (l.drop k).any p = (p x || (l.drop (k + 1)).any p) := by
  have h := (List.getElem?_eq_some_iff.1 hx).1
  rw [List.drop_eq_getElem_cons h, List.any_cons]
  rw [List.getElem?_eq_getElem h] at hx
  injection hx with hx
  rw [hx]
/-- How a pair stands: by the keys, by the values, by whether the toleration has none. -/
theorem meets_cases (x y : Lab) : ((y.1.toList == x.1.toList) = false ∧ meets x y = false) ∨ ((y.1.toList == x.1.toList) = true ∧ (y.2.toList == x.2.toList) = true ∧ y.2.toList.isEmpty = false ∧ meets x y = true) ∨
    ((y.1.toList == x.1.toList) = true ∧ (y.2.toList == x.2.toList) = true ∧ y.2.toList.isEmpty = true ∧ meets x y = true) ∨
    ((y.1.toList == x.1.toList) = true ∧ (y.2.toList == x.2.toList) = false ∧ y.2.toList.isEmpty = true ∧ meets x y = true) ∨ ((y.1.toList == x.1.toList) = true ∧ (y.2.toList == x.2.toList) = false ∧ y.2.toList.isEmpty = false ∧ meets x y = false) := by
  unfold meets
  cases (y.1.toList == x.1.toList) <;> cases (y.2.toList == x.2.toList) <;> cases y.2.toList.isEmpty <;> simp

set_option maxHeartbeats 2000000 in
theorem tol_any (w : World) (q p : Option Addr) (c d : Nat) (l t : List Lab) (h : Labs w q l) (hl : l.length ≤ 9223372036854775807) (hp : Labs w p t) (hr : t.length ≤ 9223372036854775807) :
    Calls Try.prog 36 #[.slice q l.length c, .slice p t.length d] w fun e w' => e = .returned (.bool (tolB l t)) ∧ Below w.heap.size w w' := by
  have HL := Lib.hid h
  have HP := Lib.hid hp
  clear h hp
  obtain ⟨B, hB⟩ : ∃ B, B = tolB l t := ⟨_, rfl⟩
  rw [← hB]
  have HTB := Lib.hid hB
  clear hB
  go_enter Try.func36, Try.ntmps36
  go_wp2
  go_step3
  go_wp2
  go_step3
  go_wp2
  go_loopg [11] l.length (fun g i wr => ∃ k0 : Nat, k0 ≤ l.length ∧ l.length - k0 ≤ g ∧ i = .int .i64 (k0 : Int) ∧ Hid (B = (l.drop k0).all fun x => t.any (meets x)) ∧ Hid (Below w.heap.size w wr))
  case atStart => exact ⟨0, Nat.zero_le _, by omega, rfl, HTB.out, Below.refl _ _⟩
  case round =>
    obtain ⟨k0, hk, hg, rfl, HM, HB⟩ := hrel
    by_cases hlt0 : k0 < l.length
    · obtain ⟨x, hx⟩ : ∃ x, l[k0]? = some x := ⟨l[k0], List.getElem?_eq_getElem hlt0⟩
      have HD : Hid ((l.drop k0).all (fun x => t.any (meets x)) = (t.any (meets x) && (l.drop (k0 + 1)).all fun x => t.any (meets x))) := all_more hx
      obtain ⟨b, off, rfl, hb, c1, c2⟩ := HL.out k0 _ hx
      have d1 := (HB.out.cell (p := ⟨b, off + k0 * 2, none⟩) hb).trans c1
      have d2 := (HB.out.cell (p := ⟨b, off + k0 * 2 + 1, none⟩) hb).trans c2
      have F : Hid (((wr.alloc (.cells #[.string x.1, .string x.2] 99)).cell? ⟨wr.heap.size, 0, none⟩ = some (.string x.1)) ∧ ((wr.alloc (.cells #[.string x.1, .string x.2] 99)).cell? ⟨wr.heap.size, 1, none⟩ = some (.string x.2)) ∧ wr.heap.size < (wr.alloc (.cells #[.string x.1, .string x.2] 99)).heap.size) := ⟨by simp, by simp, by simp⟩
      have BA : Hid (Below w.heap.size w (wr.alloc (.cells #[.string x.1, .string x.2] 99))) := bel_alloc HB.out _
      clear hx c1 c2 hb
      go_wp2_with fail
      clear d1 d2
      generalize wr.alloc (.cells #[.string x.1, .string x.2] 99) = wa at F BA ⊢
      generalize wr.heap.size = N at F ⊢
      go_loopg [17] t.length (fun g2 i2 wr2 => ∃ j0 : Nat, j0 ≤ t.length ∧ t.length - j0 ≤ g2 ∧ i2 = .int .i64 (j0 : Int) ∧ Hid (t.any (meets x) = (t.drop j0).any (meets x)) ∧ Hid (Below wa.heap.size wa wr2))
      case atStart => exact ⟨0, Nat.zero_le _, by omega, rfl, rfl, Below.refl _ _⟩
      case round =>
        obtain ⟨j0, hj, hg2, rfl, HM2, HB2⟩ := hrel
        by_cases hlt1 : j0 < t.length
        · obtain ⟨y, hy⟩ : ∃ y, t[j0]? = some y := ⟨t[j0], List.getElem?_eq_getElem hlt1⟩
          have HE : Hid ((t.drop j0).any (meets x) = (meets x y || (t.drop (j0 + 1)).any (meets x))) := any_more hy
          obtain ⟨b', off', rfl, hb', e1, e2⟩ := (HP.out.below BA.out) j0 _ hy
          have d1 := (HB2.out.cell (p := ⟨b', off' + j0 * 2, none⟩) hb').trans e1
          have d2 := (HB2.out.cell (p := ⟨b', off' + j0 * 2 + 1, none⟩) hb').trans e2
          have d3 := (HB2.out.cell (p := ⟨N, 0, none⟩) F.out.2.2).trans F.out.1
          have d4 := (HB2.out.cell (p := ⟨N, 1, none⟩) F.out.2.2).trans F.out.2.1
          have hne : N < wr.heap.size := Nat.lt_of_lt_of_le F.out.2.2 HB2.out.size
          clear hy e1 e2 hb'
          have hgt : l.length - (k0 + 1) < l.length - k0 := by omega
          have BW : Hid (Below w.heap.size w wr) := bel_trans BA.out HB2.out
          rcases meets_cases x y with ⟨t1, tm⟩ | ⟨t1, t2, t3, tm⟩ | ⟨t1, t2, t3, tm⟩ | ⟨t1, t2, t3, tm⟩ | ⟨t1, t2, t3, tm⟩
          case inl | inr.inr.inr.inr =>
            have TM := Lib.hid tm
            clear tm
            go_wp2_with fail
            go_roundg (t.length - (j0 + 1))
            case measure => omega
            case rel => exact ⟨j0 + 1, hlt1, Nat.le_refl _, by go_num, by show _ = _; rw [HM2.out, HE.out, TM.out]; rfl, bel_alloc HB2.out _⟩
          all_goals
            have TM := Lib.hid tm
            clear tm
            go_wp2
            go_roundg (l.length - (k0 + 1))
            case measure => omega
            case rel => exact ⟨k0 + 1, hlt0, Nat.le_refl _, by go_num, by show _ = _; rw [HM.out, HD.out, HM2.out, HE.out, TM.out]; rfl, bel_alloc BW.out _⟩
        · obtain rfl : j0 = t.length := by omega
          have BW : Hid (Below w.heap.size w wr) := bel_trans BA.out HB2.out
          go_wp2
          rw [Exit.noGoto_ret]
          go_ret
          exact ⟨by rw [HM.out, HD.out, HM2.out, List.drop_length]; rfl, BW.out⟩
    · obtain rfl : k0 = l.length := by omega
      go_wp2
      rw [Exit.noGoto_ret]
      go_ret
      exact ⟨by rw [HM.out, List.drop_length]; rfl, HB.out⟩
end Go.Proofs.Ytdphooobgbminaa.Lb
/- Layer 17 (room): whether a pod may go to a node, but for what is left (May). -/
namespace Go.Proofs.Ytdphooobgbminaa.Rm
open Go.RowKit Go.Shelf Go.Lib Go.Sort Go.Deep
open Go.Joins (cell_of_block unfrozen_of_block block_setCell)
open Go.Proofs.Ytdphooobgbminaa.Ow
set_option linter.unusedVariables false
set_option linter.unusedSimpArgs false
set_option maxRecDepth 20000

theorem labs_of {w : World} {q : Option Addr} {l : List Lab} (h : RowR 2 encL w q l) : Lb.Labs w q l := fun j x hj => by
  obtain ⟨b, off, e, h1, h2⟩ := h j x hj
  exact ⟨b, off, e, h1, h2 0 _ rfl, h2 1 _ rfl⟩
theorem reqs_of {w : World} {q : Option Addr} {l : List Req} (h : RowR 3 encR w q l) : Lb.Reqs w q l := fun j x hj => by
  obtain ⟨b, off, e, h1, h2⟩ := h j x hj
  exact ⟨b, off, e, h1, h2 0 _ rfl, h2 1 _ rfl, h2 2 _ rfl⟩
/-- May it, but for what is left? -/
def mayB' (n : Nd) (x : Pd) : Bool := !n.closed && (x.sel.all (Lb.holdsB n.lab) && Lb.tolB n.tnt x.tol)
/-- Rows that memory can hold. -/
def Short (n : Nd) (x : Pd) : Prop := n.lab.length ≤ 9223372036854775807 ∧ n.tnt.length ≤ 9223372036854775807 ∧ x.sel.length ≤ 9223372036854775807 ∧ x.tol.length ≤ 9223372036854775807

set_option maxHeartbeats 4000000 in
theorem rm_may (w : World) (R P : Array Value) (r : Rmo) (x : Pd) (hR : RmV w R r) (hP : PdS w P x) (hs : Short r.n x) :
    Calls Try.prog 20 #[.agg R, .agg P] w fun e w' => e = .returned (.bool (mayB' r.n x)) ∧ Below w.heap.size w w' := by
  obtain ⟨N, hN, rfl⟩ := hR
  obtain ⟨ql, cl, qt, ct, rfl, rl, rt⟩ := hN.lit
  obtain ⟨q1, c1, q2, c2, q3, c3, rfl, r1, r2, r3⟩ := hP.lit
  rw [roomC_lit]
  obtain ⟨s1, s2, s3, s4⟩ := hs
  have C1 : Hid (∀ W, Below w.heap.size w W → Calls Try.prog 35 #[.slice ql r.n.lab.length cl, .slice q2 x.sel.length c2] W fun e w' => e = .returned (.bool (x.sel.all (Lb.holdsB r.n.lab))) ∧ Below W.heap.size W w') := fun W b =>
    Lb.match_any W ql q2 cl c2 _ _ (labs_of (rl.below b)) s1 (reqs_of (r2.below b)) s3
  have C2 : Hid (∀ W, Below w.heap.size w W → Calls Try.prog 36 #[.slice qt r.n.tnt.length ct, .slice q3 x.tol.length c3] W fun e w' => e = .returned (.bool (Lb.tolB r.n.tnt x.tol)) ∧ Below W.heap.size W w') := fun W b =>
    Lb.tol_any W qt q3 ct c3 _ _ (labs_of (rt.below b)) s2 (labs_of (r3.below b)) s4
  unfold mayB'
  generalize x.sel.all (Lb.holdsB r.n.lab) = b1 at C1 ⊢
  generalize Lb.tolB r.n.tnt x.tol = b2 at C2 ⊢
  clear hN hP rl rt r1 r2 r3 s1 s2 s3 s4
  obtain ⟨nm, n, uc, um, k⟩ := r
  obtain ⟨grp, nc, nmm, lab, tnt, sn, clo⟩ := n
  obtain ⟨own, nod, ph, si, cpu, mem, lb, sel, tol, warm⟩ := x
  simp only at C1 C2 ⊢
  generalize lab.length = n1 at C1 ⊢
  generalize tnt.length = n2 at C2 ⊢
  generalize lb.length = n3 at *
  generalize sel.length = n4 at C1 ⊢
  generalize tol.length = n5 at C2 ⊢
  obtain ⟨RC, hRC⟩ : ∃ a : Array Value, a = #[.string nm, .string grp, .int .i64 nc, .int .i64 nmm, .slice ql n1 cl, .slice qt n2 ct, .int .i64 sn, .bool clo, .int .i64 uc, .int .i64 um, .int .i64 k] := ⟨_, rfl⟩
  obtain ⟨PC, hPC⟩ : ∃ a : Array Value, a = #[.string own, .string nod, .int .i64 ph, .int .i64 si, .int .i64 cpu, .int .i64 mem, .slice q1 n3 c1, .slice q2 n4 c2, .slice q3 n5 c3, .int .i64 warm] := ⟨_, rfl⟩
  obtain ⟨NC, hNC⟩ : ∃ a : Array Value, a = #[.string grp, .int .i64 nc, .int .i64 nmm, .slice ql n1 cl, .slice qt n2 ct, .int .i64 sn, .bool clo] := ⟨_, rfl⟩
  obtain ⟨B, hB⟩ : ∃ B, B = w.heap.size := ⟨_, rfl⟩
  obtain ⟨wa, hwa⟩ : ∃ x, x = ((w.alloc (.cells RC RT)).alloc (.cells PC PTy)).alloc (.cells NC NTy) := ⟨_, rfl⟩
  have Ga : Gr w wa := hwa ▸ (((Gr.refl w).alloc _).alloc _).alloc _
  have y1 : wa.heap[B + 1]? = some (.cells PC PTy (0, 0)) := by
    rw [hwa, hB, Below.heap_alloc _ _ _ (by simp)]
    have := heap_alloc_new (w.alloc (.cells RC RT)) (.cells PC PTy)
    simpa using this
  have y2 : wa.heap[B + 2]? = some (.cells NC NTy (0, 0)) := by
    rw [hwa, hB]
    have := heap_alloc_new ((w.alloc (.cells RC RT)).alloc (.cells PC PTy)) (.cells NC NTy)
    simpa using this
  have d6 : wa.cell? ⟨B + 2, 6, none⟩ = some (.bool clo) := by rw [hNC] at y2; exact cell_of_block y2 6
  have d3 : wa.cell? ⟨B + 2, 3, none⟩ = some (.slice ql n1 cl) := by rw [hNC] at y2; exact cell_of_block y2 3
  have d4 : wa.cell? ⟨B + 2, 4, none⟩ = some (.slice qt n2 ct) := by rw [hNC] at y2; exact cell_of_block y2 4
  have p7 : wa.cell? ⟨B + 1, 7, none⟩ = some (.slice q2 n4 c2) := by rw [hPC] at y1; exact cell_of_block y1 7
  have p8 : wa.cell? ⟨B + 1, 8, none⟩ = some (.slice q3 n5 c3) := by rw [hPC] at y1; exact cell_of_block y1 8
  have HW : Hid (((w.alloc (.cells #[.string nm, .string grp, .int .i64 nc, .int .i64 nmm, .slice ql n1 cl, .slice qt n2 ct, .int .i64 sn, .bool clo, .int .i64 uc, .int .i64 um, .int .i64 k] RT)).alloc (.cells #[.string own, .string nod, .int .i64 ph, .int .i64 si, .int .i64 cpu, .int .i64 mem, .slice q1 n3 c1, .slice q2 n4 c2, .slice q3 n5 c3, .int .i64 warm] PTy)).alloc (.cells #[.string grp, .int .i64 nc, .int .i64 nmm, .slice ql n1 cl, .slice qt n2 ct, .int .i64 sn, .bool clo] NTy) = wa ∧ w.heap.size = B) := ⟨by rw [hwa, hRC, hPC, hNC], hB.symm⟩
  have HG := Lib.hid Ga.below
  clear hRC hPC hNC hwa y1 y2 Ga hB
  cases clo with
  | true =>
    clear C1 C2
    go_enter Try.func20, Try.ntmps20
    go_upto_region 2 with fail
    rw [HW.out.1, HW.out.2]
    go_wp2
    go_ret
    exact ⟨rfl, HG.out⟩
  | false =>
    have D1 := Lib.hid (C1.out wa HG.out)
    clear C1
    go_enter Try.func20, Try.ntmps20
    go_upto_region 2 with fail
    rw [HW.out.1, HW.out.2]
    go_wp2_with fail
    refine D1.out.mono ?_
    rintro e w1 ⟨rfl, g1⟩
    have HG1 := Lib.hid (HG.out.trans (g1.mono HG.out.size))
    have d4' : w1.cell? ⟨B + 2, 4, none⟩ = some (.slice qt n2 ct) := (g1.cell (World.block_lt_of_cell? _ _ d4)).trans d4
    have p8' : w1.cell? ⟨B + 1, 8, none⟩ = some (.slice q3 n5 c3) := (g1.cell (World.block_lt_of_cell? _ _ p8)).trans p8
    have D2 := Lib.hid (C2.out w1 HG1.out)
    clear d6 d3 d4 p7 p8 g1 D1 C2
    cases b1 with
    | false =>
      go_wp2
      go_ret
      exact ⟨rfl, HG1.out⟩
    | true =>
      go_wp2_with fail
      refine D2.out.mono ?_
      rintro e w2 ⟨rfl, g2⟩
      have HG2 := Lib.hid (HG1.out.trans (g2.mono HG1.out.size))
      clear d4' p8' g2 D2
      go_wp2
      go_ret
      exact ⟨rfl, HG2.out⟩
end Go.Proofs.Ytdphooobgbminaa.Rm
