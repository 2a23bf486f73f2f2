/- Labels in memory, and who finds one: the document's Get, the library's search, the program's Get. -/
import Derived.Test.YtmdpkblkbokhoaaProg
import Derived.WalkKit
import Derived.Below
import Derived.Lib.Hide
import Derived.Deep.QuietTactic
import Derived.BigQuiet
import Derived.WalkLawsBesides
import Derived.Shelf.Abstract
namespace Go.Proofs.Ytmdpkblkbokhoaa
open Go.RowKit Go.Shelf Go.Lib
set_option linter.unusedVariables false

abbrev Lab := ByteArray × ByteArray
/-- The slice at 'q' reads as the labels 'l'. -/
def Labs (w : World) (q : Option Addr) (l : List Lab) : Prop :=
  ∀ (j : Nat) (x : Lab), l[j]? = some x → ∃ b off, q = some ⟨b, off, none⟩ ∧ b < w.heap.size ∧ w.cell? ⟨b, off + j * 2, none⟩ = some (.string x.1) ∧ w.cell? ⟨b, off + j * 2 + 1, none⟩ = some (.string x.2)
theorem Labs.below {w w' : World} {q : Option Addr} {l : List Lab} (h : Labs w q l) (hb : Below w.heap.size w w') : Labs w' q l := by
  intro j x hj
  obtain ⟨b, off, e, h1, h2, h3⟩ := h j x hj
  exact ⟨b, off, e, Nat.lt_of_lt_of_le h1 hb.size, (hb.cell (p := ⟨b, off + j * 2, none⟩) h1).trans h2, (hb.cell (p := ⟨b, off + j * 2 + 1, none⟩) h1).trans h3⟩
theorem Labs.nil (w : World) (q : Option Addr) : Labs w q [] := fun j x hj => by simp at hj
/-- A step of a world, below the heap's old end. -/
theorem bel_alloc {w wr : World} (h : Below w.heap.size w wr) (o : Obj) : Below w.heap.size w (wr.alloc o) := h.alloc h.size o
theorem bel_trans {w w1 w2 : World} (h : Below w.heap.size w w1) (k : Below w1.heap.size w1 w2) : Below w.heap.size w w2 := h.trans (k.mono h.size)
theorem bel_drew {w wr : World} (h : Below w.heap.size w wr) (n : Nat) : Below w.heap.size w (wr.drewN n) := h.trans ⟨rfl, rfl, rfl, Nat.le_refl _, fun _ _ => rfl⟩

/-- Has the label this key? -/
def hit (k : ByteArray) (x : Lab) : Bool := x.1.toList == k.toList
def getV (l : List Lab) (k : ByteArray) : ByteArray := match l.find? (hit k) with | some x => x.2 | none => ByteArray.empty
def getB (l : List Lab) (k : ByteArray) : Bool := (l.find? (hit k)).isSome
theorem find_hit {l : List Lab} {k : ByteArray} {i : Nat} {x : Lab} (hx : l[i]? = some x) (hm : ∀ j y, j < i → l[j]? = some y → hit k y = false) (hh : hit k x = true) : l.find? (hit k) = some x := by
  induction l generalizing i with
  | nil => simp at hx
  | cons y l ih =>
    cases i with
    | zero => simp at hx; subst hx; simp [hh]
    | succ i =>
      have h0 := hm 0 y (by omega) rfl
      rw [List.find?_cons, h0]
      exact ih (i := i) (by simpa using hx) (fun j z hj hz => hm (j + 1) z (by omega) (by simpa using hz))
theorem find_miss {l : List Lab} {k : ByteArray} (hm : ∀ (j : Nat) (y : Lab), l[j]? = some y → hit k y = false) : l.find? (hit k) = none := by
  rw [List.find?_eq_none]
  intro x hx
  obtain ⟨j, hj⟩ := List.getElem?_of_mem hx
  simp [hm j x hj]

theorem rget_any (w : World) (q : Option Addr) (c : Nat) (l : List Lab) (k : ByteArray) (h : Labs w q l) (hl : l.length ≤ 9223372036854775807) :
    Calls Try.prog 8 #[.slice q l.length c, .string k] w fun e w' => e = .returned (.tuple #[.string (getV l k), .bool (getB l k)]) ∧ Below w.heap.size w w' := by
  have HL := Lib.hid h
  clear h
  go_enter Try.func8, Try.ntmps8
  go_wp2_with fail
  go_loopw [10] (fun i wr => ∃ k0 : Nat, k0 ≤ l.length ∧ i = .int .i64 (k0 : Int) ∧ Hid (∀ j y, j < k0 → l[j]? = some y → hit k y = false) ∧ Below w.heap.size w wr) (fun i _ => l.length - (intOf i).toNat)
  case atStart => exact ⟨0, Nat.zero_le _, rfl, fun j y hj => absurd hj (Nat.not_lt_zero _), Below.refl _ _⟩
  case round =>
    obtain ⟨k0, hk, rfl, hm, hbel⟩ := hrel
    have HB := Lib.hid hbel
    have HM := hm
    by_cases hlt : k0 < l.length
    · obtain ⟨x, hx⟩ : ∃ x, l[k0]? = some x := ⟨l[k0], List.getElem?_eq_getElem hlt⟩
      obtain ⟨b, off, rfl, hb, c1, c2⟩ := HL.out k0 x hx
      have d1 := (hbel.cell (p := ⟨b, off + k0 * 2, none⟩) hb).trans c1
      have d2 := (hbel.cell (p := ⟨b, off + k0 * 2 + 1, none⟩) hb).trans c2
      have HX := Lib.hid hx
      have hs := hbel.size
      cases ht : hit k x with
      | true =>
        have t : (x.1.toList == k.toList) = true := ht
        have HT := Lib.hid ht
        clear ht hx hbel c1 c2 hb hs hm
        go_wp2
        go_ret2
        refine ⟨?_, bel_alloc HB.out _⟩
        have := find_hit HX.out HM.out HT.out
        simp [getV, getB, this]
      | false =>
        have t : (x.1.toList == k.toList) = false := ht
        have HT := Lib.hid ht
        clear ht hx hbel c1 c2 hb hs hm
        go_wp2_with fail
        refine ⟨⟨k0 + 1, hlt, by go_num, ?_, bel_alloc HB.out _⟩, by simp [intOf]; omega⟩
        intro j y hj hy
        by_cases e : j = k0
        · subst e
          rw [HX.out] at hy
          injection hy with hy
          rw [← hy]
          exact HT.out
        · exact HM.out j y (by omega) hy
    · obtain rfl : k0 = l.length := by omega
      clear hbel hm
      go_wp2
      go_ret2
      refine ⟨?_, HB.out⟩
      have := find_miss (l := l) (k := k) (fun j y hy => HM.out j y (List.getElem?_eq_some_iff.1 hy).1 hy)
      simp only [getV, getB, this]
      rfl

/-! ### the library's search, and the program's Get -/
theorem closure_hit (x : Lab) (k : ByteArray) (B : Nat) (w : World) (hB : w.cell? ⟨B, 0, none⟩ = some (.string k)) (hlt : B < w.heap.size) :
    Calls Try.prog 19 #[.agg #[.string x.1, .string x.2], .pointer (some ⟨B, 0, none⟩)] w fun e w' => e = .returned (.bool (hit k x)) ∧ Below w.heap.size w w' := by
  have hne : B ≠ w.heap.size := by omega
  have t : (x.1.toList == k.toList) = hit k x := rfl
  obtain ⟨r, hr⟩ : ∃ r, r = hit k x := ⟨_, rfl⟩
  rw [← hr] at t ⊢
  clear hr
  go_enter Try.func19, Try.ntmps19
  go_wp2
  go_ret
  exact ⟨rfl, bel_alloc (Below.refl _ _) _⟩

/-- The first place of a key, or -1. -/
def place (l : List Lab) (k : ByteArray) : Int := match l.findIdx? (hit k) with | some i => (i : Int) | none => -1
theorem index_any (w : World) (q : Option Addr) (c : Nat) (l : List Lab) (k : ByteArray) (B : Nat) (h : Labs w q l) (hl : l.length ≤ 9223372036854775807) (hB : w.cell? ⟨B, 0, none⟩ = some (.string k)) (hlt : B < w.heap.size) :
    Calls Try.prog 18 #[.slice q l.length c, .func (.func 19) #[] #[.pointer (some ⟨B, 0, none⟩)]] w fun e w' =>
      ((∃ (i : Nat) (x : Lab), e = .returned (.int .i64 (i : Int)) ∧ l[i]? = some x ∧ l.find? (hit k) = some x) ∨ (e = .returned (.int .i64 (-1)) ∧ l.find? (hit k) = none)) ∧ Below w.heap.size w w' := by
  have HL := Lib.hid h
  have eg : ∀ args w, (callFunc 19 args).run Try.prog w = .ok (.enter 19 args) w := enters_of Try.func19 (by kernel_rfl) rfl
  clear h
  go_enter Try.func18, Try.ntmps18
  go_wp2_with fail
  go_loopw [5, 8] (fun s i wr => ∃ k0 : Nat, k0 ≤ l.length ∧ i = .int .i64 (k0 : Int) ∧ Hid (∀ j y, j < k0 → l[j]? = some y → hit k y = false) ∧ Below w.heap.size w wr) (fun _ i _ => l.length - (intOf i).toNat)
  case atStart => exact ⟨0, Nat.zero_le _, rfl, fun j y hj => absurd hj (Nat.not_lt_zero _), Below.refl _ _⟩
  case round =>
    obtain ⟨k0, hk, rfl, hm, hbel⟩ := hrel
    have HB := Lib.hid hbel
    have HM := hm
    by_cases hlt0 : k0 < l.length
    · obtain ⟨x, hx⟩ : ∃ x, l[k0]? = some x := ⟨l[k0], List.getElem?_eq_getElem hlt0⟩
      obtain ⟨b, off, rfl, hb, c1, c2⟩ := HL.out k0 x hx
      have d1 := (hbel.cell (p := ⟨b, off + k0 * 2, none⟩) hb).trans c1
      have d2 := (hbel.cell (p := ⟨b, off + k0 * 2 + 1, none⟩) hb).trans c2
      have HX := Lib.hid hx
      have hs := hbel.size
      have C := Lib.hid (fun W : World => fun (hW : Below wr.heap.size wr W) => closure_hit x k B W ((hW.cell (p := ⟨B, 0, none⟩) (by show B < _; omega)).trans ((hbel.cell (p := ⟨B, 0, none⟩) hlt).trans hB)) (by have := hW.size; omega))
      cases ht : hit k x with
      | true =>
        rw [ht] at C
        have HT := Lib.hid ht
        clear ht hx hbel c1 c2 hb hs hm
        go_wp2_with (go_at_fn 19; refine (C.out _ (Below.refl _ _)).mono ?_; rintro e w1 ⟨rfl, b1⟩)
        go_ret
        exact ⟨.inl ⟨k0, x, rfl, HX.out, find_hit HX.out HM.out HT.out⟩, bel_trans HB.out b1⟩
      | false =>
        rw [ht] at C
        have HT := Lib.hid ht
        clear ht hx hbel c1 c2 hb hs hm
        go_wp2_with (go_at_fn 19; refine (C.out _ (Below.refl _ _)).mono ?_; rintro e w1 ⟨rfl, b1⟩)
        refine ⟨⟨k0 + 1, hlt0, by go_num, ?_, bel_trans HB.out b1⟩, by simp [intOf]; omega⟩
        intro j y hj hy
        by_cases e : j = k0
        · subst e
          rw [HX.out] at hy
          injection hy with hy
          rw [← hy]
          exact HT.out
        · exact HM.out j y (by omega) hy
    · obtain rfl : k0 = l.length := by omega
      clear hbel hm
      go_wp2
      go_ret
      exact ⟨.inr ⟨rfl, find_miss (fun j y hy => HM.out j y (List.getElem?_eq_some_iff.1 hy).1 hy)⟩, HB.out⟩

theorem get_any (w : World) (q : Option Addr) (c : Nat) (l : List Lab) (k : ByteArray) (h : Labs w q l) (hl : l.length ≤ 9223372036854775807) :
    Calls Try.prog 7 #[.slice q l.length c, .string k] w fun e w' => e = .returned (.tuple #[.string (getV l k), .bool (getB l k)]) ∧ Below w.heap.size w w' := by
  have b0 : Below w.heap.size w (w.alloc (.cells #[.string k] 9)) := bel_alloc (Below.refl _ _) _
  have C := Lib.hid (index_any (w.alloc (.cells #[.string k] 9)) q c l k w.heap.size (h.below b0) hl (by simp) (by simp))
  have HL := Lib.hid (h.below b0)
  have HB := Lib.hid b0
  clear h b0
  go_enter Try.func7, Try.ntmps7
  go_wp2_with fail
  refine C.out.mono ?_
  rintro e w1 ⟨hc, b1⟩
  rcases hc with ⟨i, x, rfl, hi, hf⟩ | ⟨rfl, hf⟩
  · obtain ⟨b, off, rfl, hb, c1, c2⟩ := (HL.out.below b1) i x hi
    have hil := (List.getElem?_eq_some_iff.1 hi).1
    have HF := Lib.hid hf
    have B1 := Lib.hid b1
    clear hf b1 hi
    go_wp2
    go_ret2
    exact ⟨by simp only [getV, getB, HF.out]; rfl, (bel_trans HB.out B1.out)⟩
  · have HF := Lib.hid hf
    have B1 := Lib.hid b1
    clear hf b1
    go_wp2
    go_ret2
    exact ⟨by simp only [getV, getB, HF.out]; rfl, (bel_trans HB.out B1.out)⟩
end Go.Proofs.Ytmdpkblkbokhoaa
