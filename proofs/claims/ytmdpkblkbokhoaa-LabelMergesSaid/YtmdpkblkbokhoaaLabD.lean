/- Taints and who tolerates them: the program's Tolerates and the document's. -/
import Derived.Test.YtmdpkblkbokhoaaLabA
import Derived.Deep.LoopGhost
namespace Go.Proofs.Ytmdpkblkbokhoaa
open Go.RowKit Go.Shelf Go.Lib
set_option linter.unusedVariables false

/-- Does the toleration 'x' meet the taint 't'? -/
def meets (t x : Lab) : Bool := (x.1.toList == t.1.toList) && ((x.2.toList == t.2.toList) || (x.2.toList.isEmpty))
def tolB (l t : List Lab) : Bool := l.all fun x => t.any (meets x)
theorem all_more {l : List Lab} {p : Lab → Bool} {k : Nat} {x : Lab} (hx : l[k]? = some x) : (l.drop k).all p = (p x && (l.drop (k + 1)).all p) := by
  have h := (List.getElem?_eq_some_iff.1 hx).1
  rw [List.drop_eq_getElem_cons h, List.all_cons]
  rw [List.getElem?_eq_getElem h] at hx
  injection hx with hx
  rw [hx]
theorem any_more {l : List Lab} {p : Lab → Bool} {k : Nat} {x : Lab} (hx : l[k]? = some x) : (l.drop k).any p = (p x || (l.drop (k + 1)).any p) := by
  have h := (List.getElem?_eq_some_iff.1 hx).1
  rw [List.drop_eq_getElem_cons h, List.any_cons]
  rw [List.getElem?_eq_getElem h] at hx
  injection hx with hx
  rw [hx]
/-- How a pair stands: by the keys, by the values, by whether the toleration has none. -/
theorem meets_cases (x y : Lab) : ((y.1.toList == x.1.toList) = false ∧ meets x y = false) ∨ ((y.1.toList == x.1.toList) = true ∧ (y.2.toList == x.2.toList) = true ∧ y.2.toList.isEmpty = false ∧ meets x y = true) ∨
    ((y.1.toList == x.1.toList) = true ∧ (y.2.toList == x.2.toList) = true ∧ y.2.toList.isEmpty = true ∧ meets x y = true) ∨
    ((y.1.toList == x.1.toList) = true ∧ (y.2.toList == x.2.toList) = false ∧ y.2.toList.isEmpty = true ∧ meets x y = true) ∨ ((y.1.toList == x.1.toList) = true ∧ (y.2.toList == x.2.toList) = false ∧ y.2.toList.isEmpty = false ∧ meets x y = false) := by
  unfold meets
  cases (y.1.toList == x.1.toList) <;> cases (y.2.toList == x.2.toList) <;> cases y.2.toList.isEmpty <;> simp

set_option maxHeartbeats 2000000 in
theorem tol_any (w : World) (q p : Option Addr) (c d : Nat) (l t : List Lab) (h : Labs w q l) (hl : l.length ≤ 9223372036854775807) (hp : Labs w p t) (hr : t.length ≤ 9223372036854775807) :
    Calls Try.prog 11 #[.slice q l.length c, .slice p t.length d] w fun e w' => e = .returned (.bool (tolB l t)) ∧ Below w.heap.size w w' := by
  have HL := Lib.hid h
  have HP := Lib.hid hp
  clear h hp
  obtain ⟨B, hB⟩ : ∃ B, B = tolB l t := ⟨_, rfl⟩
  rw [← hB]
  have HTB := Lib.hid hB
  clear hB
  go_enter Try.func11, Try.ntmps11
  go_wp2
  go_step3
  go_wp2
  go_step3
  go_wp2
  go_loopg [11] l.length (fun g i wr => ∃ k0 : Nat, k0 ≤ l.length ∧ l.length - k0 ≤ g ∧ i = .int .i64 (k0 : Int) ∧ Hid (B = (l.drop k0).all fun x => t.any (meets x)) ∧ Hid (Below w.heap.size w wr))
  case atStart => exact ⟨0, Nat.zero_le _, by omega, rfl, HTB.out, Below.refl _ _⟩
  case round =>
    obtain ⟨k0, hk, hg, rfl, HM, HB⟩ := hrel
    by_cases hlt0 : k0 < l.length
    · obtain ⟨x, hx⟩ : ∃ x, l[k0]? = some x := ⟨l[k0], List.getElem?_eq_getElem hlt0⟩
      have HD : Hid ((l.drop k0).all (fun x => t.any (meets x)) = (t.any (meets x) && (l.drop (k0 + 1)).all fun x => t.any (meets x))) := all_more hx
      obtain ⟨b, off, rfl, hb, c1, c2⟩ := HL.out k0 _ hx
      have d1 := (HB.out.cell (p := ⟨b, off + k0 * 2, none⟩) hb).trans c1
      have d2 := (HB.out.cell (p := ⟨b, off + k0 * 2 + 1, none⟩) hb).trans c2
      have F : Hid (((wr.alloc (.cells #[.string x.1, .string x.2] 33)).cell? ⟨wr.heap.size, 0, none⟩ = some (.string x.1)) ∧ ((wr.alloc (.cells #[.string x.1, .string x.2] 33)).cell? ⟨wr.heap.size, 1, none⟩ = some (.string x.2)) ∧ wr.heap.size < (wr.alloc (.cells #[.string x.1, .string x.2] 33)).heap.size) := ⟨by simp, by simp, by simp⟩
      have BA : Hid (Below w.heap.size w (wr.alloc (.cells #[.string x.1, .string x.2] 33))) := bel_alloc HB.out _
      clear hx c1 c2 hb
      go_wp2_with fail
      clear d1 d2
      generalize wr.alloc (.cells #[.string x.1, .string x.2] 33) = wa at F BA ⊢
      generalize wr.heap.size = N at F ⊢
      go_loopg [17] t.length (fun g2 i2 wr2 => ∃ j0 : Nat, j0 ≤ t.length ∧ t.length - j0 ≤ g2 ∧ i2 = .int .i64 (j0 : Int) ∧ Hid (t.any (meets x) = (t.drop j0).any (meets x)) ∧ Hid (Below wa.heap.size wa wr2))
      case atStart => exact ⟨0, Nat.zero_le _, by omega, rfl, rfl, Below.refl _ _⟩
      case round =>
        obtain ⟨j0, hj, hg2, rfl, HM2, HB2⟩ := hrel
        by_cases hlt1 : j0 < t.length
        · obtain ⟨y, hy⟩ : ∃ y, t[j0]? = some y := ⟨t[j0], List.getElem?_eq_getElem hlt1⟩
          have HE : Hid ((t.drop j0).any (meets x) = (meets x y || (t.drop (j0 + 1)).any (meets x))) := any_more hy
          obtain ⟨b', off', rfl, hb', e1, e2⟩ := (HP.out.below BA.out) j0 _ hy
          have d1 := (HB2.out.cell (p := ⟨b', off' + j0 * 2, none⟩) hb').trans e1
          have d2 := (HB2.out.cell (p := ⟨b', off' + j0 * 2 + 1, none⟩) hb').trans e2
          have d3 := (HB2.out.cell (p := ⟨N, 0, none⟩) F.out.2.2).trans F.out.1
          have d4 := (HB2.out.cell (p := ⟨N, 1, none⟩) F.out.2.2).trans F.out.2.1
          have hne : N < wr.heap.size := Nat.lt_of_lt_of_le F.out.2.2 HB2.out.size
          clear hy e1 e2 hb'
          have hgt : l.length - (k0 + 1) < l.length - k0 := by omega
          have BW : Hid (Below w.heap.size w wr) := bel_trans BA.out HB2.out
          rcases meets_cases x y with ⟨t1, tm⟩ | ⟨t1, t2, t3, tm⟩ | ⟨t1, t2, t3, tm⟩ | ⟨t1, t2, t3, tm⟩ | ⟨t1, t2, t3, tm⟩
          case inl | inr.inr.inr.inr =>
            have TM := Lib.hid tm
            clear tm
            go_wp2_with fail
            go_roundg (t.length - (j0 + 1))
            case measure => omega
            case rel => exact ⟨j0 + 1, hlt1, Nat.le_refl _, by go_num, by show _ = _; rw [HM2.out, HE.out, TM.out]; rfl, bel_alloc HB2.out _⟩
          all_goals
            have TM := Lib.hid tm
            clear tm
            go_wp2
            go_roundg (l.length - (k0 + 1))
            case measure => omega
            case rel => exact ⟨k0 + 1, hlt0, Nat.le_refl _, by go_num, by show _ = _; rw [HM.out, HD.out, HM2.out, HE.out, TM.out]; rfl, bel_alloc BW.out _⟩
        · obtain rfl : j0 = t.length := by omega
          have BW : Hid (Below w.heap.size w wr) := bel_trans BA.out HB2.out
          go_wp2
          rw [Exit.noGoto_ret]
          go_ret
          exact ⟨by rw [HM.out, HD.out, HM2.out, List.drop_length]; rfl, BW.out⟩
    · obtain rfl : k0 = l.length := by omega
      go_wp2
      rw [Exit.noGoto_ret]
      go_ret
      exact ⟨by rw [HM.out, List.drop_length]; rfl, HB.out⟩
end Go.Proofs.Ytmdpkblkbokhoaa
