/- Taints and who tolerates them: the document's Tolerates; the law's example. -/
import Derived.Test.YtmdpkblkbokhoaaLabD
import Derived.Test.YtmdpkblkbokhoaaLabB
namespace Go.Proofs.Ytmdpkblkbokhoaa
open Go.RowKit Go.Shelf Go.Lib
set_option linter.unusedVariables false

theorem any_true {t : List Lab} {p : Lab → Bool} {k : Nat} {y : Lab} (hy : t[k]? = some y) (h : p y = true) : t.any p = true :=
  List.any_eq_true.2 ⟨y, List.mem_of_getElem? hy, h⟩

set_option maxHeartbeats 2000000 in
theorem rtol_any (w : World) (q p : Option Addr) (c d : Nat) (l t : List Lab) (h : Labs w q l) (hl : l.length ≤ 9223372036854775807) (hp : Labs w p t) (hr : t.length ≤ 9223372036854775807) :
    Calls Try.prog 12 #[.slice q l.length c, .slice p t.length d] w fun e w' => e = .returned (.bool (tolB l t)) ∧ Below w.heap.size w w' := by
  have HL := Lib.hid h
  have HP := Lib.hid hp
  clear h hp
  obtain ⟨B, hB⟩ : ∃ B, B = tolB l t := ⟨_, rfl⟩
  rw [← hB]
  have HTB := Lib.hid hB
  clear hB
  go_enter Try.func12, Try.ntmps12
  go_wp2_with fail
  go_loopg [12] l.length (fun g i wr => ∃ k0 : Nat, k0 ≤ l.length ∧ l.length - k0 ≤ g ∧ i = .int .i64 (k0 : Int) ∧ Hid (B = (l.drop k0).all fun x => t.any (meets x)) ∧ Hid (Below w.heap.size w wr))
  case atStart => exact ⟨0, Nat.zero_le _, by omega, rfl, HTB.out, Below.refl _ _⟩
  case round =>
    obtain ⟨k0, hk, hg, rfl, HM, HB⟩ := hrel
    by_cases hlt0 : k0 < l.length
    · obtain ⟨x, hx⟩ : ∃ x, l[k0]? = some x := ⟨l[k0], List.getElem?_eq_getElem hlt0⟩
      have HD : Hid ((l.drop k0).all (fun x => t.any (meets x)) = (t.any (meets x) && (l.drop (k0 + 1)).all fun x => t.any (meets x))) := all_more hx
      obtain ⟨b, off, rfl, hb, c1, c2⟩ := HL.out k0 _ hx
      have d1 := (HB.out.cell (p := ⟨b, off + k0 * 2, none⟩) hb).trans c1
      have d2 := (HB.out.cell (p := ⟨b, off + k0 * 2 + 1, none⟩) hb).trans c2
      have F : Hid (((wr.alloc (.cells #[.string x.1, .string x.2] 33)).cell? ⟨wr.heap.size, 0, none⟩ = some (.string x.1)) ∧ ((wr.alloc (.cells #[.string x.1, .string x.2] 33)).cell? ⟨wr.heap.size, 1, none⟩ = some (.string x.2)) ∧ wr.heap.size < (wr.alloc (.cells #[.string x.1, .string x.2] 33)).heap.size) := ⟨by simp, by simp, by simp⟩
      have BA : Hid (Below w.heap.size w (wr.alloc (.cells #[.string x.1, .string x.2] 33))) := bel_alloc HB.out _
      clear hx c1 c2 hb
      go_wp2_with fail
      clear d1 d2
      generalize wr.alloc (.cells #[.string x.1, .string x.2] 33) = wa at F BA ⊢
      generalize wr.heap.size = N at F ⊢
      have hgt : l.length - (k0 + 1) < l.length - k0 := by omega
      go_loopg [7, 18] t.length (fun g2 m i2 wr2 => ∃ (j0 : Nat) (mb : Bool), j0 ≤ t.length ∧ t.length - j0 ≤ g2 ∧ i2 = .int .i64 (j0 : Int) ∧ m = .bool mb ∧ Hid (t.any (meets x) = (mb || (t.drop j0).any (meets x))) ∧ Hid (Below wa.heap.size wa wr2))
      case atStart => exact ⟨0, false, Nat.zero_le _, by omega, rfl, rfl, rfl, Below.refl _ _⟩
      case round =>
        obtain ⟨j0, mb, hj, hg2, rfl, rfl, HM2, HB2⟩ := hrel
        by_cases hlt1 : j0 < t.length
        · obtain ⟨y, hy⟩ : ∃ y, t[j0]? = some y := ⟨t[j0], List.getElem?_eq_getElem hlt1⟩
          have HE : Hid ((t.drop j0).any (meets x) = (meets x y || (t.drop (j0 + 1)).any (meets x))) := any_more hy
          obtain ⟨b', off', rfl, hb', e1, e2⟩ := (HP.out.below BA.out) j0 _ hy
          have d1 := (HB2.out.cell (p := ⟨b', off' + j0 * 2, none⟩) hb').trans e1
          have d2 := (HB2.out.cell (p := ⟨b', off' + j0 * 2 + 1, none⟩) hb').trans e2
          have d3 := (HB2.out.cell (p := ⟨N, 0, none⟩) F.out.2.2).trans F.out.1
          have d4 := (HB2.out.cell (p := ⟨N, 1, none⟩) F.out.2.2).trans F.out.2.1
          have hne : N < wr.heap.size := Nat.lt_of_lt_of_le F.out.2.2 HB2.out.size
          clear hy e1 e2 hb'
          cases mb with
          | true =>
            go_wp2_with fail
            go_roundg (t.length - (j0 + 1))
            case measure => omega
            case rel => exact ⟨j0 + 1, true, hlt1, Nat.le_refl _, by go_num, rfl, by show _ = _; rw [HM2.out]; rfl, bel_alloc HB2.out _⟩
          | false =>
            rcases meets_cases x y with ⟨t1, tm⟩ | ⟨t1, t2, t3, tm⟩ | ⟨t1, t2, t3, tm⟩ | ⟨t1, t2, t3, tm⟩ | ⟨t1, t2, t3, tm⟩
            all_goals
              have TM := Lib.hid tm
              clear tm
              go_wp2_with fail
              go_roundg (t.length - (j0 + 1))
              case measure => omega
              case rel => exact ⟨j0 + 1, meets x y, hlt1, Nat.le_refl _, by go_num, by rw [TM.out], by show _ = _; rw [HM2.out, HE.out]; rfl, bel_alloc HB2.out _⟩
        · obtain rfl : j0 = t.length := by omega
          have BW : Hid (Below w.heap.size w wr) := bel_trans BA.out HB2.out
          have HZ : Hid (t.any (meets x) = mb) := by show _ = _; rw [HM2.out, List.drop_length]; simp
          cases mb with
          | true =>
            go_wp2
            go_roundg (l.length - (k0 + 1))
            case measure => omega
            case rel => exact ⟨k0 + 1, hlt0, Nat.le_refl _, by go_num, by show _ = _; rw [HM.out, HD.out, HZ.out]; rfl, BW.out⟩
          | false =>
            go_wp2
            go_ret
            exact ⟨by rw [HM.out, HD.out, HZ.out]; rfl, BW.out⟩
    · obtain rfl : k0 = l.length := by omega
      go_wp2
      go_ret
      exact ⟨by rw [HM.out, List.drop_length]; rfl, HB.out⟩

theorem name_dash (w : World) : Calls Try.prog 17 #[.string { data := #[45] }] w fun e w' => e = .returned (.bool false) ∧ w = w' := by
  go_enter Try.func17, Try.ntmps17
  go_wp2
  go_ret
  exact ⟨rfl, rfl⟩

def exL : List Lab := [({ data := #[122, 111, 110, 101] }, { data := #[97] })]
def exR : List Req := [({ data := #[122, 111, 110, 101] }, { data := #[97] }, 0), ({ data := #[100, 105, 115, 107] }, { data := #[] }, 3)]
theorem ex_true : exR.all (holdsB exL) = true := by decide +kernel

theorem lives_any (w : World) : Calls Try.prog 6 #[] w fun e w' => e = .returned (.bool true) ∧ Below w.heap.size w w' := by
  have b1 : Below w.heap.size w (w.alloc (.cells #[.string { data := #[122, 111, 110, 101] }, .string { data := #[97] }] 33)) := bel_alloc (Below.refl _ _) _
  have b2 := bel_alloc b1 (.cells #[.string { data := #[122, 111, 110, 101] }, .string { data := #[97] }, .int .i64 0, .string { data := #[100, 105, 115, 107] }, .string { data := #[] }, .int .i64 3] 35)
  have h1 : Labs ((w.alloc (.cells #[.string { data := #[122, 111, 110, 101] }, .string { data := #[97] }] 33)).alloc (.cells #[.string { data := #[122, 111, 110, 101] }, .string { data := #[97] }, .int .i64 0, .string { data := #[100, 105, 115, 107] }, .string { data := #[] }, .int .i64 3] 35)) (some ⟨w.heap.size, 0, none⟩) exL := by
    intro j x hj
    match j, hj with
    | 0, hj =>
      simp [exL] at hj
      subst hj
      exact ⟨w.heap.size, 0, rfl, by simp; omega, by simp, by simp⟩
    | j + 1, hj => simp [exL] at hj
  have h2 : Reqs ((w.alloc (.cells #[.string { data := #[122, 111, 110, 101] }, .string { data := #[97] }] 33)).alloc (.cells #[.string { data := #[122, 111, 110, 101] }, .string { data := #[97] }, .int .i64 0, .string { data := #[100, 105, 115, 107] }, .string { data := #[] }, .int .i64 3] 35)) (some ⟨w.heap.size + 1, 0, none⟩) exR := by
    intro j x hj
    match j, hj with
    | 0, hj =>
      simp [exR] at hj
      subst hj
      exact ⟨w.heap.size + 1, 0, rfl, by simp, by simp, by simp, by simp⟩
    | 1, hj =>
      simp [exR] at hj
      subst hj
      exact ⟨w.heap.size + 1, 0, rfl, by simp, by simp, by simp, by simp⟩
    | j + 2, hj => simp [exR] at hj
  have C := match_any _ _ _ 1 2 exL exR h1 (by decide) h2 (by decide)
  rw [ex_true] at C
  have C := Lib.hid C
  have B2 := Lib.hid b2
  clear h1 h2 b1 b2
  go_enter Try.func6, Try.ntmps6
  go_wp2_with fail
  refine C.out.mono ?_
  rintro e w1 ⟨rfl, b3⟩
  have B3 := Lib.hid b3
  clear b3
  go_wp2_with fail
  refine (name_dash _).mono ?_
  rintro e w2 ⟨rfl, rfl⟩
  go_wp2
  go_ret
  exact ⟨rfl, bel_trans B2.out B3.out⟩
end Go.Proofs.Ytmdpkblkbokhoaa
