/- What is asked of labels: the document's Match. -/
import Derived.Test.YtmdpkblkbokhoaaLabB
namespace Go.Proofs.Ytmdpkblkbokhoaa
open Go.RowKit Go.Shelf Go.Lib
set_option linter.unusedVariables false

set_option maxHeartbeats 2000000 in
theorem rmatch_any (w : World) (q p : Option Addr) (c d : Nat) (l : List Lab) (r : List Req) (h : Labs w q l) (hl : l.length ≤ 9223372036854775807) (hp : Reqs w p r) (hr : r.length ≤ 9223372036854775807) :
    Calls Try.prog 10 #[.slice q l.length c, .slice p r.length d] w fun e w' => e = .returned (.bool (r.all (holdsB l))) ∧ Below w.heap.size w w' := by
  have HL := Lib.hid h
  have HP := Lib.hid hp
  clear h hp
  go_enter Try.func10, Try.ntmps10
  go_wp2_with fail
  go_loopw [13] (fun i wr => ∃ k0 : Nat, k0 ≤ r.length ∧ i = .int .i64 (k0 : Int) ∧ Hid (r.all (holdsB l) = (r.drop k0).all (holdsB l)) ∧ Below w.heap.size w wr) (fun i _ => r.length - (intOf i).toNat)
  case atStart => exact ⟨0, Nat.zero_le _, rfl, rfl, Below.refl _ _⟩
  case round =>
    obtain ⟨k0, hk, rfl, hm, hbel⟩ := hrel
    have HB := Lib.hid hbel
    have HM := hm
    by_cases hlt0 : k0 < r.length
    · obtain ⟨x, hx⟩ : ∃ x, r[k0]? = some x := ⟨r[k0], List.getElem?_eq_getElem hlt0⟩
      have HD : Hid ((r.drop k0).all (holdsB l) = (holdsB l x && (r.drop (k0 + 1)).all (holdsB l))) := by
        show _ = _
        rw [List.drop_eq_getElem_cons hlt0, List.all_cons]
        rw [List.getElem?_eq_getElem hlt0] at hx
        injection hx with hx
        rw [hx]
      obtain ⟨k, v, op⟩ := x
      obtain ⟨b, off, rfl, hb, c1, c2, c3⟩ := HP.out k0 _ hx
      have d1 := (hbel.cell (p := ⟨b, off + k0 * 3, none⟩) hb).trans c1
      have d2 := (hbel.cell (p := ⟨b, off + k0 * 3 + 1, none⟩) hb).trans c2
      have d3 := (hbel.cell (p := ⟨b, off + k0 * 3 + 2, none⟩) hb).trans c3
      have hs := hbel.size
      have C := Lib.hid (fun W : World => fun (hW : Below wr.heap.size wr W) => rget_any W q c l k ((HL.out.below hbel).below hW) hl)
      dsimp only at d1 d2 d3
      have f1 : (wr.alloc (.cells #[.string k, .string v, .int .i64 op] 35)).cell? ⟨wr.heap.size, 1, none⟩ = some (.string v) := by simp
      have f2 : (wr.alloc (.cells #[.string k, .string v, .int .i64 op] 35)).cell? ⟨wr.heap.size, 2, none⟩ = some (.int .i64 op) := by simp
      have F1 := Lib.hid f1
      have F2 := Lib.hid f2
      have hz : wr.heap.size < (wr.alloc (.cells #[.string k, .string v, .int .i64 op] 35)).heap.size := by simp
      have HZ := Lib.hid hz
      clear hx hbel c1 c2 c3 hb hs hm f1 f2 hz
      have HE : holdsB l (k, v, op) = holdsO (getB l k) ((getV l k).toList == v.toList) op := rfl
      rw [HE] at HD
      clear HE
      generalize getV l k = g at C HD
      generalize getB l k = t at C HD
      obtain ⟨e, he⟩ : ∃ e, (g.toList == v.toList) = e := ⟨_, rfl⟩
      rw [he] at HD
      rcases ops_of op with rfl | rfl | rfl | rfl | ⟨o0, o1, o2, o3⟩
      case inr.inr.inr.inr =>
        rw [holdsO_none o0 o1 o2 o3] at HD
        cases t <;> cases e
        all_goals
          go_wp2_with fail
          refine (C.out _ (bel_alloc (Below.refl _ _) _)).mono ?_
          rintro e2 w1 ⟨rfl, b1⟩
          have c1 := (b1.cell (p := ⟨wr.heap.size, 1, none⟩) HZ.out).trans F1.out
          have c2 := (b1.cell (p := ⟨wr.heap.size, 2, none⟩) HZ.out).trans F2.out
          have B1 := Lib.hid b1
          clear b1
          go_wp2
          go_ret
          exact ⟨by rw [HM.out, HD.out, Bool.false_and]; rfl, bel_trans (bel_alloc HB.out _) B1.out⟩
      all_goals
        cases t <;> cases e
        all_goals
          go_wp2_with fail
          refine (C.out _ (bel_alloc (Below.refl _ _) _)).mono ?_
          rintro e2 w1 ⟨rfl, b1⟩
          have c1 := (b1.cell (p := ⟨wr.heap.size, 1, none⟩) HZ.out).trans F1.out
          have c2 := (b1.cell (p := ⟨wr.heap.size, 2, none⟩) HZ.out).trans F2.out
          have B1 := Lib.hid b1
          clear b1
          first
          | (go_wp2_with fail
             refine ⟨⟨k0 + 1, hlt0, by go_num, ?_, bel_trans (bel_alloc HB.out _) B1.out⟩, by simp [intOf]; omega⟩
             show _ = _
             rw [HM.out, HD.out]
             rfl)
          | (go_wp2
             go_ret
             exact ⟨by rw [HM.out, HD.out]; rfl, bel_trans (bel_alloc HB.out _) B1.out⟩)
    · obtain rfl : k0 = r.length := by omega
      clear hbel hm
      go_wp2
      go_ret
      exact ⟨by rw [HM.out, List.drop_length]; rfl, HB.out⟩
end Go.Proofs.Ytmdpkblkbokhoaa
