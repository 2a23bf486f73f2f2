/- What is asked of labels: the program's Match and the document's. -/
import Derived.Test.YtmdpkblkbokhoaaLabA
namespace Go.Proofs.Ytmdpkblkbokhoaa
open Go.RowKit Go.Shelf Go.Lib
set_option linter.unusedVariables false

abbrev Req := ByteArray × ByteArray × Int
/-- The slice at 'q' reads as the asks 'r'. -/
def Reqs (w : World) (q : Option Addr) (r : List Req) : Prop :=
  ∀ (j : Nat) (x : Req), r[j]? = some x → ∃ b off, q = some ⟨b, off, none⟩ ∧ b < w.heap.size ∧ w.cell? ⟨b, off + j * 3, none⟩ = some (.string x.1) ∧ w.cell? ⟨b, off + j * 3 + 1, none⟩ = some (.string x.2.1) ∧ w.cell? ⟨b, off + j * 3 + 2, none⟩ = some (.int .i64 x.2.2)
theorem Reqs.below {w w' : World} {q : Option Addr} {r : List Req} (h : Reqs w q r) (hb : Below w.heap.size w w') : Reqs w' q r := by
  intro j x hj
  obtain ⟨b, off, e, h1, h2, h3, h4⟩ := h j x hj
  exact ⟨b, off, e, Nat.lt_of_lt_of_le h1 hb.size, (hb.cell (p := ⟨b, off + j * 3, none⟩) h1).trans h2, (hb.cell (p := ⟨b, off + j * 3 + 1, none⟩) h1).trans h3, (hb.cell (p := ⟨b, off + j * 3 + 2, none⟩) h1).trans h4⟩
theorem Reqs.nil (w : World) (q : Option Addr) : Reqs w q [] := fun j x hj => by simp at hj

/-- Does it hold, by whether the key is there, whether the value is that one, and the Op? -/
def holdsO (t e : Bool) (op : Int) : Bool := if op = 0 then t && e else if op = 1 then !(t && e) else if op = 2 then t else if op = 3 then !t else false
def holdsB (l : List Lab) (x : Req) : Bool := holdsO (getB l x.1) ((getV l x.1).toList == x.2.1.toList) x.2.2
theorem ops_of (op : Int) : op = 0 ∨ op = 1 ∨ op = 2 ∨ op = 3 ∨ ((op == 0) = false ∧ (op == 1) = false ∧ (op == 2) = false ∧ (op == 3) = false) := by
  by_cases h0 : op = 0
  · exact .inl h0
  by_cases h1 : op = 1
  · exact .inr (.inl h1)
  by_cases h2 : op = 2
  · exact .inr (.inr (.inl h2))
  by_cases h3 : op = 3
  · exact .inr (.inr (.inr (.inl h3)))
  exact .inr (.inr (.inr (.inr ⟨by simpa using h0, by simpa using h1, by simpa using h2, by simpa using h3⟩)))
theorem holdsO_none {t e : Bool} {op : Int} (h0 : (op == 0) = false) (h1 : (op == 1) = false) (h2 : (op == 2) = false) (h3 : (op == 3) = false) : holdsO t e op = false := by
  simp at h0 h1 h2 h3
  simp [holdsO, h0, h1, h2, h3]

set_option maxHeartbeats 1000000 in
theorem holds_any (w : World) (q : Option Addr) (c : Nat) (l : List Lab) (k v : ByteArray) (op : Int) (h : Labs w q l) (hl : l.length ≤ 9223372036854775807) :
    Calls Try.prog 20 #[.slice q l.length c, .agg #[.string k, .string v, .int .i64 op]] w fun e w' => e = .returned (.bool (holdsB l (k, v, op))) ∧ Below w.heap.size w w' := by
  have b0 : Below w.heap.size w (w.alloc (.cells #[.string k, .string v, .int .i64 op] 35)) := bel_alloc (Below.refl _ _) _
  have C := Lib.hid (get_any _ q c l k (h.below b0) hl)
  have HB := Lib.hid b0
  have f1 : (w.alloc (.cells #[.string k, .string v, .int .i64 op] 35)).cell? ⟨w.heap.size, 1, none⟩ = some (.string v) := by simp
  have f2 : (w.alloc (.cells #[.string k, .string v, .int .i64 op] 35)).cell? ⟨w.heap.size, 2, none⟩ = some (.int .i64 op) := by simp
  have F1 := Lib.hid f1
  have F2 := Lib.hid f2
  have hz : w.heap.size < (w.alloc (.cells #[.string k, .string v, .int .i64 op] 35)).heap.size := by simp
  have HZ := Lib.hid hz
  clear h b0 f1 f2 hz
  unfold holdsB
  dsimp only
  generalize getV l k = g at C ⊢
  generalize getB l k = t at C ⊢
  obtain ⟨e, he⟩ : ∃ e, (g.toList == v.toList) = e := ⟨_, rfl⟩
  rw [he]
  rcases ops_of op with rfl | rfl | rfl | rfl | ⟨o0, o1, o2, o3⟩
  case inr.inr.inr.inr =>
    rw [holdsO_none o0 o1 o2 o3]
    go_enter Try.func20, Try.ntmps20
    go_wp2_with fail
    refine C.out.mono ?_
    rintro e2 w1 ⟨rfl, b1⟩
    have c2 := (b1.cell (p := ⟨w.heap.size, 2, none⟩) HZ.out).trans F2.out
    have B1 := Lib.hid b1
    clear b1
    go_wp2
    go_ret
    exact ⟨rfl, bel_trans HB.out B1.out⟩
  all_goals
    cases t <;> cases e
    all_goals
      go_enter Try.func20, Try.ntmps20
      go_wp2_with fail
      refine C.out.mono ?_
      rintro e2 w1 ⟨rfl, b1⟩
      have c1 := (b1.cell (p := ⟨w.heap.size, 1, none⟩) HZ.out).trans F1.out
      have c2 := (b1.cell (p := ⟨w.heap.size, 2, none⟩) HZ.out).trans F2.out
      have B1 := Lib.hid b1
      clear b1
      go_wp2
      go_ret
      exact ⟨rfl, bel_trans HB.out B1.out⟩

set_option maxHeartbeats 1000000 in
theorem match_any (w : World) (q p : Option Addr) (c d : Nat) (l : List Lab) (r : List Req) (h : Labs w q l) (hl : l.length ≤ 9223372036854775807) (hp : Reqs w p r) (hr : r.length ≤ 9223372036854775807) :
    Calls Try.prog 9 #[.slice q l.length c, .slice p r.length d] w fun e w' => e = .returned (.bool (r.all (holdsB l))) ∧ Below w.heap.size w w' := by
  have HL := Lib.hid h
  have HP := Lib.hid hp
  clear h hp
  go_enter Try.func9, Try.ntmps9
  go_wp2_with fail
  go_loopw [9] (fun i wr => ∃ k0 : Nat, k0 ≤ r.length ∧ i = .int .i64 (k0 : Int) ∧ Hid (r.all (holdsB l) = (r.drop k0).all (holdsB l)) ∧ Below w.heap.size w wr) (fun i _ => r.length - (intOf i).toNat)
  case atStart => exact ⟨0, Nat.zero_le _, rfl, rfl, Below.refl _ _⟩
  case round =>
    obtain ⟨k0, hk, rfl, hm, hbel⟩ := hrel
    have HB := Lib.hid hbel
    have HM := hm
    by_cases hlt0 : k0 < r.length
    · obtain ⟨x, hx⟩ : ∃ x, r[k0]? = some x := ⟨r[k0], List.getElem?_eq_getElem hlt0⟩
      have HD : Hid ((r.drop k0).all (holdsB l) = (holdsB l x && (r.drop (k0 + 1)).all (holdsB l))) := by
        show _ = _
        rw [List.drop_eq_getElem_cons hlt0, List.all_cons]
        rw [List.getElem?_eq_getElem hlt0] at hx
        injection hx with hx
        rw [hx]
      obtain ⟨k, v, op⟩ := x
      obtain ⟨b, off, rfl, hb, c1, c2, c3⟩ := HP.out k0 _ hx
      have d1 := (hbel.cell (p := ⟨b, off + k0 * 3, none⟩) hb).trans c1
      have d2 := (hbel.cell (p := ⟨b, off + k0 * 3 + 1, none⟩) hb).trans c2
      have d3 := (hbel.cell (p := ⟨b, off + k0 * 3 + 2, none⟩) hb).trans c3
      have HX := Lib.hid hx
      have hs := hbel.size
      have C := Lib.hid (fun W : World => fun (hW : Below wr.heap.size wr W) => holds_any W q c l k v op ((HL.out.below hbel).below hW) hl)
      dsimp only at d1 d2 d3
      cases ht : holdsB l (k, v, op) with
      | true =>
        rw [ht] at C HD
        clear ht hx hbel c1 c2 c3 hb hs hm
        go_wp2_with fail
        refine (C.out _ (bel_alloc (Below.refl _ _) _)).mono ?_
        rintro e w1 ⟨rfl, b1⟩
        have B1 := Lib.hid b1
        clear b1
        go_wp2_with fail
        refine ⟨⟨k0 + 1, hlt0, by go_num, ?_, bel_trans (bel_alloc HB.out _) B1.out⟩, by simp [intOf]; omega⟩
        show _ = _
        rw [HM.out, HD.out, Bool.true_and]
      | false =>
        rw [ht] at C HD
        clear ht hx hbel c1 c2 c3 hb hs hm
        go_wp2_with fail
        refine (C.out _ (bel_alloc (Below.refl _ _) _)).mono ?_
        rintro e w1 ⟨rfl, b1⟩
        have B1 := Lib.hid b1
        clear b1
        go_wp2
        go_ret
        exact ⟨by rw [HM.out, HD.out, Bool.false_and]; rfl, bel_trans (bel_alloc HB.out _) B1.out⟩
    · obtain rfl : k0 = r.length := by omega
      clear hbel hm
      go_wp2
      go_ret
      exact ⟨by rw [HM.out, List.drop_length]; rfl, HB.out⟩
end Go.Proofs.Ytmdpkblkbokhoaa
