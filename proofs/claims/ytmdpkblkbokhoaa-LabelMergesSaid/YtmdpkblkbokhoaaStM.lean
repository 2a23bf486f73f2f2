/- The document's Sort of labels: its walk. -/
import Derived.Test.YtmdpkblkbokhoaaStL
namespace Go.Proofs.Ytmdpkblkbokhoaa
open Go.Shelf Go.RowKit Go.Lib Go.Sort
set_option linter.unusedVariables false

set_option maxHeartbeats 4000000 in
theorem rsort_any (w : World) (q : Option Addr) (c : Nat) (l : List Lab) (hL : Labs w q l) (hl : l.length ≤ 1000) :
    Calls Try.prog 15 #[.slice q l.length c] w (Sorts w l) := by
  have mixed : Try.prog.follows .mixedOrders = true := by kernel_rfl
  have HL := Lib.hid hL
  clear hL
  have O0 : Hid (OwnL (w.alloc (.cells #[] 33)) w.heap.size (.slice (some ⟨w.heap.size, 0, none⟩) 0 0) []) := World.ownsRow_made w #[] 0 (Nat.le_refl _) (Nat.zero_le _) rfl
  have B0 : Hid (Below w.heap.size w (w.alloc (.cells #[] 33))) := bel_alloc (Below.refl _ _) _
  go_enter Try.func15, Try.ntmps15
  go_wp2_with fail
  go_loopg [3] l.length (fun g v wr => ∃ out : List Lab, (l.filter (beyond out)).length ≤ g ∧ out.length ≤ l.length ∧ Hid (Gat l out) ∧ Hid (OwnL wr w.heap.size v out) ∧ Hid (Below w.heap.size w wr))
  case atStart => exact ⟨[], by have := (gat_nil l).2.2.2; simp at this ⊢; exact this, by simp, gat_nil l, O0.out, B0.out⟩
  case round =>
    clear O0 B0
    obtain ⟨out, hg, hol, HG, HO, HB⟩ := hrel
    obtain ⟨qo, co, rfl, HLo⟩ : ∃ qo co, u3 = .slice qo out.length co ∧ Hid (Labs wr qo out) := by
      rcases OwnL.lies HO.out with ⟨rfl, rfl⟩ | ⟨g, c1, rfl, _, _, _, _, hLb⟩
      · exact ⟨none, 0, rfl, Labs.nil _ _⟩
      · exact ⟨_, c1, rfl, hLb⟩
    have HLl : Hid (Labs wr q l) := HL.out.below HB.out
    obtain ⟨n, hn⟩ : ∃ n, n = out.length := ⟨_, rfl⟩
    rw [← hn] at HO hol ⊢
    have HN := Lib.hid hn
    clear hn
    go_wp2_with fail
    have hwr := Nat.le_refl wr.heap.size
    obtain ⟨w1, hw1⟩ : ∃ w1, w1 = wr := ⟨_, rfl⟩
    rw [← hw1] at HO HLo HLl HB ⊢
    clear hw1 hwr
    go_loopg [4, 5, 9] l.length (fun g vb _ vk wr => ∃ (k : Nat) (bv : Int), vb = .int .i64 bv ∧ vk = .int .i64 (k : Int) ∧ k ≤ l.length ∧ l.length - k ≤ g ∧ Hid (BestOf l out k bv) ∧ Hid (Below w1.heap.size w1 wr))
    case atStart => exact ⟨0, -1, rfl, rfl, Nat.zero_le _, by omega, best_zero l out, Below.refl _ _⟩
    case round =>
      obtain ⟨k, bv, rfl, rfl, hk, hgk, HBe, HW⟩ := hrel
      by_cases hlt : k < l.length
      · obtain ⟨x, hx⟩ : ∃ x, l[k]? = some x := ⟨l[k], List.getElem?_eq_getElem hlt⟩
        obtain ⟨b1, o1, hq1, h1, c1, c2⟩ := (HLl.out.below HW.out) k x hx
        have HX := Lib.hid hx
        clear hx
        -- the last one that is there
        have hO : (n = 0 ∧ beyond out x = true) ∨ ∃ (np : Nat) (z : Lab) (g o : Nat), n = np + 1 ∧ qo = some ⟨g, o, none⟩ ∧ wr.cell? ⟨g, o + np * 2, none⟩ = some (.string z.1) ∧
            ((Op.bytesLess x.1.toList z.1.toList = true ∧ beyond out x = false) ∨ (Op.bytesLess x.1.toList z.1.toList = false ∧ (x.1.toList == z.1.toList) = true ∧ beyond out x = false) ∨ (Op.bytesLess x.1.toList z.1.toList = false ∧ (x.1.toList == z.1.toList) = false ∧ beyond out x = true)) := by
          rcases Nat.eq_zero_or_pos n with h | h
          · left
            have : out = [] := List.eq_nil_of_length_eq_zero (by rw [← HN.out]; exact h)
            exact ⟨h, by rw [this]; rfl⟩
          · right
            obtain ⟨np, rfl⟩ : ∃ np, n = np + 1 := ⟨n - 1, by omega⟩
            have hnl := HN.out
            obtain ⟨z, hz⟩ : ∃ z, out[np]? = some z := ⟨out[np], List.getElem?_eq_getElem (by omega)⟩
            obtain ⟨g, o, e, r1, r2, r3⟩ := (HLo.out.below HW.out) np z hz
            have hlast : out.getLast? = some z := by rw [List.getLast?_eq_getElem?, ← hnl]; exact hz
            refine ⟨np, z, g, o, rfl, e, r2, ?_⟩
            rw [beyond_last hlast, bytesLess_eq]
            rcases lt_tri (kl x) (kl z) with r | r | r
            · exact .inl ⟨decide_eq_true r, decide_eq_false (lt_asy r)⟩
            · exact .inr (.inl ⟨decide_eq_false (by show ¬ kl x < kl z; rw [r]; exact lt_irr _), by show (kl x == kl z) = true; simp [r], decide_eq_false (by rw [r]; exact lt_irr _)⟩)
            · exact .inr (.inr ⟨decide_eq_false (lt_asy r), by
                show (kl x == kl z) = false
                cases hc : (kl x == kl z) with
                | false => rfl
                | true => have e2 : kl x = kl z := by simpa using hc
                          rw [e2] at r
                          exact absurd r (lt_irr _), decide_eq_true r⟩)
        have hbest : bv = -1 ∨ ∃ (b : Nat) (y : Lab), bv = (b : Int) ∧ b < l.length ∧ Hid (l[b]? = some y) ∧ wr.cell? ⟨b1, o1 + b * 2, none⟩ = some (.string y.1) ∧ ((Op.bytesLess x.1.toList y.1.toList = true ∧ Hid (kl x < kl y)) ∨ (Op.bytesLess x.1.toList y.1.toList = false ∧ Hid (¬ kl x < kl y))) := by
          rcases HBe.out with ⟨e, _⟩ | ⟨b, y, e, hb, hy, _⟩
          · exact .inl e
          · right
            obtain ⟨b2, o2, hq2, s1, s2, s3⟩ := (HLl.out.below HW.out) b y hy
            rw [hq1] at hq2
            injection hq2 with hq2
            injection hq2 with e1 e2
            subst e1 e2
            refine ⟨b, y, e, by omega, hy, s2, ?_⟩
            rw [bytesLess_eq]
            by_cases h : kl x < kl y
            · exact .inl ⟨decide_eq_true h, h⟩
            · exact .inr ⟨decide_eq_false h, h⟩
        subst hq1
        rcases hO with ⟨rfl, hbx⟩ | ⟨np, z, g, o, rfl, rfl, hz, hcmp⟩
        case' inr =>
          have h0 : ((np : Int) + 1 == 0) = false := by simp; omega
          rcases hcmp with ⟨t1, hbx⟩ | ⟨t1, t2, hbx⟩ | ⟨t1, t2, hbx⟩
        case inr.inl | inr.inr.inl =>
          have BX := Lib.hid hbx
          clear hbx hbest
          go_wp2_with fail
          go_quiet (fail)
          go_wp2_with fail
          go_roundg (l.length - (k + 1))
          case measure => omega
          case rel => exact ⟨k + 1, bv, rfl, by go_num, hlt, Nat.le_refl _, best_skip HBe.out HX.out BX.out, bel_drew HW.out _⟩
        all_goals
          have BX := Lib.hid hbx
          clear hbx
          rcases hbest with rfl | ⟨b, y, rfl, hbl, HY, hyc, ⟨t3, HK⟩ | ⟨t3, HK⟩⟩
          · go_wp2_with fail
            go_quiet (fail)
            go_wp2_with fail
            go_roundg (l.length - (k + 1))
            case measure => omega
            case rel => exact ⟨k + 1, k, rfl, by go_num, hlt, Nat.le_refl _, best_first HBe.out HX.out BX.out, bel_drew HW.out _⟩
          · have hbn : decide ((b : Int) < 0) = false := decide_eq_false (by omega)
            go_wp2_with fail
            go_quiet (fail)
            go_wp2_with fail
            go_roundg (l.length - (k + 1))
            case measure => omega
            case rel => exact ⟨k + 1, k, rfl, by go_num, hlt, Nat.le_refl _, best_less HBe.out HX.out HY.out BX.out HK.out, bel_drew HW.out _⟩
          · have hbn : decide ((b : Int) < 0) = false := decide_eq_false (by omega)
            go_wp2_with fail
            go_quiet (fail)
            go_wp2_with fail
            go_roundg (l.length - (k + 1))
            case measure => omega
            case rel => exact ⟨k + 1, b, rfl, by go_num, hlt, Nat.le_refl _, best_stay HBe.out HX.out HY.out HK.out, bel_drew HW.out _⟩
      · obtain rfl : k = l.length := by omega
        have HO2 : Hid (OwnL wr w.heap.size (.slice qo n co) out) := HO.out.kept HW.out
        have HB2 : Hid (Below w.heap.size w wr) := HB.out.trans (HW.out.mono HB.out.size)
        rcases (by rcases HBe.out with ⟨e, _⟩ | ⟨b, y, e, _, hy, _⟩; exact .inl e; exact .inr ⟨b, y, e, hy⟩ : bv = -1 ∨ ∃ (b : Nat) (y : Lab), bv = (b : Int) ∧ l[b]? = some y) with rfl | ⟨b, y, rfl, hy⟩
        · go_wp2
          go_ret
          obtain ⟨d1, d2⟩ := gat_done HG.out HBe.out
          rcases OwnL.lies HO2.out with ⟨e, h0⟩ | ⟨g, c1, e, _, _, _, _, hLb⟩
          · injection e with e1 e2 e3
            subst e1 e2 e3
            exact ⟨none, 0, out, by rw [h0]; rfl, d1, d2, by rw [h0]; exact Labs.nil _ _, fun _ => ⟨rfl, h0⟩, HB2.out⟩
          · injection e with e1 e2 e3
            subst e1 e3
            exact ⟨_, co, out, by rw [← HN.out]; rfl, d1, d2, hLb, fun h => by (cases h), HB2.out⟩
        · obtain ⟨b1, o1, hq1, h1, c1, c2⟩ := ((HL.out.below HB2.out)) b y hy
          subst hq1
          have hbl := (List.getElem?_eq_some_iff.1 hy).1
          have hbn : decide ((b : Int) < 0) = false := decide_eq_false (by omega)
          obtain ⟨hgm, hlt2⟩ := gat_more HG.out HBe.out hy
          have HGM := Lib.hid hgm
          have OA : Hid (OwnL (wr.alloc (.cells #[.string y.1, .string y.2] 33)) w.heap.size (.slice qo n co) out) := HO2.out.kept (bel_alloc (Below.refl _ _) _)
          have LA : Hid (Labs (wr.alloc (.cells #[.string y.1, .string y.2] 33)) (some ⟨wr.heap.size, 0, none⟩) [y]) := by
            intro j x hj
            match j, hj with
            | 0, hj =>
              simp at hj
              subst hj
              exact ⟨wr.heap.size, 0, rfl, by simp, by simp, by simp⟩
            | j + 1, hj => simp at hj
          have BA : Hid (Below w.heap.size w (wr.alloc (.cells #[.string y.1, .string y.2] 33))) := bel_alloc HB2.out _
          have hbz := BA.out.size
          have hno : n = out.length := HN.out
          have HLEN : Hid (out.length + 1 ≤ l.length) := by have := hgm.2.2.2; rw [List.length_append] at this; simp at this; show _ ≤ _; omega
          clear hgm hy HBe
          have HNO := Lib.hid hno
          clear hno
          go_wp2_with (at_builtin; refine wpList_append_labs rfl _ _ rfl w.heap.size (.slice qo n co) out rfl OA.out (some ⟨wr.heap.size, 0, none⟩) 1 [y] rfl LA.out (fun h => by cases h) (by have := HLEN.out; simp; omega) hbz ?_; intro v2 w2 hO2 hB2)
          have HOO := Lib.hid hO2
          have HBB := Lib.hid (BA.out.trans hB2)
          clear hO2 hB2
          go_wp2_with fail
          go_roundg ((l.filter (beyond (out ++ [y]))).length)
          case measure => omega
          case rel => exact ⟨out ++ [y], Nat.le_refl _, by have := HLEN.out; simp; omega, HGM.out, HOO.out, HBB.out⟩
end Go.Proofs.Ytmdpkblkbokhoaa
