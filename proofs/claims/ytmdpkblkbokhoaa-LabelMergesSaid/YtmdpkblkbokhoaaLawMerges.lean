/- Proved here: the law LabelMerges of layer 5 holds for every input: of labels put together each key is there once, rising, with the second ones' value, if they have it, and put together with the second ones again they are the same. No conditions. -/
import Derived.Test.YtmdpkblkbokhoaaLLawMore
namespace Go.Proofs.Ytmdpkblkbokhoaa.labelMerges
open Go.ChangeShapes Go.WideShapes Go.ChangeAt Go.RowKit
set_option linter.unusedVariables false

/-- Where a label of those put together comes from. -/
theorem comes {a b m : List Lab} (hs : Strict m) (hm : Same1 (b ++ a) m) {x : Lab} (hx : x ∈ m) : (getB b x.1 = true ∧ getV b x.1 = x.2) ∨ (getB b x.1 = false ∧ getB a x.1 = true ∧ getV a x.1 = x.2) := by
  have h1 := strict_find hs hx
  rw [← hm, List.find?_append] at h1
  cases hb : b.find? (hit x.1) with
  | some y =>
    rw [hb, Option.some_or] at h1
    injection h1 with h1
    subst h1
    exact .inl ⟨by simp [getB, hb], by simp [getV, hb]⟩
  | none =>
    rw [hb, Option.none_or] at h1
    exact .inr ⟨by simp [getB, hb], by simp [getB, h1], by simp [getV, h1]⟩
/-- Put together again with the second ones they are the same. -/
theorem again {a b m : List Lab} (hm : Same1 (b ++ a) m) : Same1 (b ++ m) m := by
  intro k
  rw [List.find?_append, ← hm k, List.find?_append]
  cases b.find? (hit k) with
  | some y => rfl
  | none => simp

set_option maxHeartbeats 4000000 in
theorem walk_at (w : World) (qa qb : Option Addr) (ca cb : Nat) (a b : List Lab) (ha : Labs w qa a) (hb : Labs w qb b) (hqa : qa = none → ca = 0 ∧ a = []) (hqb : qb = none → cb = 0 ∧ b = []) (la : a.length ≤ 9223372036854775807) (lb : b.length ≤ 9223372036854775807) :
    Calls Try.prog 5 #[.slice qa a.length ca, .slice qb b.length cb] w fun e w' => e = .returned (.bool true) ∧ Below w.heap.size w w' := by
  have mixed : Try.prog.follows .mixedOrders = true := by kernel_rfl
  have HA := Lib.hid ha
  have HB := Lib.hid hb
  have QA := Lib.hid hqa
  have QB := Lib.hid hqb
  clear ha hb hqa hqb
  have V := Lib.hid lives_any
  by_cases hbig : 30 < a.length ∨ 30 < b.length
  · have big : (30 < a.length) ∨ (a.length ≤ 30 ∧ 30 < b.length) := by omega
    rcases big with h1 | ⟨h1, h2⟩
    all_goals
      clear hbig
      go_enter Try.func5, Try.ntmps5
      go_wp2_with fail
      refine (V.out _).mono ?_
      rintro e w1 ⟨rfl, b1⟩
      have B1 := Lib.hid b1
      clear b1
      go_wp2_with fail
      refine (V.out _).mono ?_
      rintro e w2 ⟨rfl, b2⟩
      have B2 := Lib.hid b2
      clear b2
      go_wp2
      go_ret
      exact ⟨rfl, bel_trans B1.out B2.out⟩
  · have h1 : a.length ≤ 30 := by omega
    have h2 : b.length ≤ 30 := by omega
    have d1 : decide (30 < a.length) = false := decide_eq_false (by omega)
    have d2 : decide (30 < b.length) = false := decide_eq_false (by omega)
    clear hbig
    go_enter Try.func5, Try.ntmps5
    go_wp2_with fail
    refine (V.out _).mono ?_
    rintro e w1 ⟨rfl, b1⟩
    have B1 := Lib.hid b1
    have M1 := Lib.hid (merge_any w1 qa qb ca cb a b (HA.out.below b1) (HB.out.below b1) QA.out QB.out (by omega))
    clear b1
    go_wp2_with fail
    refine M1.out.mono ?_
    rintro e w6 ⟨qm, cm, m, rfl, s1, m1, l1, k1, b6⟩
    have hml : m.length ≤ 60 := by have := strict_len s1 m1; rw [List.length_append] at this; omega
    have F : Hid (Strict m ∧ Same1 (b ++ a) m ∧ (qm = none → cm = 0 ∧ m = [])) := ⟨s1, m1, k1⟩
    have LM := Lib.hid l1
    have B6 := Lib.hid (bel_trans B1.out b6)
    clear s1 m1 l1 k1 b6 M1
    go_wp2_with fail
    go_loopg [30] m.length (fun g vk wr => ∃ k : Nat, vk = .int .i64 (k : Int) ∧ k ≤ m.length ∧ m.length - k ≤ g ∧ Hid (Below w6.heap.size w6 wr))
    case atStart => exact ⟨0, rfl, Nat.zero_le _, by omega, Below.refl _ _⟩
    case round =>
      obtain ⟨k, rfl, hk, hg, HW⟩ := hrel
      by_cases hlt : k < m.length
      · obtain ⟨x, hx⟩ : ∃ x, m[k]? = some x := ⟨m[k], List.getElem?_eq_getElem hlt⟩
        obtain ⟨g, o, hq1, r1, c1, c2⟩ := (LM.out.below HW.out) k x hx
        have hprev : k = 0 ∨ ∃ (kp : Nat) (z : Lab), k = kp + 1 ∧ wr.cell? ⟨g, o + kp * 2, none⟩ = some (.string z.1) ∧ Op.bytesLess z.1.toList x.1.toList = true := by
          rcases Nat.eq_zero_or_pos k with h | h
          · exact .inl h
          · right
            obtain ⟨kp, rfl⟩ : ∃ kp, k = kp + 1 := ⟨k - 1, by omega⟩
            obtain ⟨z, hz⟩ : ∃ z, m[kp]? = some z := ⟨m[kp], List.getElem?_eq_getElem (by omega)⟩
            obtain ⟨g', o', hq2, _, c3, _⟩ := (LM.out.below HW.out) kp z hz
            rw [hq1] at hq2
            injection hq2 with hq2
            injection hq2 with e1 e2
            subst e1 e2
            refine ⟨kp, z, rfl, c3, ?_⟩
            rw [bytesLess_eq]
            obtain ⟨g1, e1⟩ := List.getElem?_eq_some_iff.1 hz
            obtain ⟨g2, e2⟩ := List.getElem?_eq_some_iff.1 hx
            have := List.pairwise_iff_getElem.1 F.out.1 kp (kp + 1) g1 g2 (by omega)
            rw [e1, e2] at this
            exact decide_eq_true this
        subst hq1
        have hc := comes F.out.1 F.out.2.1 (List.mem_of_getElem? hx)
        have WA : Hid (Below wr.heap.size wr (wr.alloc (.cells #[.string x.1, .string x.2] 33))) := bel_alloc (Below.refl _ _) _
        have f0 : (wr.alloc (.cells #[.string x.1, .string x.2] 33)).cell? ⟨wr.heap.size, 0, none⟩ = some (.string x.1) := by simp
        have f1 : (wr.alloc (.cells #[.string x.1, .string x.2] 33)).cell? ⟨wr.heap.size, 1, none⟩ = some (.string x.2) := by simp
        have f2 : wr.heap.size < (wr.alloc (.cells #[.string x.1, .string x.2] 33)).heap.size := by simp
        have FF : Hid (_ ∧ _ ∧ _) := ⟨f0, f1, f2⟩
        have RG := Lib.hid (And.intro r1 hprev)
        have G1 := Lib.hid (fun (W : World) (hW : Below wr.heap.size wr W) => get_any W qb cb b x.1 (HB.out.below (bel_trans B6.out (bel_trans HW.out hW))) lb)
        have G2 := Lib.hid (fun (W : World) (hW : Below wr.heap.size wr W) => get_any W qa ca a x.1 (HA.out.below (bel_trans B6.out (bel_trans HW.out hW))) la)
        clear hx hprev f0 f1 f2 r1
        generalize getB b x.1 = tb at hc G1
        generalize getV b x.1 = vb at hc G1
        generalize getB a x.1 = ta at hc G2
        generalize getV a x.1 = va at hc G2
        have HC := Lib.hid hc
        clear hc
        go_wp2_with fail
        refine (G1.out _ WA.out).mono ?_
        rintro e w7 ⟨rfl, b7⟩
        have B7 := Lib.hid (bel_trans WA.out b7)
        have e0 := (b7.cell (p := ⟨wr.heap.size, 0, none⟩) FF.out.2.2).trans FF.out.1
        have B7a := Lib.hid b7
        clear b7 c1 c2
        go_wp2_with fail
        refine (G2.out _ B7.out).mono ?_
        rintro e w8 ⟨rfl, b8⟩
        have B8 := Lib.hid (bel_trans B7.out b8)
        have B8a : Hid (Below (wr.alloc (.cells #[.string x.1, .string x.2] 33)).heap.size (wr.alloc (.cells #[.string x.1, .string x.2] 33)) w8) := bel_trans B7a.out b8
        have e1 := (B8a.out.cell (p := ⟨wr.heap.size, 0, none⟩) FF.out.2.2).trans FF.out.1
        have e2 := (B8a.out.cell (p := ⟨wr.heap.size, 1, none⟩) FF.out.2.2).trans FF.out.2.1
        clear b8 e0
        obtain ⟨r1, hprev⟩ := RG.out
        have hz8 := B8.out.size
        have hend : Hid (Below w6.heap.size w6 w8) := bel_trans HW.out B8.out
        obtain ⟨k1, hk1⟩ : ∃ k1, k1 = k + 1 := ⟨_, rfl⟩
        have hk1m : k1 ≤ m.length ∧ m.length - k1 < gk := by omega
        have HK1 := Lib.hid hk1
        clear hk1
        rcases hprev with rfl | ⟨kp, z, rfl, hz, hless⟩
        case' inr => have hz' := (B8.out.cell (p := ⟨g, o + kp * 2, none⟩) r1).trans hz
        case' inr => clear hz
        all_goals
          rcases HC.out with ⟨rfl, rfl⟩ | ⟨rfl, rfl, rfl⟩
          all_goals
            go_wp2_with fail
            go_quiet (fail)
            go_wp2_with fail
            go_roundg (m.length - k1)
            case measure => exact hk1m.2
            case rel => exact ⟨k1, by have := HK1.out; congr 1; omega, hk1m.1, Nat.le_refl _, bel_drew hend.out _⟩
      · obtain rfl : k = m.length := by omega
        have M2 := Lib.hid (merge_any wr qm qb cm cb m b (LM.out.below HW.out) (HB.out.below (bel_trans B6.out HW.out)) F.out.2.2 QB.out (by omega))
        go_wp2_with fail
        refine M2.out.mono ?_
        rintro e w7 ⟨q2, c2, o2, rfl, s2, m2, l2, _, b7⟩
        obtain rfl : m = o2 := find_uniq F.out.1 s2 ((again F.out.2.1).symm.trans m2)
        have E := Lib.hid (same_true w7 q2 qm c2 cm m l2 ((LM.out.below HW.out).below b7) (by omega))
        have B7 := Lib.hid (bel_trans HW.out b7)
        clear s2 m2 l2 b7 M2
        go_wp2_with fail
        refine E.out.mono ?_
        rintro e w8 ⟨rfl, b8⟩
        have B8 := Lib.hid (bel_trans B7.out b8)
        clear b8 E
        go_wp2
        go_ret
        exact ⟨rfl, bel_trans B6.out B8.out⟩

theorem walk {H : Type} {enc : TypeId × Value → H} {base : Nat} (W : World) (v0 : Value) (d0 : DataW H) (p0 : List MemPlace) (o0 : Value.okWide Try.prog W .any base 22 v0) (h0 : DataW.Trod enc Try.prog W 0 (fun _ => true) true 22 v0 d0 p0)
    (v1 : Value) (d1 : DataW H) (p1 : List MemPlace) (o1 : Value.okWide Try.prog W .any base 22 v1) (h1 : DataW.Trod enc Try.prog W 0 (fun _ => true) true 22 v1 d1 p1) :
    Calls Try.prog 5 #[v0, v1] W fun e W' => e = .returned (.bool true) ∧ Below W.heap.size W W' := by
  obtain ⟨q, c, l, rfl, hl, ml, kl⟩ := open_labs2 o0 h0
  obtain ⟨p, d, t, rfl, ht, mt, kt⟩ := open_labs2 o1 h1
  unfold maxLen at ml mt
  exact walk_at W q p c d l t hl ht kl kt (by omega) (by omega)

/-! ### THE ROW's STEP -/
set_option maxRecDepth 100000 in
theorem lifted (os : Os) (started : os.Started) (H : Type) (enc : TypeId × Value → H) :
    ReturnsInHanded {} Try.checked os 5 .any (Rows.labelMergesSpec.pre6 enc Try.prog Try.f5 Rows.labelMergesRow.domain false) (Rows.labelMergesSpec.post enc Try.prog Try.f5 false true false false) := by
  refine returnsInHanded_of_change (C := Try.checked) own started (by kernel_rfl) Try.func5
    (ChangeSpec.witness6 (enc := enc) (C := Try.checked) false ⟨#[], #[.slice none 0 0, .slice none 0 0], []⟩ 8 (by kernel_rfl) (by kernel_rfl) (by kernel_rfl) (by kernel_rfl)) ?_
  intro W base args ds gs before hval0 hW hcnd _
  have hval : ∀ (j : Nat) t v, Try.f5.params[j]? = some t → args[j]? = some v → Value.okWide Try.prog W .any base t v := hval0
  have hW' := hW
  obtain ⟨p, q, hA0, hV, rfl, hfz, hnd⟩ := hW
  have hA : DataW.TrodAll enc Try.prog W 0 (fun _ => true) true Try.f5.params.toList args.toList ds p := hA0
  have hlt : ∀ x ∈ p, x.block < W.heap.size := fun x hx => hW'.lt x (List.mem_append_left _ hx)
  rw [Try.params5] at hA hval
  have hread : ∀ t ∈ [22, 22], Try.prog.readableRec t = true ∧ t < Try.prog.types.size := by
    intro t ht
    simp only [List.mem_cons, List.not_mem_nil, or_false] at ht
    rcases ht with rfl | rfl <;> exact ⟨by kernel_rfl, of_decide_eq_true (by kernel_rfl)⟩
  have again : ∀ (W' : World), Below W.heap.size W W' → ∀ sp : Nat → Bool, (∀ x ∈ p, sp x.block = true) → DataW.TrodAll enc Try.prog W' 0 sp true [22, 22] args.toList ds p :=
    fun W' hb sp hsp => all_again (by kernel_rfl) hb [22, 22] args.toList ds p hread hA hlt hsp
  obtain ⟨v0, v1, d0, d1, p0, p1, rfl, rfl, rfl, h0, h1⟩ := trodAll_two hA
  obtain ⟨rfl, rfl⟩ := trodVars_none hV
  clear hA0 hval0
  simp only [List.append_nil] at hW'
  refine (walk W v0 d0 p0 (hval 0 22 v0 rfl rfl) h0 v1 d1 p1 (hval 1 22 v1 rfl rfl) h1).mono fun e W' ⟨he, hg⟩ => ?_
  subst he
  exact ⟨_, rfl, post_below hW' hg (fun _ _ _ => trodAll_mk1 (shut_bool Try.underlying4 _)) (fun sp hsp => again W' hg sp hsp) (fun _ => rfl) (ok_one (by kernel_rfl) rfl (okWide_bool_mk Try.underlying4 _))⟩

theorem over : Rows.labelMergesRow.holds Try.pinned (OpenSpec.ofChange Rows.labelMergesSpec) :=
  OpenClaim.holds_of_wide 5 Try.f5 rfl rfl rfl rfl rfl rfl rfl ⟨rfl, rfl, rfl, rfl, rfl⟩ rfl rfl rfl rfl rfl (by kernel_rfl) Try.func5 (by kernel_rfl)
    (of_decide_eq_true (by kernel_rfl)) (by unfold Func.isWrapper; first | (rw [if_pos (by decide +kernel)]; kernel_rfl) | (rw [if_neg (by decide +kernel)]; exact ⟨rfl, rfl⟩))
    (fun os started H enc _ => lifted os started H enc)

/-- The statement. -/
theorem proved : Rows.LabelMergesSaid :=
  over
#print axioms proved
end Go.Proofs.Ytmdpkblkbokhoaa.labelMerges

