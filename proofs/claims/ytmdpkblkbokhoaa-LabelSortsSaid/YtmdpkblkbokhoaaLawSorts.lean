/- Proved here: the law LabelSorts of layer 5 holds for every input: labels are sorted, and put together, as the document says, and what is handed in stays. No conditions. -/
import Derived.Test.YtmdpkblkbokhoaaLLawMore
namespace Go.Proofs.Ytmdpkblkbokhoaa.labelSorts
open Go.ChangeShapes Go.WideShapes Go.ChangeAt Go.RowKit
set_option linter.unusedVariables false

set_option maxHeartbeats 2000000 in
theorem walk_at (w : World) (qa qb : Option Addr) (ca cb : Nat) (a b : List Lab) (ha : Labs w qa a) (hb : Labs w qb b) (hqa : qa = none → ca = 0 ∧ a = []) (hqb : qb = none → cb = 0 ∧ b = []) (la : a.length ≤ 9223372036854775807) (lb : b.length ≤ 9223372036854775807) :
    Calls Try.prog 4 #[.slice qa a.length ca, .slice qb b.length cb] w fun e w' => e = .returned (.bool true) ∧ Below w.heap.size w w' := by
  have HA := Lib.hid ha
  have HB := Lib.hid hb
  have QA := Lib.hid hqa
  have QB := Lib.hid hqb
  clear ha hb hqa hqb
  have V := Lib.hid lives_any
  by_cases hbig : 30 < a.length ∨ 30 < b.length
  · have big : (30 < a.length) ∨ (a.length ≤ 30 ∧ 30 < b.length) := by omega
    rcases big with h1 | ⟨h1, h2⟩
    all_goals
      clear hbig
      go_enter Try.func4, Try.ntmps4
      go_wp2_with fail
      refine (V.out _).mono ?_
      rintro e w1 ⟨rfl, b1⟩
      have B1 := Lib.hid b1
      clear b1
      go_wp2_with fail
      refine (V.out _).mono ?_
      rintro e w2 ⟨rfl, b2⟩
      have B2 := Lib.hid b2
      clear b2
      go_wp2
      go_ret
      exact ⟨rfl, bel_trans B1.out B2.out⟩
  · have h1 : a.length ≤ 30 := by omega
    have h2 : b.length ≤ 30 := by omega
    clear hbig la lb
    go_enter Try.func4, Try.ntmps4
    go_wp2_with fail
    refine (V.out _).mono ?_
    rintro e w1 ⟨rfl, b1⟩
    have B1 : Hid (Below w.heap.size w w1) := b1
    have O1 : Hid (OwnL (w1.alloc (.cells #[] 33)) w1.heap.size (.slice (some ⟨w1.heap.size, 0, none⟩) 0 0) []) := fresh (Nat.le_refl _)
    have A1 : Hid (Below w1.heap.size w1 (w1.alloc (.cells #[] 33))) := bel_alloc (Below.refl _ _) _
    have Y1 := A1.out.size
    clear b1
    go_wp2_with (first
      | (at_builtin; refine wpList_append_labs rfl _ _ rfl w1.heap.size (.slice (some ⟨w1.heap.size, 0, none⟩) 0 0) [] rfl O1.out qa ca a rfl (HA.out.below (bel_trans B1.out A1.out)) QA.out (by simp; omega) Y1 ?_
         intro vx w2 hOx hBx
         have X : Hid (OwnL w2 w1.heap.size vx a) := hOx
         have B2 : Hid (Below w.heap.size w w2) := bel_trans B1.out (A1.out.trans hBx)
         have O2 : Hid (OwnL (w2.alloc (.cells #[] 33)) w2.heap.size (.slice (some ⟨w2.heap.size, 0, none⟩) 0 0) []) := fresh (Nat.le_refl _)
         have A2 : Hid (Below w2.heap.size w2 (w2.alloc (.cells #[] 33))) := bel_alloc (Below.refl _ _) _
         have Y2 := A2.out.size
         clear hOx hBx)
      | (at_builtin; refine wpList_append_labs rfl _ _ rfl w2.heap.size (.slice (some ⟨w2.heap.size, 0, none⟩) 0 0) [] rfl O2.out qb cb b rfl (HB.out.below (bel_trans B2.out A2.out)) QB.out (by simp; omega) Y2 ?_
         intro vy w3 hOy hBy
         have Y : Hid (OwnL w3 w2.heap.size vy b) := hOy
         have D3 : Hid (Below w2.heap.size w2 w3) := A2.out.trans hBy
         have B3 : Hid (Below w.heap.size w w3) := bel_trans B2.out D3.out
         have O3 : Hid (OwnL (w3.alloc (.cells #[] 33)) w3.heap.size (.slice (some ⟨w3.heap.size, 0, none⟩) 0 0) []) := fresh (Nat.le_refl _)
         have A3 : Hid (Below w3.heap.size w3 (w3.alloc (.cells #[] 33))) := bel_alloc (Below.refl _ _) _
         have Y3 := A3.out.size
         clear hOy hBy)
      | (at_builtin; refine wpList_append_labs rfl _ _ rfl w3.heap.size (.slice (some ⟨w3.heap.size, 0, none⟩) 0 0) [] rfl O3.out qb cb b rfl (HB.out.below (bel_trans B3.out A3.out)) QB.out (by simp; omega) Y3 ?_
         intro vb w4 hOb hBb
         have Z4 : Hid (OwnL w4 w3.heap.size vb b) := hOb
         have D4 : Hid (Below w3.heap.size w3 w4) := A3.out.trans hBb
         have B4 : Hid (Below w.heap.size w w4) := bel_trans B3.out D4.out
         have Y4 := D4.out.size
         clear hOb hBb)
      | (at_builtin; refine wpList_append_labs rfl _ _ rfl w3.heap.size vb b rfl Z4.out qa ca a rfl (HA.out.below B4.out) QA.out (by omega) Y4 ?_
         intro vz w5 hOz hBz
         have Z5 : Hid (OwnL w5 w3.heap.size vz (b ++ a)) := hOz
         have D5 : Hid (Below w3.heap.size w3 w5) := D4.out.trans hBz
         have B5 : Hid (Below w.heap.size w w5) := bel_trans B3.out D5.out
         clear hOz hBz))
    obtain ⟨qx, cx, rfl, lx, kx⟩ := own_read (X.out.kept (bel_trans (bel_trans (Below.refl _ w2) (D3.out)) D5.out))
    obtain ⟨qy, cy, rfl, ly, ky⟩ := own_read (Y.out.kept D5.out)
    obtain ⟨qz, cz, rfl, lz, kz⟩ := own_read Z5.out
    have hba : (b ++ a).length ≤ 60 := by simp; omega
    have LX : Hid (Labs w5 qx a ∧ (qx = none → cx = 0 ∧ a = [])) := ⟨lx, kx⟩
    have LY : Hid (Labs w5 qy b ∧ (qy = none → cy = 0 ∧ b = [])) := ⟨ly, ky⟩
    have LZ : Hid (Labs w5 qz (b ++ a) ∧ (qz = none → cz = 0 ∧ b ++ a = [])) := ⟨lz, kz⟩
    have S1 := Lib.hid (sort_any w5 qx cx a LX.out.1 LX.out.2 (by omega))
    have S2 := Lib.hid (fun (W : World) (hW : Below w5.heap.size w5 W) => rsort_any W qa ca a (HA.out.below (bel_trans B5.out hW)) (by omega))
    have M1 := Lib.hid (fun (W : World) (hW : Below w5.heap.size w5 W) => merge_any W qx qy cx cy a b (LX.out.1.below hW) (LY.out.1.below hW) LX.out.2 LY.out.2 (by omega))
    have M2 := Lib.hid (fun (W : World) (hW : Below w5.heap.size w5 W) => rsort_any W qz cz (b ++ a) (LZ.out.1.below hW) (by omega))
    have T1 := Lib.hid (fun (W : World) (hW : Below w5.heap.size w5 W) => same_true W qx qa cx ca a (LX.out.1.below hW) (HA.out.below (bel_trans B5.out hW)) (by omega))
    have T2 := Lib.hid (fun (W : World) (hW : Below w5.heap.size w5 W) => same_true W qy qb cy cb b (LY.out.1.below hW) (HB.out.below (bel_trans B5.out hW)) (by omega))
    generalize b ++ a = ba at M1 M2 hba ⊢
    clear lx kx ly ky lz kz O1 A1 Y1 O2 A2 Y2 O3 A3 Y3 X Y Z4 Z5 D3 D4 D5 Y4 LX LY LZ
    refine S1.out.mono ?_
    rintro e w6 ⟨q1, c1, o1, rfl, s1, m1, l1, _, b6⟩
    have F1 : Hid (Strict o1 ∧ Same1 a o1 ∧ Labs w6 q1 o1) := ⟨s1, m1, l1⟩
    have B6 := Lib.hid b6
    clear s1 m1 l1 b6
    go_wp2_with fail
    refine (S2.out _ B6.out).mono ?_
    rintro e w7 ⟨q2, c2, o2, rfl, s2, m2, l2, _, b7⟩
    obtain rfl : o1 = o2 := find_uniq F1.out.1 s2 (F1.out.2.1.symm.trans m2)
    have hl1 := strict_len F1.out.1 F1.out.2.1
    have E1 := Lib.hid (same_true w7 q1 q2 c1 c2 o1 (F1.out.2.2.below b7) l2 (by omega))
    have B7 := Lib.hid (bel_trans B6.out b7)
    clear s2 m2 l2 b7 F1 S2 S1 hl1
    go_wp2_with fail
    refine E1.out.mono ?_
    rintro e w8 ⟨rfl, b8⟩
    have B8 := Lib.hid (bel_trans B7.out b8)
    clear b8 E1
    go_wp2_with fail
    refine (M1.out _ B8.out).mono ?_
    rintro e w9 ⟨q3, c3, o3, rfl, s3, m3, l3, _, b9⟩
    have F3 : Hid (Strict o3 ∧ Same1 ba o3 ∧ Labs w9 q3 o3) := ⟨s3, m3, l3⟩
    have B9 := Lib.hid (bel_trans B8.out b9)
    clear s3 m3 l3 b9 M1
    go_wp2_with fail
    have M2b := Lib.hid (M2.out _ B9.out)
    refine M2b.out.mono ?_
    rintro e w10 ⟨q4, c4, o4, rfl, s4, m4, l4, _, b10⟩
    obtain rfl : o3 = o4 := find_uniq F3.out.1 s4 (F3.out.2.1.symm.trans m4)
    have hl3 := strict_len F3.out.1 F3.out.2.1
    have E2 := Lib.hid (same_true w10 q3 q4 c3 c4 o3 (F3.out.2.2.below b10) l4 (by omega))
    have B10 := Lib.hid (bel_trans B9.out b10)
    clear s4 m4 l4 b10 F3 M2 M2b hl3
    go_wp2_with fail
    refine E2.out.mono ?_
    rintro e w11 ⟨rfl, b11⟩
    have B11 := Lib.hid (bel_trans B10.out b11)
    clear b11 E2
    go_wp2_with fail
    refine (T1.out _ B11.out).mono ?_
    rintro e w12 ⟨rfl, b12⟩
    have B12 := Lib.hid (bel_trans B11.out b12)
    clear b12 T1
    go_wp2_with fail
    refine (T2.out _ B12.out).mono ?_
    rintro e w13 ⟨rfl, b13⟩
    have B13 := Lib.hid (bel_trans B12.out b13)
    clear b13 T2
    go_wp2
    go_ret
    exact ⟨rfl, bel_trans B5.out B13.out⟩

theorem walk {H : Type} {enc : TypeId × Value → H} {base : Nat} (W : World) (v0 : Value) (d0 : DataW H) (p0 : List MemPlace) (o0 : Value.okWide Try.prog W .any base 22 v0) (h0 : DataW.Trod enc Try.prog W 0 (fun _ => true) true 22 v0 d0 p0)
    (v1 : Value) (d1 : DataW H) (p1 : List MemPlace) (o1 : Value.okWide Try.prog W .any base 22 v1) (h1 : DataW.Trod enc Try.prog W 0 (fun _ => true) true 22 v1 d1 p1) :
    Calls Try.prog 4 #[v0, v1] W fun e W' => e = .returned (.bool true) ∧ Below W.heap.size W W' := by
  obtain ⟨q, c, l, rfl, hl, ml, kl⟩ := open_labs2 o0 h0
  obtain ⟨p, d, t, rfl, ht, mt, kt⟩ := open_labs2 o1 h1
  unfold maxLen at ml mt
  exact walk_at W q p c d l t hl ht kl kt (by omega) (by omega)

/-! ### THE ROW's STEP -/
set_option maxRecDepth 100000 in
theorem lifted (os : Os) (started : os.Started) (H : Type) (enc : TypeId × Value → H) :
    ReturnsInHanded {} Try.checked os 4 .any (Rows.labelSortsSpec.pre6 enc Try.prog Try.f4 Rows.labelSortsRow.domain false) (Rows.labelSortsSpec.post enc Try.prog Try.f4 false true false false) := by
  refine returnsInHanded_of_change (C := Try.checked) own started (by kernel_rfl) Try.func4
    (ChangeSpec.witness6 (enc := enc) (C := Try.checked) false ⟨#[], #[.slice none 0 0, .slice none 0 0], []⟩ 8 (by kernel_rfl) (by kernel_rfl) (by kernel_rfl) (by kernel_rfl)) ?_
  intro W base args ds gs before hval0 hW hcnd _
  have hval : ∀ (j : Nat) t v, Try.f4.params[j]? = some t → args[j]? = some v → Value.okWide Try.prog W .any base t v := hval0
  have hW' := hW
  obtain ⟨p, q, hA0, hV, rfl, hfz, hnd⟩ := hW
  have hA : DataW.TrodAll enc Try.prog W 0 (fun _ => true) true Try.f4.params.toList args.toList ds p := hA0
  have hlt : ∀ x ∈ p, x.block < W.heap.size := fun x hx => hW'.lt x (List.mem_append_left _ hx)
  rw [Try.params4] at hA hval
  have hread : ∀ t ∈ [22, 22], Try.prog.readableRec t = true ∧ t < Try.prog.types.size := by
    intro t ht
    simp only [List.mem_cons, List.not_mem_nil, or_false] at ht
    rcases ht with rfl | rfl <;> exact ⟨by kernel_rfl, of_decide_eq_true (by kernel_rfl)⟩
  have again : ∀ (W' : World), Below W.heap.size W W' → ∀ sp : Nat → Bool, (∀ x ∈ p, sp x.block = true) → DataW.TrodAll enc Try.prog W' 0 sp true [22, 22] args.toList ds p :=
    fun W' hb sp hsp => all_again (by kernel_rfl) hb [22, 22] args.toList ds p hread hA hlt hsp
  obtain ⟨v0, v1, d0, d1, p0, p1, rfl, rfl, rfl, h0, h1⟩ := trodAll_two hA
  obtain ⟨rfl, rfl⟩ := trodVars_none hV
  clear hA0 hval0
  simp only [List.append_nil] at hW'
  refine (walk W v0 d0 p0 (hval 0 22 v0 rfl rfl) h0 v1 d1 p1 (hval 1 22 v1 rfl rfl) h1).mono fun e W' ⟨he, hg⟩ => ?_
  subst he
  exact ⟨_, rfl, post_below hW' hg (fun _ _ _ => trodAll_mk1 (shut_bool Try.underlying4 _)) (fun sp hsp => again W' hg sp hsp) (fun _ => rfl) (ok_one (by kernel_rfl) rfl (okWide_bool_mk Try.underlying4 _))⟩

theorem over : Rows.labelSortsRow.holds Try.pinned (OpenSpec.ofChange Rows.labelSortsSpec) :=
  OpenClaim.holds_of_wide 4 Try.f4 rfl rfl rfl rfl rfl rfl rfl ⟨rfl, rfl, rfl, rfl, rfl⟩ rfl rfl rfl rfl rfl (by kernel_rfl) Try.func4 (by kernel_rfl)
    (of_decide_eq_true (by kernel_rfl)) (by unfold Func.isWrapper; first | (rw [if_pos (by decide +kernel)]; kernel_rfl) | (rw [if_neg (by decide +kernel)]; exact ⟨rfl, rfl⟩))
    (fun os started H enc _ => lifted os started H enc)

/-- The statement. -/
theorem proved : Rows.LabelSortsSaid :=
  over
#print axioms proved
end Go.Proofs.Ytmdpkblkbokhoaa.labelSorts

