/- Proved here: the law LabelMatches of layer 5 holds for every input: whether labels hold what is asked, and tolerate taints, and a key's value, is what the document says. No conditions. -/
import Derived.Test.YtmdpkblkbokhoaaLLawBase
import Derived.Test.YtmdpkblkbokhoaaLabC
import Derived.ChangeMaps5
namespace Go.Proofs.Ytmdpkblkbokhoaa.labelMatches
open Go.ChangeShapes Go.WideShapes Go.ChangeAt Go.RowKit Go.ChangeMaps
set_option linter.unusedVariables false

set_option maxHeartbeats 1000000 in
theorem walk_at (w : World) (q p s : Option Addr) (c d f : Nat) (l t : List Lab) (r : List Req) (k : ByteArray) (h : Labs w q l) (hp : Labs w p t) (hs : Reqs w s r) (hl : l.length ≤ 9223372036854775807) (ht : t.length ≤ 9223372036854775807) (hr : r.length ≤ 9223372036854775807) :
    Calls Try.prog 3 #[.slice q l.length c, .slice p t.length d, .slice s r.length f, .string k] w fun e w' => e = .returned (.bool true) ∧ Below w.heap.size w w' := by
  have HL := Lib.hid h
  have HP := Lib.hid hp
  have HS := Lib.hid hs
  clear h hp hs
  have V := Lib.hid lives_any
  by_cases hbig : 30 < l.length ∨ 30 < t.length ∨ 30 < r.length
  · have big : (30 < l.length) ∨ (l.length ≤ 30 ∧ 30 < t.length) ∨ (l.length ≤ 30 ∧ t.length ≤ 30 ∧ 30 < r.length) := by omega
    rcases big with h1 | ⟨h1, h2⟩ | ⟨h1, h2, h3⟩
    all_goals
      clear hbig
      go_enter Try.func3, Try.ntmps3
      go_wp2_with fail
      refine (V.out _).mono ?_
      rintro e w1 ⟨rfl, b1⟩
      have B1 := Lib.hid b1
      clear b1
      go_wp2_with fail
      refine (V.out _).mono ?_
      rintro e w2 ⟨rfl, b2⟩
      have B2 := Lib.hid b2
      clear b2
      go_wp2
      go_ret
      exact ⟨rfl, bel_trans B1.out B2.out⟩
  · have h1 : l.length ≤ 30 := by omega
    have h2 : t.length ≤ 30 := by omega
    have h3 : r.length ≤ 30 := by omega
    have G1 := Lib.hid (fun (W : World) (hW : Below w.heap.size w W) => get_any W q c l k (HL.out.below hW) hl)
    have G2 := Lib.hid (fun (W : World) (hW : Below w.heap.size w W) => rget_any W q c l k (HL.out.below hW) hl)
    have M1 := Lib.hid (fun (W : World) (hW : Below w.heap.size w W) => match_any W q s c f l r (HL.out.below hW) hl (HS.out.below hW) hr)
    have M2 := Lib.hid (fun (W : World) (hW : Below w.heap.size w W) => rmatch_any W q s c f l r (HL.out.below hW) hl (HS.out.below hW) hr)
    have T1 := Lib.hid (fun (W : World) (hW : Below w.heap.size w W) => tol_any W q p c d l t (HL.out.below hW) hl (HP.out.below hW) ht)
    have T2 := Lib.hid (fun (W : World) (hW : Below w.heap.size w W) => rtol_any W q p c d l t (HL.out.below hW) hl (HP.out.below hW) ht)
    generalize getV l k = g at G1 G2
    generalize getB l k = gb at G1 G2
    generalize r.all (holdsB l) = mb at M1 M2
    generalize tolB l t = tb at T1 T2
    clear hbig hl ht hr
    go_enter Try.func3, Try.ntmps3
    go_wp2_with fail
    refine (V.out _).mono ?_
    rintro e w1 ⟨rfl, b1⟩
    have B1 := Lib.hid b1
    clear b1
    go_wp2_with fail
    refine (G1.out _ B1.out).mono ?_
    rintro e w2 ⟨rfl, b2⟩
    have B2 := Lib.hid (bel_trans B1.out b2)
    clear b2
    go_wp2_with fail
    refine (G2.out _ B2.out).mono ?_
    rintro e w3 ⟨rfl, b3⟩
    have B3 := Lib.hid (bel_trans B2.out b3)
    clear b3
    go_wp2_with fail
    refine (M1.out _ B3.out).mono ?_
    rintro e w4 ⟨rfl, b4⟩
    have B4 := Lib.hid (bel_trans B3.out b4)
    clear b4
    go_wp2_with fail
    refine (M2.out _ B4.out).mono ?_
    rintro e w5 ⟨rfl, b5⟩
    have B5 := Lib.hid (bel_trans B4.out b5)
    clear b5
    go_wp2_with fail
    refine (T1.out _ B5.out).mono ?_
    rintro e w6 ⟨rfl, b6⟩
    have B6 := Lib.hid (bel_trans B5.out b6)
    clear b6
    go_wp2_with fail
    refine (T2.out _ B6.out).mono ?_
    rintro e w7 ⟨rfl, b7⟩
    have B7 := Lib.hid (bel_trans B6.out b7)
    clear b7
    go_wp2
    go_ret
    exact ⟨rfl, B7.out⟩

theorem walk {H : Type} {enc : TypeId × Value → H} {base : Nat} (W : World) (v0 : Value) (d0 : DataW H) (p0 : List MemPlace) (o0 : Value.okWide Try.prog W .any base 22 v0) (h0 : DataW.Trod enc Try.prog W 0 (fun _ => true) true 22 v0 d0 p0)
    (v1 : Value) (d1 : DataW H) (p1 : List MemPlace) (o1 : Value.okWide Try.prog W .any base 22 v1) (h1 : DataW.Trod enc Try.prog W 0 (fun _ => true) true 22 v1 d1 p1)
    (v2 : Value) (d2 : DataW H) (p2 : List MemPlace) (o2 : Value.okWide Try.prog W .any base 23 v2) (h2 : DataW.Trod enc Try.prog W 0 (fun _ => true) true 23 v2 d2 p2)
    (v3 : Value) (d3 : DataW H) (p3 : List MemPlace) (o3 : Value.okWide Try.prog W .any base 9 v3) (h3 : DataW.Trod enc Try.prog W 0 (fun _ => true) true 9 v3 d3 p3) :
    Calls Try.prog 3 #[v0, v1, v2, v3] W fun e W' => e = .returned (.bool true) ∧ Below W.heap.size W W' := by
  obtain ⟨q, c, l, rfl, hl, ml⟩ := open_labs o0 h0
  obtain ⟨p, d, t, rfl, ht, mt⟩ := open_labs o1 h1
  obtain ⟨s, f, r, rfl, hr, mr⟩ := open_reqs o2 h2
  obtain ⟨k, rfl, rfl, rfl, hk⟩ := open_string Try.underlying9 o3 h3
  unfold maxLen at ml mt mr
  exact walk_at W q p s c d f l t r k hl ht hr (by omega) (by omega) (by omega)

/-! ### THE ROW's STEP -/
set_option maxRecDepth 100000 in
theorem lifted (os : Os) (started : os.Started) (H : Type) (enc : TypeId × Value → H) :
    ReturnsInHanded {} Try.checked os 3 .any (Rows.labelMatchesSpec.pre6 enc Try.prog Try.f3 Rows.labelMatchesRow.domain false) (Rows.labelMatchesSpec.post enc Try.prog Try.f3 false true false false) := by
  refine returnsInHanded_of_change (C := Try.checked) own started (by kernel_rfl) Try.func3
    (ChangeSpec.witness6 (enc := enc) (C := Try.checked) false ⟨#[], #[.slice none 0 0, .slice none 0 0, .slice none 0 0, .string ByteArray.empty], []⟩ 8 (by kernel_rfl) (by kernel_rfl) (by kernel_rfl) (by kernel_rfl)) ?_
  intro W base args ds gs before hval0 hW hcnd _
  have hval : ∀ (j : Nat) t v, Try.f3.params[j]? = some t → args[j]? = some v → Value.okWide Try.prog W .any base t v := hval0
  have hW' := hW
  obtain ⟨p, q, hA0, hV, rfl, hfz, hnd⟩ := hW
  have hA : DataW.TrodAll enc Try.prog W 0 (fun _ => true) true Try.f3.params.toList args.toList ds p := hA0
  have hlt : ∀ x ∈ p, x.block < W.heap.size := fun x hx => hW'.lt x (List.mem_append_left _ hx)
  rw [Try.params3] at hA hval
  have hread : ∀ t ∈ [22, 22, 23, 9], Try.prog.readableRec t = true ∧ t < Try.prog.types.size := by
    intro t ht
    simp only [List.mem_cons, List.not_mem_nil, or_false] at ht
    rcases ht with rfl | rfl | rfl | rfl <;> exact ⟨by kernel_rfl, of_decide_eq_true (by kernel_rfl)⟩
  have again : ∀ (W' : World), Below W.heap.size W W' → ∀ sp : Nat → Bool, (∀ x ∈ p, sp x.block = true) → DataW.TrodAll enc Try.prog W' 0 sp true [22, 22, 23, 9] args.toList ds p :=
    fun W' hb sp hsp => all_again (by kernel_rfl) hb [22, 22, 23, 9] args.toList ds p hread hA hlt hsp
  obtain ⟨v0, v1, v2, v3, d0, d1, d2, d3, p0, p1, p2, p3, rfl, rfl, rfl, h0, h1, h2, h3⟩ := trodAll_four hA
  obtain ⟨rfl, rfl⟩ := trodVars_none hV
  clear hA0 hval0
  simp only [List.append_nil] at hW'
  refine (walk W v0 d0 p0 (hval 0 22 v0 rfl rfl) h0 v1 d1 p1 (hval 1 22 v1 rfl rfl) h1 v2 d2 p2 (hval 2 23 v2 rfl rfl) h2 v3 d3 p3 (hval 3 9 v3 rfl rfl) h3).mono fun e W' ⟨he, hg⟩ => ?_
  subst he
  exact ⟨_, rfl, post_below hW' hg (fun _ _ _ => trodAll_mk1 (shut_bool Try.underlying4 _)) (fun sp hsp => again W' hg sp hsp) (fun _ => rfl) (ok_one (by kernel_rfl) rfl (okWide_bool_mk Try.underlying4 _))⟩

theorem over : Rows.labelMatchesRow.holds Try.pinned (OpenSpec.ofChange Rows.labelMatchesSpec) :=
  OpenClaim.holds_of_wide 3 Try.f3 rfl rfl rfl rfl rfl rfl rfl ⟨rfl, rfl, rfl, rfl, rfl⟩ rfl rfl rfl rfl rfl (by kernel_rfl) Try.func3 (by kernel_rfl)
    (of_decide_eq_true (by kernel_rfl)) (by unfold Func.isWrapper; first | (rw [if_pos (by decide +kernel)]; kernel_rfl) | (rw [if_neg (by decide +kernel)]; exact ⟨rfl, rfl⟩))
    (fun os started H enc _ => lifted os started H enc)

/-- The statement. -/
theorem proved : Rows.LabelMatchesSaid :=
  over
#print axioms proved
end Go.Proofs.Ytmdpkblkbokhoaa.labelMatches

