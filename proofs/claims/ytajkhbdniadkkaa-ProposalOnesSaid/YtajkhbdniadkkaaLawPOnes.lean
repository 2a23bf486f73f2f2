/- Proved here: the law ProposalOnes of layer 20 holds for every input: how many replicas one value, or one on the average, asks for is the document's, or it is told why there is no answer; and the chapter's example. No conditions. -/
import Derived.Test.YtajkhbdniadkkaaPpL
import Derived.Test.YtajkhbdniadkkaaPpQ
import Derived.Test.YtajkhbdniadkkaaPpOp
import Derived.Test.YtajkhbdniadkkaaPpLawBase
namespace Go.Proofs.Ytajkhbdniadkkaa.proposalOnes
open Go.ChangeShapes Go.WideShapes Go.ChangeAt Go.RowKit Go.Lib Go.Shelf Go.Sort Go.Deep
open Go.Joins (cell_of_block unfrozen_of_block block_setCell)
open Go.Proofs.Ytajkhbdniadkkaa.Ow Go.Proofs.Ytajkhbdniadkkaa.Pp Go.Proofs.Ytajkhbdniadkkaa.Ld
set_option linter.unusedVariables false
set_option linter.unusedSimpArgs false
set_option maxRecDepth 20000

set_option maxHeartbeats 8000000 in
theorem walk_of (W : World) (k : Int) (s : ByteArray) (t v r x a e b f : Int)
    (C1 : ∀ w, Calls Try.prog 8 #[.agg (metC k s t), .int .i64 v, .int .i64 r, .int .i64 x] w fun y w' => y = .returned (.tuple #[.int .i64 a, .int .i64 e]) ∧ Below w.heap.size w w')
    (C2 : ∀ w, Calls Try.prog 9 #[.agg (metC k s t), .int .i64 v, .int .i64 r, .int .i64 x] w fun y w' => y = .returned (.tuple #[.int .i64 b, .int .i64 f]) ∧ Below w.heap.size w w')
    (C3 : ∀ w, Calls Try.prog 10 #[.agg (metC k s t), .int .i64 v, .int .i64 r, .int .i64 x] w fun y w' => y = .returned (.tuple #[.int .i64 a, .int .i64 e]) ∧ Below w.heap.size w w')
    (C4 : ∀ w, Calls Try.prog 11 #[.agg (metC k s t), .int .i64 v, .int .i64 r, .int .i64 x] w fun y w' => y = .returned (.tuple #[.int .i64 b, .int .i64 f]) ∧ Below w.heap.size w w') :
    Calls Try.prog 3 #[.agg (metC k s t), .int .i64 v, .int .i64 r, .int .i64 x] W fun e W' => e = .returned (.bool true) ∧ Below W.heap.size W W' := by
  obtain ⟨M, hM⟩ : ∃ M, M = metC k s t := ⟨_, rfl⟩
  have sM : M.size = 3 := by rw [hM]; rfl
  rw [← hM] at C1 C2 C3 C4
  rw [← hM]
  obtain ⟨w1, B, HW, Ba, y0⟩ := box1 W M
  have LMa : Hid (∀ w, Below w1.heap.size w1 w → (Instr.loadAt MT (.pointer (some ⟨B, 0, none⟩))).run Try.prog w = .ok (.agg M) w) := fun w b => load_met ((b.block B (Array.getElem?_eq_some_iff.1 y0).1).trans y0) sM
  have C1 := Lib.hid C1
  have C2 := Lib.hid C2
  have C3 := Lib.hid C3
  have C4 := Lib.hid C4
  have HBa := Lib.hid Ba
  have CL := Lib.hid (fun w => plives w)
  clear hM sM y0 Ba
  go_enter Try.func3, Try.ntmps3
  go_upto_region 1 with fail
  rw [HW.out.1, HW.out.2]
  go_wp2_with fail
  refine (CL.out _).mono ?_
  rintro y w2 ⟨rfl, b2⟩
  have B2 := Lib.hid b2
  have LM := Lib.hid (LMa.out _ b2)
  clear b2 CL
  go_wp2_with (refine wpList_load_by (by kernel_rfl) MT _ rfl (.pointer (some ⟨B, 0, none⟩)) (.agg M) (by rfl) LM.out ?_)
  refine (C1.out _).mono ?_
  rintro y w3 ⟨rfl, b3⟩
  have b13 : Below w1.heap.size w1 w3 := B2.out.trans (b3.mono B2.out.size)
  clear LM B2 C1
  have B3 := Lib.hid b13
  have LM := Lib.hid (LMa.out _ b13)
  clear b3 b13
  go_wp2_with (refine wpList_load_by (by kernel_rfl) MT _ rfl (.pointer (some ⟨B, 0, none⟩)) (.agg M) (by rfl) LM.out ?_)
  refine (C2.out _).mono ?_
  rintro y w4 ⟨rfl, b4⟩
  have b14 : Below w1.heap.size w1 w4 := B3.out.trans (b4.mono B3.out.size)
  clear LM B3 C2
  have B4 := Lib.hid b14
  have LM := Lib.hid (LMa.out _ b14)
  clear b4 b14
  go_wp2_with (refine wpList_load_by (by kernel_rfl) MT _ rfl (.pointer (some ⟨B, 0, none⟩)) (.agg M) (by rfl) LM.out ?_)
  refine (C3.out _).mono ?_
  rintro y w5 ⟨rfl, b5⟩
  have b15 : Below w1.heap.size w1 w5 := B4.out.trans (b5.mono B4.out.size)
  clear LM B4 C3
  have B5 := Lib.hid b15
  have LM := Lib.hid (LMa.out _ b15)
  clear b5 b15
  go_wp2_with (refine wpList_load_by (by kernel_rfl) MT _ rfl (.pointer (some ⟨B, 0, none⟩)) (.agg M) (by rfl) LM.out ?_)
  refine (C4.out _).mono ?_
  rintro y w6 ⟨rfl, b6⟩
  have b16 : Below w1.heap.size w1 w6 := B5.out.trans (b6.mono B5.out.size)
  have FIN := Lib.hid (HBa.out.trans (b16.mono HBa.out.size))
  clear LM B5 C4 b6 b16 LMa HBa
  go_wp2
  go_ret
  exact ⟨rfl, FIN.out⟩
theorem walk_at (W : World) (k : Int) (s : ByteArray) (t v r x : Int) :
    Calls Try.prog 3 #[.agg (metC k s t), .int .i64 v, .int .i64 r, .int .i64 x] W fun e W' => e = .returned (.bool true) ∧ Below W.heap.size W W' := by
  by_cases h : rightB t r x = false ∨ okQ v = false
  · exact walk_of W k s t v r x 0 1 0 1 (fun w => one_bad w k s t v r x h) (fun w => avg_bad w k s t v r x h) (fun w => rone_bad w k s t v r x h) (fun w => ravg_bad w k s t v r x h)
  · have h1 : rightB t r x = true := by cases e : rightB t r x with
      | true => rfl
      | false => exact absurd (.inl e) h
    have h2 : okQ v = true := by cases e : okQ v with
      | true => rfl
      | false => exact absurd (.inr e) h
    obtain ⟨⟨r0, r1⟩, ⟨x0, x1⟩, t0, t1⟩ := rightB_iff.1 h1
    have h3 : 0 ≤ v ∧ v ≤ 9007199254740992 := of_decide_eq_true h2
    obtain ⟨t', rfl⟩ : ∃ n : Nat, t = (n : Int) := ⟨t.toNat, by omega⟩
    obtain ⟨v', rfl⟩ : ∃ n : Nat, v = (n : Int) := ⟨v.toNat, by omega⟩
    obtain ⟨r', rfl⟩ : ∃ n : Nat, r = (n : Int) := ⟨r.toNat, by omega⟩
    obtain ⟨x', rfl⟩ : ∃ n : Nat, x = (n : Int) := ⟨x.toNat, by omega⟩
    have a1 : 0 < t' := by omega
    have a2 : t' ≤ 9007199254740992 := by omega
    have a3 : r' ≤ 1000000 := by omega
    have a4 : x' ≤ 1000 := by omega
    have a5 : v' ≤ 9007199254740992 := by omega
    exact walk_of W k s _ _ _ _ _ _ _ _ (fun w => one_ok w k s t' v' r' x' a1 a2 a3 a4 a5) (fun w => avg_ok w k s t' v' r' x' a1 a2 a3 a4 a5) (fun w => rone_ok w k s t' v' r' x' a1 a2 a3 a4 a5) (fun w => ravg_ok w k s t' v' r' x' a1 a2 a3 a4 a5)

theorem walk {H : Type} {enc : TypeId × Value → H} {base : Nat} (W : World) (v0 : Value) (d0 : DataW H) (p0 : List MemPlace) (o0 : Value.okWide Try.prog W .any base 24 v0) (h0 : DataW.Trod enc Try.prog W 0 (fun _ => true) true 24 v0 d0 p0)
    (v1 : Value) (d1 : DataW H) (p1 : List MemPlace) (o1 : Value.okWide Try.prog W .any base 22 v1) (h1 : DataW.Trod enc Try.prog W 0 (fun _ => true) true 22 v1 d1 p1)
    (v2 : Value) (d2 : DataW H) (p2 : List MemPlace) (o2 : Value.okWide Try.prog W .any base 3 v2) (h2 : DataW.Trod enc Try.prog W 0 (fun _ => true) true 3 v2 d2 p2)
    (v3 : Value) (d3 : DataW H) (p3 : List MemPlace) (o3 : Value.okWide Try.prog W .any base 3 v3) (h3 : DataW.Trod enc Try.prog W 0 (fun _ => true) true 3 v3 d3 p3)
    (wt0 : Wt 24 d0) (wt1 : Wt 22 d1) (wt2 : Wt 3 d2) (wt3 : Wt 3 d3) :
    Calls Try.prog 3 #[v0, v1, v2, v3] W fun e W' => e = .returned (.bool true) ∧ Below W.heap.size W W' := by
  obtain ⟨k, s, t, rfl, _, _, _⟩ := open_met o0 h0 wt0
  obtain ⟨v, rfl, rfl, rfl, _⟩ := open_int Try.underlying22 o1 h1
  obtain ⟨r, rfl, rfl, rfl, _⟩ := open_int Try.underlying3 o2 h2
  obtain ⟨x, rfl, rfl, rfl, _⟩ := open_int Try.underlying3 o3 h3
  exact walk_at W k s t v r x

/-! ### THE ROW's STEP -/
set_option maxRecDepth 100000 in
theorem lifted (os : Os) (started : os.Started) (H : Type) (enc : TypeId × Value → H) :
    ReturnsInHanded {} Try.checked os 3 .any (Rows.proposalOnesSpec.pre6 enc Try.prog Try.f3 Rows.proposalOnesRow.domain false) (Rows.proposalOnesSpec.post enc Try.prog Try.f3 false true false false) := by
  refine returnsInHanded_of_change_sized (C := Try.checked) own started (by kernel_rfl) Try.func3
    (ChangeSpec.witness6 (enc := enc) (C := Try.checked) false ⟨#[], #[.agg #[.int .i64 0, .string ⟨#[]⟩, .int .i64 0], .int .i64 0, .int .i64 0, .int .i64 0], []⟩ 8 (by kernel_rfl) (by kernel_rfl) (by kernel_rfl) (by kernel_rfl)) ?_
  intro W base args ds gs before hval0 hW hcnd hsz0 _
  have hval : ∀ (j : Nat) t v, Try.f3.params[j]? = some t → args[j]? = some v → Value.okWide Try.prog W .any base t v := hval0
  have hW' := hW
  obtain ⟨p, q, hA0, hV, rfl, hfz, hnd⟩ := hW
  have hA : DataW.TrodAll enc Try.prog W 0 (fun _ => true) true Try.f3.params.toList args.toList ds p := hA0
  have hlt : ∀ x ∈ p, x.block < W.heap.size := fun x hx => hW'.lt x (List.mem_append_left _ hx)
  rw [Try.params3] at hA hval
  have hread : ∀ t ∈ [24, 22, 3, 3], Try.prog.readableRec t = true ∧ t < Try.prog.types.size := by
    intro t ht
    simp only [List.mem_cons, List.not_mem_nil, or_false] at ht
    rcases ht with rfl | rfl | rfl | rfl <;> exact ⟨by kernel_rfl, of_decide_eq_true (by kernel_rfl)⟩
  have again : ∀ (W' : World), Below W.heap.size W W' → ∀ sp : Nat → Bool, (∀ x ∈ p, sp x.block = true) → DataW.TrodAll enc Try.prog W' 0 sp true [24, 22, 3, 3] args.toList ds p :=
    fun W' hb sp hsp => all_again (by kernel_rfl) hb [24, 22, 3, 3] args.toList ds p hread hA hlt hsp
  obtain ⟨v0, v1, v2, v3, d0, d1, d2, d3, p0, p1, p2, p3, rfl, rfl, rfl, h0, h1, h2, h3⟩ := trodAll_four hA
  obtain ⟨rfl, rfl⟩ := trodVars_none hV
  have wt0 : Wt 24 d0 := fun n hn => by
    have := List.all_eq_true.1 hsz0 n (DataW.weights_mem_each (j := 0) (t := 24) (d := d0) (by kernel_rfl) rfl n hn)
    simpa using this
  have wt1 : Wt 22 d1 := fun n hn => by
    have := List.all_eq_true.1 hsz0 n (DataW.weights_mem_each (j := 1) (t := 22) (d := d1) (by kernel_rfl) rfl n hn)
    simpa using this
  have wt2 : Wt 3 d2 := fun n hn => by
    have := List.all_eq_true.1 hsz0 n (DataW.weights_mem_each (j := 2) (t := 3) (d := d2) (by kernel_rfl) rfl n hn)
    simpa using this
  have wt3 : Wt 3 d3 := fun n hn => by
    have := List.all_eq_true.1 hsz0 n (DataW.weights_mem_each (j := 3) (t := 3) (d := d3) (by kernel_rfl) rfl n hn)
    simpa using this
  clear hA0 hval0
  simp only [List.append_nil] at hW' again
  refine (walk W v0 d0 p0 (hval 0 24 v0 rfl rfl) h0 v1 d1 p1 (hval 1 22 v1 rfl rfl) h1 v2 d2 p2 (hval 2 3 v2 rfl rfl) h2 v3 d3 p3 (hval 3 3 v3 rfl rfl) h3 wt0 wt1 wt2 wt3).mono fun e W' ⟨he, hg⟩ => ?_
  subst he
  exact ⟨_, rfl, post_below hW' hg (fun _ _ _ => trodAll_mk1 (shut_bool Try.underlying4 _)) (fun sp hsp => again W' hg sp hsp) (fun _ => rfl) (ok_one (by kernel_rfl) rfl (okWide_bool_mk Try.underlying4 _))⟩

theorem over : Rows.proposalOnesRow.holds Try.pinned (OpenSpec.ofChange Rows.proposalOnesSpec) :=
  OpenClaim.holds_of_wide 3 Try.f3 rfl rfl rfl rfl rfl rfl rfl ⟨rfl, rfl, rfl, rfl, rfl⟩ rfl rfl rfl rfl rfl (by kernel_rfl) Try.func3 (by kernel_rfl)
    (of_decide_eq_true (by kernel_rfl)) (by unfold Func.isWrapper; first | (rw [if_pos (by decide +kernel)]; kernel_rfl) | (rw [if_neg (by decide +kernel)]; exact ⟨rfl, rfl⟩))
    (fun os started H enc _ => lifted os started H enc)

/-- The statement. -/
theorem proved : Rows.ProposalOnesSaid :=
  over
#print axioms proved
end Go.Proofs.Ytajkhbdniadkkaa.proposalOnes


