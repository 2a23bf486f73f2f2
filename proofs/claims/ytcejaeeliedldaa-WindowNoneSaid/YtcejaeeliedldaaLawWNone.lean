/- Proved here: the law WindowNone of layer 21 holds for every input: a memory that isn't there remembers nothing, whatever is asked of it; and the chapter's example. No conditions. -/
import Derived.Test.YtcejaeeliedldaaWnP
import Derived.Test.YtcejaeeliedldaaWnLawBase
namespace Go.Proofs.Ytcejaeeliedldaa.windowNone
open Go.ChangeShapes Go.WideShapes Go.ChangeAt Go.RowKit Go.Lib Go.Shelf Go.Sort Go.Deep
open Go.Joins (cell_of_block unfrozen_of_block block_setCell)
open Go.Proofs.Ytcejaeeliedldaa.Ow Go.Proofs.Ytcejaeeliedldaa.Wn
set_option linter.unusedVariables false
set_option linter.unusedSimpArgs false
set_option maxRecDepth 20000

set_option maxHeartbeats 4000000 in
theorem none_any (W : World) (now there up down : Int) :
    Calls Try.prog 5 #[.int .i64 now, .int .i64 there, .int .i64 up, .int .i64 down] W fun e W' => e = .returned (.bool true) ∧ Below W.heap.size W W' := by
  have CL := Lib.hid (fun w => wlives w)
  have C1 := Lib.hid (fun w => leastF_nil w now up)
  have C2 := Lib.hid (fun w => greatestF_nil w now down)
  have C3 := Lib.hid (fun w => note_nil w now there)
  have C4 := Lib.hid (fun w => stable_nil w now there up down)
  have C5 := Lib.hid (fun w => len_nil w)
  have C6 := Lib.hid (fun w => copy_nil w)
  go_enter Try.func5, Try.ntmps5
  go_wp2_with fail
  refine (CL.out _).mono ?_
  rintro y w1 ⟨rfl, b1⟩
  have B1 := Lib.hid b1
  clear b1 CL
  go_wp2_with fail
  refine (C1.out _).mono ?_
  rintro y w2 ⟨rfl, b2⟩
  have B2 := Lib.hid (B1.out.trans (b2.mono B1.out.size))
  clear b2 B1 C1
  go_wp2_with fail
  refine (C2.out _).mono ?_
  rintro y w3 ⟨rfl, b3⟩
  have B3 := Lib.hid (B2.out.trans (b3.mono B2.out.size))
  clear b3 B2 C2
  go_wp2_with fail
  refine (C3.out _).mono ?_
  rintro y w4 ⟨rfl, rfl⟩
  clear C3
  go_wp2_with fail
  refine (C4.out _).mono ?_
  rintro y w5 ⟨rfl, b5⟩
  have B5 := Lib.hid (B3.out.trans (b5.mono B3.out.size))
  clear b5 B3 C4
  go_wp2_with fail
  refine (C5.out _).mono ?_
  rintro y w6 ⟨rfl, rfl⟩
  clear C5
  go_wp2_with fail
  refine (C6.out _).mono ?_
  rintro y w7 ⟨rfl, rfl⟩
  clear C6
  go_wp2
  go_ret
  exact ⟨rfl, B5.out⟩

theorem walk {H : Type} {enc : TypeId × Value → H} {base : Nat} (W : World) (v0 : Value) (d0 : DataW H) (p0 : List MemPlace) (o0 : Value.okWide Try.prog W .any base 2 v0) (h0 : DataW.Trod enc Try.prog W 0 (fun _ => true) true 2 v0 d0 p0)
    (v1 : Value) (d1 : DataW H) (p1 : List MemPlace) (o1 : Value.okWide Try.prog W .any base 3 v1) (h1 : DataW.Trod enc Try.prog W 0 (fun _ => true) true 3 v1 d1 p1)
    (v2 : Value) (d2 : DataW H) (p2 : List MemPlace) (o2 : Value.okWide Try.prog W .any base 3 v2) (h2 : DataW.Trod enc Try.prog W 0 (fun _ => true) true 3 v2 d2 p2)
    (v3 : Value) (d3 : DataW H) (p3 : List MemPlace) (o3 : Value.okWide Try.prog W .any base 3 v3) (h3 : DataW.Trod enc Try.prog W 0 (fun _ => true) true 3 v3 d3 p3)
    (wt0 : Wt 2 d0) (wt1 : Wt 3 d1) (wt2 : Wt 3 d2) (wt3 : Wt 3 d3) :
    Calls Try.prog 5 #[v0, v1, v2, v3] W fun e W' => e = .returned (.bool true) ∧ Below W.heap.size W W' := by
  obtain ⟨a, rfl, rfl, rfl, _⟩ := open_int Try.underlying2 o0 h0
  obtain ⟨b, rfl, rfl, rfl, _⟩ := open_int Try.underlying3 o1 h1
  obtain ⟨c, rfl, rfl, rfl, _⟩ := open_int Try.underlying3 o2 h2
  obtain ⟨d, rfl, rfl, rfl, _⟩ := open_int Try.underlying3 o3 h3
  exact none_any W a b c d

/-! ### THE ROW's STEP -/
set_option maxRecDepth 100000 in
theorem lifted (os : Os) (started : os.Started) (H : Type) (enc : TypeId × Value → H) :
    ReturnsInHanded {} Try.checked os 5 .any (Rows.windowNoneSpec.pre6 enc Try.prog Try.f5 Rows.windowNoneRow.domain false) (Rows.windowNoneSpec.post enc Try.prog Try.f5 false true false false) := by
  refine returnsInHanded_of_change_sized (C := Try.checked) own started (by kernel_rfl) Try.func5
    (ChangeSpec.witness6 (enc := enc) (C := Try.checked) false ⟨#[], #[.int .i64 0, .int .i64 0, .int .i64 0, .int .i64 0], []⟩ 8 (by kernel_rfl) (by kernel_rfl) (by kernel_rfl) (by kernel_rfl)) ?_
  intro W base args ds gs before hval0 hW hcnd hsz0 _
  have hval : ∀ (j : Nat) t v, Try.f5.params[j]? = some t → args[j]? = some v → Value.okWide Try.prog W .any base t v := hval0
  have hW' := hW
  obtain ⟨p, q, hA0, hV, rfl, hfz, hnd⟩ := hW
  have hA : DataW.TrodAll enc Try.prog W 0 (fun _ => true) true Try.f5.params.toList args.toList ds p := hA0
  have hlt : ∀ x ∈ p, x.block < W.heap.size := fun x hx => hW'.lt x (List.mem_append_left _ hx)
  rw [Try.params5] at hA hval
  have hread : ∀ t ∈ [2, 3, 3, 3], Try.prog.readableRec t = true ∧ t < Try.prog.types.size := by
    intro t ht
    simp only [List.mem_cons, List.not_mem_nil, or_false] at ht
    rcases ht with rfl | rfl | rfl | rfl <;> exact ⟨by kernel_rfl, of_decide_eq_true (by kernel_rfl)⟩
  have again : ∀ (W' : World), Below W.heap.size W W' → ∀ sp : Nat → Bool, (∀ x ∈ p, sp x.block = true) → DataW.TrodAll enc Try.prog W' 0 sp true [2, 3, 3, 3] args.toList ds p :=
    fun W' hb sp hsp => all_again (by kernel_rfl) hb [2, 3, 3, 3] args.toList ds p hread hA hlt hsp
  obtain ⟨v0, v1, v2, v3, d0, d1, d2, d3, p0, p1, p2, p3, rfl, rfl, rfl, h0, h1, h2, h3⟩ := trodAll_four hA
  obtain ⟨rfl, rfl⟩ := trodVars_none hV
  have wt0 : Wt 2 d0 := fun n hn => by
    have := List.all_eq_true.1 hsz0 n (DataW.weights_mem_each (j := 0) (t := 2) (d := d0) (by kernel_rfl) rfl n hn)
    simpa using this
  have wt1 : Wt 3 d1 := fun n hn => by
    have := List.all_eq_true.1 hsz0 n (DataW.weights_mem_each (j := 1) (t := 3) (d := d1) (by kernel_rfl) rfl n hn)
    simpa using this
  have wt2 : Wt 3 d2 := fun n hn => by
    have := List.all_eq_true.1 hsz0 n (DataW.weights_mem_each (j := 2) (t := 3) (d := d2) (by kernel_rfl) rfl n hn)
    simpa using this
  have wt3 : Wt 3 d3 := fun n hn => by
    have := List.all_eq_true.1 hsz0 n (DataW.weights_mem_each (j := 3) (t := 3) (d := d3) (by kernel_rfl) rfl n hn)
    simpa using this
  clear hA0 hval0
  simp only [List.append_nil] at hW' again
  refine (walk W v0 d0 p0 (hval 0 2 v0 rfl rfl) h0 v1 d1 p1 (hval 1 3 v1 rfl rfl) h1 v2 d2 p2 (hval 2 3 v2 rfl rfl) h2 v3 d3 p3 (hval 3 3 v3 rfl rfl) h3 wt0 wt1 wt2 wt3).mono fun e W' ⟨he, hg⟩ => ?_
  subst he
  exact ⟨_, rfl, post_below hW' hg (fun _ _ _ => trodAll_mk1 (shut_bool Try.underlying4 _)) (fun sp hsp => again W' hg sp hsp) (fun _ => rfl) (ok_one (by kernel_rfl) rfl (okWide_bool_mk Try.underlying4 _))⟩

theorem over : Rows.windowNoneRow.holds Try.pinned (OpenSpec.ofChange Rows.windowNoneSpec) :=
  OpenClaim.holds_of_wide 5 Try.f5 rfl rfl rfl rfl rfl rfl rfl ⟨rfl, rfl, rfl, rfl, rfl⟩ rfl rfl rfl rfl rfl (by kernel_rfl) Try.func5 (by kernel_rfl)
    (of_decide_eq_true (by kernel_rfl)) (by unfold Func.isWrapper; first | (rw [if_pos (by decide +kernel)]; kernel_rfl) | (rw [if_neg (by decide +kernel)]; exact ⟨rfl, rfl⟩))
    (fun os started H enc _ => lifted os started H enc)

/-- The statement. -/
theorem proved : Rows.WindowNoneSaid :=
  over
#print axioms proved
end Go.Proofs.Ytcejaeeliedldaa.windowNone


