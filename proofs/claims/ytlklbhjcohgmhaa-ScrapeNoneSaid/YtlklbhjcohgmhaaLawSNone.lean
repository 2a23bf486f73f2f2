/- Proved here: the law ScrapeNone of layer 11 holds for every input: a book that isn't there has nothing, and takes nothing. No conditions. -/
import Derived.Test.YtlklbhjcohgmhaaScL
import Derived.Test.YtlklbhjcohgmhaaScOp
import Derived.Test.YtlklbhjcohgmhaaSLawBase
namespace Go.Proofs.Ytlklbhjcohgmhaa.scrapeNone
open Go.ChangeShapes Go.WideShapes Go.ChangeAt Go.RowKit Go.Lib Go.Shelf Go.Sort Go.Deep
open Go.Joins (cell_of_block unfrozen_of_block block_setCell)
set_option linter.unusedVariables false
set_option linter.unusedSimpArgs false
set_option maxRecDepth 20000

set_option maxHeartbeats 16000000 in
theorem walk_at (W : World) (now : Int) (s : Sr) (x : Int) :
    Calls Try.prog 5 #[.int .i64 now, ser s, .int .u64 x] W fun e w' => e = .returned (.bool true) ∧ Below W.heap.size W w' := by
  have mixed : Try.prog.follows .mixedOrders = true := by kernel_rfl
  obtain ⟨w1, N, B⟩ := boxed W s
  have V := Lib.hid (slives w1)
  have HW : Hid (W.alloc (.cells #[.string s.1, .string s.2] KS) = w1 ∧ W.heap.size = N) := ⟨B.eq, B.at_⟩
  have P1 := Lib.hid (fun w => scr_nil w now s x)
  have P2 := Lib.hid (fun w => fresh_nil w now s)
  have P3 := Lib.hid (fun w => row_nilG w now s)
  have P4 := Lib.hid (fun w => forget_nilG w s.1)
  have P5 := Lib.hid (fun w => all_nilG w)
  have P6 := Lib.hid (fun w => bcopy_nilG w)
  have HB := Lib.hid B
  clear B
  unfold ser at P1 P2 P3 ⊢
  go_enter Try.func5, Try.ntmps5
  go_upto_region 1 with fail
  rw [HW.out.1, HW.out.2]
  go_wp2_with fail
  refine V.out.mono ?_
  rintro e w2 ⟨rfl, b2⟩
  have c0 : w2.cell? ⟨N, 0, none⟩ = some (.string s.1) := (b2.cell (p := ⟨N, 0, none⟩) (World.block_lt_of_cell? _ _ HB.out.c0)).trans HB.out.c0
  have c1 : w2.cell? ⟨N, 1, none⟩ = some (.string s.2) := (b2.cell (p := ⟨N, 1, none⟩) (World.block_lt_of_cell? _ _ HB.out.c1)).trans HB.out.c1
  have B2 := Lib.hid (HB.out.b.trans (b2.mono HB.out.b.size))
  clear b2 V
  go_wp2_with fail
  refine (P1.out _).mono ?_
  rintro e w3 ⟨rfl, b3⟩
  have d0 : w3.cell? ⟨N, 0, none⟩ = some (.string s.1) := (b3.cell (p := ⟨N, 0, none⟩) (World.block_lt_of_cell? _ _ c0)).trans c0
  have d1 : w3.cell? ⟨N, 1, none⟩ = some (.string s.2) := (b3.cell (p := ⟨N, 1, none⟩) (World.block_lt_of_cell? _ _ c1)).trans c1
  have B3 := Lib.hid (B2.out.trans (b3.mono B2.out.size))
  clear b3 c0 c1
  go_wp2_with fail
  refine (P2.out _).mono ?_
  rintro e w4 ⟨rfl, b4⟩
  have c0 : w4.cell? ⟨N, 0, none⟩ = some (.string s.1) := (b4.cell (p := ⟨N, 0, none⟩) (World.block_lt_of_cell? _ _ d0)).trans d0
  have c1 : w4.cell? ⟨N, 1, none⟩ = some (.string s.2) := (b4.cell (p := ⟨N, 1, none⟩) (World.block_lt_of_cell? _ _ d1)).trans d1
  have B4 := Lib.hid (B3.out.trans (b4.mono B3.out.size))
  clear b4 d0 d1
  have g0 : ∀ k os, (grow (w4.drewN k) os).cell? ⟨N, 0, none⟩ = some (.string s.1) := fun k os => cell_grown (World.block_lt_of_cell? _ _ c0) c0 k os
  have g1 : ∀ k os, (grow (w4.drewN k) os).cell? ⟨N, 1, none⟩ = some (.string s.2) := fun k os => cell_grown (World.block_lt_of_cell? _ _ c1) c1 k os
  go_upto_region 6 with fail
  go_quiet_grown (first | (go_at_call 17; refine gr_of (P3.out _)) | (go_at_call 10; refine gr_of (P4.out _)) | (go_at_call 12; refine gr_of (P5.out _)) | (go_at_call 11; refine gr_of (P6.out _)))
  have FIN : Hid (Below W.heap.size W (grow (w4.drewN nq) osq)) := B4.out.trans ((Gr.put w4 nq osq).below.mono B4.out.size)
  go_wp2
  go_ret
  exact ⟨rfl, FIN.out⟩

theorem walk {H : Type} {enc : TypeId × Value → H} {base : Nat} (W : World) (v0 : Value) (d0 : DataW H) (p0 : List MemPlace) (o0 : Value.okWide Try.prog W .any base 2 v0) (h0 : DataW.Trod enc Try.prog W 0 (fun _ => true) true 2 v0 d0 p0)
    (v1 : Value) (d1 : DataW H) (p1 : List MemPlace) (o1 : Value.okWide Try.prog W .any base 33 v1) (h1 : DataW.Trod enc Try.prog W 0 (fun _ => true) true 33 v1 d1 p1)
    (v2 : Value) (d2 : DataW H) (p2 : List MemPlace) (o2 : Value.okWide Try.prog W .any base 34 v2) (h2 : DataW.Trod enc Try.prog W 0 (fun _ => true) true 34 v2 d2 p2) :
    Calls Try.prog 5 #[v0, v1, v2] W fun e W' => e = .returned (.bool true) ∧ Below W.heap.size W W' := by
  obtain ⟨a, rfl, rfl, rfl, ha⟩ := open_int Try.underlying2 o0 h0
  obtain ⟨s, rfl, hs⟩ := open_ser o1 h1
  obtain ⟨x, rfl, rfl, rfl, hx⟩ := open_int Try.underlying34 o2 h2
  exact walk_at W a s x

/-! ### THE ROW's STEP -/
set_option maxRecDepth 100000 in
theorem lifted (os : Os) (started : os.Started) (H : Type) (enc : TypeId × Value → H) :
    ReturnsInHanded {} Try.checked os 5 .any (Rows.scrapeNoneSpec.pre6 enc Try.prog Try.f5 Rows.scrapeNoneRow.domain false) (Rows.scrapeNoneSpec.post enc Try.prog Try.f5 false true false false) := by
  refine returnsInHanded_of_change (C := Try.checked) own started (by kernel_rfl) Try.func5
    (ChangeSpec.witness6 (enc := enc) (C := Try.checked) false ⟨#[], #[.int .i64 0, .agg #[.string { data := #[] }, .string { data := #[] }], .int .u64 0], []⟩ 8 (by kernel_rfl) (by kernel_rfl) (by kernel_rfl) (by kernel_rfl)) ?_
  intro W base args ds gs before hval0 hW hcnd _
  have hval : ∀ (j : Nat) t v, Try.f5.params[j]? = some t → args[j]? = some v → Value.okWide Try.prog W .any base t v := hval0
  have hW' := hW
  obtain ⟨p, q, hA0, hV, rfl, hfz, hnd⟩ := hW
  have hA : DataW.TrodAll enc Try.prog W 0 (fun _ => true) true Try.f5.params.toList args.toList ds p := hA0
  have hlt : ∀ x ∈ p, x.block < W.heap.size := fun x hx => hW'.lt x (List.mem_append_left _ hx)
  rw [Try.params5] at hA hval
  have hread : ∀ t ∈ [2, 33, 34], Try.prog.readableRec t = true ∧ t < Try.prog.types.size := by
    intro t ht
    simp only [List.mem_cons, List.not_mem_nil, or_false] at ht
    rcases ht with rfl | rfl | rfl <;> exact ⟨by kernel_rfl, of_decide_eq_true (by kernel_rfl)⟩
  have again : ∀ (W' : World), Below W.heap.size W W' → ∀ sp : Nat → Bool, (∀ x ∈ p, sp x.block = true) → DataW.TrodAll enc Try.prog W' 0 sp true [2, 33, 34] args.toList ds p :=
    fun W' hb sp hsp => all_again (by kernel_rfl) hb [2, 33, 34] args.toList ds p hread hA hlt hsp
  obtain ⟨v0, v1, v2, d0, d1, d2, p0, p1, p2, rfl, rfl, rfl, h0, h1, h2⟩ := trodAll_three hA
  obtain ⟨rfl, rfl⟩ := trodVars_none hV
  clear hA0 hval0
  simp only [List.append_nil] at hW'
  refine (walk W v0 d0 p0 (hval 0 2 v0 rfl rfl) h0 v1 d1 p1 (hval 1 33 v1 rfl rfl) h1 v2 d2 p2 (hval 2 34 v2 rfl rfl) h2).mono fun e W' ⟨he, hg⟩ => ?_
  subst he
  exact ⟨_, rfl, post_below hW' hg (fun _ _ _ => trodAll_mk1 (shut_bool Try.underlying4 _)) (fun sp hsp => again W' hg sp hsp) (fun _ => rfl) (ok_one (by kernel_rfl) rfl (okWide_bool_mk Try.underlying4 _))⟩

theorem over : Rows.scrapeNoneRow.holds Try.pinned (OpenSpec.ofChange Rows.scrapeNoneSpec) :=
  OpenClaim.holds_of_wide 5 Try.f5 rfl rfl rfl rfl rfl rfl rfl ⟨rfl, rfl, rfl, rfl, rfl⟩ rfl rfl rfl rfl rfl (by kernel_rfl) Try.func5 (by kernel_rfl)
    (of_decide_eq_true (by kernel_rfl)) (by unfold Func.isWrapper; first | (rw [if_pos (by decide +kernel)]; kernel_rfl) | (rw [if_neg (by decide +kernel)]; exact ⟨rfl, rfl⟩))
    (fun os started H enc _ => lifted os started H enc)

/-- The statement. -/
theorem proved : Rows.ScrapeNoneSaid :=
  over
#print axioms proved
end Go.Proofs.Ytlklbhjcohgmhaa.scrapeNone

