/- Proved here: the law RingNone of layer 10 holds for every input: a ring that isn't there has nothing, and takes nothing. No conditions. -/
import Derived.Test.YthpmdaioekpipaaRgL
import Derived.Test.YthpmdaioekpipaaRgII
import Derived.Test.YthpmdaioekpipaaRgOI
import Derived.Test.YthpmdaioekpipaaRgPI
import Derived.Test.YthpmdaioekpipaaRLawBase
namespace Go.Proofs.Ythpmdaioekpipaa.ringNone
open Go.ChangeShapes Go.WideShapes Go.ChangeAt Go.RowKit Go.Lib Go.Shelf Go.Sort Go.Deep
open Go.Joins (cell_of_block unfrozen_of_block block_setCell)
set_option linter.unusedVariables false
set_option linter.unusedSimpArgs false
set_option maxRecDepth 20000

set_option maxHeartbeats 16000000 in
theorem walk_at (W : World) (at_ x : Int) :
    Calls Try.prog 4 #[.int .i64 at_, .int .i64 x] W fun e w' => e = .returned (.bool true) ∧ Below W.heap.size W w' := by
  have mixed : Try.prog.follows .mixedOrders = true := by kernel_rfl
  have V := Lib.hid ring_lives
  have CL := Lib.hid last_nilI
  have CS := Lib.hid (fun w => sinceI w none at_)
  refine (callsIn_wide (n := 6)).1 ?_
  refine callsIn_of_wp_marks Try.func4 rfl trivial ?_ rfl
  simp only [Try.ntmps4, List.size_toArray, List.length_cons, List.length_nil, Nat.reduceAdd, Nat.reduceSub, Array.replicate_succ, Array.replicate_zero, List.push_toArray, List.append_toArray, List.nil_append, List.cons_append]
  refine wpIn_wide.2 ?_
  go_wp2_with fail
  refine (V.out _).mono ?_
  rintro e w1 ⟨rfl, b1⟩
  have B1 := Lib.hid b1
  clear b1
  go_wp2_with fail
  refine (CL.out _).mono ?_
  rintro e w2 ⟨rfl, b2⟩
  have B2 : Hid (Below W.heap.size W w2) := B1.out.trans (b2.mono B1.out.size)
  clear b2
  go_upto_region 6 with fail
  obtain ⟨A, hA⟩ : ∃ A, A = w2.heap.size := ⟨_, rfl⟩
  obtain ⟨w3, hw3⟩ : ∃ x, x = (w2.alloc (.cells #[.int .i64 0, .int .i64 0] TSI)).alloc (.cells #[.int .i64 0] 3) := ⟨_, rfl⟩
  have b3 : Below W.heap.size W w3 := by rw [hw3]; exact (B2.out.alloc B2.out.size _).alloc (by have := B2.out.size; simp; omega) _
  have z3 : w3.heap.size = A + 2 := by rw [hw3, hA]; simp
  have k1 : w3.heap[A + 1]? = some (.cells #[.int .i64 0] 3 (0, 0)) := by
    have := heap_alloc_new (w2.alloc (.cells #[.int .i64 0, .int .i64 0] TSI)) (.cells #[.int .i64 0] 3)
    rw [← hw3] at this
    rw [hA]
    simpa using this
  obtain ⟨A1, hA1⟩ : ∃ A1, A1 = A + 1 := ⟨_, rfl⟩
  obtain ⟨b, hb⟩ : ∃ b, b = A + 2 := ⟨_, rfl⟩
  rw [← hA1] at k1
  have HW3 : Hid ((w2.alloc (.cells #[.int .i64 0, .int .i64 0] TSI)).alloc (.cells #[.int .i64 0] 3) = w3 ∧ w2.heap.size = A ∧ A + 1 = A1 ∧ w3.heap.size = b) := ⟨hw3.symm, hA.symm, hA1.symm, by rw [hb]; exact z3⟩
  obtain ⟨w4, hw4⟩ : ∃ w4, w4 = (w3.alloc (.cells #[.pointer none] 24)).alloc (.cells #[.int .i64 at_] 2) := ⟨_, rfl⟩
  have zm : (w3.alloc (.cells #[.pointer none] 24)).heap.size = b + 1 := by rw [hb]; simp; omega
  have z4 : w4.heap.size = b + 2 := by rw [hw4]; simp; omega
  have b4 : Below w3.heap.size w3 w4 := hw4 ▸ ((Below.refl _ w3).alloc (Nat.le_refl _) _).alloc (by simp) _
  have k2 : w4.heap[A1]? = some (.cells #[.int .i64 0] 3 (0, 0)) := (b4.block _ (Array.getElem?_eq_some_iff.1 k1).1).trans k1
  have q0 : w4.cell? ⟨b, 0, none⟩ = some (.pointer none) := by
    have h := cell_of_block (heap_alloc_new w3 (.cells #[.pointer none] 24)) 0
    rw [z3, ← hb] at h
    rw [hw4]
    exact (World.cell?_of_block (Below.heap_alloc _ _ _ (by rw [zm]; exact Nat.lt_succ_self _))).trans h
  have q1 : w4.cell? ⟨b + 1, 0, none⟩ = some (.int .i64 at_) := by
    have h := cell_of_block (heap_alloc_new (w3.alloc (.cells #[.pointer none] 24)) (.cells #[.int .i64 at_] 2)) 0
    rw [zm, ← hw4] at h
    exact h
  have low4 : Below W.heap.size W w4 := b3.trans (b4.mono b3.size)
  have hlW : W.heap.size ≤ w4.heap.size := low4.size
  have HW4 : Hid ((w3.alloc (.cells #[.pointer none] 24)).alloc (.cells #[.int .i64 at_] 2) = w4) := hw4.symm
  have TN := Lib.hid (tells_nilI (6 - 1) W.heap.size w4 b at_ q0 q1 (by omega))
  have CSx := Lib.hid (CS.out w3)
  have ST := Lib.hid (And.intro k2 (And.intro low4 (And.intro z4 hlW)))
  have HAb : Hid (A1 < b) := by show _ < _; omega
  have HB2 : Hid (W.heap.size ≤ w4.heap.size) := hlW
  clear hw3 b3 z3 k1 hA hA1 hb hw4 zm z4 b4 k2 q0 q1 low4 hlW CS B1 B2
  rw [HW3.out.1, HW3.out.2.1, HW3.out.2.2.1]
  go_wp2_with fail
  refine CSx.out.mono ?_
  rintro e w' ⟨rfl, rfl⟩
  rw [HW3.out.2.2.2, HW4.out]
  go_wp2_with fail
  refine (wpIn_wide (n := 6)).1 ?_
  refine wpIn_toldD (α := Empty) (n := 6) (by decide) (gf := 22) (lb := #[.pointer (some ⟨b, 0, none⟩), .pointer (some ⟨b + 1, 0, none⟩)]) rfl (enters_of Try.func22 (by kernel_rfl) rfl) TN.out (Below.refl _ _) (fun x => x.elim) ST.out.2.2.2 (fun pre x A A' h f => x.elim)
    (fun _ _ W' => W'.heap[A1]? = some (.cells #[.int .i64 0] 3 (0, 0)) ∧ Below W.heap.size W W') (fun _ _ _ _ => False) (fun C s A A' T h c hT => ?_) (fun c C s A A' T h _ _ => h.elim) (fun C hC => ⟨ST.out.1, ST.out.2.1⟩) (fun l C pre x => x.elim) ?_ (fun _ _ _ _ _ h => h.elim)
  · have hz := ST.out.2.2.1
    have := HAb.out
    exact ⟨(c.block A1 (Array.getElem?_eq_some_iff.1 h.1).1 (fun hm => by have := (hT A1 hm).1; omega)).trans h.1, h.2.trans (c.below (fun g hg => by have := (hT g hg).1; have := ST.out.2.2.2; omega) h.2.size)⟩
  · rintro D xs Wd hD rfl ⟨C, hC, hk, low⟩ hdef
    have c0 : Wd.cell? ⟨A1, 0, none⟩ = some (.int .i64 0) := cell_of_block hk 0
    have HD := Lib.hid (And.intro hD (And.intro low hdef))
    clear hD low hdef hC hk ST TN CSx
    have P1 := Lib.hid (fun w => put_nilI w at_ x)
    have P2 := Lib.hid (fun w => rlen_nilI w)
    have P3 := Lib.hid (fun w => cut_nilI w at_ (from_nilI w at_))
    have P4 := Lib.hid (fun w => copy_nilI w)
    go_upto_region 8 with fail
    go_quiet ((first | (go_at_call 7; exact Calls.quiet_of_same ((P1.out _).mono fun e w' q => ⟨q.1, q.2.symm⟩)) | (go_at_call 13; exact Calls.quiet_of_same ((P2.out _).mono fun e w' q => ⟨q.1, q.2.symm⟩)) | (go_at_call 8; exact Calls.quiet_of_same ((P3.out _).mono fun e w' q => ⟨q.1, q.2.symm⟩)) | (go_at_call 9; exact Calls.quiet_of_same ((P4.out _).mono fun e w' q => ⟨q.1, q.2.symm⟩))))
    obtain ⟨hD, low, hdef⟩ := HD.out
    obtain ⟨we, hwe⟩ : ∃ we, we = Wd.drewN nq := ⟨_, rfl⟩
    have hKe : we.heap[D]? = some (.deferred (some [])) := by rw [hwe]; exact hdef
    have hBe : Below W.heap.size W we := by rw [hwe]; exact Below.drewN' low nq
    have hDW : W.heap.size ≤ D := by have := HB2.out; omega
    rw [← hwe]
    have FIN := Lib.hid (And.intro hKe (And.intro hBe hDW))
    clear hD low hdef hwe hKe hBe hDW HD
    go_wp2
    refine ⟨by simp, .inl ⟨_, _, rfl, run_takeDeferred FIN.out.1, ?_⟩⟩
    exact ⟨_, results_tmp rfl _ _ _, rfl, FIN.out.2.1.trans (belowK_b (w := W) (Nat.le_refl _) we D _ _ FIN.out.2.2 FIN.out.1 rfl rfl)⟩

theorem walk {H : Type} {enc : TypeId × Value → H} {base : Nat} (W : World) (v0 : Value) (d0 : DataW H) (p0 : List MemPlace) (o0 : Value.okWide Try.prog W .any base 2 v0) (h0 : DataW.Trod enc Try.prog W 0 (fun _ => true) true 2 v0 d0 p0)
    (v1 : Value) (d1 : DataW H) (p1 : List MemPlace) (o1 : Value.okWide Try.prog W .any base 3 v1) (h1 : DataW.Trod enc Try.prog W 0 (fun _ => true) true 3 v1 d1 p1) :
    Calls Try.prog 4 #[v0, v1] W fun e W' => e = .returned (.bool true) ∧ Below W.heap.size W W' := by
  obtain ⟨a, rfl, rfl, rfl, ha⟩ := open_int Try.underlying2 o0 h0
  obtain ⟨x, rfl, rfl, rfl, hx⟩ := open_int Try.underlying3 o1 h1
  exact walk_at W a x

/-! ### THE ROW's STEP -/
set_option maxRecDepth 100000 in
theorem lifted (os : Os) (started : os.Started) (H : Type) (enc : TypeId × Value → H) :
    ReturnsInHanded {} Try.checked os 4 .any (Rows.ringNoneSpec.pre6 enc Try.prog Try.f4 Rows.ringNoneRow.domain false) (Rows.ringNoneSpec.post enc Try.prog Try.f4 false true false false) := by
  refine returnsInHanded_of_change (C := Try.checked) own started (by kernel_rfl) Try.func4
    (ChangeSpec.witness6 (enc := enc) (C := Try.checked) false ⟨#[], #[.int .i64 0, .int .i64 0], []⟩ 8 (by kernel_rfl) (by kernel_rfl) (by kernel_rfl) (by kernel_rfl)) ?_
  intro W base args ds gs before hval0 hW hcnd _
  have hval : ∀ (j : Nat) t v, Try.f4.params[j]? = some t → args[j]? = some v → Value.okWide Try.prog W .any base t v := hval0
  have hW' := hW
  obtain ⟨p, q, hA0, hV, rfl, hfz, hnd⟩ := hW
  have hA : DataW.TrodAll enc Try.prog W 0 (fun _ => true) true Try.f4.params.toList args.toList ds p := hA0
  have hlt : ∀ x ∈ p, x.block < W.heap.size := fun x hx => hW'.lt x (List.mem_append_left _ hx)
  rw [Try.params4] at hA hval
  have hread : ∀ t ∈ [2, 3], Try.prog.readableRec t = true ∧ t < Try.prog.types.size := by
    intro t ht
    simp only [List.mem_cons, List.not_mem_nil, or_false] at ht
    rcases ht with rfl | rfl <;> exact ⟨by kernel_rfl, of_decide_eq_true (by kernel_rfl)⟩
  have again : ∀ (W' : World), Below W.heap.size W W' → ∀ sp : Nat → Bool, (∀ x ∈ p, sp x.block = true) → DataW.TrodAll enc Try.prog W' 0 sp true [2, 3] args.toList ds p :=
    fun W' hb sp hsp => all_again (by kernel_rfl) hb [2, 3] args.toList ds p hread hA hlt hsp
  obtain ⟨v0, v1, d0, d1, p0, p1, rfl, rfl, rfl, h0, h1⟩ := trodAll_two hA
  obtain ⟨rfl, rfl⟩ := trodVars_none hV
  clear hA0 hval0
  simp only [List.append_nil] at hW'
  refine (walk W v0 d0 p0 (hval 0 2 v0 rfl rfl) h0 v1 d1 p1 (hval 1 3 v1 rfl rfl) h1).mono fun e W' ⟨he, hg⟩ => ?_
  subst he
  exact ⟨_, rfl, post_below hW' hg (fun _ _ _ => trodAll_mk1 (shut_bool Try.underlying4 _)) (fun sp hsp => again W' hg sp hsp) (fun _ => rfl) (ok_one (by kernel_rfl) rfl (okWide_bool_mk Try.underlying4 _))⟩

theorem over : Rows.ringNoneRow.holds Try.pinned (OpenSpec.ofChange Rows.ringNoneSpec) :=
  OpenClaim.holds_of_wide 4 Try.f4 rfl rfl rfl rfl rfl rfl rfl ⟨rfl, rfl, rfl, rfl, rfl⟩ rfl rfl rfl rfl rfl (by kernel_rfl) Try.func4 (by kernel_rfl)
    (of_decide_eq_true (by kernel_rfl)) (by unfold Func.isWrapper; first | (rw [if_pos (by decide +kernel)]; kernel_rfl) | (rw [if_neg (by decide +kernel)]; exact ⟨rfl, rfl⟩))
    (fun os started H enc _ => lifted os started H enc)

/-- The statement. -/
theorem proved : Rows.RingNoneSaid :=
  over
#print axioms proved
end Go.Proofs.Ythpmdaioekpipaa.ringNone

