/- Proved here: the law ScrapeFull of layer 11 holds for every input: of a book there are at most so many series; one more is refused, but those that are there go on. No conditions. -/
import Derived.Test.YtlklbhjcohgmhaaScM
import Derived.Test.YtlklbhjcohgmhaaSLawBase
namespace Go.Proofs.Ytlklbhjcohgmhaa.scrapeFull
open Go.ChangeShapes Go.WideShapes Go.ChangeAt Go.RowKit Go.Lib Go.Shelf Go.Sort Go.Deep
open Go.Joins (cell_of_block unfrozen_of_block block_setCell)
set_option linter.unusedVariables false
set_option linter.unusedSimpArgs false
set_option maxRecDepth 20000

set_option maxHeartbeats 16000000 in
theorem walk_at (w : World) (k : Nat) (hk : k < 65536) :
    Calls Try.prog 4 #[.int .u16 (k : Int)] w fun e w' => e = .returned (.bool true) ∧ Below w.heap.size w w' := by
  have V := Lib.hid (slives w)
  obtain ⟨N, hN⟩ : ∃ N, N = w.heap.size := ⟨_, rfl⟩
  obtain ⟨j, hj⟩ : ∃ j, j = k % 512 := ⟨_, rfl⟩
  have hj5 : j < 512 := by omega
  have kj : (k : Int) % 512 = (j : Int) := by omega
  obtain ⟨sM, hM⟩ : ∃ s : ByteArray, s = { data := #[109] } := ⟨_, rfl⟩
  obtain ⟨sO, hO⟩ : ∃ s : ByteArray, s = { data := #[111, 116, 104, 101, 114] } := ⟨_, rfl⟩
  have eM : vM = { data := #[109] } := rfl
  have eO : vO = { data := #[111, 116, 104, 101, 114] } := rfl
  have CW := Lib.hid (fun W => bnew_ok W 2 10 (by omega) (by omega))
  have CN := Lib.hid (fun (W : World) (i : Nat) (hi : i < 512) => nm_any W i hi)
  have HN := Lib.hid hN
  clear hj hM hO hN
  go_enter Try.func4, Try.ntmps4
  go_wp2_with fail
  refine V.out.mono ?_
  rintro e w1 ⟨rfl, b1⟩
  have B1 := Lib.hid b1
  clear b1 V
  go_wp2_with fail
  refine (CW.out _).mono ?_
  rintro e w2 ⟨bb, rfl, mb, h1, h2, K2, b2⟩
  have S0 : Hid (∃ E, Fl N w w2 bb mb 0 E ∧ ∀ e ∈ E, e.l = [(1, 0)]) := by
    have hz := B1.out.size
    have hN := HN.out
    refine ⟨[], ⟨K2, rfl, fun g hg => ?_, by rw [hN]; exact B1.out.trans (b2.mono hz)⟩, by simp⟩
    rcases foot_mem.1 hg with rfl | rfl | ⟨e, he, _⟩
    · omega
    · omega
    · cases he
  clear h1 h2 K2 b2 CW
  go_wp2_with fail
  go_loopg [23] 512 (fun g vi wr => ∃ i : Nat, vi = .int .i64 (i : Int) ∧ i ≤ 512 ∧ 512 - i ≤ g ∧ Hid (∃ E, Fl N w wr bb mb i E ∧ ∀ e ∈ E, e.l = [(1, 0)]))
  case atStart => exact ⟨0, rfl, by omega, by omega, S0⟩
  case round =>
    obtain ⟨i, rfl, hi, hg, HR⟩ := hrel
    by_cases hlt : i < 512
    · go_wp2_with fail
      refine (CN.out _ i hlt).mono ?_
      rintro e w3 ⟨rfl, b3⟩
      have CS : Hid (Calls Try.prog 8 #[.pointer (some ⟨bb, 0, none⟩), .int .i64 1, .agg #[.string (nm i), .string { data := #[109] }], .int .u64 0] w3 fun r w' => r = .returned (.tuple #[.int .i64 0, .int .i64 0]) ∧ ∃ E', Fl N w w' bb mb (i + 1) E' ∧ ∀ e ∈ E', e.l = [(1, 0)]) := by
        obtain ⟨E, h, hl⟩ := HR.out
        exact full_put N w w3 bb mb i E (h.gr b3 h.hN) hlt hl
      clear b3 HR
      go_wp2_with fail
      refine CS.out.mono ?_
      rintro e w4 ⟨rfl, h4⟩
      have NX := Lib.hid h4
      clear h4 CS
      go_wp2
      go_roundg (512 - (i + 1))
      case measure => omega
      case rel => exact ⟨i + 1, by push_cast; rfl, by omega, by omega, NX⟩
    · have e : i = 512 := by omega
      subst e
      have CS : Hid (∃ E, Fl N w wr bb mb 512 E ∧ (∀ e ∈ E, e.l = [(1, 0)]) ∧ Calls Try.prog 8 #[.pointer (some ⟨bb, 0, none⟩), .int .i64 1, .agg #[.string { data := #[111, 116, 104, 101, 114] }, .string { data := #[109] }], .int .u64 0] wr fun r w' => r = .returned (.tuple #[.int .i64 0, .int .i64 10]) ∧ Fl N w w' bb mb 512 E) := by
        obtain ⟨E, h, hl⟩ := HR.out
        exact ⟨E, h, hl, full_other N w wr bb mb E h⟩
      clear HR S0 hlt
      obtain ⟨E, h, hl, CO⟩ := CS.out
      have CO := Lib.hid CO
      have HE := Lib.hid hl
      clear h hl CS
      go_wp2_with fail
      refine CO.out.mono ?_
      rintro e w3 ⟨rfl, h3⟩
      have H3 := Lib.hid h3
      clear h3 CO
      go_wp2_with fail
      refine (CN.out _ j hj5).mono ?_
      rintro e w4 ⟨rfl, b4⟩
      have CM : Hid (Calls Try.prog 8 #[.pointer (some ⟨bb, 0, none⟩), .int .i64 2, .agg #[.string (nm j), .string { data := #[109] }], .int .u64 0] w4 fun r w' => r = .returned (.tuple #[.int .i64 0, .int .i64 0]) ∧ ∃ E', Fl N w w' bb mb 512 E') := full_more N w w4 bb mb j E (H3.out.gr b4 H3.out.hN) HE.out hj5
      clear b4
      go_wp2_with fail
      refine CM.out.mono ?_
      rintro e w5 ⟨rfl, E5, h5⟩
      have H5 := Lib.hid h5
      clear h5 CM
      go_wp2_with fail
      refine (CN.out _ j hj5).mono ?_
      rintro e w6 ⟨rfl, b6⟩
      have CF := Lib.hid (full_forget N w w6 bb mb j E5 (H5.out.gr b6 H5.out.hN) hj5)
      clear b6
      go_wp2_with fail
      refine CF.out.mono ?_
      rintro e w7 ⟨rfl, E7, k7, l7, s7, m7, low7, n7⟩
      have CL : Hid (Calls Try.prog 8 #[.pointer (some ⟨bb, 0, none⟩), .int .i64 1, .agg #[.string { data := #[111, 116, 104, 101, 114] }, .string { data := #[109] }], .int .u64 0] w7 fun r w' => r = .returned (.tuple #[.int .i64 0, .int .i64 0]) ∧ Below N w w') := full_last N w w7 bb mb E7 k7 l7 s7 m7 low7 n7
      clear k7 l7 s7 m7 low7 n7 CF
      go_wp2_with fail
      refine CL.out.mono ?_
      rintro e w8 ⟨rfl, b8⟩
      have FIN : Hid (Below w.heap.size w w8) := by show Below _ _ _; rw [← HN.out]; exact b8
      clear b8 CL
      go_wp2
      go_ret
      exact ⟨rfl, FIN.out⟩

theorem walk {H : Type} {enc : TypeId × Value → H} {base : Nat} (W : World) (v0 : Value) (d0 : DataW H) (p0 : List MemPlace) (o0 : Value.okWide Try.prog W .any base 52 v0) (h0 : DataW.Trod enc Try.prog W 0 (fun _ => true) true 52 v0 d0 p0) :
    Calls Try.prog 4 #[v0] W fun e W' => e = .returned (.bool true) ∧ Below W.heap.size W W' := by
  obtain ⟨a, rfl, rfl, rfl, ha⟩ := open_int Try.underlying52 o0 h0
  have e1 : IntKind.u16.min = 0 := rfl
  have e2 : IntKind.u16.max = 65535 := rfl
  simp [Lit.wf, e1, e2] at ha
  obtain ⟨k, rfl⟩ : ∃ k : Nat, a = (k : Int) := ⟨a.toNat, by omega⟩
  exact walk_at W k (by omega)

/-! ### THE ROW's STEP -/
set_option maxRecDepth 100000 in
theorem lifted (os : Os) (started : os.Started) (H : Type) (enc : TypeId × Value → H) :
    ReturnsInHanded {} Try.checked os 4 .any (Rows.scrapeFullSpec.pre6 enc Try.prog Try.f4 Rows.scrapeFullRow.domain false) (Rows.scrapeFullSpec.post enc Try.prog Try.f4 false true false false) := by
  refine returnsInHanded_of_change (C := Try.checked) own started (by kernel_rfl) Try.func4
    (ChangeSpec.witness6 (enc := enc) (C := Try.checked) false ⟨#[], #[.int .u16 0], []⟩ 8 (by kernel_rfl) (by kernel_rfl) (by kernel_rfl) (by kernel_rfl)) ?_
  intro W base args ds gs before hval0 hW hcnd _
  have hval : ∀ (j : Nat) t v, Try.f4.params[j]? = some t → args[j]? = some v → Value.okWide Try.prog W .any base t v := hval0
  have hW' := hW
  obtain ⟨p, q, hA0, hV, rfl, hfz, hnd⟩ := hW
  have hA : DataW.TrodAll enc Try.prog W 0 (fun _ => true) true Try.f4.params.toList args.toList ds p := hA0
  have hlt : ∀ x ∈ p, x.block < W.heap.size := fun x hx => hW'.lt x (List.mem_append_left _ hx)
  rw [Try.params4] at hA hval
  have hread : ∀ t ∈ [52], Try.prog.readableRec t = true ∧ t < Try.prog.types.size := by
    intro t ht
    simp only [List.mem_cons, List.not_mem_nil, or_false] at ht
    rcases ht with rfl <;> exact ⟨by kernel_rfl, of_decide_eq_true (by kernel_rfl)⟩
  have again : ∀ (W' : World), Below W.heap.size W W' → ∀ sp : Nat → Bool, (∀ x ∈ p, sp x.block = true) → DataW.TrodAll enc Try.prog W' 0 sp true [52] args.toList ds p :=
    fun W' hb sp hsp => all_again (by kernel_rfl) hb [52] args.toList ds p hread hA hlt hsp
  obtain ⟨v0, d0, rfl, rfl, h0⟩ := trodAll_one hA
  obtain ⟨rfl, rfl⟩ := trodVars_none hV
  clear hA0 hval0
  simp only [List.append_nil] at hW'
  refine (walk W v0 d0 _ (hval 0 52 v0 rfl rfl) h0).mono fun e W' ⟨he, hg⟩ => ?_
  subst he
  exact ⟨_, rfl, post_below hW' hg (fun _ _ _ => trodAll_mk1 (shut_bool Try.underlying4 _)) (fun sp hsp => again W' hg sp hsp) (fun _ => rfl) (ok_one (by kernel_rfl) rfl (okWide_bool_mk Try.underlying4 _))⟩

theorem over : Rows.scrapeFullRow.holds Try.pinned (OpenSpec.ofChange Rows.scrapeFullSpec) :=
  OpenClaim.holds_of_wide 4 Try.f4 rfl rfl rfl rfl rfl rfl rfl ⟨rfl, rfl, rfl, rfl, rfl⟩ rfl rfl rfl rfl rfl (by kernel_rfl) Try.func4 (by kernel_rfl)
    (of_decide_eq_true (by kernel_rfl)) (by unfold Func.isWrapper; first | (rw [if_pos (by decide +kernel)]; kernel_rfl) | (rw [if_neg (by decide +kernel)]; exact ⟨rfl, rfl⟩))
    (fun os started H enc _ => lifted os started H enc)

/-- The statement. -/
theorem proved : Rows.ScrapeFullSaid :=
  over
#print axioms proved
end Go.Proofs.Ytlklbhjcohgmhaa.scrapeFull

