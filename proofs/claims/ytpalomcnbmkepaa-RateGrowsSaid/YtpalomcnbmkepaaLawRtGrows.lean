/- Proved here: the law RateGrows of layer 12 holds for every input: of a row that never falls the increase is what its last one is more than its first one. No conditions. -/
import Derived.Test.YtpalomcnbmkepaaRtLawBase
import Derived.Test.YtpalomcnbmkepaaRtG
namespace Go.Proofs.Ytpalomcnbmkepaa.rateGrows
open Go.ChangeShapes Go.WideShapes Go.ChangeAt Go.RowKit Go.Proofs.Ytpalomcnbmkepaa.Rt
open Go.Joins (cell_of_block unfrozen_of_block block_setCell)
set_option linter.unusedVariables false
set_option linter.unusedSimpArgs false
set_option maxRecDepth 20000

/-- The law is true here. -/
def Holds (w : World) (e : Ending) (w' : World) : Prop := e = .returned (.bool true) ∧ Below w.heap.size w w'

set_option maxHeartbeats 2000000 in
theorem walk_at (w : World) (q : Option Addr) (c : Nat) (F : Int) (D : List Int) (h : Nums w q D) (hl : D.length ≤ 9223372036854775807) (hF : 0 ≤ F) (hF1 : F < 4294967296) :
    Calls Try.prog 4 #[.int .u32 F, .slice q D.length c] w (Holds w) := by
  have HS := Lib.hid h
  have SM : Hid (Small D) := fun i x hx => (h i x hx).1
  clear h
  have V := Lib.hid rate_lives
  by_cases hbig : 59 < D.length ∨ D.length = 0
  · rcases hbig with t1 | t1
    · have t0 : (59 : Int) < (D.length : Int) := by omega
      clear t1
      go_enter Try.func4, Try.ntmps4
      go_wp2_with fail
      refine (V.out _).mono ?_
      rintro e w1 ⟨rfl, b1⟩
      have B1 := Lib.hid b1
      clear b1
      go_wp2_with fail
      refine (V.out _).mono ?_
      rintro e w2 ⟨rfl, b2⟩
      have B2 : Hid (Below w.heap.size w w2) := B1.out.trans (b2.mono B1.out.size)
      clear b2
      go_wp2
      go_ret
      exact ⟨rfl, B2.out⟩
    · have t0 : ((D.length : Int) == 0) = true := by rw [t1]; rfl
      have t2 : ¬ ((59 : Int) < (D.length : Int)) := by omega
      clear t1
      go_enter Try.func4, Try.ntmps4
      go_wp2_with fail
      refine (V.out _).mono ?_
      rintro e w1 ⟨rfl, b1⟩
      have B1 := Lib.hid b1
      clear b1
      go_wp2_with fail
      refine (V.out _).mono ?_
      rintro e w2 ⟨rfl, b2⟩
      have B2 : Hid (Below w.heap.size w w2) := B1.out.trans (b2.mono B1.out.size)
      clear b2
      go_wp2
      go_ret
      exact ⟨rfl, B2.out⟩
  obtain ⟨n, hn⟩ : ∃ n, n = D.length := ⟨_, rfl⟩
  rw [← hn] at hbig hl ⊢
  have LN : Hid (n = D.length ∧ 1 ≤ n ∧ n ≤ 59) := ⟨hn, by omega, by omega⟩
  have t0 : ((n : Int) == 0) = false := by rw [beq_eq_false_iff_ne]; omega
  have t2 : ¬ ((59 : Int) < (n : Int)) := by omega
  have hn59 : n ≤ 59 := by omega
  have WF : IntKind.i64.wrap F = F := IntWalk.i64_in _ (by omega)
  clear hbig hn
  go_enter Try.func4, Try.ntmps4
  go_wp2_with fail
  refine (V.out _).mono ?_
  rintro e w1 ⟨rfl, b1⟩
  have B1 := Lib.hid b1
  have HS1 := Lib.hid (HS.out.below b1)
  obtain ⟨N, hN⟩ : ∃ N, N = w1.heap.size := ⟨_, rfl⟩
  obtain ⟨w2, hw2⟩ : ∃ x, x = w1.alloc (.cells #[.int .i64 1, .int .i64 F] TSQ) := ⟨_, rfl⟩
  have O2 : Hid (OwnSm w2 N (.slice (some ⟨N, 0, none⟩) 1 1) (gr F D 0) ∧ Below N w1 w2) := by
    rw [hN, hw2]
    refine ⟨?_, (Below.refl _ _).alloc (Nat.le_refl _) _⟩
    rw [gr_zero]
    exact OwnSm.one w1 _ (Nat.le_refl _) (1, F)
  have HW : Hid (w1.alloc (.cells #[.int .i64 1, .int .i64 F] TSQ) = w2 ∧ w1.heap.size = N) := ⟨hw2.symm, hN.symm⟩
  clear b1 hN hw2
  go_upto_region 4 with fail
  rw [HW.out.1, HW.out.2]
  clear WF t0 t2
  go_wp2_with fail
  go_loopw [5, 29] (fun v i wr => ∃ k : Nat, k ≤ n ∧ i = .int .i64 (k : Int) ∧ Hid (OwnSm wr N v (gr F D k) ∧ Below N w1 wr)) (fun _ i _ => n - (intOf i).toNat)
  case atStart => exact ⟨0, Nat.zero_le _, rfl, O2.out⟩
  case round =>
    obtain ⟨k, hk, rfl, HO⟩ := hrel
    obtain ⟨g, cc, rfl, hg1, hg2, hrow⟩ := HO.out.1.lies (by rw [gr_len]; omega) (gr_fits SM.out hF hF1 (by omega))
    have HROW := Lib.hid hrow
    have hm0 := gr_len F D k
    obtain ⟨m, hm⟩ : ∃ m, m = (gr F D k).length := ⟨_, rfl⟩
    rw [← hm] at HO hm0 ⊢
    have B2 : Hid (Below w1.heap.size w1 wr) := by rw [HW.out.2]; exact HO.out.2
    by_cases hlt : k < n
    · obtain ⟨s, hs⟩ : ∃ s, D[k]? = some s := ⟨_, List.getElem?_eq_getElem (l := D) (i := k) (by have := LN.out; omega)⟩
      obtain ⟨⟨hs0, hs1⟩, b, off, rfl, hb, c0⟩ := (HS1.out.below B2.out) k s hs
      obtain ⟨V0, hV⟩ : ∃ V0, V0 = F + tot D k := ⟨_, rfl⟩
      obtain ⟨_, g', o', e, _, q0, q1⟩ := hrow k ((k : Int) + 1, V0) (by rw [hV]; exact gr_at F D (Nat.le_refl k))
      cases e
      rw [Nat.zero_add] at q1
      have hV0 : 0 ≤ V0 := by have := tot_rng SM.out k; omega
      have hV1 : V0 ≤ 5000000000 := by have := tot_rng SM.out k; omega
      have hkm : k < m := by omega
      have hm60 : m ≤ 60 := by omega
      have WS : IntKind.i64.wrap s = s := IntWalk.i64_in _ (by omega)
      have NXT : Hid (gr F D k ++ [((k : Int) + 2, V0 + s)] = gr F D (k + 1)) := by
        show _ = _
        rw [gr_more, tot_more hs, hV, Int.add_assoc]
      have OW : Hid (OwnSm (wr.alloc (.cells #[.int .i64 ((k : Int) + 2), .int .i64 (V0 + s)] TSQ)) N (.slice (some ⟨g, 0, none⟩) m cc) (gr F D k)) := HO.out.1.alloc _
      have KB : Hid ((wr.alloc (.cells #[.int .i64 ((k : Int) + 2), .int .i64 (V0 + s)] TSQ)).cell? ⟨wr.heap.size, 0, none⟩ = some (.int .i64 ((k : Int) + 2)) ∧ (wr.alloc (.cells #[.int .i64 ((k : Int) + 2), .int .i64 (V0 + s)] TSQ)).cell? ⟨wr.heap.size, 1, none⟩ = some (.int .i64 (V0 + s))) := ⟨cell_of_block (heap_alloc_new wr _) 0, cell_of_block (heap_alloc_new wr _) 1⟩
      have BA : Hid (Below N w1 (wr.alloc (.cells #[.int .i64 ((k : Int) + 2), .int .i64 (V0 + s)] TSQ)) ∧ N ≤ (wr.alloc (.cells #[.int .i64 ((k : Int) + 2), .int .i64 (V0 + s)] TSQ)).heap.size ∧ (gr F D k).length ≤ 1000000) := by
        have h1 := HO.out.2.size
        have h2 := HW.out.2
        exact ⟨HO.out.2.alloc (by omega) _, by simp; omega, by rw [← hm]; omega⟩
      clear hs hV hm hm0 hrow q0 hg1 hg2 O2
      go_wp2_with (at_builtin; refine wpList_append_sam rfl _ _ (by rfl) N (.slice (some ⟨g, 0, none⟩) m cc) (gr F D k) (by rfl) OW.out wr.heap.size 1 ((k : Int) + 2, V0 + s) (by rfl) KB.out.1 KB.out.2 BA.out.2.2 BA.out.2.1 ?_; intro v' w' g1 g2)
      rw [NXT.out] at g1
      refine ⟨⟨k + 1, by omega, by go_num, g1, BA.out.1.trans g2⟩, by simp [intOf]; omega⟩
    · have hkn : k = n := by omega
      subst hkn
      obtain ⟨T, hT⟩ : ∃ T, T = tot D k := ⟨_, rfl⟩
      obtain ⟨V0, hV⟩ : ∃ V0, V0 = F + T := ⟨_, rfl⟩
      have hT0 := tot_rng SM.out k
      have CI0 := inc_any wr (some ⟨g, 0, none⟩) cc k (gr F D k) (gr_len F D k) LN.out.2.1 HROW.out (by rw [gr_len]; omega) (gr_good SM.out hF hF1 (by omega))
      rw [(gr_inc SM.out k (Nat.le_refl k)).1, ← hT, ← hm] at CI0
      have CI := Lib.hid CI0
      have CR : Hid (∀ (W : World), Below wr.heap.size wr W → Calls Try.prog 8 #[.slice (some ⟨g, 0, none⟩) m cc] W fun e w' => e = .returned (.int .i64 0) ∧ ∃ j, w' = W.drewN j) := fun W bw => by
        have := resets_any W (some ⟨g, 0, none⟩) cc k (gr F D k) (gr_len F D k) (HROW.out.below bw) (by rw [gr_len]; omega)
        rw [(gr_inc SM.out k (Nat.le_refl k)).2, ← hm] at this
        exact this
      obtain ⟨_, g', o', e, hgl, _, q1⟩ := hrow k ((k : Int) + 1, V0) (by rw [hV, hT]; exact gr_at F D (Nat.le_refl k))
      cases e
      obtain ⟨_, g', o', e, _, _, r1⟩ := hrow 0 (1, F) (by have := gr_at F D (k := k) (i := 0) (Nat.zero_le k); rw [this, tot_zero, Int.add_zero]; rfl)
      cases e
      rw [Nat.zero_add] at q1
      rw [Nat.zero_mul, Nat.zero_add] at r1
      rw [← hT] at hT0
      have hkm : k < m := by omega
      have hm60 : m ≤ 60 := by omega
      have FIN : Hid (∀ W, Below wr.heap.size wr W → Below w.heap.size w W) := fun W bw => B1.out.trans ((B2.out.trans (bw.mono B2.out.size)).mono B1.out.size)
      have TB : Hid (T ≤ 9007199254740992) := by show T ≤ _; omega
      have WD : Hid (IntKind.i64.wrap (V0 - F) = T) := by
        show _ = _
        rw [show V0 - F = T by omega]; exact IntWalk.i64_in _ (by omega)
      have WJ : Hid (IntKind.i64.wrap ((m : Int) - 1) = (k : Int)) := by
        show _ = _
        rw [show (m : Int) - 1 = (k : Int) by omega]; exact IntWalk.i64_in _ (by omega)
      have k0 : (0 : Int) ≤ (k : Int) := Int.natCast_nonneg _
      have k1 : (k : Int) < (m : Int) := by omega
      have m1 : (0 : Int) < (m : Int) := by omega
      have Q1 : Hid (∀ W, Below wr.heap.size wr W → W.cell? ⟨g, k * 2 + 1, none⟩ = some (.int .i64 V0) ∧ W.cell? ⟨g, 1, none⟩ = some (.int .i64 F)) := fun W bw => ⟨(bw.cell (p := ⟨g, _, none⟩) hgl).trans q1, (bw.cell (p := ⟨g, _, none⟩) hgl).trans r1⟩
      clear hT hV hm hm0 hrow q1 r1 hg1 hg2 O2 hT0 CI0 hF hF1
      go_wp2_with fail
      refine CI.out.mono ?_
      rintro e w3 ⟨hi, b3⟩
      have hi2 : e = .returned (.tuple #[.int .i64 T, .int .i64 0]) := by
        rcases hi with ⟨_, hi⟩ | ⟨hi, _⟩
        · exact hi
        · have := TB.out; omega
      subst hi2
      have B3 := Lib.hid b3
      obtain ⟨q1, r1⟩ := Q1.out _ b3
      clear hi b3 CI
      go_upto_region 10 with fail
      have WD' := WD.out
      have WJ' := WJ.out
      go_quiet ((exact Calls.quiet_of (CR.out _ (Below.drewN' B3.out _))))
      go_wp2
      go_ret
      exact ⟨rfl, FIN.out _ (Below.drewN' B3.out _)⟩

theorem walk {H : Type} {enc : TypeId × Value → H} {base : Nat} (W : World) (v0 : Value) (d0 : DataW H) (p0 : List MemPlace) (o0 : Value.okWide Try.prog W .any base 31 v0) (h0 : DataW.Trod enc Try.prog W 0 (fun _ => true) true 31 v0 d0 p0)
    (v1 : Value) (d1 : DataW H) (p1 : List MemPlace) (o1 : Value.okWide Try.prog W .any base 32 v1) (h1 : DataW.Trod enc Try.prog W 0 (fun _ => true) true 32 v1 d1 p1) :
    Calls Try.prog 4 #[v0, v1] W fun e W' => e = .returned (.bool true) ∧ Below W.heap.size W W' := by
  obtain ⟨F, rfl⟩ := okWide_int Try.underlying31 o0
  obtain ⟨fuel, hf⟩ := h0
  obtain ⟨z0, e0, _, w0⟩ := DataW.trod_int Try.underlying31 hf
  simp [Value.cells] at e0
  subst e0
  have hw := wf_u32S w0
  obtain ⟨q, c, D, rfl, hl, hr⟩ := open_nums o1 h1
  exact walk_at W q c F D hr hl hw.1 hw.2

/-! ### THE ROW's STEP -/
set_option maxRecDepth 100000 in
theorem lifted (os : Os) (started : os.Started) (H : Type) (enc : TypeId × Value → H) :
    ReturnsInHanded {} Try.checked os 4 .any (Rows.rateGrowsSpec.pre6 enc Try.prog Try.f4 Rows.rateGrowsRow.domain false) (Rows.rateGrowsSpec.post enc Try.prog Try.f4 false true false false) := by
  refine returnsInHanded_of_change (C := Try.checked) own started (by kernel_rfl) Try.func4
    (ChangeSpec.witness6 (enc := enc) (C := Try.checked) false ⟨#[], #[.int .u32 0, .slice none 0 0], []⟩ 8 (by kernel_rfl) (by kernel_rfl) (by kernel_rfl) (by kernel_rfl)) ?_
  intro W base args ds gs before hval0 hW hcnd _
  have hval : ∀ (j : Nat) t v, Try.f4.params[j]? = some t → args[j]? = some v → Value.okWide Try.prog W .any base t v := hval0
  have hW' := hW
  obtain ⟨p, q, hA0, hV, rfl, hfz, hnd⟩ := hW
  have hA : DataW.TrodAll enc Try.prog W 0 (fun _ => true) true Try.f4.params.toList args.toList ds p := hA0
  have hlt : ∀ x ∈ p, x.block < W.heap.size := fun x hx => hW'.lt x (List.mem_append_left _ hx)
  rw [Try.params4] at hA hval
  have hread : ∀ t ∈ [31, 32], Try.prog.readableRec t = true ∧ t < Try.prog.types.size := by
    intro t ht
    simp only [List.mem_cons, List.not_mem_nil, or_false] at ht
    rcases ht with rfl | rfl <;> exact ⟨by kernel_rfl, of_decide_eq_true (by kernel_rfl)⟩
  have again : ∀ (W' : World), Below W.heap.size W W' → ∀ sp : Nat → Bool, (∀ x ∈ p, sp x.block = true) → DataW.TrodAll enc Try.prog W' 0 sp true [31, 32] args.toList ds p :=
    fun W' hb sp hsp => all_again (by kernel_rfl) hb [31, 32] args.toList ds p hread hA hlt hsp
  obtain ⟨v0, v1, d0, d1, p0, p1, rfl, rfl, rfl, h0, h1⟩ := trodAll_two hA
  obtain ⟨rfl, rfl⟩ := trodVars_none hV
  clear hA0 hval0
  simp only [List.append_nil] at hW'
  refine (walk W v0 d0 p0 (hval 0 31 v0 rfl rfl) h0 v1 d1 p1 (hval 1 32 v1 rfl rfl) h1).mono fun e W' ⟨he, hg⟩ => ?_
  subst he
  exact ⟨_, rfl, post_below hW' hg (fun _ _ _ => trodAll_mk1 (shut_bool Try.underlying4 _)) (fun sp hsp => again W' hg sp hsp) (fun _ => rfl) (ok_one (by kernel_rfl) rfl (okWide_bool_mk Try.underlying4 _))⟩

theorem over : Rows.rateGrowsRow.holds Try.pinned (OpenSpec.ofChange Rows.rateGrowsSpec) :=
  OpenClaim.holds_of_wide 4 Try.f4 rfl rfl rfl rfl rfl rfl rfl ⟨rfl, rfl, rfl, rfl, rfl⟩ rfl rfl rfl rfl rfl (by kernel_rfl) Try.func4 (by kernel_rfl)
    (of_decide_eq_true (by kernel_rfl)) (by unfold Func.isWrapper; first | (rw [if_pos (by decide +kernel)]; kernel_rfl) | (rw [if_neg (by decide +kernel)]; exact ⟨rfl, rfl⟩))
    (fun os started H enc _ => lifted os started H enc)

/-- The statement. -/
theorem proved : Rows.RateGrowsSaid :=
  over
#print axioms proved
end Go.Proofs.Ytpalomcnbmkepaa.rateGrows

