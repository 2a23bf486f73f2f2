/- Proved here: the law RateParts of layer 12 holds for every input: the increase of a row is that of its two parts, that have a sample in common. No conditions. -/
import Derived.Test.YtpalomcnbmkepaaRtLawBase
import Derived.Test.YtpalomcnbmkepaaRtL
namespace Go.Proofs.Ytpalomcnbmkepaa.rateParts
open Go.ChangeShapes Go.WideShapes Go.ChangeAt Go.RowKit Go.Proofs.Ytpalomcnbmkepaa.Rt
set_option linter.unusedVariables false
set_option linter.unusedSimpArgs false
set_option maxRecDepth 20000

/-- The law is true here. -/
def Holds (w : World) (e : Ending) (w' : World) : Prop := e = .returned (.bool true) ∧ Below w.heap.size w w'
theorem wrap_u (a : Int) : ∃ U : Nat, IntKind.u64.wrap a = (U : Int) := ⟨(IntKind.u64.wrap a).toNat, by
  have : 0 ≤ IntKind.u64.wrap a := by rw [IntKind.wrap_u64]; omega
  omega⟩

set_option maxHeartbeats 2000000 in
theorem walk_at (w : World) (q : Option Addr) (c : Nat) (l : List Sam) (a : Int) (h : RowS w q l) (hl : l.length ≤ 9223372036854775807) (hc : l.length ≤ c) (hcm : c ≤ 9223372036854775807) :
    Calls Try.prog 3 #[.slice q l.length c, .int .i64 a] w (Holds w) := by
  have HS := Lib.hid h
  clear h
  have V := Lib.hid rate_lives
  by_cases hbig : 60 < l.length ∨ l.length < 3
  · rcases hbig with t1 | t1
    · have t0 : (60 : Int) < (l.length : Int) := by omega
      clear t1
      go_enter Try.func3, Try.ntmps3
      go_wp2_with fail
      refine (V.out _).mono ?_
      rintro e w1 ⟨rfl, b1⟩
      have B1 := Lib.hid b1
      clear b1
      go_wp2_with fail
      refine (V.out _).mono ?_
      rintro e w2 ⟨rfl, b2⟩
      have B2 : Hid (Below w.heap.size w w2) := B1.out.trans (b2.mono B1.out.size)
      clear b2
      go_wp2
      go_ret
      exact ⟨rfl, B2.out⟩
    · have t0 : (l.length : Int) < 3 := by omega
      have t2 : ¬ ((60 : Int) < (l.length : Int)) := by omega
      clear t1
      go_enter Try.func3, Try.ntmps3
      go_wp2_with fail
      refine (V.out _).mono ?_
      rintro e w1 ⟨rfl, b1⟩
      have B1 := Lib.hid b1
      clear b1
      go_wp2_with fail
      refine (V.out _).mono ?_
      rintro e w2 ⟨rfl, b2⟩
      have B2 : Hid (Below w.heap.size w w2) := B1.out.trans (b2.mono B1.out.size)
      clear b2
      go_wp2
      go_ret
      exact ⟨rfl, B2.out⟩
  obtain ⟨n, hn⟩ : ∃ n, l.length = n + 1 := ⟨l.length - 1, by omega⟩
  have LN : Hid (l.length = n + 1 ∧ 2 ≤ n ∧ n ≤ 59) := ⟨hn, by omega, by omega⟩
  have t0 : ¬ ((l.length : Int) < 3) := by omega
  have t2 : ¬ ((60 : Int) < (l.length : Int)) := by omega
  clear hbig hn
  go_enter Try.func3, Try.ntmps3
  go_wp2_with fail
  refine (V.out _).mono ?_
  rintro e w1 ⟨rfl, b1⟩
  have B1 := Lib.hid b1
  have HS1 := Lib.hid (HS.out.below b1)
  clear b1
  go_wp2_with fail
  refine (lright_any _ q c l HS1.out hl).mono ?_
  rintro e w2 ⟨bb, rfl, hg, b2⟩
  have B2 : Hid (Below w.heap.size w w2) := B1.out.trans (b2.mono B1.out.size)
  have HS2 := Lib.hid (HS1.out.below b2)
  clear b2 HS1
  cases bb with
  | false =>
    clear hg
    go_wp2_with fail
    refine (V.out _).mono ?_
    rintro e w3 ⟨rfl, b3⟩
    have B3 : Hid (Below w.heap.size w w3) := B2.out.trans (b3.mono B2.out.size)
    clear b3
    go_wp2
    go_ret
    exact ⟨rfl, B3.out⟩
  | true =>
    have HG : Hid (Rt.Good l) := hg rfl
    clear hg
    obtain ⟨U, hU⟩ := wrap_u a
    obtain ⟨m, hm⟩ : ∃ m, m = n - 1 := ⟨_, rfl⟩
    have hln := LN.out.1
    have hn2 := LN.out.2
    have hm1 : 1 ≤ m := by omega
    have hm2 : m ≤ 58 := by omega
    have hW2 : IntKind.u64.wrap ((l.length : Int) - 2) = (m : Int) := by rw [IntKind.wrap_u64]; omega
    obtain ⟨R, hR⟩ : ∃ R, R = U % m := ⟨_, rfl⟩
    have hRm : R < m := by rw [hR]; exact Nat.mod_lt _ (by omega)
    have hmod : (U : Int) % (m : Int) = (R : Int) := by rw [hR]; exact (Int.natCast_emod U m).symm
    have hm0 : ((m : Int) == 0) = false := by rw [beq_eq_false_iff_ne]; omega
    have hR0 : (0 : Int) ≤ (R : Int) := Int.natCast_nonneg _
    have hR1 : (R : Int) ≤ 57 := by omega
    have hU0 : (0 : Int) ≤ (U : Int) := Int.natCast_nonneg _
    have hmm : (1 : Int) ≤ (m : Int) := by omega
    have HR : Hid (m = n - 1 ∧ R < m) := ⟨hm, hRm⟩
    have CI := Lib.hid (inc_any w2 q c n l LN.out.1 (by omega) HS2.out hl HG.out)
    clear hm hR hRm hln hn2
    obtain ⟨b, off, rfl, hb⟩ : ∃ b off, q = some ⟨b, off, none⟩ ∧ b < w2.heap.size := by
      obtain ⟨_, b, off, e, hb, _⟩ := HS2.out 0 l[0] (List.getElem?_eq_getElem (by omega))
      exact ⟨b, off, e, hb⟩
    obtain ⟨k, hk⟩ : ∃ k, k = R + 1 := ⟨_, rfl⟩
    obtain ⟨T, hT⟩ : ∃ T, T = inc l n := ⟨_, rfl⟩
    obtain ⟨A, hA⟩ : ∃ A, A = inc l k := ⟨_, rfl⟩
    obtain ⟨B, hB⟩ : ∃ B, B = T - A := ⟨_, rfl⟩
    have hkn : 1 ≤ k ∧ k + 1 ≤ n := by have := HR.out; have := LN.out; omega
    have eA : inc (l.take (k + 1)) k = A := by rw [inc_take k (by omega), hA]
    have eB : inc (l.drop k) (n - k) = B := by
      have := inc_drop (l := l) (m := k) (n - k)
      rw [show k + (n - k) = n by omega, ← hA, ← hT] at this
      omega
    have zA : 0 ≤ A := by rw [hA]; exact inc_pos HG.out (by have := LN.out; omega)
    have zB : A ≤ T := by rw [hA, hT]; exact inc_le HG.out (by omega) (by have := LN.out; omega)
    have CA := Lib.hid (fun (W : World) (b' : Below w2.heap.size w2 W) => by
      have := inc_any W (some ⟨b, off, none⟩) c k (l.take (k + 1)) (by rw [List.length_take]; have := LN.out; omega) (by omega) ((HS2.out.below b').take (k + 1)) (by rw [List.length_take]; omega) (HG.out.take (k + 1))
      rw [eA, show (l.take (k + 1)).length = k + 1 by rw [List.length_take]; have := LN.out; omega] at this
      exact this)
    have CB := Lib.hid (fun (W : World) (b' : Below w2.heap.size w2 W) => by
      have := inc_any W (some ⟨b, off + k * 2, none⟩) (c - k) (n - k) (l.drop k) (by rw [List.length_drop]; have := LN.out; omega) (by omega) ((HS2.out.below b').drop k) (by rw [List.length_drop]; omega) (HG.out.drop k)
      rw [eB, show (l.drop k).length = l.length - k by rw [List.length_drop]] at this
      exact this)
    rw [← hT] at CI
    have HF : Hid (B = T - A ∧ 0 ≤ A ∧ A ≤ T ∧ 1 ≤ k ∧ k + 1 ≤ n) := ⟨hB, zA, zB, hkn.1, hkn.2⟩
    have ek : 1 + (R : Int) = (k : Int) := by omega
    have hk58 : (k : Int) ≤ 58 := by omega
    have hk0 : (0 : Int) ≤ (k : Int) := Int.natCast_nonneg _
    have hkc : (k : Int) + 1 ≤ (c : Int) := by have := LN.out; omega
    have hkl : (k : Int) ≤ (l.length : Int) := by have := LN.out; omega
    clear hT hA hB hkn eA eB zA zB hk
    go_upto_region 4 with fail
    clear ek hU hmod hW2 hm0 hmm hm1 hm2 hR0 hR1 hU0
    go_wp2_with fail
    refine CI.out.mono ?_
    rintro e w3 ⟨hi, b3⟩
    have B3 := Lib.hid b3
    clear b3 CI
    rcases hi with ⟨hT, rfl⟩ | ⟨hT, rfl⟩
    · go_wp2_with fail
      refine (CA.out _ B3.out).mono ?_
      rintro e w4 ⟨hi, b4⟩
      have B4 : Hid (Below w2.heap.size w2 w4) := B3.out.trans (b4.mono B3.out.size)
      clear b4
      have hi2 : e = .returned (.tuple #[.int .i64 A, .int .i64 0]) := by
        rcases hi with ⟨_, hi⟩ | ⟨hi, _⟩
        · exact hi
        · have := HF.out; omega
      subst hi2
      clear hi
      go_wp2_with fail
      refine (CB.out _ B4.out).mono ?_
      rintro e w5 ⟨hi, b5⟩
      have B5 : Hid (Below w.heap.size w w5) := B2.out.trans ((B4.out.trans (b5.mono B4.out.size)).mono B2.out.size)
      clear b5
      have hi2 : e = .returned (.tuple #[.int .i64 B, .int .i64 0]) := by
        rcases hi with ⟨_, hi⟩ | ⟨hi, _⟩
        · exact hi
        · have := HF.out; omega
      subst hi2
      clear hi
      have a0 : 0 ≤ A := HF.out.2.1
      have a1 : A ≤ 9007199254740992 := by have := HF.out; omega
      have a2 : 0 ≤ B := by have := HF.out; omega
      have a3 : B ≤ 9007199254740992 := by have := HF.out; omega
      have a4 : (A + B == T) = true := by rw [beq_iff_eq]; have := HF.out; omega
      go_wp2_with fail
      go_ret
      exact ⟨rfl, B5.out⟩
    · go_wp2_with fail
      refine (CA.out _ B3.out).mono ?_
      rintro e w4 ⟨hi, b4⟩
      have B4 : Hid (Below w2.heap.size w2 w4) := B3.out.trans (b4.mono B3.out.size)
      clear b4
      rcases hi with ⟨hA, rfl⟩ | ⟨hA, rfl⟩
      all_goals
        go_wp2_with fail
        refine (CB.out _ B4.out).mono ?_
        rintro e w5 ⟨hi, b5⟩
        have B5 : Hid (Below w.heap.size w w5) := B2.out.trans ((B4.out.trans (b5.mono B4.out.size)).mono B2.out.size)
        clear b5
        rcases hi with ⟨hB, rfl⟩ | ⟨hB, rfl⟩
      · have a0 : 0 ≤ A := HF.out.2.1
        have a2 : 0 ≤ B := by have := HF.out; omega
        have a4 : 9007199254740992 < A + B := by have := HF.out; omega
        go_wp2_with fail
        go_ret
        exact ⟨rfl, B5.out⟩
      · go_wp2_with fail
        go_ret
        exact ⟨rfl, B5.out⟩
      · go_wp2_with fail
        go_ret
        exact ⟨rfl, B5.out⟩
      · go_wp2_with fail
        go_ret
        exact ⟨rfl, B5.out⟩

theorem walk {H : Type} {enc : TypeId × Value → H} {base : Nat} (W : World) (v0 : Value) (d0 : DataW H) (p0 : List MemPlace) (o0 : Value.okWide Try.prog W .any base 22 v0) (h0 : DataW.Trod enc Try.prog W 0 (fun _ => true) true 22 v0 d0 p0)
    (v1 : Value) (d1 : DataW H) (p1 : List MemPlace) (o1 : Value.okWide Try.prog W .any base 3 v1) (h1 : DataW.Trod enc Try.prog W 0 (fun _ => true) true 3 v1 d1 p1) :
    Calls Try.prog 3 #[v0, v1] W fun e W' => e = .returned (.bool true) ∧ Below W.heap.size W W' := by
  obtain ⟨q, c, l, rfl, hl, hc, hcm, hr⟩ := open_row o0 h0
  obtain ⟨a, rfl⟩ := okWide_int Try.underlying3 o1
  exact walk_at W q c l a hr hl hc hcm

/-! ### THE ROW's STEP -/
set_option maxRecDepth 100000 in
theorem lifted (os : Os) (started : os.Started) (H : Type) (enc : TypeId × Value → H) :
    ReturnsInHanded {} Try.checked os 3 .any (Rows.ratePartsSpec.pre6 enc Try.prog Try.f3 Rows.ratePartsRow.domain false) (Rows.ratePartsSpec.post enc Try.prog Try.f3 false true false false) := by
  refine returnsInHanded_of_change (C := Try.checked) own started (by kernel_rfl) Try.func3
    (ChangeSpec.witness6 (enc := enc) (C := Try.checked) false ⟨#[], #[.slice none 0 0, .int .i64 0], []⟩ 8 (by kernel_rfl) (by kernel_rfl) (by kernel_rfl) (by kernel_rfl)) ?_
  intro W base args ds gs before hval0 hW hcnd _
  have hval : ∀ (j : Nat) t v, Try.f3.params[j]? = some t → args[j]? = some v → Value.okWide Try.prog W .any base t v := hval0
  have hW' := hW
  obtain ⟨p, q, hA0, hV, rfl, hfz, hnd⟩ := hW
  have hA : DataW.TrodAll enc Try.prog W 0 (fun _ => true) true Try.f3.params.toList args.toList ds p := hA0
  have hlt : ∀ x ∈ p, x.block < W.heap.size := fun x hx => hW'.lt x (List.mem_append_left _ hx)
  rw [Try.params3] at hA hval
  have hread : ∀ t ∈ [22, 3], Try.prog.readableRec t = true ∧ t < Try.prog.types.size := by
    intro t ht
    simp only [List.mem_cons, List.not_mem_nil, or_false] at ht
    rcases ht with rfl | rfl <;> exact ⟨by kernel_rfl, of_decide_eq_true (by kernel_rfl)⟩
  have again : ∀ (W' : World), Below W.heap.size W W' → ∀ sp : Nat → Bool, (∀ x ∈ p, sp x.block = true) → DataW.TrodAll enc Try.prog W' 0 sp true [22, 3] args.toList ds p :=
    fun W' hb sp hsp => all_again (by kernel_rfl) hb [22, 3] args.toList ds p hread hA hlt hsp
  obtain ⟨v0, v1, d0, d1, p0, p1, rfl, rfl, rfl, h0, h1⟩ := trodAll_two hA
  obtain ⟨rfl, rfl⟩ := trodVars_none hV
  clear hA0 hval0
  simp only [List.append_nil] at hW'
  refine (walk W v0 d0 p0 (hval 0 22 v0 rfl rfl) h0 v1 d1 p1 (hval 1 3 v1 rfl rfl) h1).mono fun e W' ⟨he, hg⟩ => ?_
  subst he
  exact ⟨_, rfl, post_below hW' hg (fun _ _ _ => trodAll_mk1 (shut_bool Try.underlying4 _)) (fun sp hsp => again W' hg sp hsp) (fun _ => rfl) (ok_one (by kernel_rfl) rfl (okWide_bool_mk Try.underlying4 _))⟩

theorem over : Rows.ratePartsRow.holds Try.pinned (OpenSpec.ofChange Rows.ratePartsSpec) :=
  OpenClaim.holds_of_wide 3 Try.f3 rfl rfl rfl rfl rfl rfl rfl ⟨rfl, rfl, rfl, rfl, rfl⟩ rfl rfl rfl rfl rfl (by kernel_rfl) Try.func3 (by kernel_rfl)
    (of_decide_eq_true (by kernel_rfl)) (by unfold Func.isWrapper; first | (rw [if_pos (by decide +kernel)]; kernel_rfl) | (rw [if_neg (by decide +kernel)]; exact ⟨rfl, rfl⟩))
    (fun os started H enc _ => lifted os started H enc)

/-- The statement. -/
theorem proved : Rows.RatePartsSaid :=
  over
#print axioms proved
end Go.Proofs.Ytpalomcnbmkepaa.rateParts

