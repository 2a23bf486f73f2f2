/- Proved here: the law PolicyAllows of layer 22 holds for every input: whoever goes, again and again at one tick, as far as a policy of pods lets them, with all that is noted, goes no farther in all than its Value; and the chapter's example. No conditions. -/
import Derived.Test.YtfmllfolpcimpaaPyN
import Derived.Test.YtfmllfolpcimpaaPyLawBase
namespace Go.Proofs.Ytfmllfolpcimpaa.policyAllows
open Go.ChangeShapes Go.WideShapes Go.ChangeAt Go.RowKit Go.Lib Go.Shelf Go.Sort Go.Deep
open Go.Joins (cell_of_block unfrozen_of_block block_setCell)
open Go.Proofs.Ytfmllfolpcimpaa.Ow Go.Proofs.Ytfmllfolpcimpaa.Py
set_option linter.unusedVariables false
set_option linter.unusedSimpArgs false
set_option maxRecDepth 20000

set_option maxHeartbeats 8000000 in
theorem long (W : World) (va pe there : Int) (q : Option Addr) (n c : Nat) (now : Int) (h : 20 < n) :
    Calls Try.prog 4 #[.int .u16 va, .int .u16 pe, .int .i64 there, .slice q n c, .int .i64 now] W fun e W' => e = .returned (.bool true) ∧ Below W.heap.size W W' := by
  have CL := Lib.hid (fun w => pylives w)
  have t1 : decide ((n : Int) > 20) = true := decide_eq_true (by omega)
  clear h
  go_enter Try.func4, Try.ntmps4
  go_wp2_with fail
  refine (CL.out _).mono ?_
  rintro y w2 ⟨rfl, b2⟩
  have B2 := Lib.hid b2
  clear b2
  go_wp2_with fail
  refine (CL.out _).mono ?_
  rintro y w3 ⟨rfl, b3⟩
  have B3 := Lib.hid (B2.out.trans (b3.mono B2.out.size))
  clear b3 B2 CL
  go_wp2
  go_ret
  exact ⟨rfl, B3.out⟩

set_option maxHeartbeats 16000000 in
theorem odd (W : World) (va pe there : Int) (q : Option Addr) (n c : Nat) (now : Int) (h : n ≤ 20) (hb : rightB [] now = false ∨ (rightB [] now = true ∧ (there < 0 ∨ 1000 < there))) :
    Calls Try.prog 4 #[.int .u16 va, .int .u16 pe, .int .i64 there, .slice q n c, .int .i64 now] W fun e W' => e = .returned (.bool true) ∧ Below W.heap.size W W' := by
  have CL := Lib.hid (fun w => pylives w)
  have CR := Lib.hid (fun w => py_right w none 0 [] (RowR.nil _ _ _ _) (by simp) now)
  have t1 : decide ((n : Int) > 20) = false := decide_eq_false (by omega)
  have key : Hid (rightB [] now = false ∨ (rightB [] now = true ∧ decide (there < 0) = true) ∨ (rightB [] now = true ∧ decide (there < 0) = false ∧ decide (there > 1000) = true)) := by
    rcases hb with h | ⟨h, h2⟩
    · exact .inl h
    · by_cases h3 : there < 0
      · exact .inr (.inl ⟨h, decide_eq_true h3⟩)
      · exact .inr (.inr ⟨h, decide_eq_false h3, decide_eq_true (by omega)⟩)
  clear h hb
  rcases key.out with h | ⟨h, t2⟩ | ⟨h, t2, t3⟩
  all_goals
    rw [h] at CR
    clear h key
    go_enter Try.func4, Try.ntmps4
    go_wp2_with fail
    refine (CL.out _).mono ?_
    rintro y w2 ⟨rfl, b2⟩
    have B2 := Lib.hid b2
    clear b2
    go_wp2_with fail
    refine (CR.out _).mono ?_
    rintro y w3 ⟨rfl, b3⟩
    have B3 := Lib.hid (B2.out.trans (b3.mono B2.out.size))
    clear b3 B2 CR
    go_wp2_with fail
    refine (CL.out _).mono ?_
    rintro y w4 ⟨rfl, b4⟩
    have B4 := Lib.hid (B3.out.trans (b4.mono B3.out.size))
    clear b4 B3 CL
    go_wp2
    go_ret
    exact ⟨rfl, B4.out⟩

set_option maxHeartbeats 32000000 in
theorem good (W : World) (va pe there : Int) (q : Option Addr) (c : Nat) (l : List Int) (hr : RowR 1 encZ W q l) (hl : l.length ≤ 20) (now : Int) (hR : rightB [] now = true) (h0 : 0 ≤ there) (h1 : there ≤ 1000) (hva : 0 ≤ va ∧ va < 65536) (hpe : 0 ≤ pe ∧ pe < 65536) :
    Calls Try.prog 4 #[.int .u16 va, .int .u16 pe, .int .i64 there, .slice q l.length c, .int .i64 now] W fun e W' => e = .returned (.bool true) ∧ Below W.heap.size W W' := by
  obtain ⟨_, hn0, hn1, _⟩ := rightB_true hR
  have hI : I64 now := by unfold I64; omega
  have CL := Lib.hid (fun w => pylives w)
  have CR := Lib.hid (fun w => py_right w none 0 [] (RowR.nil _ _ _ _) (by simp) now)
  rw [hR] at CR
  obtain ⟨V, hV⟩ : ∃ V, V = 1 + va % 50 := ⟨_, rfl⟩
  obtain ⟨P, hP⟩ : ∃ P, P = 1 + pe % 1800 := ⟨_, rfl⟩
  have rV : 1 ≤ V ∧ V ≤ 50 := by omega
  have rP : 1 ≤ P ∧ P ≤ 1800 := by omega
  obtain ⟨n, hnl⟩ : ∃ n, n = l.length := ⟨_, rfl⟩
  rw [← hnl] at hl ⊢
  have t1 : decide ((n : Int) > 20) = false := decide_eq_false (by omega)
  have t2 : decide (there < 0) = false := decide_eq_false (by omega)
  have t3 : decide (there > 1000) = false := decide_eq_false (by omega)
  have HH := Lib.hid (And.intro hr (And.intro hnl (And.intro hI (And.intro h0 (And.intro h1 (And.intro rV rP))))))
  have HVP : Hid (1 + va % 50 = V ∧ 1 + pe % 1800 = P) := ⟨hV.symm, hP.symm⟩
  clear hr hnl hI hR hn0 hn1 rV rP hV hP
  go_enter Try.func4, Try.ntmps4
  go_wp2_with fail
  refine (CL.out _).mono ?_
  rintro y wa ⟨rfl, ba⟩
  have BA := Lib.hid ba
  clear ba CL
  go_wp2_with fail
  refine (CR.out _).mono ?_
  rintro y wb ⟨rfl, bb⟩
  have BB := Lib.hid (BA.out.trans (bb.mono BA.out.size))
  clear bb BA CR
  obtain ⟨w1, A, HA, b1, y1, c0, c1, c2⟩ := box_pol wb false V P
  obtain ⟨w2, B, HB, b2, y2, _, _, _⟩ := box_pol w1 false V P
  obtain ⟨w3, C, HC, b3, y3⟩ := box_beh w2 0 0 (.slice (some ⟨B, 0, none⟩) 1 1)
  obtain rfl : B = A + 1 := by rw [← HB.out.2, ← HA.out.1, ← HA.out.2]; simp
  obtain rfl : C = A + 2 := by rw [← HC.out.2, ← HB.out.1]; simp [HB.out.2]
  have b12 := b1.trans (b2.mono b1.size)
  have b13 := b12.trans (b3.mono b12.size)
  have L3 : Below W.heap.size W w3 := BB.out.trans (b13.mono BB.out.size)
  have z1 := (b3.block A (Nat.lt_of_lt_of_le (Array.getElem?_eq_some_iff.1 y1).1 b2.size)).trans ((b2.block A (Array.getElem?_eq_some_iff.1 y1).1).trans y1)
  have z2 := (b3.block (A + 1) (Array.getElem?_eq_some_iff.1 y2).1).trans y2
  have rP : RowR 3 encP w3 (some ⟨A + 1, 0, none⟩) [(false, V, P)] := by
    intro j x hx
    refine ⟨A + 1, 0, rfl, (Array.getElem?_eq_some_iff.1 z2).1, fun t v hv => ?_⟩
    rw [cell_of_block z2]
    match j, hx with
    | 0, hx =>
      simp at hx
      subst hx
      match t, hv with
      | 0, hv => exact hv
      | 1, hv => exact hv
      | 2, hv => exact hv
  have CG : Hid (∀ w q' c' L n t, Below w3.heap.size w3 w → RowR 3 encS w q' L → L.length ≤ 20 → (∀ x ∈ L, x.1 = now) → Calls Try.prog 8 #[.agg #[.int .i64 0, .int .i64 0, .slice (some ⟨A + 1, 0, none⟩) 1 1], .agg #[.int .i64 0, .int .i64 0, .slice (some ⟨A + 1, 0, none⟩) 1 1], .slice q' L.length c', .int .i64 now, .int .i64 n, .int .i64 t] w fun e w' => e = .returned (.int .i64 (GoS 0 [(false, V, P)] 0 [(false, V, P)] L now n t)) ∧ Below w.heap.size w w') := fun w q' c' L n t b hr' hL hx =>
    py_go w 0 0 _ 1 [(false, V, P)] (rP.below b) (by simp) (by simp; have := HH.out.2.2.2.2.2.2; omega) 0 0 _ 1 [(false, V, P)] (rP.below b) (by simp) (by simp; have := HH.out.2.2.2.2.2.2; omega) q' c' L hr' (by omega) (fun x h => by rw [hx x h]; exact HH.out.2.2.1) now n t HH.out.2.2.1
  have Z := Lib.hid (And.intro z1 y3)
  have L3' := Lib.hid L3
  obtain ⟨M, hM⟩ : ∃ M, M = w3.heap.size := ⟨_, rfl⟩
  have HM : Hid (w3.heap.size = M) := hM.symm
  have S0 : Hid (OwnSc M w3 (.slice none 0 0) [] ∧ Below M w3 w3 ∧ Alw now V P there [] there 0 0) := ⟨World.ownsRow_nil _ _ _ _, Below.refl _ _, Alw.nil h0 h1 (by have := HH.out.2.2.2.2.2.1; omega)⟩
  clear b1 b2 b3 y1 y2 y3 b12 b13 L3 z1 z2 rP hM BB h0 h1
  go_upto_region 4 with fail
  rw [HVP.out.1, HVP.out.2, HA.out.1, HA.out.2]
  go_upto_region 5 with fail
  rw [HB.out.1, HB.out.2, HC.out.1, show A + 1 + 1 = A + 2 from rfl]
  clear HA HB HC c0 c1 c2
  go_wp2_with fail
  go_loopg [13, 14, 54] n (fun g1 v13 v14 vi wr => ∃ (j c13 : Nat) (q13 : Option Addr) (x : Int), vi = .int .i64 (j : Int) ∧ j ≤ n ∧ n - j ≤ g1 ∧ v13 = .slice q13 j c13 ∧ v14 = .int .i64 x ∧ Hid (∃ L U D, L.length = j ∧ OwnSc M wr (.slice q13 j c13) L ∧ Below M w3 wr ∧ Alw now V P there L x U D))
  case atStart => exact ⟨0, 0, none, there, rfl, Nat.zero_le _, by omega, rfl, rfl, [], 0, 0, rfl, S0.out⟩
  case round =>
    clear S0
    obtain ⟨j, c13, q13, x, rfl, h1, h2, rfl, rfl, HS⟩ := hrel
    by_cases hlt : j < n
    · obtain ⟨hr, hnl, hI, h0, hx1, rV, rP⟩ := HH.out
      obtain ⟨L, U, D, hL, ho, bl, al⟩ := HS.out
      obtain ⟨t, ht⟩ : ∃ t, l[j]? = some t := ⟨l[j]'(by omega), List.getElem?_eq_getElem (by omega)⟩
      have b3 : Below w3.heap.size w3 wr := by rw [HM.out]; exact bl
      obtain ⟨g, off, rfl, c0⟩ := int_at hr (L3'.out.trans (b3.mono L3'.out.size)) ht
      have k1 := (b3.block (A + 2) (Array.getElem?_eq_some_iff.1 Z.out.2).1).trans Z.out.2
      have z0 := cell_of_block k1 0
      have z1 := cell_of_block k1 1
      have z2 := cell_of_block k1 2
      have hro := ho.row.2
      have CX := CG.out wr q13 c13 L x t b3 hro (by omega) al.all
      obtain ⟨U', D', al'⟩ := al.next rP.1 (by omega) (by omega) h0 hx1 t
      obtain ⟨y, hy⟩ : ∃ y, y = GoS 0 [(false, V, P)] 0 [(false, V, P)] L now x t := ⟨_, rfl⟩
      rw [← hy] at CX al'
      rw [hL] at CX
      have CY := Lib.hid CX
      have y0 := al'.n0
      have y1 := al'.n1
      have ylo := al'.lo
      have yhi := al'.hi
      obtain ⟨d1, hd1⟩ : ∃ d, d = y - there := ⟨_, rfl⟩
      obtain ⟨d2, hd2⟩ : ∃ d, d = there - y := ⟨_, rfl⟩
      have wd1 : IntKind.i64.wrap (y - there) = d1 := by rw [IntKind.wrap_i64]; omega
      have wd2 : IntKind.i64.wrap (there - y) = d2 := by rw [IntKind.wrap_i64]; omega
      have td1 : decide (d1 > V) = false := decide_eq_false (by omega)
      have td2 : decide (d2 > V) = false := decide_eq_false (by omega)
      have hMr : M ≤ wr.heap.size := by have := b3.size; have := HM.out; omega
      have KP := Lib.hid (And.intro hL (And.intro ho (And.intro bl (And.intro al' hMr))))
      clear hr hnl hI h0 hx1 rV rP hL ho bl al ht b3 k1 hro CX al' hy y0 y1 ylo yhi hd1 hd2 hMr HS
      go_wp2_with fail
      refine CY.out.mono ?_
      rintro e w5 ⟨rfl, b5⟩
      obtain ⟨hL, ho, bl, al', hMr⟩ := KP.out
      obtain ⟨w7, B, HW7, b7, bB, _, _, _⟩ := box_sca w5 now x y
      have b57 := b5.trans (b7.mono b5.size)
      have OU := Lib.hid (ho.below b57)
      have BX := Lib.hid bB
      have HB : Hid (M ≤ w7.heap.size) := Nat.le_trans hMr b57.size
      have L7 := Lib.hid (bl.trans (b57.mono hMr))
      have HO := Lib.hid hL
      have AL := Lib.hid al'
      clear hL ho bl al' hMr b7 bB b5 b57 KP CY c0 z0 z1 z2
      go_wp2_with (at_builtin; rw [HW7.out.1, HW7.out.2]; refine wpList_push_sca rfl _ _ (by rfl) (now, x, y) HO.out (by rfl) OU.out HB.out (by omega) B (by rfl) BX.out ?_; intro q8 c8 w8 ho8 hg8; have pc := cell_of_block (((L7.out.trans (grown_low HB.out OU.out hg8)).block A (by rw [← HM.out]; exact (Array.getElem?_eq_some_iff.1 Z.out.1).1)).trans Z.out.1) 1)
      have NX : Hid (∃ L U D, L.length = j + 1 ∧ OwnSc M w8 (.slice q8 (j + 1) c8) L ∧ Below M w3 w8 ∧ Alw now V P there L y U D) :=
        ⟨L ++ [(now, x, y)], U', D', by rw [List.length_append, HO.out]; rfl, ho8, L7.out.trans (grown_low HB.out OU.out hg8), AL.out⟩
      go_roundg (n - (j + 1))
      case measure => omega
      case rel => exact ⟨j + 1, c8, q8, y, by push_cast; rfl, by omega, by omega, rfl, rfl, NX.out⟩
    · have e : n = j := by omega
      subst e
      obtain ⟨L, U, D, hL, ho, bl, al⟩ := HS.out
      have F : Hid (Below W.heap.size W wr) := L3'.out.trans ((show Below w3.heap.size w3 wr by rw [HM.out]; exact bl).mono L3'.out.size)
      clear hL ho bl al HS
      go_wp2
      go_ret
      exact ⟨rfl, F.out⟩

theorem walk {H : Type} {enc : TypeId × Value → H} {base : Nat} (W : World) (v0 : Value) (d0 : DataW H) (p0 : List MemPlace) (o0 : Value.okWide Try.prog W .any base 28 v0) (h0 : DataW.Trod enc Try.prog W 0 (fun _ => true) true 28 v0 d0 p0)
    (v1 : Value) (d1 : DataW H) (p1 : List MemPlace) (o1 : Value.okWide Try.prog W .any base 28 v1) (h1 : DataW.Trod enc Try.prog W 0 (fun _ => true) true 28 v1 d1 p1)
    (v2 : Value) (d2 : DataW H) (p2 : List MemPlace) (o2 : Value.okWide Try.prog W .any base 3 v2) (h2 : DataW.Trod enc Try.prog W 0 (fun _ => true) true 3 v2 d2 p2)
    (v3 : Value) (d3 : DataW H) (p3 : List MemPlace) (o3 : Value.okWide Try.prog W .any base 29 v3) (h3 : DataW.Trod enc Try.prog W 0 (fun _ => true) true 29 v3 d3 p3)
    (v4 : Value) (d4 : DataW H) (p4 : List MemPlace) (o4 : Value.okWide Try.prog W .any base 2 v4) (h4 : DataW.Trod enc Try.prog W 0 (fun _ => true) true 2 v4 d4 p4)
    (wt0 : Wt 28 d0) (wt1 : Wt 28 d1) (wt2 : Wt 3 d2) (wt3 : Wt 29 d3) (wt4 : Wt 2 d4) :
    Calls Try.prog 4 #[v0, v1, v2, v3, v4] W fun e W' => e = .returned (.bool true) ∧ Below W.heap.size W W' := by
  obtain ⟨va, rfl, rfl, rfl, hva⟩ := open_int Try.underlying28 o0 h0
  obtain ⟨pe, rfl, rfl, rfl, hpe⟩ := open_int Try.underlying28 o1 h1
  obtain ⟨there, rfl, rfl, rfl, _⟩ := open_int Try.underlying3 o2 h2
  obtain ⟨q, c, l, rfl, hr, _, _⟩ := open_towards o3 h3 wt3
  obtain ⟨now, rfl, rfl, rfl, _⟩ := open_int Try.underlying2 o4 h4
  have ra : 0 ≤ va ∧ va < 65536 := by
    simp [Lit.wf, IntKind.min, IntKind.max, IntKind.signed, IntKind.bits] at hva
    omega
  have rp : 0 ≤ pe ∧ pe < 65536 := by
    simp [Lit.wf, IntKind.min, IntKind.max, IntKind.signed, IntKind.bits] at hpe
    omega
  rcases Nat.lt_or_ge 20 l.length with h | h
  · exact long W va pe there q _ c now h
  · cases hR : rightB [] now with
    | false => exact odd W va pe there q _ c now h (.inl hR)
    | true =>
      by_cases ht : there < 0 ∨ 1000 < there
      · exact odd W va pe there q _ c now h (.inr ⟨hR, ht⟩)
      · exact good W va pe there q c l hr h now hR (by omega) (by omega) ra rp

/-! ### THE ROW's STEP -/
set_option maxRecDepth 100000 in
theorem lifted (os : Os) (started : os.Started) (H : Type) (enc : TypeId × Value → H) :
    ReturnsInHanded {} Try.checked os 4 .any (Rows.policyAllowsSpec.pre6 enc Try.prog Try.f4 Rows.policyAllowsRow.domain false) (Rows.policyAllowsSpec.post enc Try.prog Try.f4 false true false false) := by
  refine returnsInHanded_of_change_sized (C := Try.checked) own started (by kernel_rfl) Try.func4
    (ChangeSpec.witness6 (enc := enc) (C := Try.checked) false ⟨#[], #[.int .u16 0, .int .u16 0, .int .i64 0, .slice none 0 0, .int .i64 0], []⟩ 8 (by kernel_rfl) (by kernel_rfl) (by kernel_rfl) (by kernel_rfl)) ?_
  intro W base args ds gs before hval0 hW hcnd hsz0 _
  have hval : ∀ (j : Nat) t v, Try.f4.params[j]? = some t → args[j]? = some v → Value.okWide Try.prog W .any base t v := hval0
  have hW' := hW
  obtain ⟨p, q, hA0, hV, rfl, hfz, hnd⟩ := hW
  have hA : DataW.TrodAll enc Try.prog W 0 (fun _ => true) true Try.f4.params.toList args.toList ds p := hA0
  have hlt : ∀ x ∈ p, x.block < W.heap.size := fun x hx => hW'.lt x (List.mem_append_left _ hx)
  rw [Try.params4] at hA hval
  have hread : ∀ t ∈ [28, 28, 3, 29, 2], Try.prog.readableRec t = true ∧ t < Try.prog.types.size := by
    intro t ht
    simp only [List.mem_cons, List.not_mem_nil, or_false] at ht
    rcases ht with rfl | rfl | rfl | rfl | rfl <;> exact ⟨by kernel_rfl, of_decide_eq_true (by kernel_rfl)⟩
  have again : ∀ (W' : World), Below W.heap.size W W' → ∀ sp : Nat → Bool, (∀ x ∈ p, sp x.block = true) → DataW.TrodAll enc Try.prog W' 0 sp true [28, 28, 3, 29, 2] args.toList ds p :=
    fun W' hb sp hsp => all_again (by kernel_rfl) hb [28, 28, 3, 29, 2] args.toList ds p hread hA hlt hsp
  obtain ⟨v0, vs0, d0, ds0, p0, q0, hargs, rfl, rfl, h0, r0⟩ := trodAll_cons hA
  obtain ⟨v1, vs1, d1, ds1, p1, q1, rfl, rfl, rfl, h1, r1⟩ := trodAll_cons r0
  obtain ⟨v2, vs2, d2, ds2, p2, q2, rfl, rfl, rfl, h2, r2⟩ := trodAll_cons r1
  obtain ⟨v3, vs3, d3, ds3, p3, q3, rfl, rfl, rfl, h3, r3⟩ := trodAll_cons r2
  obtain ⟨v4, vs4, d4, ds4, p4, q4, rfl, rfl, rfl, h4, r4⟩ := trodAll_cons r3
  obtain ⟨rfl, rfl, rfl⟩ := trodAll_nil r4
  obtain rfl : args = #[v0, v1, v2, v3, v4] := by cases args; simp_all
  obtain ⟨rfl, rfl⟩ := trodVars_none hV
  have wt0 : Wt 28 d0 := fun n hn => by
    have := List.all_eq_true.1 hsz0 n (DataW.weights_mem_each (j := 0) (t := 28) (d := d0) (by kernel_rfl) rfl n hn)
    simpa using this
  have wt1 : Wt 28 d1 := fun n hn => by
    have := List.all_eq_true.1 hsz0 n (DataW.weights_mem_each (j := 1) (t := 28) (d := d1) (by kernel_rfl) rfl n hn)
    simpa using this
  have wt2 : Wt 3 d2 := fun n hn => by
    have := List.all_eq_true.1 hsz0 n (DataW.weights_mem_each (j := 2) (t := 3) (d := d2) (by kernel_rfl) rfl n hn)
    simpa using this
  have wt3 : Wt 29 d3 := fun n hn => by
    have := List.all_eq_true.1 hsz0 n (DataW.weights_mem_each (j := 3) (t := 29) (d := d3) (by kernel_rfl) rfl n hn)
    simpa using this
  have wt4 : Wt 2 d4 := fun n hn => by
    have := List.all_eq_true.1 hsz0 n (DataW.weights_mem_each (j := 4) (t := 2) (d := d4) (by kernel_rfl) rfl n hn)
    simpa using this
  clear hA0 hval0
  simp only [List.append_nil] at hW' again
  refine (walk W v0 d0 p0 (hval 0 28 v0 rfl rfl) h0 v1 d1 p1 (hval 1 28 v1 rfl rfl) h1 v2 d2 p2 (hval 2 3 v2 rfl rfl) h2 v3 d3 p3 (hval 3 29 v3 rfl rfl) h3 v4 d4 p4 (hval 4 2 v4 rfl rfl) h4 wt0 wt1 wt2 wt3 wt4).mono fun e W' ⟨he, hg⟩ => ?_
  subst he
  exact ⟨_, rfl, post_below hW' hg (fun _ _ _ => trodAll_mk1 (shut_bool Try.underlying4 _)) (fun sp hsp => again W' hg sp hsp) (fun _ => rfl) (ok_one (by kernel_rfl) rfl (okWide_bool_mk Try.underlying4 _))⟩

theorem over : Rows.policyAllowsRow.holds Try.pinned (OpenSpec.ofChange Rows.policyAllowsSpec) :=
  OpenClaim.holds_of_wide 4 Try.f4 rfl rfl rfl rfl rfl rfl rfl ⟨rfl, rfl, rfl, rfl, rfl⟩ rfl rfl rfl rfl rfl (by kernel_rfl) Try.func4 (by kernel_rfl)
    (of_decide_eq_true (by kernel_rfl)) (by unfold Func.isWrapper; first | (rw [if_pos (by decide +kernel)]; kernel_rfl) | (rw [if_neg (by decide +kernel)]; exact ⟨rfl, rfl⟩))
    (fun os started H enc _ => lifted os started H enc)

/-- The statement. -/
theorem proved : Rows.PolicyAllowsSaid :=
  over
#print axioms proved
end Go.Proofs.Ytfmllfolpcimpaa.policyAllows


