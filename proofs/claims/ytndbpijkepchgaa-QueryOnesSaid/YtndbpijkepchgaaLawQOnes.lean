/- Proved here: the law QueryOnes of layer 13 holds for every input: what is told of a thing, and its rate, is what is fresh of it; of no book it is told that there is none. No conditions. -/
import Derived.Test.YtndbpijkepchgaaQyL
import Derived.Test.YtndbpijkepchgaaQyLawBase
import Derived.ChangeMaps5
namespace Go.Proofs.Ytndbpijkepchgaa.queryOnes
open Go.ChangeShapes Go.WideShapes Go.ChangeAt Go.RowKit Go.Lib Go.Shelf Go.Sort Go.Deep
open Go.Joins (cell_of_block unfrozen_of_block block_setCell)
open Go.Proofs.Ytndbpijkepchgaa.Qy Go.ChangeMaps
set_option linter.unusedVariables false
set_option linter.unusedSimpArgs false
set_option maxRecDepth 20000

theorem open_rules {H : Type} {enc : TypeId × Value → H} {W : World} {base : Nat} {v : Value} {d : DataW H} {p : List MemPlace} (o : Value.okWide Try.prog W .any base 23 v)
    (h : DataW.Trod enc Try.prog W 0 (fun _ => true) true 23 v d p) : ∃ n a : Int, v = .agg #[.int .i64 n, .int .i64 a] := by
  have c1 : Try.prog.cellsOf 3 = 1 := by kernel_rfl
  have c2 : Try.prog.cellsOf 23 = 2 := by kernel_rfl
  obtain ⟨cs, rfl, hs⟩ := okWide_struct Try.underlying23 o
  obtain ⟨fuel, hf⟩ := h
  have hf : DataW.trod enc Try.prog W 0 (fun _ => true) true fuel 23 cs.toList = some (d, p) := hf
  rw [c2] at hs
  obtain ⟨a, b, rfl⟩ : ∃ a b, cs = #[a, b] := by
    obtain ⟨l⟩ := cs
    match l, hs with
    | [a, b], _ => exact ⟨a, b, rfl⟩
  obtain ⟨y0, y1, k, _, _, t0, t1⟩ := trod_struct2 Try.underlying23 hf
  obtain ⟨s1, e1, _, z1⟩ := DataW.trod_int Try.underlying3 t0
  obtain ⟨s2, e2, _, z2⟩ := DataW.trod_int Try.underlying3 t1
  simp [c1] at e1 e2
  subst e1 e2
  exact ⟨s1, s2, rfl⟩

set_option maxHeartbeats 4000000 in
/-- There is no book. -/
theorem none_ (W : World) (n a : Int) (ql : Option Addr) (cl L : Nat) (now : Int) (s1 s2 : ByteArray)
    (hb : ∀ w, Calls Try.prog 4 #[.agg #[.int .i64 n, .int .i64 a], .slice ql L cl] w fun r w' => r = .returned (.pointer none) ∧ Below w.heap.size w w') :
    Calls Try.prog 3 #[.agg #[.int .i64 n, .int .i64 a], .slice ql L cl, .int .i64 now, .string s1, .string s2] W fun e w' => e = .returned (.bool true) ∧ Below W.heap.size W w' := by
  obtain ⟨w1, N, e1, e2, b1, k1, z1⟩ := boxG W n a
  have HW := Lib.hid (And.intro e1 e2)
  have CB := Lib.hid (hb w1)
  have V := Lib.hid qlives
  have c0 : w1.cell? ⟨N, 0, none⟩ = some (.int .i64 n) := cell_of_block k1 0
  have c1 : w1.cell? ⟨N, 1, none⟩ = some (.int .i64 a) := cell_of_block k1 1
  have HB := Lib.hid b1
  clear e1 e2 b1 k1 z1 hb
  go_enter Try.func3, Try.ntmps3
  go_upto_region 1 with fail
  rw [HW.out.1, HW.out.2]
  go_wp2_with fail
  refine CB.out.mono ?_
  rintro e w2 ⟨rfl, b2⟩
  have B2 := Lib.hid (HB.out.trans (b2.mono HB.out.size))
  clear b2 CB c0 c1
  go_wp2_with fail
  refine (V.out _).mono ?_
  rintro e w3 ⟨rfl, b3⟩
  have B3 := Lib.hid (B2.out.trans (b3.mono B2.out.size))
  clear b3
  go_wp2_with fail
  refine (V.out _).mono ?_
  rintro e w4 ⟨rfl, b4⟩
  have B4 := Lib.hid (B3.out.trans (b4.mono B3.out.size))
  clear b4
  go_wp2
  go_ret
  exact ⟨rfl, B4.out⟩

set_option maxHeartbeats 8000000 in
theorem some_ (W : World) (n a : Nat) (hn : 1 ≤ n ∧ n ≤ 32) (ha : 1 ≤ a ∧ a ≤ 1800) (ql : Option Addr) (cl : Nat) (l : List Sp) (hl : Sps W ql l) (hL : l.length ≤ 100) (now : Int) (hnow : now ≤ 9223372036854775807) (s : Sr) (hs : OkS s) :
    Calls Try.prog 3 #[.agg #[.int .i64 (n : Int), .int .i64 (a : Int)], .slice ql l.length cl, .int .i64 now, .string s.1, .string s.2] W fun e w' => e = .returned (.bool true) ∧ Below W.heap.size W w' := by
  obtain ⟨w1, N, e1, e2, b1, k1, z1⟩ := boxG W n a
  have HW := Lib.hid (And.intro e1 e2)
  have hl1 : Sps w1 ql l := fun i x hx => by
    obtain ⟨ok, b, off, e, hb, x0, x1, x2, x3⟩ := hl i x hx
    exact ⟨ok, b, off, e, Nat.lt_of_lt_of_le hb b1.size, (b1.cell (p := ⟨b, _, none⟩) hb).trans x0, (b1.cell (p := ⟨b, _, none⟩) hb).trans x1, (b1.cell (p := ⟨b, _, none⟩) hb).trans x2, (b1.cell (p := ⟨b, _, none⟩) hb).trans x3⟩
  have CB := Lib.hid (book_ok w1 n a hn ha ql cl l hl1 hL)
  obtain ⟨L, hLl⟩ : ∃ L, L = l.length := ⟨_, rfl⟩
  rw [← hLl] at CB ⊢
  have V := Lib.hid qlives
  have c0 : w1.cell? ⟨N, 0, none⟩ = some (.int .i64 (n : Int)) := cell_of_block k1 0
  have c1 : w1.cell? ⟨N, 1, none⟩ = some (.int .i64 (a : Int)) := cell_of_block k1 1
  have HB := Lib.hid b1
  have HS := Lib.hid (And.intro hs hnow)
  clear e1 e2 b1 k1 z1 hl hl1 hL hLl hn ha hs hnow
  go_enter Try.func3, Try.ntmps3
  go_upto_region 1 with fail
  rw [HW.out.1, HW.out.2]
  go_wp2_with fail
  refine CB.out.mono ?_
  rintro e w2 ⟨bb, rfl, mb, E, sk⟩
  have B2 := Lib.hid (HB.out.trans (sk.low.mono HB.out.size))
  have K2 : Hid (Bk w2 bb mb n a E ∧ Vals E) := ⟨sk.bk, sk.rt⟩
  clear sk CB c0 c1
  go_wp2_with fail
  refine (V.out _).mono ?_
  rintro e w3 ⟨rfl, b3⟩
  have B3 := Lib.hid (B2.out.trans (b3.mono B2.out.size))
  obtain ⟨w4, P, X⟩ := boxed w3 s
  have k4 := (K2.out.1.gr b3).gr X.b
  have hs := HS.out.1
  have hnow := HS.out.2
  have hv := K2.out.2
  have c0 := X.c0
  have c1 := X.c1
  have hX : Hid (w3.alloc (.cells #[.string s.1, .string s.2] KS) = w4 ∧ w3.heap.size = P) := ⟨X.eq, X.at_⟩
  have B4 := Lib.hid (B3.out.trans (X.b.mono B3.out.size))
  have CF : Hid (∀ w, Below w4.heap.size w4 w → Bk w bb mb n a E ∧ w.cell? ⟨P, 0, none⟩ = some (.string s.1) ∧ w.cell? ⟨P, 1, none⟩ = some (.string s.2) ∧ Below W.heap.size W w) := fun w b =>
    ⟨k4.gr b, (b.cell (p := ⟨P, 0, none⟩) (World.block_lt_of_cell? _ _ c0)).trans c0, (b.cell (p := ⟨P, 1, none⟩) (World.block_lt_of_cell? _ _ c1)).trans c1, B4.out.trans (b.mono B4.out.size)⟩
  obtain ⟨v1, hv1⟩ : ∃ v, v = freV now a (upto now (smpsOf E s)) := ⟨_, rfl⟩
  obtain ⟨v2, hv2⟩ : ∃ v, v = freE now a (upto now (smpsOf E s)) := ⟨_, rfl⟩
  obtain ⟨R, hR⟩ : ∃ R, R = frsh now a E s := ⟨_, rfl⟩
  obtain ⟨v3, hv3⟩ : ∃ v, v = Rt.rateV R := ⟨_, rfl⟩
  obtain ⟨v4, hv4⟩ : ∃ v, v = Rt.rateE R := ⟨_, rfl⟩
  obtain ⟨m, hm⟩ : ∃ m, m = R.length := ⟨_, rfl⟩
  have Q1 : Hid (∀ w, Bk w bb mb n a E → Calls Try.prog 6 #[.pointer (some ⟨bb, 0, none⟩), .int .i64 now, .string s.1, .string s.2] w fun r w' => r = .returned (.tuple #[.int .i64 v1, .int .i64 v2]) ∧ Below w.heap.size w w') := fun w k => by
    rw [hv1, hv2]; exact one_any w bb mb n a E k now s hs hnow
  have Q2 : Hid (∀ w, Bk w bb mb n a E → Calls Try.prog 7 #[.pointer (some ⟨bb, 0, none⟩), .int .i64 now, .agg #[.string s.1, .string s.2]] w fun r w' => r = .returned (.tuple #[.int .i64 v1, .int .i64 v2]) ∧ Below w.heap.size w w') := fun w k => by
    rw [hv1, hv2]; exact fresh_any w bb mb n a E k now s hs hnow
  have Q3 : Hid (∀ w, Bk w bb mb n a E → Calls Try.prog 8 #[.pointer (some ⟨bb, 0, none⟩), .int .i64 now, .string s.1, .string s.2] w fun r w' => r = .returned (.tuple #[.int .i64 v3, .int .i64 v4]) ∧ Below w.heap.size w w') := fun w k => by
    rw [hv3, hv4, hR]; exact qrate_any w bb mb n a E k hv now s hs hnow
  have Q4 : Hid (∀ w, Bk w bb mb n a E → Calls Try.prog 10 #[.pointer (some ⟨bb, 0, none⟩), .int .i64 now, .agg #[.string s.1, .string s.2]] w fun r w' => (∃ q c, r = .returned (.slice q m c) ∧ w'.ownsRow w.heap.size TSQ 2 (.slice q m c) m (flQ R)) ∧ Below w.heap.size w w') := fun w k => by
    rw [hm, hR]; exact row_any w bb mb n a E k now s hs hnow
  have Q5 : Hid (∀ w N q c, w.ownsRow N TSQ 2 (.slice q m c) m (flQ R) → Calls Try.prog 9 #[.slice q m c] w fun r w' => r = .returned (.tuple #[.int .i64 v3, .int .i64 v4]) ∧ Below w.heap.size w w') := fun w N q c own => by
    rw [hm, hR] at own
    have hf := frsh_few k4 now hs
    have := Rt.rate_any w q c (frsh now a E s) (frsh_rows k4 hv now s hs hnow own) (by omega) (frsh_good k4 hv now s)
    rw [hv3, hv4, hm, hR]
    exact this
  have Q6 := Lib.hid (fun w => one_nil w now s)
  obtain ⟨s1, s2⟩ := s
  simp only at c0 c1 hX CF Q1 Q2 Q3 Q4 Q6 ⊢
  have K4 := Lib.hid k4
  clear b3 k4 X K2 hs hnow hv hv1 hv2 hv3 hv4 hR hm B2 B3 B4 HB HS
  go_upto_region 5 with fail
  rw [hX.out.1, hX.out.2]
  go_wp2_with fail
  refine (Q1.out _ K4.out).mono ?_
  rintro e w5 ⟨rfl, b5⟩
  obtain ⟨k5, c0, c1, _⟩ := CF.out _ b5
  have K5 := Lib.hid k5
  have B5 := Lib.hid b5
  clear k5 b5 K4 Q1
  go_wp2_with fail
  refine (Q2.out _ K5.out).mono ?_
  rintro e w6 ⟨rfl, b6⟩
  have b46 : Below w4.heap.size w4 w6 := B5.out.trans (b6.mono B5.out.size)
  clear c0 c1
  obtain ⟨k6, c0, c1, _⟩ := CF.out _ b46
  have K6 := Lib.hid k6
  have B6 := Lib.hid b46
  clear k6 b6 b46 K5 Q2 B5
  go_wp2_with fail
  refine (Q3.out _ K6.out).mono ?_
  rintro e w7 ⟨rfl, b7⟩
  have b47 : Below w4.heap.size w4 w7 := B6.out.trans (b7.mono B6.out.size)
  clear c0 c1
  obtain ⟨k7, c0, c1, _⟩ := CF.out _ b47
  have K7 := Lib.hid k7
  have B7 := Lib.hid b47
  clear k7 b7 b47 K6 Q3 B6
  go_wp2_with fail
  refine (Q4.out _ K7.out).mono ?_
  rintro e w8 ⟨⟨q, c, rfl, own⟩, b8⟩
  have C5 := Lib.hid (Q5.out w8 _ q c own)
  have b48 : Below w4.heap.size w4 w8 := B7.out.trans (b8.mono B7.out.size)
  have B8 := Lib.hid b48
  clear own b8 b48 K7 Q4 Q5 B7 c0 c1
  go_wp2_with fail
  refine C5.out.mono ?_
  rintro e w9 ⟨rfl, b9⟩
  have B9 := Lib.hid (B8.out.trans (b9.mono B8.out.size))
  clear b9 B8 C5
  go_wp2_with fail
  refine (Q6.out _).mono ?_
  rintro e w10 ⟨rfl, b10⟩
  have b4z : Below w4.heap.size w4 w10 := B9.out.trans (b10.mono B9.out.size)
  have FIN := Lib.hid (CF.out _ b4z).2.2.2
  clear b10 b4z B9 Q6 CF
  go_wp2
  go_ret
  exact ⟨rfl, FIN.out⟩

theorem walk {H : Type} {enc : TypeId × Value → H} {base : Nat} (W : World) (v0 : Value) (d0 : DataW H) (p0 : List MemPlace) (o0 : Value.okWide Try.prog W .any base 23 v0) (h0 : DataW.Trod enc Try.prog W 0 (fun _ => true) true 23 v0 d0 p0)
    (v1 : Value) (d1 : DataW H) (p1 : List MemPlace) (o1 : Value.okWide Try.prog W .any base 24 v1) (h1 : DataW.Trod enc Try.prog W 0 (fun _ => true) true 24 v1 d1 p1)
    (v2 : Value) (d2 : DataW H) (p2 : List MemPlace) (o2 : Value.okWide Try.prog W .any base 2 v2) (h2 : DataW.Trod enc Try.prog W 0 (fun _ => true) true 2 v2 d2 p2)
    (v3 : Value) (d3 : DataW H) (p3 : List MemPlace) (o3 : Value.okWide Try.prog W .any base 9 v3) (h3 : DataW.Trod enc Try.prog W 0 (fun _ => true) true 9 v3 d3 p3)
    (v4 : Value) (d4 : DataW H) (p4 : List MemPlace) (o4 : Value.okWide Try.prog W .any base 9 v4) (h4 : DataW.Trod enc Try.prog W 0 (fun _ => true) true 9 v4 d4 p4) :
    Calls Try.prog 3 #[v0, v1, v2, v3, v4] W fun e W' => e = .returned (.bool true) ∧ Below W.heap.size W W' := by
  obtain ⟨n, a, rfl⟩ := open_rules o0 h0
  obtain ⟨ql, cl, l, rfl, hl⟩ := open_sps o1 h1
  obtain ⟨now, rfl, rfl, rfl, hnow⟩ := open_int Try.underlying2 o2 h2
  obtain ⟨s1, rfl, rfl, rfl, hs1⟩ := open_string Try.underlying9 o3 h3
  obtain ⟨s2, rfl, rfl, rfl, hs2⟩ := open_string Try.underlying9 o4 h4
  by_cases hr : n < 1 ∨ 32 < n ∨ a < 1 ∨ 1800 < a
  · exact none_ W n a ql cl l.length now s1 s2 (fun w => book_bad w n a ql cl l.length hr)
  · obtain ⟨n', rfl⟩ : ∃ k : Nat, n = (k : Int) := ⟨n.toNat, by omega⟩
    obtain ⟨a', rfl⟩ : ∃ k : Nat, a = (k : Int) := ⟨a.toNat, by omega⟩
    by_cases hL : l.length ≤ 100
    · exact some_ W n' a' (by omega) (by omega) ql cl l hl hL now (wf_i64 hnow).2 (s1, s2) ⟨hs1, hs2⟩
    · exact none_ W n' a' ql cl l.length now s1 s2 (fun w => book_long w n' a' (by omega) (by omega) ql cl l.length (by omega))

/-! ### THE ROW's STEP -/
set_option maxRecDepth 100000 in
theorem lifted (os : Os) (started : os.Started) (H : Type) (enc : TypeId × Value → H) :
    ReturnsInHanded {} Try.checked os 3 .any (Rows.queryOnesSpec.pre6 enc Try.prog Try.f3 Rows.queryOnesRow.domain false) (Rows.queryOnesSpec.post enc Try.prog Try.f3 false true false false) := by
  refine returnsInHanded_of_change (C := Try.checked) own started (by kernel_rfl) Try.func3
    (ChangeSpec.witness6 (enc := enc) (C := Try.checked) false ⟨#[], #[.agg #[.int .i64 0, .int .i64 0], .slice none 0 0, .int .i64 0, .string { data := #[] }, .string { data := #[] }], []⟩ 8 (by kernel_rfl) (by kernel_rfl) (by kernel_rfl) (by kernel_rfl)) ?_
  intro W base args ds gs before hval0 hW hcnd _
  have hval : ∀ (j : Nat) t v, Try.f3.params[j]? = some t → args[j]? = some v → Value.okWide Try.prog W .any base t v := hval0
  have hW' := hW
  obtain ⟨p, q, hA0, hV, rfl, hfz, hnd⟩ := hW
  have hA : DataW.TrodAll enc Try.prog W 0 (fun _ => true) true Try.f3.params.toList args.toList ds p := hA0
  have hlt : ∀ x ∈ p, x.block < W.heap.size := fun x hx => hW'.lt x (List.mem_append_left _ hx)
  rw [Try.params3] at hA hval
  have hread : ∀ t ∈ [23, 24, 2, 9, 9], Try.prog.readableRec t = true ∧ t < Try.prog.types.size := by
    intro t ht
    simp only [List.mem_cons, List.not_mem_nil, or_false] at ht
    rcases ht with rfl | rfl | rfl | rfl | rfl <;> exact ⟨by kernel_rfl, of_decide_eq_true (by kernel_rfl)⟩
  have again : ∀ (W' : World), Below W.heap.size W W' → ∀ sp : Nat → Bool, (∀ x ∈ p, sp x.block = true) → DataW.TrodAll enc Try.prog W' 0 sp true [23, 24, 2, 9, 9] args.toList ds p :=
    fun W' hb sp hsp => all_again (by kernel_rfl) hb [23, 24, 2, 9, 9] args.toList ds p hread hA hlt hsp
  obtain ⟨v0, vs0, d0, ds0, p0, q0, hargs, rfl, rfl, h0, r0⟩ := trodAll_cons hA
  obtain ⟨v1, vs1, d1, ds1, p1, q1, rfl, rfl, rfl, h1, r1⟩ := trodAll_cons r0
  obtain ⟨v2, vs2, d2, ds2, p2, q2, rfl, rfl, rfl, h2, r2⟩ := trodAll_cons r1
  obtain ⟨v3, vs3, d3, ds3, p3, q3, rfl, rfl, rfl, h3, r3⟩ := trodAll_cons r2
  obtain ⟨v4, vs4, d4, ds4, p4, q4, rfl, rfl, rfl, h4, r4⟩ := trodAll_cons r3
  obtain ⟨rfl, rfl, rfl⟩ := trodAll_nil r4
  obtain rfl : args = #[v0, v1, v2, v3, v4] := by cases args; simp_all
  obtain ⟨rfl, rfl⟩ := trodVars_none hV
  clear hA0 hval0
  simp only [List.append_nil] at hW' again
  refine (walk W v0 d0 p0 (hval 0 23 v0 rfl rfl) h0 v1 d1 p1 (hval 1 24 v1 rfl rfl) h1 v2 d2 p2 (hval 2 2 v2 rfl rfl) h2 v3 d3 p3 (hval 3 9 v3 rfl rfl) h3 v4 d4 p4 (hval 4 9 v4 rfl rfl) h4).mono fun e W' ⟨he, hg⟩ => ?_
  subst he
  exact ⟨_, rfl, post_below hW' hg (fun _ _ _ => trodAll_mk1 (shut_bool Try.underlying4 _)) (fun sp hsp => again W' hg sp hsp) (fun _ => rfl) (ok_one (by kernel_rfl) rfl (okWide_bool_mk Try.underlying4 _))⟩

theorem over : Rows.queryOnesRow.holds Try.pinned (OpenSpec.ofChange Rows.queryOnesSpec) :=
  OpenClaim.holds_of_wide 3 Try.f3 rfl rfl rfl rfl rfl rfl rfl ⟨rfl, rfl, rfl, rfl, rfl⟩ rfl rfl rfl rfl rfl (by kernel_rfl) Try.func3 (by kernel_rfl)
    (of_decide_eq_true (by kernel_rfl)) (by unfold Func.isWrapper; first | (rw [if_pos (by decide +kernel)]; kernel_rfl) | (rw [if_neg (by decide +kernel)]; exact ⟨rfl, rfl⟩))
    (fun os started H enc _ => lifted os started H enc)

/-- The statement. -/
theorem proved : Rows.QueryOnesSaid :=
  over
#print axioms proved
end Go.Proofs.Ytndbpijkepchgaa.queryOnes

