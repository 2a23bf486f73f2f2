/- Proved here: the law ProposalGrows of layer 20 holds for every input: more use of one pod proposes no fewer; and the chapter's example. No conditions. -/
import Derived.Test.YtajkhbdniadkkaaPpL
import Derived.Test.YtajkhbdniadkkaaPpW
import Derived.Test.YtajkhbdniadkkaaPpOp
import Derived.Test.YtajkhbdniadkkaaPpLawBase
namespace Go.Proofs.Ytajkhbdniadkkaa.proposalGrows
open Go.ChangeShapes Go.WideShapes Go.ChangeAt Go.RowKit Go.Lib Go.Shelf Go.Sort Go.Deep
open Go.Joins (cell_of_block unfrozen_of_block block_setCell)
open Go.Proofs.Ytajkhbdniadkkaa.Ow Go.Proofs.Ytajkhbdniadkkaa.Pp Go.Proofs.Ytajkhbdniadkkaa.Ld
set_option linter.unusedVariables false
set_option linter.unusedSimpArgs false
set_option maxRecDepth 20000

theorem box1' (w : World) (M : Array Value) : ∃ w1 B, Hid (w.alloc (.cells M MT) = w1 ∧ w.heap.size = B) ∧ Below w.heap.size w w1 ∧ w1.heap[B]? = some (.cells M MT (0, 0)) :=
  ⟨_, _, ⟨rfl, rfl⟩, ((Gr.refl w).alloc _).below, heap_alloc_new w _⟩
/-- The use of one of a row is written anew. -/
theorem row_set {w : World} {g : Nat} {l : List Ut} {cur : Array Value} (h : RowR 5 encT w (some ⟨g, 0, none⟩) l) (blk : w.heap[g]? = some (.cells cur UT (0, 0))) (sz : l.length * 5 ≤ cur.size) {p : Nat} {y : Ut} (hy : l[p]? = some y) (m : Nat) :
    RowR 5 encT (w.setCell ⟨g, p * 5 + 4, none⟩ (.int .i64 (y.use + (m : Int)))) (some ⟨g, 0, none⟩) (l.set p (moreU y m)) := by
  have hp : p < l.length := (List.getElem?_eq_some_iff.1 hy).1
  have kb := block_setCell (i := p * 5 + 4) blk (.int .i64 (y.use + (m : Int)))
  have hsz : (w.setCell ⟨g, p * 5 + 4, none⟩ (.int .i64 (y.use + (m : Int)))).heap.size = w.heap.size := by simp [World.setCell]
  have hold : ∀ (j : Nat) (z : Ut), l[j]? = some z → ∀ (i : Nat) (v : Value), (encT z)[i]? = some v → cur[j * 5 + i]? = some v := fun j z hz i v hv => by
    obtain ⟨b, off, e, _, hc⟩ := h j z hz
    cases e
    have := hc i v hv
    rw [cell_of_block blk, Nat.zero_add] at this
    exact this
  intro j z hz
  refine ⟨g, 0, rfl, by rw [hsz]; exact (Array.getElem?_eq_some_iff.1 blk).1, fun i v hv => ?_⟩
  have hi : i < 5 := by rw [← encT_len z]; exact (List.getElem?_eq_some_iff.1 hv).1
  rw [cell_of_block kb, Nat.zero_add]
  by_cases e : j = p
  · subst e
    rw [List.getElem?_set_self hp] at hz
    cases hz
    by_cases i4 : i = 4
    · subst i4
      rw [Array.getElem?_setIfInBounds_self_of_lt (by omega)]
      exact hv
    · rw [Array.getElem?_setIfInBounds_ne (by omega)]
      refine hold j y hy i v ?_
      match i, hi, i4, hv with
      | 0, _, _, hv => exact hv
      | 1, _, _, hv => exact hv
      | 2, _, _, hv => exact hv
      | 3, _, _, hv => exact hv
      | 4, _, h4, _ => exact absurd rfl h4
  · rw [List.getElem?_set_ne (fun e' => e e'.symm)] at hz
    rw [Array.getElem?_setIfInBounds_ne (by omega)]
    exact hold j z hz i v hv

set_option maxHeartbeats 4000000 in
theorem long (W : World) (k : Int) (s : ByteArray) (t : Int) (q : Option Addr) (c n : Nat) (at_ : Int) (more : Int) (r x : Int) (h : 60 < n ∨ n = 0) :
    Calls Try.prog 6 #[.agg (metC k s t), .slice q n c, .int .i64 at_, .int .u32 more, .int .i64 r, .int .i64 x] W fun e W' => e = .returned (.bool true) ∧ Below W.heap.size W W' := by
  obtain ⟨M, hM⟩ : ∃ M, M = metC k s t := ⟨_, rfl⟩
  rw [← hM]
  obtain ⟨w1, B, HW, Ba, y0⟩ := box1' W M
  have HBa := Lib.hid Ba
  have CL := Lib.hid (fun w => plives w)
  clear hM y0 Ba
  rcases h with h | h
  · have t1 : 60 < n := h
    go_enter Try.func6, Try.ntmps6
    go_upto_region 1 with fail
    rw [HW.out.1, HW.out.2]
    go_wp2_with fail
    refine (CL.out _).mono ?_
    rintro y w2 ⟨rfl, b2⟩
    have B2 := Lib.hid (HBa.out.trans (b2.mono HBa.out.size))
    clear b2
    go_wp2_with fail
    refine (CL.out _).mono ?_
    rintro y w3 ⟨rfl, b3⟩
    have B3 := Lib.hid (B2.out.trans (b3.mono B2.out.size))
    clear b3 B2 CL HBa
    go_wp2
    go_ret
    exact ⟨rfl, B3.out⟩
  · subst h
    go_enter Try.func6, Try.ntmps6
    go_upto_region 1 with fail
    rw [HW.out.1, HW.out.2]
    go_wp2_with fail
    refine (CL.out _).mono ?_
    rintro y w2 ⟨rfl, b2⟩
    have B2 := Lib.hid (HBa.out.trans (b2.mono HBa.out.size))
    clear b2
    go_wp2_with fail
    refine (CL.out _).mono ?_
    rintro y w3 ⟨rfl, b3⟩
    have B3 := Lib.hid (B2.out.trans (b3.mono B2.out.size))
    clear b3 B2 CL HBa
    go_wp2
    go_ret
    exact ⟨rfl, B3.out⟩

set_option maxHeartbeats 16000000 in
theorem short (W : World) (k : Int) (s : ByteArray) (t : Int) (q : Option Addr) (c : Nat) (l : List Ut) (hr : RowR 5 encT W q l) (at_ : Int) (m : Nat) (hm : m < 4294967296) (r x : Int) (h60 : ¬ 60 < l.length) (h0 : l.length ≠ 0) :
    Calls Try.prog 6 #[.agg (metC k s t), .slice q l.length c, .int .i64 at_, .int .u32 (m : Int), .int .i64 r, .int .i64 x] W fun e W' => e = .returned (.bool true) ∧ Below W.heap.size W W' := by
  obtain ⟨M, hM⟩ : ∃ M, M = metC k s t := ⟨_, rfl⟩
  have sM : M.size = 3 := by rw [hM]; rfl
  have CR : Hid (∀ w, Below W.heap.size W w → Calls Try.prog 14 #[.agg M, .slice q l.length c, .int .i64 r, .int .i64 x] w fun e w' => e = .returned (.tuple #[.int .i64 (rowA k t l r x).1, .int .i64 (rowA k t l r x).2]) ∧ Below w.heap.size w w') := fun w b => by
    rw [hM]
    exact pp_row w k s t r x q c l (hr.below b) (by omega)
  have CR2 : Hid (∀ w q2 c2 (l2 : List Ut), l2.length = l.length → RowR 5 encT w q2 l2 → Calls Try.prog 14 #[.agg M, .slice q2 l.length c2, .int .i64 r, .int .i64 x] w fun e w' => e = .returned (.tuple #[.int .i64 (rowA k t l2 r x).1, .int .i64 (rowA k t l2 r x).2]) ∧ Below w.heap.size w w') := fun w q2 c2 l2 e h => by
    rw [hM, ← e]
    exact pp_row w k s t r x q2 c2 l2 h (by omega)
  rw [← hM]
  obtain ⟨w1, B, HW, Ba, y0⟩ := box1' W M
  have LMa : Hid (∀ w, Below w1.heap.size w1 w → (Instr.loadAt MT (.pointer (some ⟨B, 0, none⟩))).run Try.prog w = .ok (.agg M) w) := fun w b => load_met ((b.block B (Array.getElem?_eq_some_iff.1 y0).1).trans y0) sM
  have HBa := Lib.hid Ba
  have CL := Lib.hid (fun w => plives w)
  obtain ⟨n, hn⟩ : ∃ n, n = l.length := ⟨_, rfl⟩
  rw [← hn] at h60 h0 CR CR2
  rw [← hn]
  obtain ⟨p, hp⟩ : ∃ p, p = u64 at_ % n := ⟨_, rfl⟩
  have hpn : p < n := by rw [hp]; exact Nat.mod_lt _ (Nat.pos_of_ne_zero h0)
  obtain ⟨y, hy⟩ : ∃ y, l[p]? = some y := ⟨l[p]'(by omega), List.getElem?_eq_getElem (by omega)⟩
  have HP := Lib.hid (And.intro hr (And.intro hn hy))
  have u1 : IntKind.u64.wrap at_ = (u64 at_ : Int) := wrap_u64' at_
  have u2 : IntKind.u64.wrap (n : Int) = (n : Int) := by rw [IntKind.wrap_u64]; omega
  have u3 : IntKind.i64.wrap (p : Int) = (p : Int) := by rw [wrap_in (by omega)]
  have u4 : (u64 at_ : Int) % (n : Int) = (p : Int) := by rw [hp]; omega
  have u5 : ((u64 at_ % n : Nat) : Int) = (p : Int) := by rw [hp]
  have u6 : u64 at_ % n = p := hp.symm
  have n0 : (n == 0) = false := by simpa using h0
  have n0i : ((n : Int) == 0) = false := by simpa using h0
  have h60i : ¬ (60 : Int) < (n : Int) := by omega
  have i1 : (0 : Int) ≤ (p : Int) := by omega
  have i2 : (p : Int) < (n : Int) := by omega
  generalize u64 at_ = ua at u1 u4 u5 u6
  clear hM sM y0 Ba hr hn hp hy
  go_enter Try.func6, Try.ntmps6
  go_upto_region 1 with fail
  rw [HW.out.1, HW.out.2]
  go_wp2_with fail
  refine (CL.out _).mono ?_
  rintro e w2 ⟨rfl, b2⟩
  have B2 := Lib.hid b2
  have BW2 := Lib.hid (HBa.out.trans (b2.mono HBa.out.size))
  clear b2 CL
  obtain ⟨hr, hn, hy⟩ := HP.out
  obtain ⟨b, off, rfl, hra⟩ := rangeT hr hy BW2.out
  have c4 : w2.cell? ⟨b, off + p * 5 + 4, none⟩ = some (.int .i64 y.use) := hra 4 _ rfl
  obtain ⟨us, hus⟩ : ∃ u, u = y.use := ⟨_, rfl⟩
  rw [← hus] at c4
  have HUS := Lib.hid hus
  clear hr hn hy hra hus
  go_upto_region 4 with fail
  by_cases hu : us < 0
  · clear CR CR2 LMa
    go_wp2
    go_ret
    exact ⟨rfl, BW2.out⟩
  · by_cases hu2 : 1125899906842624 < us
    · clear CR CR2 LMa
      go_wp2
      go_ret
      exact ⟨rfl, BW2.out⟩
    · go_upto_region 6 with fail
      obtain ⟨hr, hn, hy⟩ := HP.out
      have b2a : Below w2.heap.size w2 (w2.alloc (.cells #[] UT)) := ((Gr.refl w2).alloc _).below
      have OW : Hid (OwnT w2.heap.size (w2.alloc (.cells #[] UT)) (.slice (some ⟨w2.heap.size, 0, none⟩) 0 0) []) :=
        ⟨rfl, .inr ⟨w2.heap.size, 0, #[], rfl, Nat.le_refl _, heap_alloc_new w2 _, Nat.zero_le _, Nat.zero_le _, rfl, rfl⟩⟩
      have HR := Lib.hid (hr.below (BW2.out.trans (b2a.mono BW2.out.size)))
      have HN := Lib.hid hn
      have HL : Hid (([] : List Ut).length + l.length ≤ 10000000) := by show _ ≤ _; simp; omega
      have BA := Lib.hid b2a
      clear hr hn hy b2a
      go_wp2_with (at_builtin; refine wpList_append_uts rfl _ _ rfl w2.heap.size (.slice (some ⟨w2.heap.size, 0, none⟩) 0 0) [] rfl OW.out (some ⟨b, off, none⟩) n c l HN.out rfl HR.out (fun e => by cases e) HL.out BA.out.size ?_; intro v3 w3 hO hg)
      obtain ⟨hr, hn, hy⟩ := HP.out
      have b23 : Below w2.heap.size w2 w3 := BA.out.grown hg BA.out.size (fun k e => by cases e; exact Nat.le_refl _)
      rw [List.nil_append] at hO
      obtain ⟨q3, c3, rfl, r3, _, z3⟩ := own_lies encT_len hO
      obtain ⟨bb, oo, hq3, _, _⟩ := r3 p y hy
      obtain ⟨g, cur, hg3, hN3, blk, sz⟩ := z3 _ hq3
      rw [hg3] at hq3
      subst hq3
      clear hg3
      have c5 : w3.cell? ⟨g, p * 5 + 4, none⟩ = some (.int .i64 us) := by
        obtain ⟨b', o', e', _, hc⟩ := r3 p y hy
        cases e'
        have := hc 4 _ rfl
        rw [Nat.zero_add] at this
        rw [this, HUS.out]
      have f5 : w3.frozen? ⟨g, p * 5 + 4, none⟩ = false := unfrozen_of_block blk _
      have u7 : IntKind.i64.wrap (m : Int) = (m : Int) := by rw [wrap_in (by omega)]
      have u8 : IntKind.i64.wrap (us + (m : Int)) = us + (m : Int) := by rw [wrap_in (by omega)]
      obtain ⟨w4, hw4⟩ : ∃ x, x = w3.setCell ⟨g, p * 5 + 4, none⟩ (.int .i64 (us + (m : Int))) := ⟨_, rfl⟩
      have R4 : RowR 5 encT w4 (some ⟨g, 0, none⟩) (l.set p (moreU y m)) := by
        rw [hw4, HUS.out]
        exact row_set r3 blk sz hy m
      have b12 := B2.out
      have s12 := b12.size
      have B14 : Hid (Below w1.heap.size w1 w4) := by
        rw [hw4]
        exact below_set1 (b12.trans (b23.mono s12)) (by omega) _
      have BW4 : Hid (Below W.heap.size W w4) := HBa.out.trans (B14.out.mono HBa.out.size)
      have HW4 : Hid (w3.setCell ⟨g, p * 5 + 4, none⟩ (.int .i64 (us + (m : Int))) = w4) := hw4.symm
      have GR : Hid ((rowA k t l r x).2 = 0 → (rowA k t (l.set p (moreU y m)) r x).2 = 0 → (rowA k t l r x).1 ≤ (rowA k t (l.set p (moreU y m)) r x).1) := grows k t l r x p m y hy (by have := HUS.out; omega)
      have CA := Lib.hid (CR.out w4 BW4.out)
      have CB : Hid (∀ w, Below w4.heap.size w4 w → Calls Try.prog 14 #[.agg M, .slice (some ⟨g, 0, none⟩) n c3, .int .i64 r, .int .i64 x] w fun e w' => e = .returned (.tuple #[.int .i64 (rowA k t (l.set p (moreU y m)) r x).1, .int .i64 (rowA k t (l.set p (moreU y m)) r x).2]) ∧ Below w.heap.size w w') := fun w bw => CR2.out w _ c3 _ (by rw [List.length_set, hn]) (R4.below bw)
      generalize (rowA k t l r x).1 = n1 at CA GR
      generalize (rowA k t l r x).2 = e1 at CA GR
      generalize (rowA k t (l.set p (moreU y m)) r x).1 = n2 at CB GR
      generalize (rowA k t (l.set p (moreU y m)) r x).2 = e2 at CB GR
      rw [← HN.out]
      have LM := Lib.hid (LMa.out _ B14.out)
      clear hr hn hy b23 hO hg r3 z3 blk sz hw4 R4 b12 s12 CR CR2 OW HR HL BA HP HUS hN3 hu hu2
      clear u1 u4 u5 u6 u2 n0 n0i h60i h60 hpn hm h0 u3 c4
      -- the walk stops at the index here: one step by hand
      go_upto_region 8 with fail
      go_simp
      go_upto_region 8 with fail
      rw [HW4.out]
      clear c5 f5 u7 u8 HW4
      go_wp2_with (refine wpList_load_by (by kernel_rfl) MT _ rfl (.pointer (some ⟨B, 0, none⟩)) (.agg M) (by rfl) LM.out ?_)
      refine CA.out.mono ?_
      rintro e w5 ⟨rfl, b5⟩
      have B5 := Lib.hid b5
      have b15 : Below w1.heap.size w1 w5 := B14.out.trans (b5.mono B14.out.size)
      have B15 := Lib.hid b15
      have C5 := Lib.hid (CB.out w5 b5)
      have LM5 := Lib.hid (LMa.out _ b15)
      clear b5 b15 LM CA CB LMa
      go_wp2_with (refine wpList_load_by (by kernel_rfl) MT _ rfl (.pointer (some ⟨B, 0, none⟩)) (.agg M) (by rfl) LM5.out ?_)
      refine C5.out.mono ?_
      rintro e w6 ⟨rfl, b6⟩
      have b16 : Below w1.heap.size w1 w6 := B15.out.trans (b6.mono B15.out.size)
      have FIN := Lib.hid (HBa.out.trans (b16.mono HBa.out.size))
      clear b6 b16 LM5 C5 B15 B5 B14 BW4 BW2 B2 HBa
      by_cases h1 : e1 = 0
      · by_cases h2 : e2 = 0
        · have h3 := GR.out h1 h2
          subst h1 h2
          clear GR
          go_wp2
          go_ret
          exact ⟨rfl, FIN.out⟩
        · have t2 : (e2 == 0) = false := by simpa using h2
          have t3 : (e2 != 0) = true := by simpa using h2
          subst h1
          clear GR
          go_wp2
          go_ret
          exact ⟨rfl, FIN.out⟩
      · have t2 : (e1 == 0) = false := by simpa using h1
        have t3 : (e1 != 0) = true := by simpa using h1
        clear GR
        go_wp2
        go_ret
        exact ⟨rfl, FIN.out⟩

theorem walk {H : Type} {enc : TypeId × Value → H} {base : Nat} (W : World) (v0 : Value) (d0 : DataW H) (p0 : List MemPlace) (o0 : Value.okWide Try.prog W .any base 24 v0) (h0 : DataW.Trod enc Try.prog W 0 (fun _ => true) true 24 v0 d0 p0)
    (v1 : Value) (d1 : DataW H) (p1 : List MemPlace) (o1 : Value.okWide Try.prog W .any base 38 v1) (h1 : DataW.Trod enc Try.prog W 0 (fun _ => true) true 38 v1 d1 p1)
    (v2 : Value) (d2 : DataW H) (p2 : List MemPlace) (o2 : Value.okWide Try.prog W .any base 3 v2) (h2 : DataW.Trod enc Try.prog W 0 (fun _ => true) true 3 v2 d2 p2)
    (v3 : Value) (d3 : DataW H) (p3 : List MemPlace) (o3 : Value.okWide Try.prog W .any base 49 v3) (h3 : DataW.Trod enc Try.prog W 0 (fun _ => true) true 49 v3 d3 p3)
    (v4 : Value) (d4 : DataW H) (p4 : List MemPlace) (o4 : Value.okWide Try.prog W .any base 3 v4) (h4 : DataW.Trod enc Try.prog W 0 (fun _ => true) true 3 v4 d4 p4)
    (v5 : Value) (d5 : DataW H) (p5 : List MemPlace) (o5 : Value.okWide Try.prog W .any base 3 v5) (h5 : DataW.Trod enc Try.prog W 0 (fun _ => true) true 3 v5 d5 p5)
    (wt0 : Wt 24 d0) (wt1 : Wt 38 d1) (wt2 : Wt 3 d2) (wt3 : Wt 49 d3) (wt4 : Wt 3 d4) (wt5 : Wt 3 d5) :
    Calls Try.prog 6 #[v0, v1, v2, v3, v4, v5] W fun e W' => e = .returned (.bool true) ∧ Below W.heap.size W W' := by
  obtain ⟨k, s, t, rfl, _, _, _⟩ := open_met o0 h0 wt0
  obtain ⟨q, c, l, rfl, hr, _, _⟩ := open_uts o1 h1 wt1
  obtain ⟨at_, rfl, rfl, rfl, _⟩ := open_int Try.underlying3 o2 h2
  obtain ⟨mo, rfl, rfl, rfl, wm⟩ := open_int Try.underlying49 o3 h3
  obtain ⟨r, rfl, rfl, rfl, _⟩ := open_int Try.underlying3 o4 h4
  obtain ⟨x, rfl, rfl, rfl, _⟩ := open_int Try.underlying3 o5 h5
  have hm : 0 ≤ mo ∧ mo < 4294967296 := by
    simp [Lit.wf, IntKind.min, IntKind.max, IntKind.signed, IntKind.bits] at wm
    omega
  obtain ⟨m, rfl⟩ : ∃ n : Nat, mo = (n : Int) := ⟨mo.toNat, by omega⟩
  by_cases h : 60 < l.length ∨ l.length = 0
  · exact long W k s t q c _ at_ _ r x h
  · exact short W k s t q c l hr at_ m (by omega) r x (fun h' => h (.inl h')) (fun h' => h (.inr h'))

/-! ### THE ROW's STEP -/
set_option maxRecDepth 100000 in
theorem lifted (os : Os) (started : os.Started) (H : Type) (enc : TypeId × Value → H) :
    ReturnsInHanded {} Try.checked os 6 .any (Rows.proposalGrowsSpec.pre6 enc Try.prog Try.f6 Rows.proposalGrowsRow.domain false) (Rows.proposalGrowsSpec.post enc Try.prog Try.f6 false true false false) := by
  refine returnsInHanded_of_change_sized (C := Try.checked) own started (by kernel_rfl) Try.func6
    (ChangeSpec.witness6 (enc := enc) (C := Try.checked) false ⟨#[], #[.agg #[.int .i64 0, .string ⟨#[]⟩, .int .i64 0], .slice none 0 0, .int .i64 0, .int .u32 0, .int .i64 0, .int .i64 0], []⟩ 8 (by kernel_rfl) (by kernel_rfl) (by kernel_rfl) (by kernel_rfl)) ?_
  intro W base args ds gs before hval0 hW hcnd hsz0 _
  have hval : ∀ (j : Nat) t v, Try.f6.params[j]? = some t → args[j]? = some v → Value.okWide Try.prog W .any base t v := hval0
  have hW' := hW
  obtain ⟨p, q, hA0, hV, rfl, hfz, hnd⟩ := hW
  have hA : DataW.TrodAll enc Try.prog W 0 (fun _ => true) true Try.f6.params.toList args.toList ds p := hA0
  have hlt : ∀ x ∈ p, x.block < W.heap.size := fun x hx => hW'.lt x (List.mem_append_left _ hx)
  rw [Try.params6] at hA hval
  have hread : ∀ t ∈ [24, 38, 3, 49, 3, 3], Try.prog.readableRec t = true ∧ t < Try.prog.types.size := by
    intro t ht
    simp only [List.mem_cons, List.not_mem_nil, or_false] at ht
    rcases ht with rfl | rfl | rfl | rfl | rfl | rfl <;> exact ⟨by kernel_rfl, of_decide_eq_true (by kernel_rfl)⟩
  have again : ∀ (W' : World), Below W.heap.size W W' → ∀ sp : Nat → Bool, (∀ x ∈ p, sp x.block = true) → DataW.TrodAll enc Try.prog W' 0 sp true [24, 38, 3, 49, 3, 3] args.toList ds p :=
    fun W' hb sp hsp => all_again (by kernel_rfl) hb [24, 38, 3, 49, 3, 3] args.toList ds p hread hA hlt hsp
  obtain ⟨v0, vs0, d0, ds0, p0, q0, hargs, rfl, rfl, h0, r0⟩ := trodAll_cons hA
  obtain ⟨v1, vs1, d1, ds1, p1, q1, rfl, rfl, rfl, h1, r1⟩ := trodAll_cons r0
  obtain ⟨v2, vs2, d2, ds2, p2, q2, rfl, rfl, rfl, h2, r2⟩ := trodAll_cons r1
  obtain ⟨v3, vs3, d3, ds3, p3, q3, rfl, rfl, rfl, h3, r3⟩ := trodAll_cons r2
  obtain ⟨v4, vs4, d4, ds4, p4, q4, rfl, rfl, rfl, h4, r4⟩ := trodAll_cons r3
  obtain ⟨v5, vs5, d5, ds5, p5, q5, rfl, rfl, rfl, h5, r5⟩ := trodAll_cons r4
  obtain ⟨rfl, rfl, rfl⟩ := trodAll_nil r5
  obtain rfl : args = #[v0, v1, v2, v3, v4, v5] := by cases args; simp_all
  obtain ⟨rfl, rfl⟩ := trodVars_none hV
  have wt0 : Wt 24 d0 := fun n hn => by
    have := List.all_eq_true.1 hsz0 n (DataW.weights_mem_each (j := 0) (t := 24) (d := d0) (by kernel_rfl) rfl n hn)
    simpa using this
  have wt1 : Wt 38 d1 := fun n hn => by
    have := List.all_eq_true.1 hsz0 n (DataW.weights_mem_each (j := 1) (t := 38) (d := d1) (by kernel_rfl) rfl n hn)
    simpa using this
  have wt2 : Wt 3 d2 := fun n hn => by
    have := List.all_eq_true.1 hsz0 n (DataW.weights_mem_each (j := 2) (t := 3) (d := d2) (by kernel_rfl) rfl n hn)
    simpa using this
  have wt3 : Wt 49 d3 := fun n hn => by
    have := List.all_eq_true.1 hsz0 n (DataW.weights_mem_each (j := 3) (t := 49) (d := d3) (by kernel_rfl) rfl n hn)
    simpa using this
  have wt4 : Wt 3 d4 := fun n hn => by
    have := List.all_eq_true.1 hsz0 n (DataW.weights_mem_each (j := 4) (t := 3) (d := d4) (by kernel_rfl) rfl n hn)
    simpa using this
  have wt5 : Wt 3 d5 := fun n hn => by
    have := List.all_eq_true.1 hsz0 n (DataW.weights_mem_each (j := 5) (t := 3) (d := d5) (by kernel_rfl) rfl n hn)
    simpa using this
  clear hA0 hval0
  simp only [List.append_nil] at hW' again
  refine (walk W v0 d0 p0 (hval 0 24 v0 rfl rfl) h0 v1 d1 p1 (hval 1 38 v1 rfl rfl) h1 v2 d2 p2 (hval 2 3 v2 rfl rfl) h2 v3 d3 p3 (hval 3 49 v3 rfl rfl) h3 v4 d4 p4 (hval 4 3 v4 rfl rfl) h4 v5 d5 p5 (hval 5 3 v5 rfl rfl) h5 wt0 wt1 wt2 wt3 wt4 wt5).mono fun e W' ⟨he, hg⟩ => ?_
  subst he
  exact ⟨_, rfl, post_below hW' hg (fun _ _ _ => trodAll_mk1 (shut_bool Try.underlying4 _)) (fun sp hsp => again W' hg sp hsp) (fun _ => rfl) (ok_one (by kernel_rfl) rfl (okWide_bool_mk Try.underlying4 _))⟩

theorem over : Rows.proposalGrowsRow.holds Try.pinned (OpenSpec.ofChange Rows.proposalGrowsSpec) :=
  OpenClaim.holds_of_wide 6 Try.f6 rfl rfl rfl rfl rfl rfl rfl ⟨rfl, rfl, rfl, rfl, rfl⟩ rfl rfl rfl rfl rfl (by kernel_rfl) Try.func6 (by kernel_rfl)
    (of_decide_eq_true (by kernel_rfl)) (by unfold Func.isWrapper; first | (rw [if_pos (by decide +kernel)]; kernel_rfl) | (rw [if_neg (by decide +kernel)]; exact ⟨rfl, rfl⟩))
    (fun os started H enc _ => lifted os started H enc)

/-- The statement. -/
theorem proved : Rows.ProposalGrowsSaid :=
  over
#print axioms proved
end Go.Proofs.Ytajkhbdniadkkaa.proposalGrows


