/- Proved here: the law WindowHolds of layer 21 holds for every input: the stable number at the last tick is never below the least of how many there are and the greatest proposal within the down window, nor above the greatest of how many there are and the least one within the up window; and the chapter's example. No conditions. -/
import Derived.Test.YtcejaeeliedldaaWnQ
import Derived.Test.YtcejaeeliedldaaWnLawBase
namespace Go.Proofs.Ytcejaeeliedldaa.windowHolds
open Go.ChangeShapes Go.WideShapes Go.ChangeAt Go.RowKit Go.Lib Go.Shelf Go.Sort Go.Deep
open Go.Joins (cell_of_block unfrozen_of_block block_setCell)
open Go.Proofs.Ytcejaeeliedldaa.Ow Go.Proofs.Ytcejaeeliedldaa.Wn
set_option linter.unusedVariables false
set_option linter.unusedSimpArgs false
set_option maxRecDepth 20000

set_option maxHeartbeats 4000000 in
theorem long (W : World) (q : Option Addr) (c n : Nat) (there up down : Int) (h : 100 < n) :
    Calls Try.prog 4 #[.slice q n c, .int .i64 there, .int .i64 up, .int .i64 down] W fun e W' => e = .returned (.bool true) ∧ Below W.heap.size W W' := by
  have CL := Lib.hid (fun w => wlives w)
  go_enter Try.func4, Try.ntmps4
  go_wp2_with fail
  refine (CL.out _).mono ?_
  rintro y w2 ⟨rfl, b2⟩
  have B2 := Lib.hid b2
  clear b2
  go_wp2_with fail
  refine (CL.out _).mono ?_
  rintro y w3 ⟨rfl, b3⟩
  have B3 := Lib.hid (B2.out.trans (b3.mono B2.out.size))
  clear b3 B2 CL
  go_wp2
  go_ret
  exact ⟨rfl, B3.out⟩

set_option maxHeartbeats 16000000 in
theorem short (W : World) (q : Option Addr) (c : Nat) (l : List Nt) (hr : RowR 2 encN W q l) (hl : l.length ≤ 100) (there up down : Int) :
    Calls Try.prog 4 #[.slice q l.length c, .int .i64 there, .int .i64 up, .int .i64 down] W fun e W' => e = .returned (.bool true) ∧ Below W.heap.size W W' := by
  have mixed : Try.prog.follows .mixedOrders = true := by kernel_rfl
  have CL := Lib.hid (fun w => wlives w)
  have CN := Lib.hid (fun w => new_any w)
  have CK : Hid (∀ (w : World) (N mb : Nat) (v : Value), Below W.heap.size W w → Mem N w mb v [] → W.heap.size ≤ N → Calls Try.prog 8 #[.pointer (some ⟨mb, 0, none⟩), .slice q l.length c] w fun e w' => (∃ q' c' vo o v' L, e = .returned (.tuple #[.slice q' (leftN o).length c', .bool true]) ∧ Kp N mb w w' vo o v' L ∧ L.length ≤ 100 ∧ o.length ≤ 100 ∧ RowR 2 encN w' q' (leftN o)) ∧ Below N w w') := fun w N mb v b m hN => kept_any W w b N mb v m hN q c l hr hl
  obtain ⟨n, hn⟩ : ∃ n, n = l.length := ⟨_, rfl⟩
  rw [← hn] at CK hl ⊢
  have t1 : ¬ 100 < n := by omega
  clear hr hn
  go_enter Try.func4, Try.ntmps4
  go_wp2_with fail
  refine (CL.out _).mono ?_
  rintro y w1 ⟨rfl, b1⟩
  have B1 := Lib.hid b1
  clear b1 CL
  go_wp2_with fail
  refine (CN.out _).mono ?_
  rintro y w2 ⟨⟨v, rfl, m2⟩, b2⟩
  obtain ⟨mb, hmb⟩ : ∃ mb, mb = w1.heap.size := ⟨_, rfl⟩
  rw [← hmb] at m2
  rw [← hmb]
  have C2 := Lib.hid (CK.out w2 mb mb v (B1.out.trans (b2.mono B1.out.size)) m2 (by have := B1.out.size; omega))
  have B2 : Hid (Below W.heap.size W w2 ∧ W.heap.size ≤ mb) := ⟨B1.out.trans (b2.mono B1.out.size), by have := B1.out.size; omega⟩
  clear CN CK m2 b2 hmb B1
  go_wp2_with fail
  refine C2.out.mono ?_
  rintro y w3 ⟨⟨q', c', vo, o, v', L, rfl, kp, hL, ho, rr⟩, b3⟩
  have B3 : Hid (Below W.heap.size W w3) := B2.out.1.trans (b3.mono B2.out.2)
  clear C2 b3
  by_cases he : o = []
  · have e0 : (leftN o).length = 0 := by rw [he]; rfl
    rw [e0]
    clear kp rr he e0 hL ho
    go_wp2
    go_ret
    exact ⟨rfl, B3.out⟩
  · obtain ⟨l1, x, el, ex, hxo⟩ := left_last he
    have hx : (leftN o)[l1.length]? = some x := by rw [el]; simp
    obtain ⟨g, off, rfl, c0, _⟩ := note_at rr (Below.refl _ w3) hx
    obtain ⟨m, hm⟩ : ∃ m, m = (leftN o).length := ⟨_, rfl⟩
    obtain ⟨k, hk⟩ : ∃ k, k = l1.length := ⟨_, rfl⟩
    have hmk : m = k + 1 := by rw [hm, el, hk]; simp
    have hx0 := (kp.rep.ok x hxo).1
    have hx1 := kp.rep.top
    rw [← ex] at hx1
    have hm9 : (leftN o).length ≤ 1000000 := by have := left_len o; omega
    have HK : Hid (∀ w, Below w3.heap.size w3 w → Calls Try.prog 15 #[.pointer (some ⟨mb, 0, none⟩), .int .i64 x.1, .int .i64 there, .int .i64 up, .int .i64 down] w fun e w' => e = .returned (.int .i64 (stV L x.1 there up down)) ∧ Below w.heap.size w w') := fun w b => stable_any mb w mb v' L (kp.mem.below b) (by omega) kp.rep.ris x.1 there up down (by omega)
    have HU : Hid (∀ w win, Below w3.heap.size w3 w → Calls Try.prog 12 #[.slice (some ⟨g, off, none⟩) m c', .int .i64 x.1, .int .i64 win] w fun e w' => e = .returned (.tuple #[.int .i64 (goN x.1 (widN win) (leftN o)).1, .int .i64 (goN x.1 (widN win) (leftN o)).2.1, .bool (goN x.1 (widN win) (leftN o)).2.2]) ∧ Below w.heap.size w w') := fun w win b => by
      rw [hm]
      exact told_any w3 w b _ c' (leftN o) rr hm9 kp.rep.leftOk x.1 win hx0 (by omega)
    have RG : Hid (min there (goN x.1 (widN down) (leftN o)).2.1 ≤ stV L x.1 there up down ∧ stV L x.1 there up down ≤ max there (goN x.1 (widN up) (leftN o)).1) := by
      refine stab_range _ _ _ _ _ _ _ (fun h => ?_) (fun h => ?_)
      · rcases kp.rep.tells x.1 up with ⟨h1, _⟩ | ⟨_, _, h3, _⟩
        · rw [h] at h1; cases h1
        · exact h3
      · rcases kp.rep.tells x.1 down with ⟨h1, _⟩ | ⟨_, _, _, h4⟩
        · rw [h] at h1; cases h1
        · exact h4
    have HU1 := Lib.hid (fun w => HU.out w up)
    have HU2 := Lib.hid (fun w => HU.out w down)
    generalize (goN x.1 (widN up) (leftN o)).1 = low at HU1 RG
    generalize (goN x.1 (widN up) (leftN o)).2.1 = high' at HU1
    generalize (goN x.1 (widN up) (leftN o)).2.2 = some' at HU1
    generalize (goN x.1 (widN down) (leftN o)).1 = low' at HU2
    generalize (goN x.1 (widN down) (leftN o)).2.1 = high at HU2 RG
    generalize (goN x.1 (widN down) (leftN o)).2.2 = also at HU2
    generalize stV L x.1 there up down = S at HK RG
    generalize x.1 = now at HK HU1 HU2 c0
    have m0 : ((m : Int) == 0) = false := by simp; omega
    have wm : IntKind.i64.wrap ((m : Int) - 1) = (k : Int) := by rw [IntKind.wrap_i64]; omega
    have k0 : (0 : Int) ≤ (k : Int) := by omega
    have k1 : (k : Int) < (m : Int) := by omega
    rw [← hm]
    rw [← hk] at c0
    clear HU hx hm hk hmk hx0 hx1 hm9 el ex hxo rr kp hL ho he
    have r1 : decide (S ≥ min there high) = true := decide_eq_true RG.out.1
    have r2 : decide (S ≤ max there low) = true := decide_eq_true RG.out.2
    clear RG
    go_wp2_with fail
    refine (HK.out w3 (Below.refl _ _)).mono ?_
    rintro y w4 ⟨rfl, b4⟩
    have C4 := Lib.hid (HU1.out w4 b4)
    have B4 := Lib.hid b4
    clear HK HU1 b4 c0
    go_wp2_with fail
    refine C4.out.mono ?_
    rintro y w5 ⟨rfl, b5⟩
    have b35 := B4.out.trans (b5.mono B4.out.size)
    have C5 := Lib.hid (HU2.out w5 b35)
    have B5 := Lib.hid b35
    clear C4 B4 HU2 b5 b35
    go_wp2_with fail
    refine C5.out.mono ?_
    rintro y w6 ⟨rfl, b6⟩
    have B6 : Hid (Below W.heap.size W w6) := B3.out.trans ((B5.out.trans (b6.mono B5.out.size)).mono B3.out.size)
    clear C5 B5 b6
    go_wp2
    go_ret
    exact ⟨rfl, B6.out⟩

theorem walk {H : Type} {enc : TypeId × Value → H} {base : Nat} (W : World) (v0 : Value) (d0 : DataW H) (p0 : List MemPlace) (o0 : Value.okWide Try.prog W .any base 22 v0) (h0 : DataW.Trod enc Try.prog W 0 (fun _ => true) true 22 v0 d0 p0)
    (v1 : Value) (d1 : DataW H) (p1 : List MemPlace) (o1 : Value.okWide Try.prog W .any base 3 v1) (h1 : DataW.Trod enc Try.prog W 0 (fun _ => true) true 3 v1 d1 p1)
    (v2 : Value) (d2 : DataW H) (p2 : List MemPlace) (o2 : Value.okWide Try.prog W .any base 3 v2) (h2 : DataW.Trod enc Try.prog W 0 (fun _ => true) true 3 v2 d2 p2)
    (v3 : Value) (d3 : DataW H) (p3 : List MemPlace) (o3 : Value.okWide Try.prog W .any base 3 v3) (h3 : DataW.Trod enc Try.prog W 0 (fun _ => true) true 3 v3 d3 p3)
    (wt0 : Wt 22 d0) (wt1 : Wt 3 d1) (wt2 : Wt 3 d2) (wt3 : Wt 3 d3) :
    Calls Try.prog 4 #[v0, v1, v2, v3] W fun e W' => e = .returned (.bool true) ∧ Below W.heap.size W W' := by
  obtain ⟨q, c, l, rfl, hr, _, _⟩ := open_notes o0 h0 wt0
  obtain ⟨b, rfl, rfl, rfl, _⟩ := open_int Try.underlying3 o1 h1
  obtain ⟨u, rfl, rfl, rfl, _⟩ := open_int Try.underlying3 o2 h2
  obtain ⟨d, rfl, rfl, rfl, _⟩ := open_int Try.underlying3 o3 h3
  rcases Nat.lt_or_ge 100 l.length with h | h
  · exact long W q c _ b u d h
  · exact short W q c l hr h b u d

/-! ### THE ROW's STEP -/
set_option maxRecDepth 100000 in
theorem lifted (os : Os) (started : os.Started) (H : Type) (enc : TypeId × Value → H) :
    ReturnsInHanded {} Try.checked os 4 .any (Rows.windowHoldsSpec.pre6 enc Try.prog Try.f4 Rows.windowHoldsRow.domain false) (Rows.windowHoldsSpec.post enc Try.prog Try.f4 false true false false) := by
  refine returnsInHanded_of_change_sized (C := Try.checked) own started (by kernel_rfl) Try.func4
    (ChangeSpec.witness6 (enc := enc) (C := Try.checked) false ⟨#[], #[.slice none 0 0, .int .i64 0, .int .i64 0, .int .i64 0], []⟩ 8 (by kernel_rfl) (by kernel_rfl) (by kernel_rfl) (by kernel_rfl)) ?_
  intro W base args ds gs before hval0 hW hcnd hsz0 _
  have hval : ∀ (j : Nat) t v, Try.f4.params[j]? = some t → args[j]? = some v → Value.okWide Try.prog W .any base t v := hval0
  have hW' := hW
  obtain ⟨p, q, hA0, hV, rfl, hfz, hnd⟩ := hW
  have hA : DataW.TrodAll enc Try.prog W 0 (fun _ => true) true Try.f4.params.toList args.toList ds p := hA0
  have hlt : ∀ x ∈ p, x.block < W.heap.size := fun x hx => hW'.lt x (List.mem_append_left _ hx)
  rw [Try.params4] at hA hval
  have hread : ∀ t ∈ [22, 3, 3, 3], Try.prog.readableRec t = true ∧ t < Try.prog.types.size := by
    intro t ht
    simp only [List.mem_cons, List.not_mem_nil, or_false] at ht
    rcases ht with rfl | rfl | rfl | rfl <;> exact ⟨by kernel_rfl, of_decide_eq_true (by kernel_rfl)⟩
  have again : ∀ (W' : World), Below W.heap.size W W' → ∀ sp : Nat → Bool, (∀ x ∈ p, sp x.block = true) → DataW.TrodAll enc Try.prog W' 0 sp true [22, 3, 3, 3] args.toList ds p :=
    fun W' hb sp hsp => all_again (by kernel_rfl) hb [22, 3, 3, 3] args.toList ds p hread hA hlt hsp
  obtain ⟨v0, v1, v2, v3, d0, d1, d2, d3, p0, p1, p2, p3, rfl, rfl, rfl, h0, h1, h2, h3⟩ := trodAll_four hA
  obtain ⟨rfl, rfl⟩ := trodVars_none hV
  have wt0 : Wt 22 d0 := fun n hn => by
    have := List.all_eq_true.1 hsz0 n (DataW.weights_mem_each (j := 0) (t := 22) (d := d0) (by kernel_rfl) rfl n hn)
    simpa using this
  have wt1 : Wt 3 d1 := fun n hn => by
    have := List.all_eq_true.1 hsz0 n (DataW.weights_mem_each (j := 1) (t := 3) (d := d1) (by kernel_rfl) rfl n hn)
    simpa using this
  have wt2 : Wt 3 d2 := fun n hn => by
    have := List.all_eq_true.1 hsz0 n (DataW.weights_mem_each (j := 2) (t := 3) (d := d2) (by kernel_rfl) rfl n hn)
    simpa using this
  have wt3 : Wt 3 d3 := fun n hn => by
    have := List.all_eq_true.1 hsz0 n (DataW.weights_mem_each (j := 3) (t := 3) (d := d3) (by kernel_rfl) rfl n hn)
    simpa using this
  clear hA0 hval0
  simp only [List.append_nil] at hW' again
  refine (walk W v0 d0 p0 (hval 0 22 v0 rfl rfl) h0 v1 d1 p1 (hval 1 3 v1 rfl rfl) h1 v2 d2 p2 (hval 2 3 v2 rfl rfl) h2 v3 d3 p3 (hval 3 3 v3 rfl rfl) h3 wt0 wt1 wt2 wt3).mono fun e W' ⟨he, hg⟩ => ?_
  subst he
  exact ⟨_, rfl, post_below hW' hg (fun _ _ _ => trodAll_mk1 (shut_bool Try.underlying4 _)) (fun sp hsp => again W' hg sp hsp) (fun _ => rfl) (ok_one (by kernel_rfl) rfl (okWide_bool_mk Try.underlying4 _))⟩

theorem over : Rows.windowHoldsRow.holds Try.pinned (OpenSpec.ofChange Rows.windowHoldsSpec) :=
  OpenClaim.holds_of_wide 4 Try.f4 rfl rfl rfl rfl rfl rfl rfl ⟨rfl, rfl, rfl, rfl, rfl⟩ rfl rfl rfl rfl rfl (by kernel_rfl) Try.func4 (by kernel_rfl)
    (of_decide_eq_true (by kernel_rfl)) (by unfold Func.isWrapper; first | (rw [if_pos (by decide +kernel)]; kernel_rfl) | (rw [if_neg (by decide +kernel)]; exact ⟨rfl, rfl⟩))
    (fun os started H enc _ => lifted os started H enc)

/-- The statement. -/
theorem proved : Rows.WindowHoldsSaid :=
  over
#print axioms proved
end Go.Proofs.Ytcejaeeliedldaa.windowHolds


