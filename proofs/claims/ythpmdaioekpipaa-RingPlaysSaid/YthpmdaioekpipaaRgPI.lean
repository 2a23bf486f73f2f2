/- A ring of int: one more. -/
import Derived.Test.YthpmdaioekpipaaRgDI
import Derived.IntWalk
namespace Go.Proofs.Ythpmdaioekpipaa
open Go.RowKit Go.Lib
open Go.Joins (cell_of_block unfrozen_of_block block_setCell)
set_option linter.unusedVariables false
set_option linter.unusedSimpArgs false
set_option maxRecDepth 20000

theorem put_nilI (w : World) (xa : Int) (xv : Int) : Calls Try.prog 7 #[.pointer none, .int .i64 xa, (.int .i64 xv)] w fun e w' => e = .returned (.int .i64 1) ∧ w = w' := by
  go_enter Try.func7, Try.ntmps7
  go_wp2
  go_ret
  exact ⟨rfl, rfl⟩
theorem put_belowI (w : World) (rb gb n cp f m : Nat) (c : Nat → Int × Int) (h : RgI w rb gb n cp f m c) (xa : Int) (xv : Int) (hx : xa < 0) : Calls Try.prog 7 #[.pointer (some ⟨rb, 0, none⟩), .int .i64 xa, (.int .i64 xv)] w fun e w' => e = .returned (.int .i64 1) ∧ w = w' := by
  have c0 := h.c0
  have hn := h.hn
  have hn0 : ((n : Int) == 0) = false := by rw [beq_eq_false_iff_ne]; omega
  clear h
  go_enter Try.func7, Try.ntmps7
  go_wp2
  go_ret
  exact ⟨rfl, rfl⟩
/-- What Last says. -/
theorem last_isI (w : World) (rb gb n : Nat) (L : List (Int × Int)) (H : HasI w rb gb n L) (P : Int → Prop) (h : ∀ y, L.getLast? = some y → P y.1) :
    ∃ (ya : Int) (yv : Int) (b : Bool), Hid (Calls Try.prog 11 #[.pointer (some ⟨rb, 0, none⟩)] w fun e w' => e = .returned (.tuple #[.agg #[.int .i64 ya, (.int .i64 yv)], .bool b]) ∧ Below w.heap.size w w') ∧ (b = true → P ya) := by
  rcases List.eq_nil_or_concat L with rfl | ⟨l, y, rfl⟩
  · exact ⟨0, 0, false, last_emptyI w rb gb n H, fun e => by cases e⟩
  · rw [List.concat_eq_append] at H h
    exact ⟨y.1, y.2, true, last_someI w rb gb n l y H, fun _ => h y (by simp)⟩

set_option maxHeartbeats 1000000 in
theorem put_staleI (w : World) (rb gb n : Nat) (L : List (Int × Int)) (y : Int × Int) (H : HasI w rb gb n (L ++ [y])) (xa : Int) (xv : Int) (h0 : 0 ≤ xa) (hy : xa ≤ y.1) :
    Calls Try.prog 7 #[.pointer (some ⟨rb, 0, none⟩), .int .i64 xa, (.int .i64 xv)] w fun e w' => e = .returned (.int .i64 13) ∧ Below w.heap.size w w' := by
  have CL := Lib.hid (last_someI w rb gb n L y H)
  obtain ⟨cp, f, c, h, _⟩ := H
  obtain ⟨ya, yv⟩ := y
  simp only at CL hy
  have c0 := h.c0
  have hn := h.hn
  have hn0 : ((n : Int) == 0) = false := by rw [beq_eq_false_iff_ne]; omega
  have hx : ¬ xa < 0 := by omega
  clear h
  go_enter Try.func7, Try.ntmps7
  go_wp2_with fail
  refine CL.out.mono ?_
  rintro e w1 ⟨rfl, b1⟩
  have B1 := Lib.hid b1
  clear b1 CL
  go_upto_region 4 with fail
  obtain ⟨A, hA⟩ : ∃ A, A = w1.heap.size := ⟨_, rfl⟩
  obtain ⟨w2, hw2⟩ : ∃ w2, w2 = w1.alloc (.cells #[.int .i64 ya, (.int .i64 yv)] TSI) := ⟨_, rfl⟩
  have k0 : w2.heap[A]? = some (.cells #[.int .i64 ya, (.int .i64 yv)] TSI (0, 0)) := by rw [hw2, hA]; exact heap_alloc_new w1 _
  have d0 : w2.cell? ⟨A, 0, none⟩ = some (.int .i64 ya) := cell_of_block k0 0
  have B2 : Hid (Below w.heap.size w w2) := by show Below _ _ _; rw [hw2]; exact B1.out.alloc B1.out.size _
  rw [← hw2, ← hA]
  clear hw2 k0 hA
  go_wp2
  go_ret
  exact ⟨rfl, B2.out⟩

set_option maxHeartbeats 2000000 in
theorem put_okI (w : World) (rb gb n : Nat) (L : List (Int × Int)) (H : HasI w rb gb n L) (xa : Int) (xv : Int) (h0 : 0 ≤ xa) (hl : ∀ y, L.getLast? = some y → y.1 < xa) :
    Calls Try.prog 7 #[.pointer (some ⟨rb, 0, none⟩), .int .i64 xa, (.int .i64 xv)] w fun e w' => e = .returned (.int .i64 0) ∧ HasI w' rb gb n ((if L.length = n then L.drop 1 else L) ++ [(xa, xv)]) ∧ Tch [rb, gb] w w' := by
  have mixed : Try.prog.follows .mixedOrders = true := by kernel_rfl
  obtain ⟨ya, yv, b, CL, hb⟩ := last_isI w rb gb n L H (fun t => t < xa) hl
  obtain ⟨cp, f, c, h, hc⟩ := H
  obtain ⟨m, hm⟩ : ∃ m, m = L.length := ⟨_, rfl⟩
  rw [← hm] at h
  have c0 := h.c0
  have hn := h.hn
  have hmn := h.hm
  have hn0 : ((n : Int) == 0) = false := by rw [beq_eq_false_iff_ne]; omega
  have hx : ¬ xa < 0 := by omega
  have HH := Lib.hid (And.intro h (And.intro hc hm))
  clear h hc hl
  rw [← hm]
  clear hm
  obtain ⟨L3, hL3'⟩ : ∃ L3, L3 = if m = n then L.drop 1 else L := ⟨_, rfl⟩
  rw [← hL3']
  have HL := Lib.hid hL3'
  clear hL3'
  have hcase : b = false ∨ (b = true ∧ ¬ (xa ≤ ya)) := by
    cases b with
    | false => exact .inl rfl
    | true => exact .inr ⟨rfl, by have := hb rfl; omega⟩
  clear hb
  rcases hcase with rfl | ⟨rfl, hgt⟩ <;> by_cases hfull : m = n
  all_goals
    go_enter Try.func7, Try.ntmps7
    go_wp2_with fail
    refine CL.out.mono ?_
    rintro e w1 ⟨rfl, b1⟩
    have B1 := Lib.hid b1
    clear b1 CL c0
    go_upto_region 4 with fail
    obtain ⟨A, hA⟩ : ∃ A, A = w1.heap.size := ⟨_, rfl⟩
    obtain ⟨w2, hw2⟩ : ∃ w2, w2 = w1.alloc (.cells #[.int .i64 ya, (.int .i64 yv)] TSI) := ⟨_, rfl⟩
    rw [← hA]
    first | rw [← hw2] | fail "world"
    have k0 : w2.heap[A]? = some (.cells #[.int .i64 ya, (.int .i64 yv)] TSI (0, 0)) := by rw [hw2, hA]; exact heap_alloc_new w1 _
    have d0 : w2.cell? ⟨A, 0, none⟩ = some (.int .i64 ya) := cell_of_block k0 0
    have b2 : Below w.heap.size w w2 := by rw [hw2]; exact B1.out.alloc B1.out.size _
    have B2 := Lib.hid b2
    have h2 := HH.out.1.gr b2
    have c0 := h2.c0
    have c2 := h2.c2
    have hc := HH.out.2.1
    have hm := HH.out.2.2
    clear hw2 k0 hA B1 b2 HH
  · have hful := hfull.symm
    subst hful
    have CD : Hid (∀ q, Calls Try.prog 18 #[.pointer (some ⟨rb, 0, none⟩), .int .i64 1] (w2.drewN q) fun e w' => e = .returned (.tuple #[]) ∧
      ∃ f' c', RgI w' rb gb n cp f' (n - 1) c' ∧ (∀ i, i < n - 1 → c' (pl n f' i) = c (pl n f (i + 1))) ∧ Tch [rb, gb] (w2.drewN q) w') := fun q => dropI (w2.drewN q) rb gb n cp f n 1 c (h2.drewN q) (by omega)
    have H2 := Lib.hid (And.intro h2 (And.intro hc hm))
    clear h2 hc hm
    go_upto_region 6 with fail
    go_quiet (fail)
    go_upto_region 7 with fail
    go_wp2_with fail
    refine (CD.out _).mono ?_
    rintro e w3 ⟨rfl, f3, c3, h3, hc3', tq⟩
    obtain ⟨h2, hc, hm⟩ := H2.out
    obtain ⟨m3, hm3⟩ : ∃ m3, m3 = n - 1 := ⟨_, rfl⟩
    have hL : L3 = L.drop 1 := by rw [HL.out]; simp
    rw [← hm3] at h3 hc3'
    have hL3 : L3.length = m3 := by rw [hL, List.length_drop]; omega
    have t3 : Tch [rb, gb] w w3 := (Tch.ofBelow (Below.drewN' B2.out nq) [rb, gb]).trans tq (fun g hg => .inl hg)
    have hc3 : ∀ i x, L3[i]? = some x → c3 (pl n f3 i) = x := fun i x hx => by
      have hi : i < m3 := by rw [← hL3]; exact (List.getElem?_eq_some_iff.1 hx).1
      rw [hc3' i hi]
      rw [hL, List.getElem?_drop, Nat.add_comm] at hx
      exact hc (i + 1) x hx
    have hlt3 : m3 < n := by omega
    clear CD H2 h2 hc hm c0 c2 hc3' tq hL B2 hm3
    have TT := Lib.hid t3
    have hn3 := h3.hn
    have hf3 := h3.hf
    have hpl : pl n f3 m3 < n := pl_lt hf3 (by omega)
    obtain ⟨p, hp⟩ : ∃ p, p = pl n f3 m3 := ⟨_, rfl⟩
    have CP := Lib.hid (placeI (World.drew w3) rb gb n cp f3 m3 h3.c0 h3.c1 hf3 (by omega) hn3.2)
    rw [← hp] at CP hpl
    obtain ⟨w4, hw4⟩ : ∃ w4, w4 = ((w3.setCell ⟨gb, p * 2, none⟩ (.int .i64 xa)).setCell ⟨gb, p * 2 + 1, none⟩ (.int .i64 xv)).drew := ⟨_, rfl⟩
    have h4 : RgI w4 rb gb n cp f3 m3 (upd c3 p (xa, xv)) := by rw [hw4]; exact (h3.setS hpl (xa, xv)).drewN 1
    obtain ⟨w5, hw5⟩ : ∃ w5, w5 = w4.setCell ⟨rb, 2, none⟩ (.int .i64 ((m3 : Int) + 1)) := ⟨_, rfl⟩
    have h5 : RgI w5 rb gb n cp f3 (m3 + 1) (upd c3 p (xa, xv)) := by
      rw [hw5, show ((m3 : Int) + 1) = ((m3 + 1 : Nat) : Int) by omega]
      exact h4.setM (by omega)
    have c0 := h3.c0
    have c2 := h3.c2
    have a0 := h3.at0 hpl
    have a1 := h3.at1 hpl
    have u0 := h3.uat (p * 2)
    have u1 := h3.uat (p * 2 + 1)
    have d2 := h4.c2
    have v2 := h4.u2
    have p0 : (0 : Int) ≤ (p : Int) := Int.natCast_nonneg _
    have p1 : (p : Int) < (n : Int) := by omega
    have FIN : Hid (HasI w5 rb gb n (L3 ++ [(xa, xv)]) ∧ Tch [rb, gb] w w5) := by
      refine ⟨⟨cp, f3, _, by rw [List.length_append, hL3]; exact h5, fun i x hx => ?_⟩, ?_⟩
      · by_cases hi : i < m3
        · rw [List.getElem?_append_left (by omega)] at hx
          rw [upd_other _ _ (fun e => by rw [hp] at e; have := pl_inj hf3 (by omega) (by omega) e; omega)]
          exact hc3 i x hx
        · rw [List.getElem?_append_right (by omega)] at hx
          have hi0 : i - L3.length = 0 := by
            rcases Nat.eq_zero_or_pos (i - L3.length) with e | e
            · exact e
            · rw [List.getElem?_eq_none (by simp; omega)] at hx; cases hx
          rw [hi0] at hx
          simp only [List.getElem?_cons_zero, Option.some.injEq] at hx
          rw [show i = m3 by omega, ← hp, upd_same]
          exact hx
      · rw [hw5, hw4]
        exact (((TT.out.setCell _ _ (.inl (by simp))).setCell _ _ (.inl (by simp))).drewN 1).setCell _ _ (.inl (by simp))
    have HW : Hid (((w3.setCell ⟨gb, p * 2, none⟩ (.int .i64 xa)).setCell ⟨gb, p * 2 + 1, none⟩ (.int .i64 xv)).drew = w4 ∧ w4.setCell ⟨rb, 2, none⟩ (.int .i64 ((m3 : Int) + 1)) = w5) := ⟨hw4.symm, hw5.symm⟩
    clear h3 t3 hL3 hc3 hp hw4 h4 hw5 h5 TT
    go_upto_region 8 with fail
    refine wp_region_still_tail 14 (by kernel_rfl) (by kernel_rfl) ?_
    simp only [List.take_succ_cons, List.take_zero, List.drop_succ_cons, List.drop_zero]
    repeat still_step
    still_call (CP.out.mono fun e w' q => ⟨q.1, q.2.symm⟩)
    repeat still_step
    refine wpStill_nil ?_
    change wpList _ _ _ _ _ (World.drew w3)
    go_upto_region 9 with fail
    rw [HW.out.1]
    clear a0 a1 u0 u1 c0 c2
    go_upto_region 10 with fail
    rw [HW.out.2]
    go_wp2
    go_ret
    exact ⟨rfl, FIN.out.1, FIN.out.2⟩
  · have hmb : ((m : Int) == (n : Int)) = false := by rw [beq_eq_false_iff_ne]; omega
    have hmb2 : (m == n) = false := by rw [beq_eq_false_iff_ne]; omega
    have H2 := Lib.hid (And.intro h2 (And.intro hc hm))
    clear h2 hc hm
    go_upto_region 6 with fail
    go_quiet (fail)
    go_upto_region 8 with fail
    obtain ⟨w3, hw3⟩ : ∃ w3, w3 = w2.drewN nq := ⟨_, rfl⟩
    rw [← hw3]
    obtain ⟨h2, hc, hm⟩ := H2.out
    have h3 : RgI w3 rb gb n cp f m c := by rw [hw3]; exact h2.drewN nq
    have t3 : Tch [rb, gb] w w3 := by rw [hw3]; exact Tch.ofBelow (Below.drewN' B2.out nq) _
    obtain ⟨f3, hf3'⟩ : ∃ f3, f3 = f := ⟨_, rfl⟩
    obtain ⟨c3, hc3'⟩ : ∃ c3, c3 = c := ⟨_, rfl⟩
    obtain ⟨m3, hm3⟩ : ∃ m3, m3 = m := ⟨_, rfl⟩
    have hL : L3 = L := by rw [HL.out, if_neg hfull]
    rw [← hf3', ← hc3', ← hm3] at h3
    rw [← hf3', ← hc3', ← hL] at hc
    have hL3 : L3.length = m3 := by rw [hL, hm3, hm]
    have hc3 := hc
    have hlt3 : m3 < n := by omega
    clear h2 hc hm c0 c2 hc3' hf3' hL hm3 B2 H2 hw3 hmb hmb2
    have TT := Lib.hid t3
    have hn3 := h3.hn
    have hf3 := h3.hf
    have hpl : pl n f3 m3 < n := pl_lt hf3 (by omega)
    obtain ⟨p, hp⟩ : ∃ p, p = pl n f3 m3 := ⟨_, rfl⟩
    have CP := Lib.hid (placeI (World.drew w3) rb gb n cp f3 m3 h3.c0 h3.c1 hf3 (by omega) hn3.2)
    rw [← hp] at CP hpl
    obtain ⟨w4, hw4⟩ : ∃ w4, w4 = ((w3.setCell ⟨gb, p * 2, none⟩ (.int .i64 xa)).setCell ⟨gb, p * 2 + 1, none⟩ (.int .i64 xv)).drew := ⟨_, rfl⟩
    have h4 : RgI w4 rb gb n cp f3 m3 (upd c3 p (xa, xv)) := by rw [hw4]; exact (h3.setS hpl (xa, xv)).drewN 1
    obtain ⟨w5, hw5⟩ : ∃ w5, w5 = w4.setCell ⟨rb, 2, none⟩ (.int .i64 ((m3 : Int) + 1)) := ⟨_, rfl⟩
    have h5 : RgI w5 rb gb n cp f3 (m3 + 1) (upd c3 p (xa, xv)) := by
      rw [hw5, show ((m3 : Int) + 1) = ((m3 + 1 : Nat) : Int) by omega]
      exact h4.setM (by omega)
    have c0 := h3.c0
    have c2 := h3.c2
    have a0 := h3.at0 hpl
    have a1 := h3.at1 hpl
    have u0 := h3.uat (p * 2)
    have u1 := h3.uat (p * 2 + 1)
    have d2 := h4.c2
    have v2 := h4.u2
    have p0 : (0 : Int) ≤ (p : Int) := Int.natCast_nonneg _
    have p1 : (p : Int) < (n : Int) := by omega
    have FIN : Hid (HasI w5 rb gb n (L3 ++ [(xa, xv)]) ∧ Tch [rb, gb] w w5) := by
      refine ⟨⟨cp, f3, _, by rw [List.length_append, hL3]; exact h5, fun i x hx => ?_⟩, ?_⟩
      · by_cases hi : i < m3
        · rw [List.getElem?_append_left (by omega)] at hx
          rw [upd_other _ _ (fun e => by rw [hp] at e; have := pl_inj hf3 (by omega) (by omega) e; omega)]
          exact hc3 i x hx
        · rw [List.getElem?_append_right (by omega)] at hx
          have hi0 : i - L3.length = 0 := by
            rcases Nat.eq_zero_or_pos (i - L3.length) with e | e
            · exact e
            · rw [List.getElem?_eq_none (by simp; omega)] at hx; cases hx
          rw [hi0] at hx
          simp only [List.getElem?_cons_zero, Option.some.injEq] at hx
          rw [show i = m3 by omega, ← hp, upd_same]
          exact hx
      · rw [hw5, hw4]
        exact (((TT.out.setCell _ _ (.inl (by simp))).setCell _ _ (.inl (by simp))).drewN 1).setCell _ _ (.inl (by simp))
    have HW : Hid (((w3.setCell ⟨gb, p * 2, none⟩ (.int .i64 xa)).setCell ⟨gb, p * 2 + 1, none⟩ (.int .i64 xv)).drew = w4 ∧ w4.setCell ⟨rb, 2, none⟩ (.int .i64 ((m3 : Int) + 1)) = w5) := ⟨hw4.symm, hw5.symm⟩
    clear h3 t3 hL3 hc3 hp hw4 h4 hw5 h5 TT
    go_upto_region 8 with fail
    refine wp_region_still_tail 14 (by kernel_rfl) (by kernel_rfl) ?_
    simp only [List.take_succ_cons, List.take_zero, List.drop_succ_cons, List.drop_zero]
    repeat still_step
    still_call (CP.out.mono fun e w' q => ⟨q.1, q.2.symm⟩)
    repeat still_step
    refine wpStill_nil ?_
    change wpList _ _ _ _ _ (World.drew w3)
    go_upto_region 9 with fail
    rw [HW.out.1]
    clear a0 a1 u0 u1 c0 c2
    go_upto_region 10 with fail
    rw [HW.out.2]
    go_wp2
    go_ret
    exact ⟨rfl, FIN.out.1, FIN.out.2⟩
  · have hful := hfull.symm
    subst hful
    have CD : Hid (∀ q, Calls Try.prog 18 #[.pointer (some ⟨rb, 0, none⟩), .int .i64 1] (w2.drewN q) fun e w' => e = .returned (.tuple #[]) ∧
      ∃ f' c', RgI w' rb gb n cp f' (n - 1) c' ∧ (∀ i, i < n - 1 → c' (pl n f' i) = c (pl n f (i + 1))) ∧ Tch [rb, gb] (w2.drewN q) w') := fun q => dropI (w2.drewN q) rb gb n cp f n 1 c (h2.drewN q) (by omega)
    have H2 := Lib.hid (And.intro h2 (And.intro hc hm))
    clear h2 hc hm
    go_upto_region 6 with fail
    go_quiet (fail)
    go_upto_region 7 with fail
    go_wp2_with fail
    refine (CD.out _).mono ?_
    rintro e w3 ⟨rfl, f3, c3, h3, hc3', tq⟩
    obtain ⟨h2, hc, hm⟩ := H2.out
    obtain ⟨m3, hm3⟩ : ∃ m3, m3 = n - 1 := ⟨_, rfl⟩
    have hL : L3 = L.drop 1 := by rw [HL.out]; simp
    rw [← hm3] at h3 hc3'
    have hL3 : L3.length = m3 := by rw [hL, List.length_drop]; omega
    have t3 : Tch [rb, gb] w w3 := (Tch.ofBelow (Below.drewN' B2.out nq) [rb, gb]).trans tq (fun g hg => .inl hg)
    have hc3 : ∀ i x, L3[i]? = some x → c3 (pl n f3 i) = x := fun i x hx => by
      have hi : i < m3 := by rw [← hL3]; exact (List.getElem?_eq_some_iff.1 hx).1
      rw [hc3' i hi]
      rw [hL, List.getElem?_drop, Nat.add_comm] at hx
      exact hc (i + 1) x hx
    have hlt3 : m3 < n := by omega
    clear CD H2 h2 hc hm c0 c2 hc3' tq hL B2 hm3
    have TT := Lib.hid t3
    have hn3 := h3.hn
    have hf3 := h3.hf
    have hpl : pl n f3 m3 < n := pl_lt hf3 (by omega)
    obtain ⟨p, hp⟩ : ∃ p, p = pl n f3 m3 := ⟨_, rfl⟩
    have CP := Lib.hid (placeI (World.drew w3) rb gb n cp f3 m3 h3.c0 h3.c1 hf3 (by omega) hn3.2)
    rw [← hp] at CP hpl
    obtain ⟨w4, hw4⟩ : ∃ w4, w4 = ((w3.setCell ⟨gb, p * 2, none⟩ (.int .i64 xa)).setCell ⟨gb, p * 2 + 1, none⟩ (.int .i64 xv)).drew := ⟨_, rfl⟩
    have h4 : RgI w4 rb gb n cp f3 m3 (upd c3 p (xa, xv)) := by rw [hw4]; exact (h3.setS hpl (xa, xv)).drewN 1
    obtain ⟨w5, hw5⟩ : ∃ w5, w5 = w4.setCell ⟨rb, 2, none⟩ (.int .i64 ((m3 : Int) + 1)) := ⟨_, rfl⟩
    have h5 : RgI w5 rb gb n cp f3 (m3 + 1) (upd c3 p (xa, xv)) := by
      rw [hw5, show ((m3 : Int) + 1) = ((m3 + 1 : Nat) : Int) by omega]
      exact h4.setM (by omega)
    have c0 := h3.c0
    have c2 := h3.c2
    have a0 := h3.at0 hpl
    have a1 := h3.at1 hpl
    have u0 := h3.uat (p * 2)
    have u1 := h3.uat (p * 2 + 1)
    have d2 := h4.c2
    have v2 := h4.u2
    have p0 : (0 : Int) ≤ (p : Int) := Int.natCast_nonneg _
    have p1 : (p : Int) < (n : Int) := by omega
    have FIN : Hid (HasI w5 rb gb n (L3 ++ [(xa, xv)]) ∧ Tch [rb, gb] w w5) := by
      refine ⟨⟨cp, f3, _, by rw [List.length_append, hL3]; exact h5, fun i x hx => ?_⟩, ?_⟩
      · by_cases hi : i < m3
        · rw [List.getElem?_append_left (by omega)] at hx
          rw [upd_other _ _ (fun e => by rw [hp] at e; have := pl_inj hf3 (by omega) (by omega) e; omega)]
          exact hc3 i x hx
        · rw [List.getElem?_append_right (by omega)] at hx
          have hi0 : i - L3.length = 0 := by
            rcases Nat.eq_zero_or_pos (i - L3.length) with e | e
            · exact e
            · rw [List.getElem?_eq_none (by simp; omega)] at hx; cases hx
          rw [hi0] at hx
          simp only [List.getElem?_cons_zero, Option.some.injEq] at hx
          rw [show i = m3 by omega, ← hp, upd_same]
          exact hx
      · rw [hw5, hw4]
        exact (((TT.out.setCell _ _ (.inl (by simp))).setCell _ _ (.inl (by simp))).drewN 1).setCell _ _ (.inl (by simp))
    have HW : Hid (((w3.setCell ⟨gb, p * 2, none⟩ (.int .i64 xa)).setCell ⟨gb, p * 2 + 1, none⟩ (.int .i64 xv)).drew = w4 ∧ w4.setCell ⟨rb, 2, none⟩ (.int .i64 ((m3 : Int) + 1)) = w5) := ⟨hw4.symm, hw5.symm⟩
    clear h3 t3 hL3 hc3 hp hw4 h4 hw5 h5 TT
    go_upto_region 8 with fail
    refine wp_region_still_tail 14 (by kernel_rfl) (by kernel_rfl) ?_
    simp only [List.take_succ_cons, List.take_zero, List.drop_succ_cons, List.drop_zero]
    repeat still_step
    still_call (CP.out.mono fun e w' q => ⟨q.1, q.2.symm⟩)
    repeat still_step
    refine wpStill_nil ?_
    change wpList _ _ _ _ _ (World.drew w3)
    go_upto_region 9 with fail
    rw [HW.out.1]
    clear a0 a1 u0 u1 c0 c2
    go_upto_region 10 with fail
    rw [HW.out.2]
    go_wp2
    go_ret
    exact ⟨rfl, FIN.out.1, FIN.out.2⟩
  · have hmb : ((m : Int) == (n : Int)) = false := by rw [beq_eq_false_iff_ne]; omega
    have hmb2 : (m == n) = false := by rw [beq_eq_false_iff_ne]; omega
    have H2 := Lib.hid (And.intro h2 (And.intro hc hm))
    clear h2 hc hm
    go_upto_region 6 with fail
    go_quiet (fail)
    go_upto_region 8 with fail
    obtain ⟨w3, hw3⟩ : ∃ w3, w3 = w2.drewN nq := ⟨_, rfl⟩
    rw [← hw3]
    obtain ⟨h2, hc, hm⟩ := H2.out
    have h3 : RgI w3 rb gb n cp f m c := by rw [hw3]; exact h2.drewN nq
    have t3 : Tch [rb, gb] w w3 := by rw [hw3]; exact Tch.ofBelow (Below.drewN' B2.out nq) _
    obtain ⟨f3, hf3'⟩ : ∃ f3, f3 = f := ⟨_, rfl⟩
    obtain ⟨c3, hc3'⟩ : ∃ c3, c3 = c := ⟨_, rfl⟩
    obtain ⟨m3, hm3⟩ : ∃ m3, m3 = m := ⟨_, rfl⟩
    have hL : L3 = L := by rw [HL.out, if_neg hfull]
    rw [← hf3', ← hc3', ← hm3] at h3
    rw [← hf3', ← hc3', ← hL] at hc
    have hL3 : L3.length = m3 := by rw [hL, hm3, hm]
    have hc3 := hc
    have hlt3 : m3 < n := by omega
    clear h2 hc hm c0 c2 hc3' hf3' hL hm3 B2 H2 hw3 hmb hmb2
    have TT := Lib.hid t3
    have hn3 := h3.hn
    have hf3 := h3.hf
    have hpl : pl n f3 m3 < n := pl_lt hf3 (by omega)
    obtain ⟨p, hp⟩ : ∃ p, p = pl n f3 m3 := ⟨_, rfl⟩
    have CP := Lib.hid (placeI (World.drew w3) rb gb n cp f3 m3 h3.c0 h3.c1 hf3 (by omega) hn3.2)
    rw [← hp] at CP hpl
    obtain ⟨w4, hw4⟩ : ∃ w4, w4 = ((w3.setCell ⟨gb, p * 2, none⟩ (.int .i64 xa)).setCell ⟨gb, p * 2 + 1, none⟩ (.int .i64 xv)).drew := ⟨_, rfl⟩
    have h4 : RgI w4 rb gb n cp f3 m3 (upd c3 p (xa, xv)) := by rw [hw4]; exact (h3.setS hpl (xa, xv)).drewN 1
    obtain ⟨w5, hw5⟩ : ∃ w5, w5 = w4.setCell ⟨rb, 2, none⟩ (.int .i64 ((m3 : Int) + 1)) := ⟨_, rfl⟩
    have h5 : RgI w5 rb gb n cp f3 (m3 + 1) (upd c3 p (xa, xv)) := by
      rw [hw5, show ((m3 : Int) + 1) = ((m3 + 1 : Nat) : Int) by omega]
      exact h4.setM (by omega)
    have c0 := h3.c0
    have c2 := h3.c2
    have a0 := h3.at0 hpl
    have a1 := h3.at1 hpl
    have u0 := h3.uat (p * 2)
    have u1 := h3.uat (p * 2 + 1)
    have d2 := h4.c2
    have v2 := h4.u2
    have p0 : (0 : Int) ≤ (p : Int) := Int.natCast_nonneg _
    have p1 : (p : Int) < (n : Int) := by omega
    have FIN : Hid (HasI w5 rb gb n (L3 ++ [(xa, xv)]) ∧ Tch [rb, gb] w w5) := by
      refine ⟨⟨cp, f3, _, by rw [List.length_append, hL3]; exact h5, fun i x hx => ?_⟩, ?_⟩
      · by_cases hi : i < m3
        · rw [List.getElem?_append_left (by omega)] at hx
          rw [upd_other _ _ (fun e => by rw [hp] at e; have := pl_inj hf3 (by omega) (by omega) e; omega)]
          exact hc3 i x hx
        · rw [List.getElem?_append_right (by omega)] at hx
          have hi0 : i - L3.length = 0 := by
            rcases Nat.eq_zero_or_pos (i - L3.length) with e | e
            · exact e
            · rw [List.getElem?_eq_none (by simp; omega)] at hx; cases hx
          rw [hi0] at hx
          simp only [List.getElem?_cons_zero, Option.some.injEq] at hx
          rw [show i = m3 by omega, ← hp, upd_same]
          exact hx
      · rw [hw5, hw4]
        exact (((TT.out.setCell _ _ (.inl (by simp))).setCell _ _ (.inl (by simp))).drewN 1).setCell _ _ (.inl (by simp))
    have HW : Hid (((w3.setCell ⟨gb, p * 2, none⟩ (.int .i64 xa)).setCell ⟨gb, p * 2 + 1, none⟩ (.int .i64 xv)).drew = w4 ∧ w4.setCell ⟨rb, 2, none⟩ (.int .i64 ((m3 : Int) + 1)) = w5) := ⟨hw4.symm, hw5.symm⟩
    clear h3 t3 hL3 hc3 hp hw4 h4 hw5 h5 TT
    go_upto_region 8 with fail
    refine wp_region_still_tail 14 (by kernel_rfl) (by kernel_rfl) ?_
    simp only [List.take_succ_cons, List.take_zero, List.drop_succ_cons, List.drop_zero]
    repeat still_step
    still_call (CP.out.mono fun e w' q => ⟨q.1, q.2.symm⟩)
    repeat still_step
    refine wpStill_nil ?_
    change wpList _ _ _ _ _ (World.drew w3)
    go_upto_region 9 with fail
    rw [HW.out.1]
    clear a0 a1 u0 u1 c0 c2
    go_upto_region 10 with fail
    rw [HW.out.2]
    go_wp2
    go_ret
    exact ⟨rfl, FIN.out.1, FIN.out.2⟩
end Go.Proofs.Ythpmdaioekpipaa
