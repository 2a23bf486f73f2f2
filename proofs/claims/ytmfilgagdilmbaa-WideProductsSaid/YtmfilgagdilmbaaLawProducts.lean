/- Proved here: the law WideProducts of layer 1 holds for every four numbers of 64 bits: the product of two, how it stands against another one, and their sum, is exact. No conditions. -/
import Derived.Test.YtmfilgagdilmbaaRows
import Derived.Test.YtmfilgagdilmbaaRefE
import Derived.Test.YtmfilgagdilmbaaWideB
import Derived.Test.YtmfilgagdilmbaaPost
import Derived.ProofKit
import Derived.OpenShut
namespace Go.Proofs.Ytmfilgagdilmbaa.wideProducts
open Go.ChangeShapes Go.WideShapes Go.ChangeAt Go.RowKit
set_option linter.unusedVariables false

theorem own : ownKnob Try.prog.godebug = none := by kernel_rfl

theorem sum_parts {H L H' L' K : Nat} (hK : 0 < K) : (H * K + L + (H' * K + L')) / K = H + H' + (L + L') / K ∧ (H * K + L + (H' * K + L')) % K = (L + L') % K := by
  have e : H * K + L + (H' * K + L') = K * (H + H') + (L + L') := by
    rw [Nat.mul_add, Nat.mul_comm H, Nat.mul_comm H']; omega
  rw [e, Nat.mul_add_div hK, Nat.mul_add_mod]
  exact ⟨rfl, rfl⟩
theorem add_var (a b c d s1 s0 : Nat) (ov : Bool) (w : World) (ha : a < 18446744073709551616) (hb : b < 18446744073709551616) (hc : c < 18446744073709551616) (hd : d < 18446744073709551616)
    (h1 : s1 = (a + c + (b + d) / 18446744073709551616) % 18446744073709551616) (h0 : s0 = (b + d) % 18446744073709551616) (ho : ((((a + c + (b + d) / 18446744073709551616) / 18446744073709551616 : Nat) : Int) == 1) = ov) :
    Calls Try.prog 12 #[wd (a : Int) (b : Int), wd (c : Int) (d : Int)] w fun e w' => e = .returned (.tuple #[wd (s1 : Int) (s0 : Int), .bool ov]) ∧ Below w.heap.size w w' := by
  subst h1 h0 ho
  exact wide_add a b c d w ha hb hc hd

set_option maxHeartbeats 2000000 in
set_option maxRecDepth 100000 in
theorem core (a b c d : Nat) (ov : Bool) (w : World) (ha : a < 18446744073709551616) (hb : b < 18446744073709551616) (hc : c < 18446744073709551616) (hd : d < 18446744073709551616)
    (hov : ov = decide (2 ^ 128 ≤ a * b + c * d)) :
    Calls Try.prog 3 #[.int .u64 (a : Int), .int .u64 (b : Int), .int .u64 (c : Int), .int .u64 (d : Int)] w fun e w' => e = .returned (.bool true) ∧ Below w.heap.size w w' := by
  have hx : a * b < 2 ^ 128 := mul_lt_pow (k := 64) (m := 64) ha hb
  have hy : c * d < 2 ^ 128 := mul_lt_pow (k := 64) (m := 64) hc hd
  obtain ⟨x, ex⟩ : ∃ n, n = a * b := ⟨_, rfl⟩
  obtain ⟨y, ey⟩ : ∃ n, n = c * d := ⟨_, rfl⟩
  rw [← ex] at hx hov
  rw [← ey] at hy hov
  obtain ⟨H, hH⟩ : ∃ n, n = x / 18446744073709551616 := ⟨_, rfl⟩
  obtain ⟨L, hL⟩ : ∃ n, n = x % 18446744073709551616 := ⟨_, rfl⟩
  obtain ⟨H', hH'⟩ : ∃ n, n = y / 18446744073709551616 := ⟨_, rfl⟩
  obtain ⟨L', hL'⟩ : ∃ n, n = y % 18446744073709551616 := ⟨_, rfl⟩
  have bH : H < 18446744073709551616 := by omega
  have bL : L < 18446744073709551616 := by omega
  have bH' : H' < 18446744073709551616 := by omega
  have bL' : L' < 18446744073709551616 := by omega
  have hxs : x = H * 18446744073709551616 + L := by omega
  have hys : y = H' * 18446744073709551616 + L' := by omega
  obtain ⟨S1, hS1⟩ : ∃ n, n = (H + H' + (L + L') / 18446744073709551616) % 18446744073709551616 := ⟨_, rfl⟩
  obtain ⟨S0, hS0⟩ : ∃ n, n = (L + L') % 18446744073709551616 := ⟨_, rfl⟩
  have e1 : low ((x + y) / 2 ^ 64) = S1 := by
    rw [hS1, hxs, hys, show (2 : Nat) ^ 64 = 18446744073709551616 by decide, (sum_parts (by decide)).1]; rfl
  have e2 : low (x + y) = S0 := by
    rw [hS0, hxs, hys]; exact (sum_parts (by decide)).2
  have e3 : low (x / 2 ^ 64) = H := by
    rw [show (2 : Nat) ^ 64 = 18446744073709551616 by decide, ← hH]; exact low_of bH
  have e4 : low x = L := hL.symm
  have ho : ((((H + H' + (L + L') / 18446744073709551616) / 18446744073709551616 : Nat) : Int) == 1) = ov := by
    rw [hov, hxs, hys, Bool.eq_iff_iff, beq_iff_eq, decide_eq_true_iff, show (2 : Nat) ^ 128 = 340282366920938463463374607431768211456 by decide]
    omega
  have D1 := Lib.hid (fun W : World => wide_ofV a b H L W ha hb (by rw [hH, ex]) (by rw [hL, ex]))
  have D2 := Lib.hid (fun W : World => wide_ofV c d H' L' W hc hd (by rw [hH', ey]) (by rw [hL', ey]))
  have D3 := Lib.hid (fun W : World => add_var H L H' L' S1 S0 ov W bH bL bH' bL' hS1 hS0 ho)
  have D4 := Lib.hid (fun W : World => wide_cmpN (m := x) (n := y) W hx hH hL hH' hL')
  have O1 := Lib.hid (fun W : World => of_any W a ha)
  have O2 := Lib.hid (fun W : World => of_any W b hb)
  have O3 := Lib.hid (fun W : World => of_any W c hc)
  have O4 := Lib.hid (fun W : World => of_any W d hd)
  have HA := Lib.hid (show a < 2 ^ 64 from ha)
  have HB := Lib.hid (show b < 2 ^ 64 from hb)
  have HC := Lib.hid (show c < 2 ^ 64 from hc)
  have HD := Lib.hid (show d < 2 ^ 64 from hd)
  have HX := Lib.hid hx
  have HY := Lib.hid hy
  have HS := Lib.hid (show x + y < 2 ^ 129 by omega)
  have EX := Lib.hid ex
  have EY := Lib.hid ey
  have E1 := Lib.hid e1
  have E2 := Lib.hid e2
  have E3 := Lib.hid e3
  have E4 := Lib.hid e4
  have HO := Lib.hid hov
  clear hx hy ex ey hH hL hH' hL' bH bL bH' bL' hxs hys hS1 hS0 e1 e2 e3 e4 ho hov ha hb hc hd
  cases ov
  · go_enter Try.func3, Try.ntmps3
    go_wp2_with fail
    refine (lives_any _).mono ?_
    rintro e w1 ⟨rfl, h1⟩
    go_wp2_with fail
    refine (O1.out _).mono ?_
    rintro e w2 ⟨v2, rfl, n2, h2⟩
    go_wp2_with fail
    refine (O2.out _).mono ?_
    rintro e w3 ⟨v3, rfl, n3, h3⟩
    go_wp2_with fail
    refine (mul_any 64 64 (n2.below h3) n3 HA.out HB.out (by decide)).mono ?_
    rintro e w4 ⟨v4, rfl, n4, h4⟩
    rw [← EX.out] at n4
    go_wp2_with fail
    refine (O3.out _).mono ?_
    rintro e w5 ⟨v5, rfl, n5, h5⟩
    go_wp2_with fail
    refine (O4.out _).mono ?_
    rintro e w6 ⟨v6, rfl, n6, h6⟩
    go_wp2_with fail
    refine (mul_any 64 64 (n5.below h6) n6 HC.out HD.out (by decide)).mono ?_
    rintro e w7 ⟨v7, rfl, n7, h7⟩
    rw [← EY.out] at n7
    go_wp2_with fail
    refine (D1.out _).mono ?_
    rintro e w8 ⟨rfl, h8⟩
    go_wp2_with fail
    refine (D2.out _).mono ?_
    rintro e w9 ⟨rfl, h9⟩
    go_wp2_with fail
    have a9 : Below w9.heap.size w9 ((w9.alloc (.cells #[.int .u64 (H : Int), .int .u64 (L : Int)] 29)).alloc (.cells #[.int .u64 (H' : Int), .int .u64 (L' : Int)] 29)) := ((Below.refl _ _).alloc (Nat.le_refl _) _).alloc (by simp) _
    have n4' := (((((n4.below h5).below h6).below h7).below h8).below h9).below a9
    have n7' := ((n7.below h8).below h9).below a9
    clear n4 n7 n2 n3 n5 n6
    refine (two_num n4' 128 HX.out (by decide)).mono ?_
    rintro e w10 ⟨rfl, h10⟩
    rw [E3.out, E4.out]
    have n4a := n4'.below h10
    have n7a := n7'.below h10
    clear n4' n7'
    simp only [World.size_alloc] at h10
    have s10 := h10.size
    simp only [World.size_alloc] at s10
    have p0 : w10.cell? ⟨w9.heap.size, 0, none⟩ = some (.int .u64 (H : Int)) := by
      rw [h10.cell (p := ⟨w9.heap.size, 0, none⟩) (by show w9.heap.size < _; omega)]; simp
    have p1 : w10.cell? ⟨w9.heap.size, 1, none⟩ = some (.int .u64 (L : Int)) := by
      rw [h10.cell (p := ⟨w9.heap.size, 1, none⟩) (by show w9.heap.size < _; omega)]; simp
    have q0 : w10.cell? ⟨w9.heap.size + 1, 0, none⟩ = some (.int .u64 (H' : Int)) := by
      rw [h10.cell (p := ⟨w9.heap.size + 1, 0, none⟩) (by show w9.heap.size + 1 < _; omega)]; simp
    have q1 : w10.cell? ⟨w9.heap.size + 1, 1, none⟩ = some (.int .u64 (L' : Int)) := by
      rw [h10.cell (p := ⟨w9.heap.size + 1, 1, none⟩) (by show w9.heap.size + 1 < _; omega)]; simp
    go_wp2_with fail
    refine (D3.out _).mono ?_
    rintro e w11 ⟨rfl, h11⟩
    have s11 := h11.size
    have a11 : Below w11.heap.size w11 (w11.alloc (.cells #[.int .u64 (S1 : Int), .int .u64 (S0 : Int)] 29)) := (Below.refl _ _).alloc (Nat.le_refl _) _
    have n4b := (n4a.below h11).below a11
    have n7b := (n7a.below h11).below a11
    clear n4a n7a
    have P0 := Lib.hid p0
    have P1 := Lib.hid p1
    have Q0 := Lib.hid q0
    have Q1 := Lib.hid q1
    clear p0 p1 q0 q1
    go_wp2_with fail
    refine (add_any 128 n4b n7b HX.out HY.out (by decide)).mono ?_
    rintro e w12 ⟨v12, rfl, n12, h12⟩
    have n4c := n4b.below h12
    have n7c := n7b.below h12
    clear n4b n7b
    obtain ⟨l12, r12, bin12, t12, e12⟩ := id n12
    have hlen : decide ((128 : Int) < (l12.length : Int)) = false := by
      have h := t12.lt_iff bin12 128
      rw [e12] at h
      have ho := HO.out
      first
        | (rw [decide_eq_true_iff]; have h2 := of_decide_eq_true ho.symm; omega)
        | (rw [decide_eq_false_iff_not]; have h2 := of_decide_eq_false ho.symm; omega)
    obtain ⟨ad12, c12, rfl, _⟩ := r12
    clear e12 t12 bin12
    simp only [World.size_alloc] at h12
    have s12 := h12.size
    simp only [World.size_alloc] at s12
    go_wp2_with fail
    refine (two_num n12 129 HS.out (by decide)).mono ?_
    rintro e w13 ⟨rfl, h13⟩
    rw [E1.out, E2.out]
    have s13 := h13.size
    have n4d := n4c.below h13
    have n7d := n7c.below h13
    clear n4c n7c n12
    have k13 : Below (w9.heap.size + 1 + 1) w10 w13 := ((((h11.mono (by omega)).trans (a11.mono (by omega))).trans (h12.mono (by omega))).trans (h13.mono (by omega)))
    have k13s : Below (w11.heap.size + 1) (w11.alloc (.cells #[.int .u64 (S1 : Int), .int .u64 (S0 : Int)] 29)) w13 := h12.trans (h13.mono (by omega))
    have p0 : w13.cell? ⟨w9.heap.size, 0, none⟩ = some (.int .u64 (H : Int)) := by
      rw [k13.cell (p := ⟨w9.heap.size, 0, none⟩) (by show w9.heap.size < _; omega)]; exact P0.out
    have p1 : w13.cell? ⟨w9.heap.size, 1, none⟩ = some (.int .u64 (L : Int)) := by
      rw [k13.cell (p := ⟨w9.heap.size, 1, none⟩) (by show w9.heap.size < _; omega)]; exact P1.out
    have q0 : w13.cell? ⟨w9.heap.size + 1, 0, none⟩ = some (.int .u64 (H' : Int)) := by
      rw [k13.cell (p := ⟨w9.heap.size + 1, 0, none⟩) (by show w9.heap.size + 1 < _; omega)]; exact Q0.out
    have q1 : w13.cell? ⟨w9.heap.size + 1, 1, none⟩ = some (.int .u64 (L' : Int)) := by
      rw [k13.cell (p := ⟨w9.heap.size + 1, 1, none⟩) (by show w9.heap.size + 1 < _; omega)]; exact Q1.out
    have K13 := Lib.hid k13
    have K13s := Lib.hid k13s
    have B11 := Lib.hid a11
    clear k13 k13s a11
    go_wp2_with fail
    refine (D4.out _).mono ?_
    rintro e w14 ⟨rfl, h14⟩
    have s14 := h14.size
    have z0 : w14.cell? ⟨w11.heap.size, 0, none⟩ = some (.int .u64 (S1 : Int)) := by
      rw [h14.cell (p := ⟨w11.heap.size, 0, none⟩) (by show w11.heap.size < _; omega), K13s.out.cell (p := ⟨w11.heap.size, 0, none⟩) (Nat.lt_succ_self _)]; simp
    have z1 : w14.cell? ⟨w11.heap.size, 1, none⟩ = some (.int .u64 (S0 : Int)) := by
      rw [h14.cell (p := ⟨w11.heap.size, 1, none⟩) (by show w11.heap.size < _; omega), K13s.out.cell (p := ⟨w11.heap.size, 1, none⟩) (Nat.lt_succ_self _)]; simp
    have n4e := n4d.below h14
    have n7e := n7d.below h14
    clear n4d n7d p0 p1 q0 q1
    go_wp2_with fail
    refine (cmp_num 128 n4e n7e HX.out HY.out (by decide)).mono ?_
    rintro e w' ⟨rfl, rfl⟩
    go_wp2
    go_ret
    have s1 := h1.size
    have s2 := h2.size
    have s3 := h3.size
    have s4 := h4.size
    have s5 := h5.size
    have s6 := h6.size
    have s7 := h7.size
    have s8 := h8.size
    have s9 := h9.size
    have to9 : Below w.heap.size w w9 := (((((((((h1.trans (h2.mono s1)).trans (h3.mono (by omega))).trans (h4.mono (by omega))).trans (h5.mono (by omega))).trans (h6.mono (by omega))).trans (h7.mono (by omega))).trans (h8.mono (by omega))).trans (h9.mono (by omega))))
    exact ⟨rfl, (((to9.trans (a9.mono (by omega))).trans (h10.mono (by omega))).trans (K13.out.mono (by omega))).trans (h14.mono (by omega))⟩


  · go_enter Try.func3, Try.ntmps3
    go_wp2_with fail
    refine (lives_any _).mono ?_
    rintro e w1 ⟨rfl, h1⟩
    go_wp2_with fail
    refine (O1.out _).mono ?_
    rintro e w2 ⟨v2, rfl, n2, h2⟩
    go_wp2_with fail
    refine (O2.out _).mono ?_
    rintro e w3 ⟨v3, rfl, n3, h3⟩
    go_wp2_with fail
    refine (mul_any 64 64 (n2.below h3) n3 HA.out HB.out (by decide)).mono ?_
    rintro e w4 ⟨v4, rfl, n4, h4⟩
    rw [← EX.out] at n4
    go_wp2_with fail
    refine (O3.out _).mono ?_
    rintro e w5 ⟨v5, rfl, n5, h5⟩
    go_wp2_with fail
    refine (O4.out _).mono ?_
    rintro e w6 ⟨v6, rfl, n6, h6⟩
    go_wp2_with fail
    refine (mul_any 64 64 (n5.below h6) n6 HC.out HD.out (by decide)).mono ?_
    rintro e w7 ⟨v7, rfl, n7, h7⟩
    rw [← EY.out] at n7
    go_wp2_with fail
    refine (D1.out _).mono ?_
    rintro e w8 ⟨rfl, h8⟩
    go_wp2_with fail
    refine (D2.out _).mono ?_
    rintro e w9 ⟨rfl, h9⟩
    go_wp2_with fail
    have a9 : Below w9.heap.size w9 ((w9.alloc (.cells #[.int .u64 (H : Int), .int .u64 (L : Int)] 29)).alloc (.cells #[.int .u64 (H' : Int), .int .u64 (L' : Int)] 29)) := ((Below.refl _ _).alloc (Nat.le_refl _) _).alloc (by simp) _
    have n4' := (((((n4.below h5).below h6).below h7).below h8).below h9).below a9
    have n7' := ((n7.below h8).below h9).below a9
    clear n4 n7 n2 n3 n5 n6
    refine (two_num n4' 128 HX.out (by decide)).mono ?_
    rintro e w10 ⟨rfl, h10⟩
    rw [E3.out, E4.out]
    have n4a := n4'.below h10
    have n7a := n7'.below h10
    clear n4' n7'
    simp only [World.size_alloc] at h10
    have s10 := h10.size
    simp only [World.size_alloc] at s10
    have p0 : w10.cell? ⟨w9.heap.size, 0, none⟩ = some (.int .u64 (H : Int)) := by
      rw [h10.cell (p := ⟨w9.heap.size, 0, none⟩) (by show w9.heap.size < _; omega)]; simp
    have p1 : w10.cell? ⟨w9.heap.size, 1, none⟩ = some (.int .u64 (L : Int)) := by
      rw [h10.cell (p := ⟨w9.heap.size, 1, none⟩) (by show w9.heap.size < _; omega)]; simp
    have q0 : w10.cell? ⟨w9.heap.size + 1, 0, none⟩ = some (.int .u64 (H' : Int)) := by
      rw [h10.cell (p := ⟨w9.heap.size + 1, 0, none⟩) (by show w9.heap.size + 1 < _; omega)]; simp
    have q1 : w10.cell? ⟨w9.heap.size + 1, 1, none⟩ = some (.int .u64 (L' : Int)) := by
      rw [h10.cell (p := ⟨w9.heap.size + 1, 1, none⟩) (by show w9.heap.size + 1 < _; omega)]; simp
    go_wp2_with fail
    refine (D3.out _).mono ?_
    rintro e w11 ⟨rfl, h11⟩
    have s11 := h11.size
    have a11 : Below w11.heap.size w11 (w11.alloc (.cells #[.int .u64 (S1 : Int), .int .u64 (S0 : Int)] 29)) := (Below.refl _ _).alloc (Nat.le_refl _) _
    have n4b := (n4a.below h11).below a11
    have n7b := (n7a.below h11).below a11
    clear n4a n7a
    have P0 := Lib.hid p0
    have P1 := Lib.hid p1
    have Q0 := Lib.hid q0
    have Q1 := Lib.hid q1
    clear p0 p1 q0 q1
    go_wp2_with fail
    refine (add_any 128 n4b n7b HX.out HY.out (by decide)).mono ?_
    rintro e w12 ⟨v12, rfl, n12, h12⟩
    have n4c := n4b.below h12
    have n7c := n7b.below h12
    clear n4b n7b
    obtain ⟨l12, r12, bin12, t12, e12⟩ := id n12
    have hlen : decide ((128 : Int) < (l12.length : Int)) = true := by
      have h := t12.lt_iff bin12 128
      rw [e12] at h
      have ho := HO.out
      first
        | (rw [decide_eq_true_iff]; have h2 := of_decide_eq_true ho.symm; omega)
        | (rw [decide_eq_false_iff_not]; have h2 := of_decide_eq_false ho.symm; omega)
    obtain ⟨ad12, c12, rfl, _⟩ := r12
    clear e12 t12 bin12
    simp only [World.size_alloc] at h12
    have s12 := h12.size
    simp only [World.size_alloc] at s12
    go_wp2_with fail
    refine (two_num n12 129 HS.out (by decide)).mono ?_
    rintro e w13 ⟨rfl, h13⟩
    rw [E1.out, E2.out]
    have s13 := h13.size
    have n4d := n4c.below h13
    have n7d := n7c.below h13
    clear n4c n7c n12
    have k13 : Below (w9.heap.size + 1 + 1) w10 w13 := ((((h11.mono (by omega)).trans (a11.mono (by omega))).trans (h12.mono (by omega))).trans (h13.mono (by omega)))
    have k13s : Below (w11.heap.size + 1) (w11.alloc (.cells #[.int .u64 (S1 : Int), .int .u64 (S0 : Int)] 29)) w13 := h12.trans (h13.mono (by omega))
    have p0 : w13.cell? ⟨w9.heap.size, 0, none⟩ = some (.int .u64 (H : Int)) := by
      rw [k13.cell (p := ⟨w9.heap.size, 0, none⟩) (by show w9.heap.size < _; omega)]; exact P0.out
    have p1 : w13.cell? ⟨w9.heap.size, 1, none⟩ = some (.int .u64 (L : Int)) := by
      rw [k13.cell (p := ⟨w9.heap.size, 1, none⟩) (by show w9.heap.size < _; omega)]; exact P1.out
    have q0 : w13.cell? ⟨w9.heap.size + 1, 0, none⟩ = some (.int .u64 (H' : Int)) := by
      rw [k13.cell (p := ⟨w9.heap.size + 1, 0, none⟩) (by show w9.heap.size + 1 < _; omega)]; exact Q0.out
    have q1 : w13.cell? ⟨w9.heap.size + 1, 1, none⟩ = some (.int .u64 (L' : Int)) := by
      rw [k13.cell (p := ⟨w9.heap.size + 1, 1, none⟩) (by show w9.heap.size + 1 < _; omega)]; exact Q1.out
    have K13 := Lib.hid k13
    have K13s := Lib.hid k13s
    have B11 := Lib.hid a11
    clear k13 k13s a11
    go_wp2_with fail
    refine (D4.out _).mono ?_
    rintro e w14 ⟨rfl, h14⟩
    have s14 := h14.size
    have z0 : w14.cell? ⟨w11.heap.size, 0, none⟩ = some (.int .u64 (S1 : Int)) := by
      rw [h14.cell (p := ⟨w11.heap.size, 0, none⟩) (by show w11.heap.size < _; omega), K13s.out.cell (p := ⟨w11.heap.size, 0, none⟩) (Nat.lt_succ_self _)]; simp
    have z1 : w14.cell? ⟨w11.heap.size, 1, none⟩ = some (.int .u64 (S0 : Int)) := by
      rw [h14.cell (p := ⟨w11.heap.size, 1, none⟩) (by show w11.heap.size < _; omega), K13s.out.cell (p := ⟨w11.heap.size, 1, none⟩) (Nat.lt_succ_self _)]; simp
    have n4e := n4d.below h14
    have n7e := n7d.below h14
    clear n4d n7d p0 p1 q0 q1
    go_wp2_with fail
    refine (cmp_num 128 n4e n7e HX.out HY.out (by decide)).mono ?_
    rintro e w' ⟨rfl, rfl⟩
    go_wp2
    go_ret
    have s1 := h1.size
    have s2 := h2.size
    have s3 := h3.size
    have s4 := h4.size
    have s5 := h5.size
    have s6 := h6.size
    have s7 := h7.size
    have s8 := h8.size
    have s9 := h9.size
    have to9 : Below w.heap.size w w9 := (((((((((h1.trans (h2.mono s1)).trans (h3.mono (by omega))).trans (h4.mono (by omega))).trans (h5.mono (by omega))).trans (h6.mono (by omega))).trans (h7.mono (by omega))).trans (h8.mono (by omega))).trans (h9.mono (by omega))))
    exact ⟨rfl, (((to9.trans (a9.mono (by omega))).trans (h10.mono (by omega))).trans (K13.out.mono (by omega))).trans (h14.mono (by omega))⟩


theorem walk (a0 : Int) (a1 : Int) (a2 : Int) (a3 : Int) (w0 : (Lit.int .u64 a0).wf = true) (w1 : (Lit.int .u64 a1).wf = true) (w2 : (Lit.int .u64 a2).wf = true) (w3 : (Lit.int .u64 a3).wf = true) (w : World) :
    Calls Try.prog 3 #[.int .u64 a0, .int .u64 a1, .int .u64 a2, .int .u64 a3] w fun e w' => e = .returned (.bool true) ∧ Below w.heap.size w w' := by
  obtain ⟨a, rfl, ha⟩ := nat_of_wf w0
  obtain ⟨b, rfl, hb⟩ := nat_of_wf w1
  obtain ⟨c, rfl, hc⟩ := nat_of_wf w2
  obtain ⟨d, rfl, hd⟩ := nat_of_wf w3
  exact core a b c d _ w ha hb hc hd rfl

/-! ### the row, from the walk -/
set_option maxRecDepth 100000 in
theorem lifted (os : Os) (started : os.Started) (H : Type) (enc : TypeId × Value → H) :
    ReturnsInHanded {} Try.checked os 3 .any (Rows.wideProductsSpec.pre6 enc Try.prog Try.f3 Rows.wideProductsRow.domain false) (Rows.wideProductsSpec.post enc Try.prog Try.f3 false true false false) := by
  refine returnsInHanded_of_change (C := Try.checked) own started (by kernel_rfl) Try.func3
    (ChangeSpec.witness6 (enc := enc) (C := Try.checked) false ⟨#[], #[.int .u64 0, .int .u64 0, .int .u64 0, .int .u64 0], []⟩ 8 (by kernel_rfl) (by kernel_rfl) (by kernel_rfl) (by kernel_rfl)) ?_
  intro W base args ds gs before hval0 hW hcnd _
  have hval : ∀ (j : Nat) t v, Try.f3.params[j]? = some t → args[j]? = some v → Value.okWide Try.prog W .any base t v := hval0
  have hW' := hW
  obtain ⟨p, q, hA0, hV, rfl, hfz, hnd⟩ := hW
  have hA : DataW.TrodAll enc Try.prog W 0 (fun _ => true) true Try.f3.params.toList args.toList ds p := hA0
  rw [Try.params3] at hA hval
  obtain ⟨v0, vs0, d0, ds0, p0, q0, hargs, rfl, rfl, h0, r0⟩ := trodAll_cons hA
  obtain ⟨v1, vs1, d1, ds1, p1, q1, rfl, rfl, rfl, h1, r1⟩ := trodAll_cons r0
  obtain ⟨v2, vs2, d2, ds2, p2, q2, rfl, rfl, rfl, h2, r2⟩ := trodAll_cons r1
  obtain ⟨v3, vs3, d3, ds3, p3, q3, rfl, rfl, rfl, h3, r3⟩ := trodAll_cons r2
  obtain ⟨rfl, rfl, rfl⟩ := trodAll_nil r3
  obtain rfl : args = #[v0, v1, v2, v3] := by cases args; simp_all
  obtain ⟨rfl, rfl⟩ := trodVars_none hV
  obtain ⟨a0, rfl, rfl, rfl, w0⟩ := open_int Try.underlying22 (hval 0 22 v0 rfl rfl) h0
  obtain ⟨a1, rfl, rfl, rfl, w1⟩ := open_int Try.underlying22 (hval 1 22 v1 rfl rfl) h1
  obtain ⟨a2, rfl, rfl, rfl, w2⟩ := open_int Try.underlying22 (hval 2 22 v2 rfl rfl) h2
  obtain ⟨a3, rfl, rfl, rfl, w3⟩ := open_int Try.underlying22 (hval 3 22 v3 rfl rfl) h3
  clear hA0 hval0
  simp only [List.append_nil] at hW'
  refine (walk a0 a1 a2 a3 w0 w1 w2 w3 W).mono fun e W' ⟨he, hg⟩ => ?_
  subst he
  exact ⟨_, rfl, post_below hW' hg (fun _ _ _ => (trodAll_cons_mk (shut_bool Try.underlying4 _) trodAll_mk0)) (fun sp _ => (trodAll_cons_mk (shut_int Try.underlying22 w0) (trodAll_cons_mk (shut_int Try.underlying22 w1) (trodAll_cons_mk (shut_int Try.underlying22 w2) (trodAll_cons_mk (shut_int Try.underlying22 w3) trodAll_mk0))))) (fun _ => rfl) (ok_one (by kernel_rfl) rfl (okWide_bool_mk Try.underlying4 _))⟩

theorem over : Rows.wideProductsRow.holds Try.pinned (OpenSpec.ofChange Rows.wideProductsSpec) :=
  OpenClaim.holds_of_wide 3 Try.f3 rfl rfl rfl rfl rfl rfl rfl ⟨rfl, rfl, rfl, rfl, rfl⟩ rfl rfl rfl rfl rfl (by kernel_rfl) Try.func3 (by kernel_rfl)
    (of_decide_eq_true (by kernel_rfl)) (by unfold Func.isWrapper; first | (rw [if_pos (by decide +kernel)]; kernel_rfl) | (rw [if_neg (by decide +kernel)]; exact ⟨rfl, rfl⟩))
    (fun os started H enc _ => lifted os started H enc)

/-- The statement. -/
theorem proved : Rows.WideProductsSaid :=
  over
#print axioms proved
end Go.Proofs.Ytmfilgagdilmbaa.wideProducts

