/- What 'Div' and 'MulDiv' of package wide answer. -/
import Derived.Test.YtfmllfolpcimpaaWideO
import Derived.Test.YtfmllfolpcimpaaDivA
namespace Go.Proofs.Ytfmllfolpcimpaa
open Go.RowKit
set_option linter.unusedVariables false

theorem div64_any (hi lo y : Nat) (w : World) (hlt : hi < y) (hlo : lo < 18446744073709551616) (hy2 : y < 18446744073709551616) :
    Calls Try.prog 23 #[.int .u64 (hi : Int), .int .u64 (lo : Int), .int .u64 (y : Int)] w fun e w' =>
      e = .returned (.tuple #[.int .u64 (((hi * 18446744073709551616 + lo) / y : Nat) : Int), .int .u64 (((hi * 18446744073709551616 + lo) % y : Nat) : Int)]) ∧ ∃ n, w' = w.drewN n := by
  rcases Nat.eq_zero_or_pos hi with rfl | h
  · have := div64_low lo y w (by omega) hlo hy2
    simpa using this
  · exact (div64_high hi lo y w h hlt hlo hy2).mono fun _ _ ⟨h1, h2⟩ => ⟨h1, 0, h2⟩
theorem wide_parts_at {h l y K : Nat} (hy : 0 < y) (hl : l < K) :
    (h * K + l) / y / K = h / y ∧ (h * K + l) / y % K = (h % y * K + l) / y ∧ (h * K + l) % y = (h % y * K + l) % y := by
  have h1 := Nat.div_add_mod h y
  have h2 := Nat.mod_lt h hy
  have hK : 0 < K := by omega
  have e : h * K + l = y * (h / y * K) + (h % y * K + l) := by
    have e1 : y * (h / y * K) = y * (h / y) * K := (Nat.mul_assoc _ _ _).symm
    rw [e1, ← Nat.add_assoc, ← Nat.add_mul, h1]
  have hb : (h % y * K + l) / y < K := by
    rw [Nat.div_lt_iff_lt_mul hy]
    have h3 : (h % y + 1) * K ≤ y * K := Nat.mul_le_mul_right _ h2
    rw [Nat.add_mul, Nat.one_mul] at h3
    rw [Nat.mul_comm K y]
    omega
  rw [e, Nat.mul_add_div hy, Nat.mul_add_mod]
  generalize (h % y * K + l) / y = q at *
  rw [Nat.mul_comm (h / y) K, Nat.mul_add_div hK, Nat.mul_add_mod, Nat.div_eq_of_lt hb, Nat.mod_eq_of_lt hb]
  exact ⟨rfl, rfl, rfl⟩
theorem below_drewN {B : Nat} {a w : World} (h : Below B a w) (n : Nat) : Below B a (w.drewN n) := ⟨h.os, h.tape, h.output, h.size, h.block⟩
theorem wide_div0 (h l : Nat) (w : World) :
    Calls Try.prog 21 #[wd (h : Int) (l : Int), .int .u64 0] w fun e w' => e = .returned (.tuple #[wd 0 0, .int .u64 0, .int .i64 5]) ∧ Below w.heap.size w w' := by
  go_enter Try.func21, Try.ntmps21
  go_wp2
  refine bodyPost_ret (v := .tuple #[wd 0 0, .int .u64 0, .int .i64 5]) (by simp [results, Try.results21, go_sem]) rfl ⟨rfl, ?_⟩
  exact ((Below.refl _ _).alloc (Nat.le_refl _) _).alloc (by simp) _
theorem wide_div (h l y : Nat) (w : World) (hy : 0 < y) (hh : h < 18446744073709551616) (hl : l < 18446744073709551616) (hy2 : y < 18446744073709551616) :
    Calls Try.prog 21 #[wd (h : Int) (l : Int), .int .u64 (y : Int)] w fun e w' =>
      e = .returned (.tuple #[wd (((h * 18446744073709551616 + l) / y / 18446744073709551616 : Nat) : Int) (((h * 18446744073709551616 + l) / y % 18446744073709551616 : Nat) : Int), .int .u64 (((h * 18446744073709551616 + l) % y : Nat) : Int), .int .i64 0]) ∧ Below w.heap.size w w' := by
  obtain ⟨e1, e2, e3⟩ := wide_parts_at (h := h) (l := l) (K := 18446744073709551616) hy hl
  rw [e1, e2, e3]
  clear e1 e2 e3
  have hd := fun W : World => div64_any (h % y) l y W (Nat.mod_lt _ hy) hl hy2
  have HD := Lib.hid hd
  obtain ⟨qh, hqh⟩ : ∃ n, n = h / y := ⟨_, rfl⟩
  obtain ⟨rh, hrh⟩ : ∃ n, n = h % y := ⟨_, rfl⟩
  have hqb : qh < 18446744073709551616 := by rw [hqh]; exact Nat.lt_of_le_of_lt (Nat.div_le_self _ _) hh
  have c1 : (h : Int) / (y : Int) = (qh : Int) := by rw [hqh]; rfl
  have c2 : (h : Int) % (y : Int) = (rh : Int) := by rw [hrh]; rfl
  have c3 : IntKind.u64.wrap (qh : Int) = (qh : Int) := wrap_nat qh hqb
  have c0 : ((y : Int) == 0) = false := by simp; omega
  rw [← hrh] at HD
  rw [← hqh, ← hrh]
  clear hqh hrh hd
  go_enter Try.func21, Try.ntmps21
  go_wp2
  go_quiet (fail)
  go_wp2_with fail
  refine (HD.out _).mono ?_
  rintro e w' ⟨rfl, n, rfl⟩
  go_wp2
  refine bodyPost_ret (v := .tuple #[wd (qh : Int) (((rh * 18446744073709551616 + l) / y : Nat) : Int), .int .u64 (((rh * 18446744073709551616 + l) % y : Nat) : Int), .int .i64 0]) (by simp [results, Try.results21, go_sem]) rfl ⟨rfl, ?_⟩
  exact ((below_drewN (((Below.refl _ _).alloc (Nat.le_refl _) _).alloc (by simp) _) _).setCell (by simp) _).setCell (by simp) _
theorem wide_divN (N y : Nat) (w : World) (hy : 0 < y) (hN : N / 18446744073709551616 < 18446744073709551616) (hy2 : y < 18446744073709551616) :
    Calls Try.prog 21 #[wd ((N / 18446744073709551616 : Nat) : Int) ((N % 18446744073709551616 : Nat) : Int), .int .u64 (y : Int)] w fun e w' =>
      e = .returned (.tuple #[wd ((N / y / 18446744073709551616 : Nat) : Int) ((N / y % 18446744073709551616 : Nat) : Int), .int .u64 ((N % y : Nat) : Int), .int .i64 0]) ∧ Below w.heap.size w w' := by
  have h := wide_div (N / 18446744073709551616) (N % 18446744073709551616) y w hy hN (Nat.mod_lt _ (by decide)) hy2
  rw [Nat.div_add_mod' N 18446744073709551616] at h
  exact h

/-! ### 'MulDiv' -/
def mdWant (a b y : Nat) (up : Bool) : Nat := a * b / y + (if up = true ∧ a * b % y ≠ 0 then 1 else 0)
def mdVal (a b y : Nat) (up : Bool) : Nat := if y = 0 then 0 else if mdWant a b y up < 18446744073709551616 then mdWant a b y up else 0
def mdErr (a b y : Nat) (up : Bool) : Nat := if y = 0 then 5 else if mdWant a b y up < 18446744073709551616 then 0 else 4
theorem ret_md {a b : Int} {c d : Int} (h : a = b) (g : c = d) : Ending.returned (.tuple #[.int .u64 a, .int .i64 c]) = .returned (.tuple #[.int .u64 b, .int .i64 d]) := by rw [h, g]
theorem prod_high {a b : Nat} (ha : a < 18446744073709551616) (hb : b < 18446744073709551616) : a * b / 18446744073709551616 < 18446744073709551616 := by
  rw [Nat.div_lt_iff_lt_mul (by decide)]
  exact Nat.mul_lt_mul'' ha hb
theorem muldiv_ok {a b y : Nat} {up : Bool} {n : Nat} (hy : 0 < y) (h : mdWant a b y up = n) (hn : n < 18446744073709551616) : mdVal a b y up = n ∧ mdErr a b y up = 0 := by
  have hy' : y ≠ 0 := by omega
  unfold mdVal mdErr
  simp only [if_neg hy', h, if_pos hn, and_self]
theorem muldiv_over {a b y : Nat} {up : Bool} (hy : 0 < y) (h : 18446744073709551616 ≤ mdWant a b y up) : mdVal a b y up = 0 ∧ mdErr a b y up = 4 := by
  have hy' : y ≠ 0 := by omega
  have hn : ¬ mdWant a b y up < 18446744073709551616 := by omega
  unfold mdVal mdErr
  simp only [if_neg hy', if_neg hn, and_self]
theorem wide_divV (N y H L Q P R : Nat) (w : World) (hy : 0 < y) (hN : N / 18446744073709551616 < 18446744073709551616) (hy2 : y < 18446744073709551616) (hH : H = N / 18446744073709551616) (hL : L = N % 18446744073709551616)
    (hQ : Q = N / y / 18446744073709551616) (hP : P = N / y % 18446744073709551616) (hR : R = N % y) :
    Calls Try.prog 21 #[wd (H : Int) (L : Int), .int .u64 (y : Int)] w fun e w' => e = .returned (.tuple #[wd (Q : Int) (P : Int), .int .u64 (R : Int), .int .i64 0]) ∧ Below w.heap.size w w' := by
  subst hH hL hQ hP hR
  exact wide_divN N y w hy hN hy2
set_option maxHeartbeats 1000000 in
theorem muldiv_any (a b y : Nat) (up : Bool) (w : World) (ha : a < 18446744073709551616) (hb : b < 18446744073709551616) (hy : y < 18446744073709551616) :
    Calls Try.prog 19 #[.int .u64 (a : Int), .int .u64 (b : Int), .int .u64 (y : Int), .bool up] w fun e w' =>
      e = .returned (.tuple #[.int .u64 (mdVal a b y up : Int), .int .i64 (mdErr a b y up : Int)]) ∧ Below w.heap.size w w' := by
  rcases Nat.eq_zero_or_pos y with rfl | hy0
  · go_enter Try.func19, Try.ntmps19
    go_wp2_with fail
    refine (wide_of a b w ha hb).mono ?_
    rintro e w1 ⟨rfl, h1⟩
    go_wp2_with fail
    refine (wide_div0 _ _ w1).mono ?_
    rintro e w2 ⟨rfl, h2⟩
    go_wp2
    go_ret2
    exact ⟨ret_md (by simp [mdVal]) (by simp [mdErr]), (h1.trans (h2.mono h1.size)).alloc (by have := h1.size; have := h2.size; omega) _⟩
  · obtain ⟨H, hH⟩ : ∃ n, n = a * b / 18446744073709551616 := ⟨_, rfl⟩
    obtain ⟨L, hL⟩ : ∃ n, n = a * b % 18446744073709551616 := ⟨_, rfl⟩
    obtain ⟨Q, hQ⟩ : ∃ n, n = a * b / y / 18446744073709551616 := ⟨_, rfl⟩
    obtain ⟨P, hP⟩ : ∃ n, n = a * b / y % 18446744073709551616 := ⟨_, rfl⟩
    obtain ⟨R, hR⟩ : ∃ n, n = a * b % y := ⟨_, rfl⟩
    have hP2 : P < 18446744073709551616 := by rw [hP]; exact Nat.mod_lt _ (by decide)
    have hqp : a * b / y = Q * 18446744073709551616 + P := by rw [hQ, hP, Nat.div_add_mod' (a * b / y) 18446744073709551616]
    have hwant : mdWant a b y up = Q * 18446744073709551616 + P + (if up = true ∧ R ≠ 0 then 1 else 0) := by unfold mdWant; rw [hqp, ← hR]
    have C1 := fun W : World => wide_ofV a b H L W ha hb hH hL
    have C2 := fun W : World => wide_divV (a * b) y H L Q P R W hy0 (prod_high ha hb) hy hH hL hQ hP hR
    have H1 := Lib.hid C1
    have H2 := Lib.hid C2
    have HW := Lib.hid hwant
    clear C1 C2 hwant hH hL hQ hP hR hqp
    have hcase : 0 < Q ∨ (Q = 0 ∧ up = false) ∨ (Q = 0 ∧ up = true ∧ R = 0) ∨ (Q = 0 ∧ up = true ∧ 0 < R ∧ P = 18446744073709551615) ∨ (Q = 0 ∧ up = true ∧ 0 < R ∧ P < 18446744073709551615) := by
      cases up <;> simp <;> omega
    rcases hcase with h | ⟨rfl, rfl⟩ | ⟨rfl, rfl, rfl⟩ | ⟨rfl, rfl, h, h2⟩ | ⟨rfl, rfl, h, h2⟩
    · obtain ⟨v1, v2⟩ := muldiv_over (a := a) (b := b) (up := up) hy0 (by rw [HW.out]; omega)
      have V1 := Lib.hid v1
      have V2 := Lib.hid v2
      clear v1 v2
      have t1 : ((Q : Int) != 0) = true := by simp; omega
      go_enter Try.func19, Try.ntmps19
      go_wp2_with fail
      refine (H1.out _).mono ?_
      rintro e w1 ⟨rfl, h1⟩
      go_wp2_with fail
      refine (H2.out _).mono ?_
      rintro e w2 ⟨rfl, h2⟩
      go_wp2
      go_ret2
      exact ⟨ret_md (by rw [V1.out]; rfl) (by rw [V2.out]; rfl), (h1.trans (h2.mono h1.size)).alloc (by have := h1.size; have := h2.size; omega) _⟩
    · obtain ⟨v1, v2⟩ := muldiv_ok (a := a) (b := b) (up := false) (n := P) hy0 (by rw [HW.out]; simp) hP2
      have V1 := Lib.hid v1
      have V2 := Lib.hid v2
      clear v1 v2
      go_enter Try.func19, Try.ntmps19
      go_wp2_with fail
      refine (H1.out _).mono ?_
      rintro e w1 ⟨rfl, h1⟩
      go_wp2_with fail
      refine (H2.out _).mono ?_
      rintro e w2 ⟨rfl, h2⟩
      go_wp2
      go_ret2
      exact ⟨ret_md (by rw [V1.out]) (by rw [V2.out]; rfl), (h1.trans (h2.mono h1.size)).alloc (by have := h1.size; have := h2.size; omega) _⟩
    · obtain ⟨v1, v2⟩ := muldiv_ok (a := a) (b := b) (up := true) (n := P) hy0 (by rw [HW.out]; simp) hP2
      have V1 := Lib.hid v1
      have V2 := Lib.hid v2
      clear v1 v2
      go_enter Try.func19, Try.ntmps19
      go_wp2_with fail
      refine (H1.out _).mono ?_
      rintro e w1 ⟨rfl, h1⟩
      go_wp2_with fail
      refine (H2.out _).mono ?_
      rintro e w2 ⟨rfl, h2⟩
      go_wp2
      go_ret2
      exact ⟨ret_md (by rw [V1.out]) (by rw [V2.out]; rfl), (h1.trans (h2.mono h1.size)).alloc (by have := h1.size; have := h2.size; omega) _⟩
    · obtain ⟨v1, v2⟩ := muldiv_over (a := a) (b := b) (up := true) hy0 (by rw [HW.out, if_pos ⟨rfl, by omega⟩]; omega)
      have V1 := Lib.hid v1
      have V2 := Lib.hid v2
      have t1 : ((R : Int) == 0) = false := by simp; omega
      have t2 : ((P : Int) == 18446744073709551615) = true := by rw [h2]; rfl
      clear v1 v2 h2
      go_enter Try.func19, Try.ntmps19
      go_wp2_with fail
      refine (H1.out _).mono ?_
      rintro e w1 ⟨rfl, h1⟩
      go_wp2_with fail
      refine (H2.out _).mono ?_
      rintro e w2 ⟨rfl, h2⟩
      go_wp2
      go_ret2
      exact ⟨ret_md (by rw [V1.out]; rfl) (by rw [V2.out]; rfl), (h1.trans (h2.mono h1.size)).alloc (by have := h1.size; have := h2.size; omega) _⟩
    · obtain ⟨v1, v2⟩ := muldiv_ok (a := a) (b := b) (up := true) (n := P + 1) hy0 (by rw [HW.out, if_pos ⟨rfl, by omega⟩]; omega) (by omega)
      have V1 := Lib.hid v1
      have V2 := Lib.hid v2
      have t1 : ((R : Int) == 0) = false := by simp; omega
      have t2 : ((P : Int) == 18446744073709551615) = false := by simp; omega
      clear v1 v2
      go_enter Try.func19, Try.ntmps19
      go_wp2_with fail
      refine (H1.out _).mono ?_
      rintro e w1 ⟨rfl, h1⟩
      go_wp2_with fail
      refine (H2.out _).mono ?_
      rintro e w2 ⟨rfl, h2⟩
      go_wp2
      go_ret2
      exact ⟨ret_md (by rw [V1.out]; go_num) (by rw [V2.out]; rfl), (h1.trans (h2.mono h1.size)).alloc (by have := h1.size; have := h2.size; omega) _⟩

end Go.Proofs.Ytfmllfolpcimpaa
