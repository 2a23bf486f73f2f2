/- What 'Div' and 'MulDiv' of package wide answer. -/
import Derived.Test.YtalhajnekpbkoaaWideO
import Derived.Test.YtalhajnekpbkoaaDivA
namespace Go.Proofs.Ytalhajnekpbkoaa
open Go.RowKit
set_option linter.unusedVariables false

theorem div64_any (hi lo y : Nat) (w : World) (hlt : hi < y) (hlo : lo < 18446744073709551616) (hy2 : y < 18446744073709551616) :
    Calls Try.prog 44 #[.int .u64 (hi : Int), .int .u64 (lo : Int), .int .u64 (y : Int)] w fun e w' =>
      e = .returned (.tuple #[.int .u64 (((hi * 18446744073709551616 + lo) / y : Nat) : Int), .int .u64 (((hi * 18446744073709551616 + lo) % y : Nat) : Int)]) ∧ ∃ n, w' = w.drewN n := by
  rcases Nat.eq_zero_or_pos hi with rfl | h
  · have := div64_low lo y w (by omega) hlo hy2
    simpa using this
  · exact (div64_high hi lo y w h hlt hlo hy2).mono fun _ _ ⟨h1, h2⟩ => ⟨h1, 0, h2⟩
theorem wide_parts_at {h l y K : Nat} (hy : 0 < y) (hl : l < K) :
    (h * K + l) / y / K = h / y ∧ (h * K + l) / y % K = (h % y * K + l) / y ∧ (h * K + l) % y = (h % y * K + l) % y := by
  have h1 := Nat.div_add_mod h y
  have h2 := Nat.mod_lt h hy
  have hK : 0 < K := by omega
  have e : h * K + l = y * (h / y * K) + (h % y * K + l) := by
    have e1 : y * (h / y * K) = y * (h / y) * K := (Nat.mul_assoc _ _ _).symm
    rw [e1, ← Nat.add_assoc, ← Nat.add_mul, h1]
  have hb : (h % y * K + l) / y < K := by
    rw [Nat.div_lt_iff_lt_mul hy]
    have h3 : (h % y + 1) * K ≤ y * K := Nat.mul_le_mul_right _ h2
    rw [Nat.add_mul, Nat.one_mul] at h3
    rw [Nat.mul_comm K y]
    omega
  rw [e, Nat.mul_add_div hy, Nat.mul_add_mod]
  generalize (h % y * K + l) / y = q at *
  rw [Nat.mul_comm (h / y) K, Nat.mul_add_div hK, Nat.mul_add_mod, Nat.div_eq_of_lt hb, Nat.mod_eq_of_lt hb]
  exact ⟨rfl, rfl, rfl⟩
theorem below_drewN {B : Nat} {a w : World} (h : Below B a w) (n : Nat) : Below B a (w.drewN n) := ⟨h.os, h.tape, h.output, h.size, h.block⟩
theorem wide_div0 (h l : Nat) (w : World) :
    Calls Try.prog 35 #[wd (h : Int) (l : Int), .int .u64 0] w fun e w' => e = .returned (.tuple #[wd 0 0, .int .u64 0, .int .i64 5]) ∧ Below w.heap.size w w' := by
  go_enter Try.func35, Try.ntmps35
  go_wp2
  refine bodyPost_ret (v := .tuple #[wd 0 0, .int .u64 0, .int .i64 5]) (by simp [results, Try.results35, go_sem]) rfl ⟨rfl, ?_⟩
  exact ((Below.refl _ _).alloc (Nat.le_refl _) _).alloc (by simp) _
theorem wide_div (h l y : Nat) (w : World) (hy : 0 < y) (hh : h < 18446744073709551616) (hl : l < 18446744073709551616) (hy2 : y < 18446744073709551616) :
    Calls Try.prog 35 #[wd (h : Int) (l : Int), .int .u64 (y : Int)] w fun e w' =>
      e = .returned (.tuple #[wd (((h * 18446744073709551616 + l) / y / 18446744073709551616 : Nat) : Int) (((h * 18446744073709551616 + l) / y % 18446744073709551616 : Nat) : Int), .int .u64 (((h * 18446744073709551616 + l) % y : Nat) : Int), .int .i64 0]) ∧ Below w.heap.size w w' := by
  obtain ⟨e1, e2, e3⟩ := wide_parts_at (h := h) (l := l) (K := 18446744073709551616) hy hl
  rw [e1, e2, e3]
  clear e1 e2 e3
  have hd := fun W : World => div64_any (h % y) l y W (Nat.mod_lt _ hy) hl hy2
  have HD := Lib.hid hd
  obtain ⟨qh, hqh⟩ : ∃ n, n = h / y := ⟨_, rfl⟩
  obtain ⟨rh, hrh⟩ : ∃ n, n = h % y := ⟨_, rfl⟩
  have hqb : qh < 18446744073709551616 := by rw [hqh]; exact Nat.lt_of_le_of_lt (Nat.div_le_self _ _) hh
  have c1 : (h : Int) / (y : Int) = (qh : Int) := by rw [hqh]; rfl
  have c2 : (h : Int) % (y : Int) = (rh : Int) := by rw [hrh]; rfl
  have c3 : IntKind.u64.wrap (qh : Int) = (qh : Int) := wrap_nat qh hqb
  have c0 : ((y : Int) == 0) = false := by simp; omega
  rw [← hrh] at HD
  rw [← hqh, ← hrh]
  clear hqh hrh hd
  go_enter Try.func35, Try.ntmps35
  go_wp2
  go_quiet (fail)
  go_wp2_with fail
  refine (HD.out _).mono ?_
  rintro e w' ⟨rfl, n, rfl⟩
  go_wp2
  refine bodyPost_ret (v := .tuple #[wd (qh : Int) (((rh * 18446744073709551616 + l) / y : Nat) : Int), .int .u64 (((rh * 18446744073709551616 + l) % y : Nat) : Int), .int .i64 0]) (by simp [results, Try.results35, go_sem]) rfl ⟨rfl, ?_⟩
  exact ((below_drewN (((Below.refl _ _).alloc (Nat.le_refl _) _).alloc (by simp) _) _).setCell (by simp) _).setCell (by simp) _
theorem wide_divN (N y : Nat) (w : World) (hy : 0 < y) (hN : N / 18446744073709551616 < 18446744073709551616) (hy2 : y < 18446744073709551616) :
    Calls Try.prog 35 #[wd ((N / 18446744073709551616 : Nat) : Int) ((N % 18446744073709551616 : Nat) : Int), .int .u64 (y : Int)] w fun e w' =>
      e = .returned (.tuple #[wd ((N / y / 18446744073709551616 : Nat) : Int) ((N / y % 18446744073709551616 : Nat) : Int), .int .u64 ((N % y : Nat) : Int), .int .i64 0]) ∧ Below w.heap.size w w' := by
  have h := wide_div (N / 18446744073709551616) (N % 18446744073709551616) y w hy hN (Nat.mod_lt _ (by decide)) hy2
  rw [Nat.div_add_mod' N 18446744073709551616] at h
  exact h


end Go.Proofs.Ytalhajnekpbkoaa
