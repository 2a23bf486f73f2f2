/- What 'Div' and 'MulDiv' of package wide answer. -/
import Derived.Test.YtdphooobgbminaaPk5
import Derived.Test.YtdphooobgbminaaPkDivA
import Derived.Deep.QuietTactic
import Derived.BigQuiet
import Derived.Deep.RegionWith
namespace Go.Proofs.Ytdphooobgbminaa
open Go.RowKit
set_option linter.unusedVariables false

theorem div64_any (hi lo y : Nat) (w : World) (hlt : hi < y) (hlo : lo < 18446744073709551616) (hy2 : y < 18446744073709551616) :
    Calls Try.prog 40 #[.int .u64 (hi : Int), .int .u64 (lo : Int), .int .u64 (y : Int)] w fun e w' =>
      e = .returned (.tuple #[.int .u64 (((hi * 18446744073709551616 + lo) / y : Nat) : Int), .int .u64 (((hi * 18446744073709551616 + lo) % y : Nat) : Int)]) ∧ ∃ n, w' = w.drewN n := by
  rcases Nat.eq_zero_or_pos hi with rfl | h
  · have := div64_low lo y w (by omega) hlo hy2
    simpa using this
  · exact (div64_high hi lo y w h hlt hlo hy2).mono fun _ _ ⟨h1, h2⟩ => ⟨h1, 0, h2⟩
theorem wide_parts_at {h l y K : Nat} (hy : 0 < y) (hl : l < K) :
    (h * K + l) / y / K = h / y ∧ (h * K + l) / y % K = (h % y * K + l) / y ∧ (h * K + l) % y = (h % y * K + l) % y := by
  have h1 := Nat.div_add_mod h y
  have h2 := Nat.mod_lt h hy
  have hK : 0 < K := by omega
  have e : h * K + l = y * (h / y * K) + (h % y * K + l) := by
    have e1 : y * (h / y * K) = y * (h / y) * K := (Nat.mul_assoc _ _ _).symm
    rw [e1, ← Nat.add_assoc, ← Nat.add_mul, h1]
  have hb : (h % y * K + l) / y < K := by
    rw [Nat.div_lt_iff_lt_mul hy]
    have h3 : (h % y + 1) * K ≤ y * K := Nat.mul_le_mul_right _ h2
    rw [Nat.add_mul, Nat.one_mul] at h3
    rw [Nat.mul_comm K y]
    omega
  rw [e, Nat.mul_add_div hy, Nat.mul_add_mod]
  generalize (h % y * K + l) / y = q at *
  rw [Nat.mul_comm (h / y) K, Nat.mul_add_div hK, Nat.mul_add_mod, Nat.div_eq_of_lt hb, Nat.mod_eq_of_lt hb]
  exact ⟨rfl, rfl, rfl⟩
theorem below_drewN {B : Nat} {a w : World} (h : Below B a w) (n : Nat) : Below B a (w.drewN n) := ⟨h.os, h.tape, h.output, h.size, h.block⟩
theorem wide_div0 (h l : Nat) (w : World) :
    Calls Try.prog 58 #[wd (h : Int) (l : Int), .int .u64 0] w fun e w' => e = .returned (.tuple #[wd 0 0, .int .u64 0, .int .i64 5]) ∧ Below w.heap.size w w' := by
  go_enter Try.func58, Try.ntmps58
  go_wp2
  refine bodyPost_ret (v := .tuple #[wd 0 0, .int .u64 0, .int .i64 5]) (by simp [results, Try.results58, go_sem]) rfl ⟨rfl, ?_⟩
  exact ((Below.refl _ _).alloc (Nat.le_refl _) _).alloc (by simp) _
theorem wide_div (h l y : Nat) (w : World) (hy : 0 < y) (hh : h < 18446744073709551616) (hl : l < 18446744073709551616) (hy2 : y < 18446744073709551616) :
    Calls Try.prog 58 #[wd (h : Int) (l : Int), .int .u64 (y : Int)] w fun e w' =>
      e = .returned (.tuple #[wd (((h * 18446744073709551616 + l) / y / 18446744073709551616 : Nat) : Int) (((h * 18446744073709551616 + l) / y % 18446744073709551616 : Nat) : Int), .int .u64 (((h * 18446744073709551616 + l) % y : Nat) : Int), .int .i64 0]) ∧ Below w.heap.size w w' := by
  obtain ⟨e1, e2, e3⟩ := wide_parts_at (h := h) (l := l) (K := 18446744073709551616) hy hl
  rw [e1, e2, e3]
  clear e1 e2 e3
  have hd := fun W : World => div64_any (h % y) l y W (Nat.mod_lt _ hy) hl hy2
  have HD := Lib.hid hd
  obtain ⟨qh, hqh⟩ : ∃ n, n = h / y := ⟨_, rfl⟩
  obtain ⟨rh, hrh⟩ : ∃ n, n = h % y := ⟨_, rfl⟩
  have hqb : qh < 18446744073709551616 := by rw [hqh]; exact Nat.lt_of_le_of_lt (Nat.div_le_self _ _) hh
  have c1 : (h : Int) / (y : Int) = (qh : Int) := by rw [hqh]; rfl
  have c2 : (h : Int) % (y : Int) = (rh : Int) := by rw [hrh]; rfl
  have c3 : IntKind.u64.wrap (qh : Int) = (qh : Int) := wrap_nat qh hqb
  have c0 : ((y : Int) == 0) = false := by simp; omega
  rw [← hrh] at HD
  rw [← hqh, ← hrh]
  clear hqh hrh hd
  go_enter Try.func58, Try.ntmps58
  go_wp2
  go_quiet (fail)
  go_wp2_with fail
  refine (HD.out _).mono ?_
  rintro e w' ⟨rfl, n, rfl⟩
  go_wp2
  refine bodyPost_ret (v := .tuple #[wd (qh : Int) (((rh * 18446744073709551616 + l) / y : Nat) : Int), .int .u64 (((rh * 18446744073709551616 + l) % y : Nat) : Int), .int .i64 0]) (by simp [results, Try.results58, go_sem]) rfl ⟨rfl, ?_⟩
  exact ((below_drewN (((Below.refl _ _).alloc (Nat.le_refl _) _).alloc (by simp) _) _).setCell (by simp) _).setCell (by simp) _
theorem wide_divN (N y : Nat) (w : World) (hy : 0 < y) (hN : N / 18446744073709551616 < 18446744073709551616) (hy2 : y < 18446744073709551616) :
    Calls Try.prog 58 #[wd ((N / 18446744073709551616 : Nat) : Int) ((N % 18446744073709551616 : Nat) : Int), .int .u64 (y : Int)] w fun e w' =>
      e = .returned (.tuple #[wd ((N / y / 18446744073709551616 : Nat) : Int) ((N / y % 18446744073709551616 : Nat) : Int), .int .u64 ((N % y : Nat) : Int), .int .i64 0]) ∧ Below w.heap.size w w' := by
  have h := wide_div (N / 18446744073709551616) (N % 18446744073709551616) y w hy hN (Nat.mod_lt _ (by decide)) hy2
  rw [Nat.div_add_mod' N 18446744073709551616] at h
  exact h

/-! ### 'MulDiv' -/
def mdWant (a b y : Nat) (up : Bool) : Nat := a * b / y + (if up = true ∧ a * b % y ≠ 0 then 1 else 0)
def mdVal (a b y : Nat) (up : Bool) : Nat := if y = 0 then 0 else if mdWant a b y up < 18446744073709551616 then mdWant a b y up else 0
def mdErr (a b y : Nat) (up : Bool) : Nat := if y = 0 then 5 else if mdWant a b y up < 18446744073709551616 then 0 else 4
theorem ret_md {a b : Int} {c d : Int} (h : a = b) (g : c = d) : Ending.returned (.tuple #[.int .u64 a, .int .i64 c]) = .returned (.tuple #[.int .u64 b, .int .i64 d]) := by rw [h, g]
theorem prod_high {a b : Nat} (ha : a < 18446744073709551616) (hb : b < 18446744073709551616) : a * b / 18446744073709551616 < 18446744073709551616 := by
  rw [Nat.div_lt_iff_lt_mul (by decide)]
  exact Nat.mul_lt_mul'' ha hb
theorem muldiv_ok {a b y : Nat} {up : Bool} {n : Nat} (hy : 0 < y) (h : mdWant a b y up = n) (hn : n < 18446744073709551616) : mdVal a b y up = n ∧ mdErr a b y up = 0 := by
  have hy' : y ≠ 0 := by omega
  unfold mdVal mdErr
  simp only [if_neg hy', h, if_pos hn, and_self]
theorem muldiv_over {a b y : Nat} {up : Bool} (hy : 0 < y) (h : 18446744073709551616 ≤ mdWant a b y up) : mdVal a b y up = 0 ∧ mdErr a b y up = 4 := by
  have hy' : y ≠ 0 := by omega
  have hn : ¬ mdWant a b y up < 18446744073709551616 := by omega
  unfold mdVal mdErr
  simp only [if_neg hy', if_neg hn, and_self]
theorem wide_divV (N y H L Q P R : Nat) (w : World) (hy : 0 < y) (hN : N / 18446744073709551616 < 18446744073709551616) (hy2 : y < 18446744073709551616) (hH : H = N / 18446744073709551616) (hL : L = N % 18446744073709551616)
    (hQ : Q = N / y / 18446744073709551616) (hP : P = N / y % 18446744073709551616) (hR : R = N % y) :
    Calls Try.prog 58 #[wd (H : Int) (L : Int), .int .u64 (y : Int)] w fun e w' => e = .returned (.tuple #[wd (Q : Int) (P : Int), .int .u64 (R : Int), .int .i64 0]) ∧ Below w.heap.size w w' := by
  subst hH hL hQ hP hR
  exact wide_divN N y w hy hN hy2
set_option maxHeartbeats 1000000 in
theorem muldiv_any (a b y : Nat) (up : Bool) (w : World) (ha : a < 18446744073709551616) (hb : b < 18446744073709551616) (hy : y < 18446744073709551616) :
    Calls Try.prog 52 #[.int .u64 (a : Int), .int .u64 (b : Int), .int .u64 (y : Int), .bool up] w fun e w' =>
      e = .returned (.tuple #[.int .u64 (mdVal a b y up : Int), .int .i64 (mdErr a b y up : Int)]) ∧ Below w.heap.size w w' := by
  rcases Nat.eq_zero_or_pos y with rfl | hy0
  · go_enter Try.func52, Try.ntmps52
    go_wp2_with fail
    refine (wide_of a b w ha hb).mono ?_
    rintro e w1 ⟨rfl, h1⟩
    go_wp2_with fail
    refine (wide_div0 _ _ w1).mono ?_
    rintro e w2 ⟨rfl, h2⟩
    go_wp2
    go_ret2
    exact ⟨ret_md (by simp [mdVal]) (by simp [mdErr]), (h1.trans (h2.mono h1.size)).alloc (by have := h1.size; have := h2.size; omega) _⟩
  · obtain ⟨H, hH⟩ : ∃ n, n = a * b / 18446744073709551616 := ⟨_, rfl⟩
    obtain ⟨L, hL⟩ : ∃ n, n = a * b % 18446744073709551616 := ⟨_, rfl⟩
    obtain ⟨Q, hQ⟩ : ∃ n, n = a * b / y / 18446744073709551616 := ⟨_, rfl⟩
    obtain ⟨P, hP⟩ : ∃ n, n = a * b / y % 18446744073709551616 := ⟨_, rfl⟩
    obtain ⟨R, hR⟩ : ∃ n, n = a * b % y := ⟨_, rfl⟩
    have hP2 : P < 18446744073709551616 := by rw [hP]; exact Nat.mod_lt _ (by decide)
    have hqp : a * b / y = Q * 18446744073709551616 + P := by rw [hQ, hP, Nat.div_add_mod' (a * b / y) 18446744073709551616]
    have hwant : mdWant a b y up = Q * 18446744073709551616 + P + (if up = true ∧ R ≠ 0 then 1 else 0) := by unfold mdWant; rw [hqp, ← hR]
    have C1 := fun W : World => wide_ofV a b H L W ha hb hH hL
    have C2 := fun W : World => wide_divV (a * b) y H L Q P R W hy0 (prod_high ha hb) hy hH hL hQ hP hR
    have H1 := Lib.hid C1
    have H2 := Lib.hid C2
    have HW := Lib.hid hwant
    clear C1 C2 hwant hH hL hQ hP hR hqp
    have hcase : 0 < Q ∨ (Q = 0 ∧ up = false) ∨ (Q = 0 ∧ up = true ∧ R = 0) ∨ (Q = 0 ∧ up = true ∧ 0 < R ∧ P = 18446744073709551615) ∨ (Q = 0 ∧ up = true ∧ 0 < R ∧ P < 18446744073709551615) := by
      cases up <;> simp <;> omega
    rcases hcase with h | ⟨rfl, rfl⟩ | ⟨rfl, rfl, rfl⟩ | ⟨rfl, rfl, h, h2⟩ | ⟨rfl, rfl, h, h2⟩
    · obtain ⟨v1, v2⟩ := muldiv_over (a := a) (b := b) (up := up) hy0 (by rw [HW.out]; omega)
      have V1 := Lib.hid v1
      have V2 := Lib.hid v2
      clear v1 v2
      have t1 : ((Q : Int) != 0) = true := by simp; omega
      go_enter Try.func52, Try.ntmps52
      go_wp2_with fail
      refine (H1.out _).mono ?_
      rintro e w1 ⟨rfl, h1⟩
      go_wp2_with fail
      refine (H2.out _).mono ?_
      rintro e w2 ⟨rfl, h2⟩
      go_wp2
      go_ret2
      exact ⟨ret_md (by rw [V1.out]; rfl) (by rw [V2.out]; rfl), (h1.trans (h2.mono h1.size)).alloc (by have := h1.size; have := h2.size; omega) _⟩
    · obtain ⟨v1, v2⟩ := muldiv_ok (a := a) (b := b) (up := false) (n := P) hy0 (by rw [HW.out]; simp) hP2
      have V1 := Lib.hid v1
      have V2 := Lib.hid v2
      clear v1 v2
      go_enter Try.func52, Try.ntmps52
      go_wp2_with fail
      refine (H1.out _).mono ?_
      rintro e w1 ⟨rfl, h1⟩
      go_wp2_with fail
      refine (H2.out _).mono ?_
      rintro e w2 ⟨rfl, h2⟩
      go_wp2
      go_ret2
      exact ⟨ret_md (by rw [V1.out]) (by rw [V2.out]; rfl), (h1.trans (h2.mono h1.size)).alloc (by have := h1.size; have := h2.size; omega) _⟩
    · obtain ⟨v1, v2⟩ := muldiv_ok (a := a) (b := b) (up := true) (n := P) hy0 (by rw [HW.out]; simp) hP2
      have V1 := Lib.hid v1
      have V2 := Lib.hid v2
      clear v1 v2
      go_enter Try.func52, Try.ntmps52
      go_wp2_with fail
      refine (H1.out _).mono ?_
      rintro e w1 ⟨rfl, h1⟩
      go_wp2_with fail
      refine (H2.out _).mono ?_
      rintro e w2 ⟨rfl, h2⟩
      go_wp2
      go_ret2
      exact ⟨ret_md (by rw [V1.out]) (by rw [V2.out]; rfl), (h1.trans (h2.mono h1.size)).alloc (by have := h1.size; have := h2.size; omega) _⟩
    · obtain ⟨v1, v2⟩ := muldiv_over (a := a) (b := b) (up := true) hy0 (by rw [HW.out, if_pos ⟨rfl, by omega⟩]; omega)
      have V1 := Lib.hid v1
      have V2 := Lib.hid v2
      have t1 : ((R : Int) == 0) = false := by simp; omega
      have t2 : ((P : Int) == 18446744073709551615) = true := by rw [h2]; rfl
      clear v1 v2 h2
      go_enter Try.func52, Try.ntmps52
      go_wp2_with fail
      refine (H1.out _).mono ?_
      rintro e w1 ⟨rfl, h1⟩
      go_wp2_with fail
      refine (H2.out _).mono ?_
      rintro e w2 ⟨rfl, h2⟩
      go_wp2
      go_ret2
      exact ⟨ret_md (by rw [V1.out]; rfl) (by rw [V2.out]; rfl), (h1.trans (h2.mono h1.size)).alloc (by have := h1.size; have := h2.size; omega) _⟩
    · obtain ⟨v1, v2⟩ := muldiv_ok (a := a) (b := b) (up := true) (n := P + 1) hy0 (by rw [HW.out, if_pos ⟨rfl, by omega⟩]; omega) (by omega)
      have V1 := Lib.hid v1
      have V2 := Lib.hid v2
      have t1 : ((R : Int) == 0) = false := by simp; omega
      have t2 : ((P : Int) == 18446744073709551615) = false := by simp; omega
      clear v1 v2
      go_enter Try.func52, Try.ntmps52
      go_wp2_with fail
      refine (H1.out _).mono ?_
      rintro e w1 ⟨rfl, h1⟩
      go_wp2_with fail
      refine (H2.out _).mono ?_
      rintro e w2 ⟨rfl, h2⟩
      go_wp2
      go_ret2
      exact ⟨ret_md (by rw [V1.out]; go_num) (by rw [V2.out]; rfl), (h1.trans (h2.mono h1.size)).alloc (by have := h1.size; have := h2.size; omega) _⟩

end Go.Proofs.Ytdphooobgbminaa
/- What the small functions on digits answer: 'at', 'trim', 'Of'. -/
namespace Go.Proofs.Ytdphooobgbminaa
open Go.RowKit
set_option linter.unusedVariables false

theorem ret_u8 {a b : Int} (h : a = b) : Ending.returned (.int .u8 a) = .returned (.int .u8 b) := by rw [h]
def lenOf : Value → Nat
  | .slice _ n _ => n
  | _ => 0
def TrimRet (w : World) (ad : Addr) (c : Nat) (l : List Nat) (e : Ending) (w' : World) : Prop :=
  ∃ k, k ≤ l.length ∧ e = .returned (.slice (some ad) k c) ∧ val (l.take k) = val l ∧ Tight (l.take k) ∧ w = w'
/-! ### 'Of' -/
def OfRel (w : World) (x X : Nat) (v : Value) (wr : World) (l : List Nat) : Prop :=
  X = x / 2 ^ l.length ∧ Bin l ∧ val l = x % 2 ^ l.length ∧ (0 < l.length → 0 < x / 2 ^ (l.length - 1)) ∧ Own wr w.heap.size v l ∧ Below w.heap.size w wr
theorem of_len {x k : Nat} (hx : x < 18446744073709551616) (h : 0 < x / 2 ^ k) : k < 64 := by
  rcases Nat.lt_or_ge k 64 with g | g
  · exact g
  · have h2 : 2 ^ 64 ≤ 2 ^ k := Nat.pow_le_pow_right (by decide) g
    rw [Nat.div_eq_of_lt (by omega)] at h
    omega
theorem of_round {w wr w1 : World} {x X : Nat} {v v' : Value} {l : List Nat} {o : Obj} (h : OfRel w x X v wr l) (hX : 0 < X) (hO : Own w1 w.heap.size v' (l ++ [X % 2])) (hg : (wr.alloc o).grownBy w1 v.ownBlock) :
    OfRel w x (X / 2) v' w1 (l ++ [X % 2]) := by
  obtain ⟨h1, h2, h3, h4, h5, h6⟩ := h
  refine ⟨?_, h2.append (Bin.one (Nat.mod_lt _ (by decide))), ?_, ?_, hO, ?_⟩
  · rw [List.length_append, List.length_singleton, Nat.pow_succ, ← Nat.div_div_eq_div_mul, ← h1]
  · rw [val_snoc, h3, List.length_append, List.length_singleton, mod_step, bit, ← h1]
  · intro _
    rw [List.length_append, List.length_singleton, Nat.add_sub_cancel, ← h1]
    exact hX
  · refine (h6.alloc h6.size o).grown hg ?_ ?_
    · have := h6.size; simp; omega
    · intro k hk
      exact (h5.lt k hk).1
theorem of_end {w wr : World} {x : Nat} {v : Value} {l : List Nat} (h : OfRel w x 0 v wr l) : RetOwn w x (.returned v) wr := by
  obtain ⟨h1, h2, h3, h4, h5, h6⟩ := h
  have hp := pow_pos2 l.length
  have hx : x < 2 ^ l.length := by
    rcases Nat.lt_or_ge x (2 ^ l.length) with g | g
    · exact g
    · have := Nat.div_pos g hp; omega
  rw [Nat.mod_eq_of_lt hx] at h3
  refine ⟨v, l, rfl, h5, h2, ?_, h3, h6⟩
  intro k hk
  rw [h3] at hk
  rcases Nat.lt_or_ge k l.length with g | g
  · have g4 := h4 (by omega)
    rw [Nat.div_eq_of_lt (Nat.lt_of_lt_of_le hk (Nat.pow_le_pow_right (by decide) (by omega)))] at g4
    omega
  · exact g
end Go.Proofs.Ytdphooobgbminaa
/- What 'Add' and 'sub' answer: sums and differences of numbers as digits. -/
namespace Go.Proofs.Ytdphooobgbminaa
open Go.RowKit
set_option linter.unusedVariables false

def AddRel (w : World) (a b k c : Nat) (v : Value) (wr : World) (l : List Nat) : Prop :=
  c ≤ 1 ∧ Bin l ∧ Hid (val l + c * 2 ^ l.length = a % 2 ^ l.length + b % 2 ^ l.length) ∧ l.length ≤ k + 1 ∧ (k < l.length → c = 0) ∧ Own wr w.heap.size v l ∧ Below w.heap.size w wr
theorem add_rel_round {w wr w1 : World} {a b k c : Nat} {v v' : Value} {l : List Nat} {o : Obj} (ha : a < 2 ^ k) (hb : b < 2 ^ k) (h : AddRel w a b k c v wr l) (hgo : l.length < k ∨ c = 1)
    (hO : Own w1 w.heap.size v' (l ++ [(bit a l.length + bit b l.length + c) % 2])) (hg : (wr.alloc o).grownBy w1 v.ownBlock) :
    AddRel w a b k ((bit a l.length + bit b l.length + c) / 2) v' w1 (l ++ [(bit a l.length + bit b l.length + c) % 2]) ∧
    2 * (k - (l.length + 1)) + (bit a l.length + bit b l.length + c) / 2 < 2 * (k - l.length) + c := by
  obtain ⟨h1, h2, h3, h4, h5, h6, h7⟩ := h
  have ba := bit_le a l.length
  have bb := bit_le b l.length
  have hk : l.length ≤ k := by
    rcases hgo with g | g
    · omega
    · rcases Nat.lt_or_ge k l.length with g' | g'
      · have := h5 g'; omega
      · exact g'
  have hz : l.length = k → bit a l.length = 0 ∧ bit b l.length = 0 := fun e => ⟨bit_zero ha (by omega), bit_zero hb (by omega)⟩
  refine ⟨⟨by omega, h2.append (Bin.one (Nat.mod_lt _ (by decide))), ?_, ?_, ?_, hO, ?_⟩, ?_⟩
  · show val _ + _ = _
    rw [val_snoc, List.length_append, List.length_singleton]
    exact add_round a b l.length _ c h3.out
  · rw [List.length_append, List.length_singleton]; omega
  · rw [List.length_append, List.length_singleton]
    intro hlt
    have := hz (by omega)
    omega
  · refine (h7.alloc h7.size o).grown hg ?_ ?_
    · have := h7.size; simp; omega
    · intro k hk
      exact (h6.lt k hk).1
  · rcases Nat.lt_or_ge l.length k with g | g
    · omega
    · have := hz (by omega)
      omega
theorem add_rel_end {w wr : World} {a b k n m : Nat} {v : Value} {l : List Nat} (h : AddRel w a b k 0 v wr l) (ha : a < 2 ^ n) (hb : b < 2 ^ m) (h1 : n ≤ l.length) (h2 : m ≤ l.length) : val l = a + b := by
  obtain ⟨_, _, h3, _⟩ := h
  exact add_done a b l.length _ (Nat.lt_of_lt_of_le ha (Nat.pow_le_pow_right (by decide) h1)) (Nat.lt_of_lt_of_le hb (Nat.pow_le_pow_right (by decide) h2)) h3.out

/-! ### 'sub' -/
end Go.Proofs.Ytdphooobgbminaa
/- What 'Cmp', 'Mul', 'Number', 'Join' and 'Two' answer. -/
namespace Go.Proofs.Ytdphooobgbminaa
open Go.RowKit
set_option linter.unusedVariables false

theorem ret_i64 {a b : Int} (h : a = b) : Ending.returned (.int .i64 a) = .returned (.int .i64 b) := by rw [h]

/-! ### 'Mul' -/
theorem mul_lt_pow {a b k m : Nat} (ha : a < 2 ^ k) (hb : b < 2 ^ m) : a * b < 2 ^ (k + m) := by
  rw [Nat.pow_add]
  exact Nat.mul_lt_mul'' ha hb
theorem mul_part_lt {a b k m : Nat} (j : Nat) (ha : a < 2 ^ k) (hb : b < 2 ^ m) : a * (b / 2 ^ j) < 2 ^ (k + m) :=
  mul_lt_pow ha (Nat.lt_of_le_of_lt (Nat.div_le_self _ _) hb)
end Go.Proofs.Ytdphooobgbminaa
/- What 'Number', 'Two' and 'Join' answer. -/
namespace Go.Proofs.Ytdphooobgbminaa
open Go.RowKit
set_option linter.unusedVariables false

/-- The 64 lowest digits of a number. -/
def low (n : Nat) : Nat := n % 18446744073709551616
theorem low_lt (n : Nat) : low n < 18446744073709551616 := Nat.mod_lt _ (by decide)
theorem low_of {n : Nat} (h : n < 18446744073709551616) : low n = n := Nat.mod_eq_of_lt h
theorem low_step (a j : Nat) : low (a / 2 ^ j) = (low (a / 2 ^ (j + 1)) * 2 + bit a j) % 18446744073709551616 := by
  rw [div_step a j]; unfold low; omega
theorem wrap_step (X b : Nat) : IntKind.u64.wrap (IntKind.u64.wrap ((X : Int) * 2) + (b : Int)) = (((X * 2 + b) % 18446744073709551616 : Nat) : Int) := by
  rw [IntKind.wrap_u64, IntKind.wrap_u64]; omega
theorem ret_num {a b : Nat} {p q : Bool} (h : a = b) (g : p = q) : Ending.returned (.tuple #[.int .u64 (a : Int), .bool p]) = .returned (.tuple #[.int .u64 (b : Int), .bool q]) := by rw [h, g]
end Go.Proofs.Ytdphooobgbminaa
/- What 'Div' answers: quotient and rest as digits. -/
namespace Go.Proofs.Ytdphooobgbminaa
open Go.RowKit
set_option linter.unusedVariables false

theorem made_zeros (n : Nat) : (madeCells (Value.int .u8 0).cells (n * 1)).toList = digs (List.replicate n 0) := by
  have e : (Value.int .u8 0).cells = #[.int .u8 0] := rfl
  rw [e, Nat.mul_one]
  apply List.ext_getElem
  · simp [madeCells, digs]
  · intro i h1 h2
    simp [madeCells, digs, Nat.mod_one]

def DivRet (w : World) (a d : Nat) (e : Ending) (w' : World) : Prop :=
  ∃ q r, e = .returned (.tuple #[q, r]) ∧ Num w' w.heap.size q (a / d) ∧ Num w' w.heap.size r (a % d) ∧ Below w.heap.size w w'
def DivRel (w : World) (n a d j : Nat) (v : Value) (wr : World) : Prop :=
  ∃ qs, (List.replicate j 0 ++ qs).length = n ∧ Bin qs ∧ val qs = a / 2 ^ j / d ∧
    wr.ownsRow w.heap.size 5 1 (.slice (some ⟨w.heap.size, 0, none⟩) n n) n (digs (List.replicate j 0 ++ qs)) ∧ Num wr (w.heap.size + 1) v (a / 2 ^ j % d) ∧ Below w.heap.size w wr ∧ w.heap.size < wr.heap.size

theorem replicate_snoc (j : Nat) (l : List Nat) : List.replicate (j + 1) 0 ++ l = List.replicate j 0 ++ (0 :: l) := by
  rw [List.replicate_succ', List.append_assoc]; rfl
theorem set_zero (j b : Nat) (l : List Nat) : (digs (List.replicate j 0 ++ (0 :: l))).set j (.int .u8 (b : Int)) = digs (List.replicate j 0 ++ (b :: l)) := by
  simp [digs]

theorem Row.setCell {w : World} {base : Nat} {v : Value} {l : List Nat} (h : Row w base v l) {p : Addr} (hp : p.block < base) (u : Value) : Row (w.setCell p u) base v l := by
  obtain ⟨ad, c, rfl, hc, h1, h2, h3⟩ := h
  refine ⟨ad, c, rfl, hc, h1, by simpa [World.setCell] using h2, h3.keep fun q hq => World.cell?_setCell_other w p q u (fun e => by subst e; omega)⟩
theorem Num.setCell {w : World} {base : Nat} {v : Value} {n : Nat} (h : Num w base v n) {p : Addr} (hp : p.block < base) (u : Value) : Num (w.setCell p u) base v n := by
  obtain ⟨l, h1, h2⟩ := h
  exact ⟨l, h1.setCell hp u, h2⟩

theorem ownsRow_below {w w' : World} {base e n : Nat} {v : Value} {xs : List Value} (h : w.ownsRow base e 1 v n xs) (hb : Below w.heap.size w w') : w'.ownsRow base e 1 v n xs :=
  h.kept (row := none) ⟨hb.os, hb.tape, hb.output, hb.size, fun i hi _ => hb.block i hi⟩ (by cases hv : v.ownBlock <;> simp)

/-- A round in which the rest stays below the divisor. -/
theorem div_keep {w wr w1 : World} {n a d j : Nat} {v v1 : Value} (hd : 0 < d) (h : DivRel w n a d (j + 1) v wr) (hb : Below wr.heap.size wr w1) (h1 : Num w1 wr.heap.size v1 (bit a j + 2 * (a / 2 ^ (j + 1) % d)))
    (hlt : bit a j + 2 * (a / 2 ^ (j + 1) % d) < d) : DivRel w n a d j v1 w1 := by
  obtain ⟨qs, h2, h3, h4, h5, h6, h7, h8⟩ := h
  obtain ⟨e1, e2⟩ := div_round_lt (k := j) hd (by omega : 2 * (a / 2 ^ (j + 1) % d) + bit a j < d)
  refine ⟨0 :: qs, by rw [← replicate_snoc]; exact h2, h3.cons (by decide), by rw [val_cons, h4, e1]; omega, by rw [← replicate_snoc]; exact ownsRow_below h5 hb, ?_, h7.trans (hb.mono (by omega)), by have := hb.size; omega⟩
  rw [e2, Nat.add_comm (2 * _) (bit a j)]
  exact h1.more (base' := w.heap.size + 1) (by omega)
/-- A round in which the divisor goes into it once. -/
theorem div_take {w wr w2 : World} {n a d j : Nat} {v v2 : Value} (hd : 0 < d) (h : DivRel w n a d (j + 1) v wr) (hb : Below wr.heap.size wr w2) (h2 : Num w2 wr.heap.size v2 (bit a j + 2 * (a / 2 ^ (j + 1) % d) - d))
    (hge : d ≤ bit a j + 2 * (a / 2 ^ (j + 1) % d)) : DivRel w n a d j v2 (w2.setCell ⟨w.heap.size, j, none⟩ (.int .u8 1)) := by
  obtain ⟨qs, h2', h3, h4, h5, h6, h7, h8⟩ := h
  obtain ⟨e1, e2⟩ := div_round_ge (k := j) hd (by omega : d ≤ 2 * (a / 2 ^ (j + 1) % d) + bit a j)
  have hown := ownsRow_below h5 hb
  rw [replicate_snoc] at hown h2'
  have hst := (hown.stored j (.int .u8 1)).1
  have e := set_zero j 1 qs
  rw [show (Value.int .u8 1 : Value) = .int .u8 ((1 : Nat) : Int) from rfl, e] at hst
  refine ⟨1 :: qs, by simpa using h2', h3.cons (by decide), by rw [val_cons, h4, e1]; omega, hst, ?_, (h7.trans (hb.mono (by omega))).setCell (Nat.le_refl _) _, by have := hb.size; simp [World.setCell]; omega⟩
  rw [e2, show 2 * (a / 2 ^ (j + 1) % d) + bit a j - d = bit a j + 2 * (a / 2 ^ (j + 1) % d) - d by omega]
  exact (h2.more (base' := w.heap.size + 1) (by omega)).setCell (Nat.lt_succ_self w.heap.size) _



end Go.Proofs.Ytdphooobgbminaa
/- What 'Right' of package quant answers; how a sign stands to 0. -/
namespace Go.Proofs.Ytdphooobgbminaa
open Go.RowKit
set_option linter.unusedVariables false

theorem right_yes (m : Int) (w : World) (h0 : 0 ≤ m) (h1 : m ≤ 9007199254740992) :
    Calls Try.prog 47 #[.int .i64 m] w fun e w' => e = .returned (.bool true) ∧ w = w' := by
  go_enter Try.func47, Try.ntmps47
  go_wp2
  go_ret
  exact ⟨rfl, rfl⟩
theorem right_no (m : Int) (w : World) (h : m < 0 ∨ 9007199254740992 < m) :
    Calls Try.prog 47 #[.int .i64 m] w fun e w' => e = .returned (.bool false) ∧ w = w' := by
  rcases h with h | h
  · have t1 : decide (0 ≤ m) = false := by simpa using h
    go_enter Try.func47, Try.ntmps47
    go_wp2
    go_ret
    exact ⟨rfl, rfl⟩
  · have t1 : decide (0 ≤ m) = true := by simp; omega
    have t2 : decide (m ≤ 9007199254740992) = false := by simpa using h
    go_enter Try.func47, Try.ntmps47
    go_wp2
    go_ret
    exact ⟨rfl, rfl⟩

theorem sgn_over {m n : Nat} (h : n < m) : decide (0 < sgn m n) = true := by rw [sgn_gt h]; rfl
theorem sgn_within {m n : Nat} (h : m ≤ n) : decide (0 < sgn m n) = false := by
  rcases Nat.lt_or_ge m n with h1 | h1
  · rw [sgn_lt h1]; rfl
  · rw [sgn_eq (by omega)]; rfl

theorem sgn_le {m n : Nat} : decide (sgn m n ≤ 0) = decide (m ≤ n) := by
  rcases Nat.lt_or_ge n m with h | h
  · rw [sgn_gt h, decide_eq_false (by omega : ¬ m ≤ n)]; rfl
  · rw [decide_eq_true h]
    rcases Nat.lt_or_ge m n with h1 | h1
    · rw [sgn_lt h1]; rfl
    · rw [sgn_eq (by omega)]; rfl

end Go.Proofs.Ytdphooobgbminaa
/- What the document's answers of layer 3 are: 'Ceil', 'Floor', 'Near'. -/
namespace Go.Proofs.Ytdphooobgbminaa
open Go.RowKit
set_option linter.unusedVariables false

def upDiv (a b y : Nat) : Nat := a * b / y + (if a * b % y = 0 then 0 else 1)
theorem upDiv_even {a b y : Nat} (h : a * b % y = 0) : upDiv a b y = a * b / y := by unfold upDiv; rw [if_pos h, Nat.add_zero]
theorem upDiv_odd {a b y : Nat} (h : 0 < a * b % y) : upDiv a b y = a * b / y + 1 := by unfold upDiv; rw [if_neg (by omega)]
theorem ret_u64 {a b : Nat} (h : a = b) : Ending.returned (.int .u64 (a : Int)) = .returned (.int .u64 (b : Int)) := by rw [h]




end Go.Proofs.Ytdphooobgbminaa
/- What the functions of package ratio answer. -/
namespace Go.Proofs.Ytdphooobgbminaa
open Go.RowKit
set_option linter.unusedVariables false

theorem mdWant_up (a b y : Nat) : mdWant a b y true = upDiv a b y := by
  unfold mdWant upDiv
  by_cases h : a * b % y = 0
  · rw [if_neg (by simp [h]), if_pos h]
  · rw [if_pos ⟨rfl, h⟩, if_neg h]
theorem mdWant_down (a b y : Nat) : mdWant a b y false = a * b / y := by
  unfold mdWant
  rw [if_neg (by simp), Nat.add_zero]

/-- A quantity that is right. -/
def Fine (m : Int) : Prop := 0 ≤ m ∧ m ≤ 9007199254740992
def Bad (m : Int) : Prop := m < 0 ∨ 9007199254740992 < m
theorem fine_or_bad (m : Int) : Fine m ∨ Bad m := by unfold Fine Bad; omega
/-- A count of replicas that can be. -/
def Some_ (n : Int) : Prop := 0 ≤ n ∧ n ≤ 1000000
def Odd_ (n : Int) : Prop := n < 0 ∨ 1000000 < n
theorem some_or_odd (n : Int) : Some_ n ∨ Odd_ n := by unfold Some_ Odd_; omega

theorem fine_zero : Fine 0 := by unfold Fine; omega
/-! ### 'Need', 'Whole' -/
end Go.Proofs.Ytdphooobgbminaa
/- What 'Near', 'Percent' and 'Share' of package ratio answer. -/
namespace Go.Proofs.Ytdphooobgbminaa
open Go.RowKit
set_option linter.unusedVariables false

def Wide_ (x : Int) : Prop := x < 0 ∨ 1000 < x
theorem wrap_milli {n : Nat} (h : n ≤ 9007199254740992) : IntKind.i64.wrap (n : Int) = (n : Int) := by rw [IntKind.wrap_i64]; omega
theorem ret_near {p q : Bool} (h : p = q) : Ending.returned (.tuple #[.bool p, .int .i64 0]) = .returned (.tuple #[.bool q, .int .i64 0]) := by rw [h]
/-! ### 'quotient', 'Percent', 'Share' -/
theorem quot_ok (a b y n : Nat) (up : Bool) (w : World) (ha : a < 18446744073709551616) (hb : b < 18446744073709551616) (hy : y < 18446744073709551616) (hy0 : 0 < y) (hw : mdWant a b y up = n) (hn : n ≤ 9007199254740992) :
    Calls Try.prog 48 #[.int .u64 (a : Int), .int .u64 (b : Int), .int .u64 (y : Int), .bool up] w fun e w' => e = .returned (.tuple #[.int .i64 (n : Int), .int .i64 0]) ∧ Below w.heap.size w w' := by
  have m := fun W : World => muldiv_any a b y up W ha hb hy
  obtain ⟨k1, k2⟩ := muldiv_ok (up := up) hy0 hw (by omega)
  rw [k1, k2] at m
  have M := Lib.hid m
  have W1 := wrap_milli hn
  clear m k1 k2 hw
  go_enter Try.func48, Try.ntmps48
  go_wp2_with fail
  refine (M.out _).mono ?_
  rintro e w1 ⟨rfl, h1⟩
  go_wp2
  go_ret2
  exact ⟨rfl, h1⟩
theorem quot_zero (a b : Nat) (up : Bool) (w : World) (ha : a < 18446744073709551616) (hb : b < 18446744073709551616) :
    Calls Try.prog 48 #[.int .u64 (a : Int), .int .u64 (b : Int), .int .u64 0, .bool up] w fun e w' => e = .returned (.tuple #[.int .i64 0, .int .i64 5]) ∧ Below w.heap.size w w' := by
  have m := fun W : World => muldiv_any a b 0 up W ha hb (by decide)
  rw [show mdVal a b 0 up = 0 from if_pos rfl, show mdErr a b 0 up = 5 from if_pos rfl] at m
  have m' : ∀ W : World, Calls Try.prog 52 #[.int .u64 (a : Int), .int .u64 (b : Int), .int .u64 0, .bool up] W fun e w' => e = .returned (.tuple #[.int .u64 0, .int .i64 5]) ∧ Below W.heap.size W w' := m
  have M := Lib.hid m'
  clear m m'
  go_enter Try.func48, Try.ntmps48
  go_wp2_with fail
  refine (M.out _).mono ?_
  rintro e w1 ⟨rfl, h1⟩
  go_wp2
  go_ret2
  exact ⟨rfl, h1⟩

theorem share_bad (p t : Int) (w : World) (h : Bad p ∨ (Fine p ∧ Bad t) ∨ (Fine p ∧ Fine t ∧ t < p)) : Calls Try.prog 38 #[.int .i64 p, .int .i64 t] w fun e w' => e = .returned (.tuple #[.int .i64 0, .int .i64 1]) ∧ w = w' := by
  rcases h with h | ⟨h, g⟩ | ⟨h, g, hlt⟩
  · go_enter Try.func38, Try.ntmps38
    go_wp2_with fail
    refine (right_no p _ h).mono ?_
    rintro e w' ⟨rfl, rfl⟩
    go_wp2
    go_ret2
    exact ⟨rfl, rfl⟩
  · go_enter Try.func38, Try.ntmps38
    go_wp2_with fail
    refine (right_yes p _ h.1 h.2).mono ?_
    rintro e w' ⟨rfl, rfl⟩
    go_wp2_with fail
    refine (right_no t _ g).mono ?_
    rintro e w' ⟨rfl, rfl⟩
    go_wp2
    go_ret2
    exact ⟨rfl, rfl⟩
  · go_enter Try.func38, Try.ntmps38
    go_wp2_with fail
    refine (right_yes p _ h.1 h.2).mono ?_
    rintro e w' ⟨rfl, rfl⟩
    go_wp2_with fail
    refine (right_yes t _ g.1 g.2).mono ?_
    rintro e w' ⟨rfl, rfl⟩
    go_wp2
    go_ret2
    exact ⟨rfl, rfl⟩
theorem share_zero (w : World) : Calls Try.prog 38 #[.int .i64 0, .int .i64 0] w fun e w' => e = .returned (.tuple #[.int .i64 0, .int .i64 5]) ∧ Below w.heap.size w w' := by
  have Q : Hid (∀ W : World, Calls Try.prog 48 #[.int .u64 0, .int .u64 1000, .int .u64 0, .bool false] W fun e w' => e = .returned (.tuple #[.int .i64 0, .int .i64 5]) ∧ Below W.heap.size W w') := Lib.hid (fun W : World => quot_zero 0 1000 false W (by decide) (by decide))
  go_enter Try.func38, Try.ntmps38
  go_wp2_with fail
  refine (right_yes 0 _ fine_zero.1 fine_zero.2).mono ?_
  rintro e w' ⟨rfl, rfl⟩
  go_wp2_with fail
  refine (right_yes 0 _ fine_zero.1 fine_zero.2).mono ?_
  rintro e w' ⟨rfl, rfl⟩
  go_wp2_with fail
  refine (Q.out _).mono ?_
  rintro e w1 ⟨rfl, h1⟩
  go_wp2
  go_ret2
  exact ⟨rfl, h1⟩
theorem share_le {p t : Nat} (h : p ≤ t) (h0 : 0 < t) : p * 1000 / t ≤ 1000 := by
  rw [Nat.div_le_iff_le_mul_add_pred h0]
  have := Nat.mul_le_mul_right 1000 h
  rw [Nat.mul_comm t 1000] at this
  omega
theorem share_ok (p t n : Nat) (w : World) (hp : p ≤ t) (ht : t ≤ 9007199254740992) (h0 : 0 < t) (hn : n = p * 1000 / t) :
    Calls Try.prog 38 #[.int .i64 (p : Int), .int .i64 (t : Int)] w fun e w' => e = .returned (.tuple #[.int .i64 (n : Int), .int .i64 0]) ∧ Below w.heap.size w w' := by
  have hb : n ≤ 1000 := by rw [hn]; exact share_le hp h0
  have q : ∀ W : World, Calls Try.prog 48 #[.int .u64 (p : Int), .int .u64 1000, .int .u64 (t : Int), .bool false] W fun e w' => e = .returned (.tuple #[.int .i64 (n : Int), .int .i64 0]) ∧ Below W.heap.size W w' :=
    fun W => quot_ok p 1000 t n false W (by omega) (by decide) (by omega) h0 (by rw [mdWant_down, hn]) (by omega)
  have Q := Lib.hid q
  have R1 := Lib.hid (fun W : World => right_yes (p : Int) W (by omega) (by omega))
  have R2 := Lib.hid (fun W : World => right_yes (t : Int) W (by omega) (by omega))
  clear q hn hb
  go_enter Try.func38, Try.ntmps38
  go_wp2_with fail
  refine (R1.out _).mono ?_
  rintro e w' ⟨rfl, rfl⟩
  go_wp2_with fail
  refine (R2.out _).mono ?_
  rintro e w' ⟨rfl, rfl⟩
  go_wp2_with fail
  refine (Q.out _).mono ?_
  rintro e w1 ⟨rfl, h1⟩
  go_wp2
  go_ret2
  exact ⟨rfl, h1⟩
end Go.Proofs.Ytdphooobgbminaa
/- Layer 17 (room): the share that is used (share, Share). -/
namespace Go.Proofs.Ytdphooobgbminaa.Rm
open Go.RowKit Go.Shelf Go.Lib Go.Sort Go.Deep
open Go.Joins (cell_of_block unfrozen_of_block block_setCell)
open Go.Proofs.Ytdphooobgbminaa.Ow
set_option linter.unusedVariables false
set_option linter.unusedSimpArgs false
set_option maxRecDepth 20000

/-- How much of a size is used, in thousandths. -/
def shareI (u s : Int) : Int := if u ≤ 0 then 0 else if s ≤ u then 1000 else u * 1000 / s
set_option maxHeartbeats 2000000 in
theorem share_int (u s : Int) (w : World) (hs : s ≤ 9007199254740992) :
    Calls Try.prog 23 #[.int .i64 u, .int .i64 s] w fun e w' => e = .returned (.int .i64 (shareI u s)) ∧ Below w.heap.size w w' := by
  unfold shareI
  by_cases h0 : u ≤ 0
  · rw [if_pos h0]
    have t : decide (u ≤ 0) = true := decide_eq_true h0
    clear h0
    go_enter Try.func23, Try.ntmps23
    go_wp2
    go_ret
    exact ⟨rfl, Below.refl _ _⟩
  rw [if_neg h0]
  by_cases h1 : s ≤ u
  · rw [if_pos h1]
    have t : decide (u ≤ 0) = false := decide_eq_false h0
    have t1 : decide (u ≥ s) = true := decide_eq_true h1
    clear h0 h1
    go_enter Try.func23, Try.ntmps23
    go_wp2
    go_ret
    exact ⟨rfl, Below.refl _ _⟩
  rw [if_neg h1]
  obtain ⟨n, hn⟩ : ∃ n, n = u * 1000 / s := ⟨_, rfl⟩
  have C : Hid (∀ W : World, Calls Try.prog 38 #[.int .i64 u, .int .i64 s] W fun e w' => e = .returned (.tuple #[.int .i64 n, .int .i64 0]) ∧ Below W.heap.size W w') := fun W => by
    obtain ⟨p, rfl⟩ : ∃ p : Nat, u = (p : Int) := ⟨u.toNat, by omega⟩
    obtain ⟨t, rfl⟩ : ∃ t : Nat, s = (t : Int) := ⟨s.toNat, by omega⟩
    have := share_ok p t (p * 1000 / t) W (by omega) (by omega) (by omega) rfl
    have e : ((p * 1000 / t : Nat) : Int) = n := by rw [hn]; push_cast; rfl
    rw [e] at this
    exact this
  rw [← hn]
  have t0 : decide (u ≤ 0) = false := decide_eq_false h0
  have t1 : decide (u ≥ s) = false := decide_eq_false h1
  clear hn h0 h1 hs
  go_enter Try.func23, Try.ntmps23
  go_wp2_with fail
  refine (C.out _).mono ?_
  rintro e w1 ⟨rfl, b1⟩
  go_wp2
  go_ret
  exact ⟨rfl, b1⟩
def shareR (r : Rmo) : Int := if r.n.mem = 0 then shareI r.cpu r.n.cpu else max (shareI r.cpu r.n.cpu) (shareI r.mem r.n.mem)
set_option maxHeartbeats 4000000 in
theorem rm_share (w : World) (R : Array Value) (r : Rmo) (hR : RmV w R r) (hc : r.n.cpu ≤ 9007199254740992) (hm : r.n.mem ≤ 9007199254740992) :
    Calls Try.prog 11 #[.agg R] w fun e w' => e = .returned (.int .i64 (shareR r)) ∧ Below w.heap.size w w' := by
  have C1 := Lib.hid (fun W => share_int r.cpu r.n.cpu W hc)
  have C2 := Lib.hid (fun W => share_int r.mem r.n.mem W hm)
  unfold shareR
  obtain ⟨s1, hs1⟩ : ∃ v, v = shareI r.cpu r.n.cpu := ⟨_, rfl⟩
  obtain ⟨s2, hs2⟩ : ∃ v, v = shareI r.mem r.n.mem := ⟨_, rfl⟩
  rw [← hs1] at C1
  rw [← hs2] at C2
  rw [← hs1, ← hs2]
  have sR := hR.one.1
  obtain ⟨N, hN, eR⟩ := hR
  obtain ⟨ql, cl, qt, ct, eN, _⟩ := hN.lit
  rw [eN, roomC_lit] at eR
  have r2 : R[2]? = some (.int .i64 r.n.cpu) := by rw [eR]; rfl
  have r3 : R[3]? = some (.int .i64 r.n.mem) := by rw [eR]; rfl
  have r8 : R[8]? = some (.int .i64 r.cpu) := by rw [eR]; rfl
  have r9 : R[9]? = some (.int .i64 r.mem) := by rw [eR]; rfl
  obtain ⟨nc, hnc⟩ : ∃ v, v = r.n.cpu := ⟨_, rfl⟩
  obtain ⟨nm, hnm⟩ : ∃ v, v = r.n.mem := ⟨_, rfl⟩
  obtain ⟨uc, huc⟩ : ∃ v, v = r.cpu := ⟨_, rfl⟩
  obtain ⟨um, hum⟩ : ∃ v, v = r.mem := ⟨_, rfl⟩
  rw [← hnc] at r2 C1
  rw [← huc] at r8 C1
  rw [← hnm] at r3 C2
  rw [← hum] at r9 C2
  rw [← hnm]
  obtain ⟨res, hres⟩ : ∃ x, x = (if nm = 0 then s1 else max s1 s2) := ⟨_, rfl⟩
  rw [← hres]
  have HRS := Lib.hid hres
  clear hres
  obtain ⟨B, hB⟩ : ∃ B, B = w.heap.size := ⟨_, rfl⟩
  obtain ⟨wa, hwa⟩ : ∃ x, x = w.alloc (.cells R RT) := ⟨_, rfl⟩
  have Ga : Gr w wa := hwa ▸ (Gr.refl w).alloc _
  have y0 : wa.heap[B]? = some (.cells R RT (0, 0)) := by rw [hwa, hB]; exact heap_alloc_new w _
  have HW : Hid (w.alloc (.cells R RT) = wa ∧ w.heap.size = B) := ⟨hwa.symm, hB.symm⟩
  have HX := Lib.hid (And.intro y0 (And.intro Ga.below (And.intro r2 (And.intro r3 (And.intro r8 r9)))))
  have c2 : wa.cell? ⟨B, 2, none⟩ = some (.int .i64 nc) := (cell_of_block y0 2).trans r2
  have c8 : wa.cell? ⟨B, 8, none⟩ = some (.int .i64 uc) := (cell_of_block y0 8).trans r8
  clear hs1 hs2 hwa hB Ga y0 r2 r3 r8 r9 eR eN hN sR hnc hnm huc hum hc hm
  go_enter Try.func11, Try.ntmps11
  go_upto_region 1 with fail
  rw [HW.out.1, HW.out.2]
  go_wp2_with fail
  refine (C1.out _).mono ?_
  rintro e w1 ⟨rfl, b1⟩
  obtain ⟨y0, ga, r2, r3, r8, r9⟩ := HX.out
  have z0 := (b1.block B (Array.getElem?_eq_some_iff.1 y0).1).trans y0
  have d3 : w1.cell? ⟨B, 3, none⟩ = some (.int .i64 nm) := (cell_of_block z0 3).trans r3
  have d9 : w1.cell? ⟨B, 9, none⟩ = some (.int .i64 um) := (cell_of_block z0 9).trans r9
  have FB := Lib.hid (ga.trans (b1.mono ga.size))
  clear y0 ga r2 r3 r8 r9 z0 b1 c2 c8 HX C1
  by_cases hz : nm = 0
  · have ER : Hid (res = s1) := by show _ = _; rw [HRS.out, if_pos hz]
    clear HRS
    subst hz
    go_wp2
    go_ret
    exact ⟨by rw [ER.out]; rfl, FB.out⟩
  · have ER : Hid (res = max s1 s2) := by show _ = _; rw [HRS.out, if_neg hz]
    clear HRS
    have t : (nm == 0) = false := by rw [beq_eq_false_iff_ne]; exact hz
    clear hz
    go_wp2_with fail
    refine (C2.out _).mono ?_
    rintro e w2 ⟨rfl, b2⟩
    have FC := Lib.hid (FB.out.trans (b2.mono FB.out.size))
    clear b2
    go_wp2
    go_ret
    exact ⟨by rw [ER.out]; rfl, FC.out⟩
end Go.Proofs.Ytdphooobgbminaa.Rm
