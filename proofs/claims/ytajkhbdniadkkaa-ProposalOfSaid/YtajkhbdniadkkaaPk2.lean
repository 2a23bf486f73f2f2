/- What 'Div' and 'MulDiv' of package wide answer. -/
import Derived.Test.YtajkhbdniadkkaaWideO
import Derived.Test.YtajkhbdniadkkaaPk1
import Derived.Test.YtajkhbdniadkkaaMem
namespace Go.Proofs.Ytajkhbdniadkkaa
open Go.RowKit
set_option linter.unusedVariables false

theorem div64_any (hi lo y : Nat) (w : World) (hlt : hi < y) (hlo : lo < 18446744073709551616) (hy2 : y < 18446744073709551616) :
    Calls Try.prog 88 #[.int .u64 (hi : Int), .int .u64 (lo : Int), .int .u64 (y : Int)] w fun e w' =>
      e = .returned (.tuple #[.int .u64 (((hi * 18446744073709551616 + lo) / y : Nat) : Int), .int .u64 (((hi * 18446744073709551616 + lo) % y : Nat) : Int)]) ∧ ∃ n, w' = w.drewN n := by
  rcases Nat.eq_zero_or_pos hi with rfl | h
  · have := div64_low lo y w (by omega) hlo hy2
    simpa using this
  · exact (div64_high hi lo y w h hlt hlo hy2).mono fun _ _ ⟨h1, h2⟩ => ⟨h1, 0, h2⟩
theorem wide_parts_at {h l y K : Nat} (hy : 0 < y) (hl : l < K) :
    (h * K + l) / y / K = h / y ∧ (h * K + l) / y % K = (h % y * K + l) / y ∧ (h * K + l) % y = (h % y * K + l) % y := by
  have h1 := Nat.div_add_mod h y
  have h2 := Nat.mod_lt h hy
  have hK : 0 < K := by omega
  have e : h * K + l = y * (h / y * K) + (h % y * K + l) := by
    have e1 : y * (h / y * K) = y * (h / y) * K := (Nat.mul_assoc _ _ _).symm
    rw [e1, ← Nat.add_assoc, ← Nat.add_mul, h1]
  have hb : (h % y * K + l) / y < K := by
    rw [Nat.div_lt_iff_lt_mul hy]
    have h3 : (h % y + 1) * K ≤ y * K := Nat.mul_le_mul_right _ h2
    rw [Nat.add_mul, Nat.one_mul] at h3
    rw [Nat.mul_comm K y]
    omega
  rw [e, Nat.mul_add_div hy, Nat.mul_add_mod]
  generalize (h % y * K + l) / y = q at *
  rw [Nat.mul_comm (h / y) K, Nat.mul_add_div hK, Nat.mul_add_mod, Nat.div_eq_of_lt hb, Nat.mod_eq_of_lt hb]
  exact ⟨rfl, rfl, rfl⟩
theorem below_drewN {B : Nat} {a w : World} (h : Below B a w) (n : Nat) : Below B a (w.drewN n) := ⟨h.os, h.tape, h.output, h.size, h.block⟩
theorem wide_div0 (h l : Nat) (w : World) :
    Calls Try.prog 69 #[wd (h : Int) (l : Int), .int .u64 0] w fun e w' => e = .returned (.tuple #[wd 0 0, .int .u64 0, .int .i64 5]) ∧ Below w.heap.size w w' := by
  go_enter Try.func69, Try.ntmps69
  go_wp2
  refine bodyPost_ret (v := .tuple #[wd 0 0, .int .u64 0, .int .i64 5]) (by simp [results, Try.results69, go_sem]) rfl ⟨rfl, ?_⟩
  exact ((Below.refl _ _).alloc (Nat.le_refl _) _).alloc (by simp) _
theorem wide_div (h l y : Nat) (w : World) (hy : 0 < y) (hh : h < 18446744073709551616) (hl : l < 18446744073709551616) (hy2 : y < 18446744073709551616) :
    Calls Try.prog 69 #[wd (h : Int) (l : Int), .int .u64 (y : Int)] w fun e w' =>
      e = .returned (.tuple #[wd (((h * 18446744073709551616 + l) / y / 18446744073709551616 : Nat) : Int) (((h * 18446744073709551616 + l) / y % 18446744073709551616 : Nat) : Int), .int .u64 (((h * 18446744073709551616 + l) % y : Nat) : Int), .int .i64 0]) ∧ Below w.heap.size w w' := by
  obtain ⟨e1, e2, e3⟩ := wide_parts_at (h := h) (l := l) (K := 18446744073709551616) hy hl
  rw [e1, e2, e3]
  clear e1 e2 e3
  have hd := fun W : World => div64_any (h % y) l y W (Nat.mod_lt _ hy) hl hy2
  have HD := Lib.hid hd
  obtain ⟨qh, hqh⟩ : ∃ n, n = h / y := ⟨_, rfl⟩
  obtain ⟨rh, hrh⟩ : ∃ n, n = h % y := ⟨_, rfl⟩
  have hqb : qh < 18446744073709551616 := by rw [hqh]; exact Nat.lt_of_le_of_lt (Nat.div_le_self _ _) hh
  have c1 : (h : Int) / (y : Int) = (qh : Int) := by rw [hqh]; rfl
  have c2 : (h : Int) % (y : Int) = (rh : Int) := by rw [hrh]; rfl
  have c3 : IntKind.u64.wrap (qh : Int) = (qh : Int) := wrap_nat qh hqb
  have c0 : ((y : Int) == 0) = false := by simp; omega
  rw [← hrh] at HD
  rw [← hqh, ← hrh]
  clear hqh hrh hd
  go_enter Try.func69, Try.ntmps69
  go_wp2
  go_quiet (fail)
  go_wp2_with fail
  refine (HD.out _).mono ?_
  rintro e w' ⟨rfl, n, rfl⟩
  go_wp2
  refine bodyPost_ret (v := .tuple #[wd (qh : Int) (((rh * 18446744073709551616 + l) / y : Nat) : Int), .int .u64 (((rh * 18446744073709551616 + l) % y : Nat) : Int), .int .i64 0]) (by simp [results, Try.results69, go_sem]) rfl ⟨rfl, ?_⟩
  exact ((below_drewN (((Below.refl _ _).alloc (Nat.le_refl _) _).alloc (by simp) _) _).setCell (by simp) _).setCell (by simp) _
theorem wide_divN (N y : Nat) (w : World) (hy : 0 < y) (hN : N / 18446744073709551616 < 18446744073709551616) (hy2 : y < 18446744073709551616) :
    Calls Try.prog 69 #[wd ((N / 18446744073709551616 : Nat) : Int) ((N % 18446744073709551616 : Nat) : Int), .int .u64 (y : Int)] w fun e w' =>
      e = .returned (.tuple #[wd ((N / y / 18446744073709551616 : Nat) : Int) ((N / y % 18446744073709551616 : Nat) : Int), .int .u64 ((N % y : Nat) : Int), .int .i64 0]) ∧ Below w.heap.size w w' := by
  have h := wide_div (N / 18446744073709551616) (N % 18446744073709551616) y w hy hN (Nat.mod_lt _ (by decide)) hy2
  rw [Nat.div_add_mod' N 18446744073709551616] at h
  exact h

/-! ### 'MulDiv' -/
def mdWant (a b y : Nat) (up : Bool) : Nat := a * b / y + (if up = true ∧ a * b % y ≠ 0 then 1 else 0)
def mdVal (a b y : Nat) (up : Bool) : Nat := if y = 0 then 0 else if mdWant a b y up < 18446744073709551616 then mdWant a b y up else 0
def mdErr (a b y : Nat) (up : Bool) : Nat := if y = 0 then 5 else if mdWant a b y up < 18446744073709551616 then 0 else 4
theorem ret_md {a b : Int} {c d : Int} (h : a = b) (g : c = d) : Ending.returned (.tuple #[.int .u64 a, .int .i64 c]) = .returned (.tuple #[.int .u64 b, .int .i64 d]) := by rw [h, g]
theorem prod_high {a b : Nat} (ha : a < 18446744073709551616) (hb : b < 18446744073709551616) : a * b / 18446744073709551616 < 18446744073709551616 := by
  rw [Nat.div_lt_iff_lt_mul (by decide)]
  exact Nat.mul_lt_mul'' ha hb
theorem muldiv_ok {a b y : Nat} {up : Bool} {n : Nat} (hy : 0 < y) (h : mdWant a b y up = n) (hn : n < 18446744073709551616) : mdVal a b y up = n ∧ mdErr a b y up = 0 := by
  have hy' : y ≠ 0 := by omega
  unfold mdVal mdErr
  simp only [if_neg hy', h, if_pos hn, and_self]
theorem muldiv_over {a b y : Nat} {up : Bool} (hy : 0 < y) (h : 18446744073709551616 ≤ mdWant a b y up) : mdVal a b y up = 0 ∧ mdErr a b y up = 4 := by
  have hy' : y ≠ 0 := by omega
  have hn : ¬ mdWant a b y up < 18446744073709551616 := by omega
  unfold mdVal mdErr
  simp only [if_neg hy', if_neg hn, and_self]
theorem wide_divV (N y H L Q P R : Nat) (w : World) (hy : 0 < y) (hN : N / 18446744073709551616 < 18446744073709551616) (hy2 : y < 18446744073709551616) (hH : H = N / 18446744073709551616) (hL : L = N % 18446744073709551616)
    (hQ : Q = N / y / 18446744073709551616) (hP : P = N / y % 18446744073709551616) (hR : R = N % y) :
    Calls Try.prog 69 #[wd (H : Int) (L : Int), .int .u64 (y : Int)] w fun e w' => e = .returned (.tuple #[wd (Q : Int) (P : Int), .int .u64 (R : Int), .int .i64 0]) ∧ Below w.heap.size w w' := by
  subst hH hL hQ hP hR
  exact wide_divN N y w hy hN hy2
set_option maxHeartbeats 1000000 in
theorem muldiv_any (a b y : Nat) (up : Bool) (w : World) (ha : a < 18446744073709551616) (hb : b < 18446744073709551616) (hy : y < 18446744073709551616) :
    Calls Try.prog 47 #[.int .u64 (a : Int), .int .u64 (b : Int), .int .u64 (y : Int), .bool up] w fun e w' =>
      e = .returned (.tuple #[.int .u64 (mdVal a b y up : Int), .int .i64 (mdErr a b y up : Int)]) ∧ Below w.heap.size w w' := by
  rcases Nat.eq_zero_or_pos y with rfl | hy0
  · go_enter Try.func47, Try.ntmps47
    go_wp2_with fail
    refine (wide_of a b w ha hb).mono ?_
    rintro e w1 ⟨rfl, h1⟩
    go_wp2_with fail
    refine (wide_div0 _ _ w1).mono ?_
    rintro e w2 ⟨rfl, h2⟩
    go_wp2
    go_ret2
    exact ⟨ret_md (by simp [mdVal]) (by simp [mdErr]), (h1.trans (h2.mono h1.size)).alloc (by have := h1.size; have := h2.size; omega) _⟩
  · obtain ⟨H, hH⟩ : ∃ n, n = a * b / 18446744073709551616 := ⟨_, rfl⟩
    obtain ⟨L, hL⟩ : ∃ n, n = a * b % 18446744073709551616 := ⟨_, rfl⟩
    obtain ⟨Q, hQ⟩ : ∃ n, n = a * b / y / 18446744073709551616 := ⟨_, rfl⟩
    obtain ⟨P, hP⟩ : ∃ n, n = a * b / y % 18446744073709551616 := ⟨_, rfl⟩
    obtain ⟨R, hR⟩ : ∃ n, n = a * b % y := ⟨_, rfl⟩
    have hP2 : P < 18446744073709551616 := by rw [hP]; exact Nat.mod_lt _ (by decide)
    have hqp : a * b / y = Q * 18446744073709551616 + P := by rw [hQ, hP, Nat.div_add_mod' (a * b / y) 18446744073709551616]
    have hwant : mdWant a b y up = Q * 18446744073709551616 + P + (if up = true ∧ R ≠ 0 then 1 else 0) := by unfold mdWant; rw [hqp, ← hR]
    have C1 := fun W : World => wide_ofV a b H L W ha hb hH hL
    have C2 := fun W : World => wide_divV (a * b) y H L Q P R W hy0 (prod_high ha hb) hy hH hL hQ hP hR
    have H1 := Lib.hid C1
    have H2 := Lib.hid C2
    have HW := Lib.hid hwant
    clear C1 C2 hwant hH hL hQ hP hR hqp
    have hcase : 0 < Q ∨ (Q = 0 ∧ up = false) ∨ (Q = 0 ∧ up = true ∧ R = 0) ∨ (Q = 0 ∧ up = true ∧ 0 < R ∧ P = 18446744073709551615) ∨ (Q = 0 ∧ up = true ∧ 0 < R ∧ P < 18446744073709551615) := by
      cases up <;> simp <;> omega
    rcases hcase with h | ⟨rfl, rfl⟩ | ⟨rfl, rfl, rfl⟩ | ⟨rfl, rfl, h, h2⟩ | ⟨rfl, rfl, h, h2⟩
    · obtain ⟨v1, v2⟩ := muldiv_over (a := a) (b := b) (up := up) hy0 (by rw [HW.out]; omega)
      have V1 := Lib.hid v1
      have V2 := Lib.hid v2
      clear v1 v2
      have t1 : ((Q : Int) != 0) = true := by simp; omega
      go_enter Try.func47, Try.ntmps47
      go_wp2_with fail
      refine (H1.out _).mono ?_
      rintro e w1 ⟨rfl, h1⟩
      go_wp2_with fail
      refine (H2.out _).mono ?_
      rintro e w2 ⟨rfl, h2⟩
      go_wp2
      go_ret2
      exact ⟨ret_md (by rw [V1.out]; rfl) (by rw [V2.out]; rfl), (h1.trans (h2.mono h1.size)).alloc (by have := h1.size; have := h2.size; omega) _⟩
    · obtain ⟨v1, v2⟩ := muldiv_ok (a := a) (b := b) (up := false) (n := P) hy0 (by rw [HW.out]; simp) hP2
      have V1 := Lib.hid v1
      have V2 := Lib.hid v2
      clear v1 v2
      go_enter Try.func47, Try.ntmps47
      go_wp2_with fail
      refine (H1.out _).mono ?_
      rintro e w1 ⟨rfl, h1⟩
      go_wp2_with fail
      refine (H2.out _).mono ?_
      rintro e w2 ⟨rfl, h2⟩
      go_wp2
      go_ret2
      exact ⟨ret_md (by rw [V1.out]) (by rw [V2.out]; rfl), (h1.trans (h2.mono h1.size)).alloc (by have := h1.size; have := h2.size; omega) _⟩
    · obtain ⟨v1, v2⟩ := muldiv_ok (a := a) (b := b) (up := true) (n := P) hy0 (by rw [HW.out]; simp) hP2
      have V1 := Lib.hid v1
      have V2 := Lib.hid v2
      clear v1 v2
      go_enter Try.func47, Try.ntmps47
      go_wp2_with fail
      refine (H1.out _).mono ?_
      rintro e w1 ⟨rfl, h1⟩
      go_wp2_with fail
      refine (H2.out _).mono ?_
      rintro e w2 ⟨rfl, h2⟩
      go_wp2
      go_ret2
      exact ⟨ret_md (by rw [V1.out]) (by rw [V2.out]; rfl), (h1.trans (h2.mono h1.size)).alloc (by have := h1.size; have := h2.size; omega) _⟩
    · obtain ⟨v1, v2⟩ := muldiv_over (a := a) (b := b) (up := true) hy0 (by rw [HW.out, if_pos ⟨rfl, by omega⟩]; omega)
      have V1 := Lib.hid v1
      have V2 := Lib.hid v2
      have t1 : ((R : Int) == 0) = false := by simp; omega
      have t2 : ((P : Int) == 18446744073709551615) = true := by rw [h2]; rfl
      clear v1 v2 h2
      go_enter Try.func47, Try.ntmps47
      go_wp2_with fail
      refine (H1.out _).mono ?_
      rintro e w1 ⟨rfl, h1⟩
      go_wp2_with fail
      refine (H2.out _).mono ?_
      rintro e w2 ⟨rfl, h2⟩
      go_wp2
      go_ret2
      exact ⟨ret_md (by rw [V1.out]; rfl) (by rw [V2.out]; rfl), (h1.trans (h2.mono h1.size)).alloc (by have := h1.size; have := h2.size; omega) _⟩
    · obtain ⟨v1, v2⟩ := muldiv_ok (a := a) (b := b) (up := true) (n := P + 1) hy0 (by rw [HW.out, if_pos ⟨rfl, by omega⟩]; omega) (by omega)
      have V1 := Lib.hid v1
      have V2 := Lib.hid v2
      have t1 : ((R : Int) == 0) = false := by simp; omega
      have t2 : ((P : Int) == 18446744073709551615) = false := by simp; omega
      clear v1 v2
      go_enter Try.func47, Try.ntmps47
      go_wp2_with fail
      refine (H1.out _).mono ?_
      rintro e w1 ⟨rfl, h1⟩
      go_wp2_with fail
      refine (H2.out _).mono ?_
      rintro e w2 ⟨rfl, h2⟩
      go_wp2
      go_ret2
      exact ⟨ret_md (by rw [V1.out]; go_num) (by rw [V2.out]; rfl), (h1.trans (h2.mono h1.size)).alloc (by have := h1.size; have := h2.size; omega) _⟩

end Go.Proofs.Ytajkhbdniadkkaa
/- What the small functions on digits answer: 'at', 'trim', 'Of'. -/
namespace Go.Proofs.Ytajkhbdniadkkaa
open Go.RowKit
set_option linter.unusedVariables false

theorem at_in (w : World) (ad : Addr) (c n : Nat) (i : Int) (x : Int) (hn : n ≤ 2147483647) (h0 : 0 ≤ i) (h1 : i < n) (hc : w.cell? (ad.add i.toNat) = some (.int .u8 x)) :
    Calls Try.prog 70 #[.slice (some ad) n c, .int .i64 i] w fun e w' => e = .returned (.int .u8 x) ∧ w = w' := by
  go_enter Try.func70, Try.ntmps70
  go_wp2
  go_ret
  exact ⟨rfl, rfl⟩
theorem at_out (w : World) (ad : Addr) (c n : Nat) (i : Int) (hn : n ≤ 2147483647) (h1 : (n : Int) ≤ i) :
    Calls Try.prog 70 #[.slice (some ad) n c, .int .i64 i] w fun e w' => e = .returned (.int .u8 0) ∧ w = w' := by
  go_enter Try.func70, Try.ntmps70
  go_wp2
  go_ret
  exact ⟨rfl, rfl⟩
theorem ret_u8 {a b : Int} (h : a = b) : Ending.returned (.int .u8 a) = .returned (.int .u8 b) := by rw [h]
/-- 'at': a number's digit. -/
theorem at_num {w : World} {base : Nat} {v : Value} {l : List Nat} (hr : Row w base v l) (hb : Bin l) (hn : l.length ≤ 2147483647) (i : Int) (h0 : 0 ≤ i) :
    Calls Try.prog 70 #[v, .int .i64 i] w fun e w' => e = .returned (.int .u8 ((bit (val l) i.toNat : Nat) : Int)) ∧ w = w' := by
  obtain ⟨ad, c, rfl, hc, _, _, hcells⟩ := hr
  by_cases h1 : i < l.length
  · have hx := hcells.at_ (j := i.toNat) (by omega)
    rw [get_bit l hb] at hx
    exact at_in w ad c l.length i _ hn h0 h1 hx
  · refine (at_out w ad c l.length i hn (by omega)).mono ?_
    rintro e w' ⟨rfl, rfl⟩
    refine ⟨ret_u8 ?_, rfl⟩
    rw [bit_zero (val_lt l hb) (by omega)]
    rfl


def lenOf : Value → Nat
  | .slice _ n _ => n
  | _ => 0
def TrimRet (w : World) (ad : Addr) (c : Nat) (l : List Nat) (e : Ending) (w' : World) : Prop :=
  ∃ k, k ≤ l.length ∧ e = .returned (.slice (some ad) k c) ∧ val (l.take k) = val l ∧ Tight (l.take k) ∧ w = w'
set_option maxHeartbeats 400000 in
theorem trim_in (w : World) (ad : Addr) (c : Nat) (l : List Nat) (hb : Bin l) (hc : l.length ≤ c) (hn : l.length ≤ 2147483647) (h : Cells w ad l) :
    Calls Try.prog 71 #[.slice (some ad) l.length c] w (TrimRet w ad c l) := by
  go_enter Try.func71, Try.ntmps71
  go_wp2
  go_loop [0] (fun v => ∃ k : Nat, k ≤ l.length ∧ v = .slice (some ad) k c ∧ Hid (val (l.take k) = val l)) (fun v => lenOf v)
  case atStart => exact ⟨l.length, Nat.le_refl _, rfl, by show val _ = val l; rw [List.take_length]⟩
  case round =>
    obtain ⟨k, hk, rfl, hval⟩ := hrel
    rcases k with _ | k
    · go_wp2
      go_ret
      exact ⟨0, Nat.zero_le _, rfl, hval.out, by rw [List.take_zero]; exact tight_nil, rfl⟩
    · have hcell := h.at_ (j := k) (by omega)
      have hb1 : l.getD k 0 < 2 := by rw [get_bit l hb]; exact bit_lt _ _
      have hcase : l.getD k 0 = 0 ∨ l.getD k 0 = 1 := by omega
      rcases hcase with h0 | h1
      · have H0 := Lib.hid h0
        rw [h0] at hcell
        clear h0 hb1
        go_wp2
        go_round
        case rel => exact ⟨k, by omega, rfl, by show val _ = val l; rw [← take_trim l hb k H0.out]; exact hval.out⟩
        case measure => simp [lenOf]
      · have H1 := Lib.hid h1
        rw [h1] at hcell
        clear h1 hb1
        go_wp2
        go_ret
        exact ⟨k + 1, hk, rfl, hval.out, take_tight l k hk H1.out, rfl⟩

/-- 'trim': a row of digits, as a number. -/
theorem trim_row {w : World} {base : Nat} {v : Value} {l : List Nat} (hr : Row w base v l) (hb : Bin l) (hn : l.length ≤ 2147483647) :
    Calls Try.prog 71 #[v] w fun e w' => (∃ v', e = .returned v' ∧ Num w base v' (val l)) ∧ w = w' := by
  obtain ⟨ad, c, rfl, hc, h1, h2, hcells⟩ := hr
  refine (trim_in w ad c l hb hc hn hcells).mono ?_
  rintro e w' ⟨k, hk, rfl, hv, ht, rfl⟩
  have hl : (l.take k).length = k := by rw [List.length_take]; omega
  exact ⟨⟨_, rfl, l.take k, ⟨ad, c, by rw [hl], by rw [hl]; omega, h1, h2, hcells.take k⟩, hb.take k, ht, hv⟩, rfl⟩

/-! ### 'Of' -/
def OfRel (w : World) (x X : Nat) (v : Value) (wr : World) (l : List Nat) : Prop :=
  X = x / 2 ^ l.length ∧ Bin l ∧ val l = x % 2 ^ l.length ∧ (0 < l.length → 0 < x / 2 ^ (l.length - 1)) ∧ Own wr w.heap.size v l ∧ Below w.heap.size w wr
theorem of_len {x k : Nat} (hx : x < 18446744073709551616) (h : 0 < x / 2 ^ k) : k < 64 := by
  rcases Nat.lt_or_ge k 64 with g | g
  · exact g
  · have h2 : 2 ^ 64 ≤ 2 ^ k := Nat.pow_le_pow_right (by decide) g
    rw [Nat.div_eq_of_lt (by omega)] at h
    omega
theorem of_round {w wr w1 : World} {x X : Nat} {v v' : Value} {l : List Nat} {o : Obj} (h : OfRel w x X v wr l) (hX : 0 < X) (hO : Own w1 w.heap.size v' (l ++ [X % 2])) (hg : (wr.alloc o).grownBy w1 v.ownBlock) :
    OfRel w x (X / 2) v' w1 (l ++ [X % 2]) := by
  obtain ⟨h1, h2, h3, h4, h5, h6⟩ := h
  refine ⟨?_, h2.append (Bin.one (Nat.mod_lt _ (by decide))), ?_, ?_, hO, ?_⟩
  · rw [List.length_append, List.length_singleton, Nat.pow_succ, ← Nat.div_div_eq_div_mul, ← h1]
  · rw [val_snoc, h3, List.length_append, List.length_singleton, mod_step, bit, ← h1]
  · intro _
    rw [List.length_append, List.length_singleton, Nat.add_sub_cancel, ← h1]
    exact hX
  · refine (h6.alloc h6.size o).grown hg ?_ ?_
    · have := h6.size; simp; omega
    · intro k hk
      exact (h5.lt k hk).1
theorem of_end {w wr : World} {x : Nat} {v : Value} {l : List Nat} (h : OfRel w x 0 v wr l) : RetOwn w x (.returned v) wr := by
  obtain ⟨h1, h2, h3, h4, h5, h6⟩ := h
  have hp := pow_pos2 l.length
  have hx : x < 2 ^ l.length := by
    rcases Nat.lt_or_ge x (2 ^ l.length) with g | g
    · exact g
    · have := Nat.div_pos g hp; omega
  rw [Nat.mod_eq_of_lt hx] at h3
  refine ⟨v, l, rfl, h5, h2, ?_, h3, h6⟩
  intro k hk
  rw [h3] at hk
  rcases Nat.lt_or_ge k l.length with g | g
  · have g4 := h4 (by omega)
    rw [Nat.div_eq_of_lt (Nat.lt_of_lt_of_le hk (Nat.pow_le_pow_right (by decide) (by omega)))] at g4
    omega
  · exact g
set_option maxHeartbeats 400000 in
theorem of_own (w : World) (x : Nat) (hx : x < 18446744073709551616) :
    Calls Try.prog 51 #[.int .u64 (x : Int)] w (RetOwn w x) := by
  go_enter Try.func51, Try.ntmps51
  go_wp2
  go_loopw [0, 3] (fun z v wr => ∃ X : Nat, z = .int .u64 (X : Int) ∧ X < 18446744073709551616 ∧ ∃ l, OfRel w x X v wr l) (fun z _ _ => (intOf z).toNat)
  case atStart =>
    exact ⟨x, rfl, hx, [], by simp, Bin.nil, by simp [val, Nat.mod_one], by simp, Own.empty w (Nat.le_refl _), (Below.refl _ _).alloc (Nat.le_refl _) _⟩
  case round =>
    obtain ⟨X, rfl, hX, l, hrel⟩ := hrel
    by_cases h0 : X = 0
    · subst h0
      go_wp2
      go_ret
      exact of_end hrel
    · have hown := hrel.2.2.2.2.1
      have hsz := hrel.2.2.2.2.2.size
      have hlen := of_len hx (k := l.length) (by rw [← hrel.1]; omega)
      have hpos : 0 < X := by omega
      clear h0
      go_wp2_with (at_builtin; refine wpList_append_row rfl (.tmp 9) (.tmp 13) rfl w.heap.size _ l rfl (hown.alloc _) wr.heap.size _ [X % 2] rfl (Row.one wr _ _ (by omega)) (by simp; omega) (by simp; omega) ?_; intro v1 w1 hO hg _)
      go_outline
      go_roundw
      case rel => exact ⟨X / 2, by go_num, by omega, _, of_round hrel hpos hO hg⟩
      case measure => simp [intOf]; omega

theorem of_any (w : World) (x : Nat) (hx : x < 18446744073709551616) :
    Calls Try.prog 51 #[.int .u64 (x : Int)] w (RetNum w x) :=
  (of_own w x hx).mono fun _ _ h => h.num

end Go.Proofs.Ytajkhbdniadkkaa
/- What 'Add' and 'sub' answer: sums and differences of numbers as digits. -/
namespace Go.Proofs.Ytajkhbdniadkkaa
open Go.RowKit
set_option linter.unusedVariables false

def AddRel (w : World) (a b k c : Nat) (v : Value) (wr : World) (l : List Nat) : Prop :=
  c ≤ 1 ∧ Bin l ∧ Hid (val l + c * 2 ^ l.length = a % 2 ^ l.length + b % 2 ^ l.length) ∧ l.length ≤ k + 1 ∧ (k < l.length → c = 0) ∧ Own wr w.heap.size v l ∧ Below w.heap.size w wr
theorem add_rel_round {w wr w1 : World} {a b k c : Nat} {v v' : Value} {l : List Nat} {o : Obj} (ha : a < 2 ^ k) (hb : b < 2 ^ k) (h : AddRel w a b k c v wr l) (hgo : l.length < k ∨ c = 1)
    (hO : Own w1 w.heap.size v' (l ++ [(bit a l.length + bit b l.length + c) % 2])) (hg : (wr.alloc o).grownBy w1 v.ownBlock) :
    AddRel w a b k ((bit a l.length + bit b l.length + c) / 2) v' w1 (l ++ [(bit a l.length + bit b l.length + c) % 2]) ∧
    2 * (k - (l.length + 1)) + (bit a l.length + bit b l.length + c) / 2 < 2 * (k - l.length) + c := by
  obtain ⟨h1, h2, h3, h4, h5, h6, h7⟩ := h
  have ba := bit_le a l.length
  have bb := bit_le b l.length
  have hk : l.length ≤ k := by
    rcases hgo with g | g
    · omega
    · rcases Nat.lt_or_ge k l.length with g' | g'
      · have := h5 g'; omega
      · exact g'
  have hz : l.length = k → bit a l.length = 0 ∧ bit b l.length = 0 := fun e => ⟨bit_zero ha (by omega), bit_zero hb (by omega)⟩
  refine ⟨⟨by omega, h2.append (Bin.one (Nat.mod_lt _ (by decide))), ?_, ?_, ?_, hO, ?_⟩, ?_⟩
  · show val _ + _ = _
    rw [val_snoc, List.length_append, List.length_singleton]
    exact add_round a b l.length _ c h3.out
  · rw [List.length_append, List.length_singleton]; omega
  · rw [List.length_append, List.length_singleton]
    intro hlt
    have := hz (by omega)
    omega
  · refine (h7.alloc h7.size o).grown hg ?_ ?_
    · have := h7.size; simp; omega
    · intro k hk
      exact (h6.lt k hk).1
  · rcases Nat.lt_or_ge l.length k with g | g
    · omega
    · have := hz (by omega)
      omega
theorem add_rel_end {w wr : World} {a b k n m : Nat} {v : Value} {l : List Nat} (h : AddRel w a b k 0 v wr l) (ha : a < 2 ^ n) (hb : b < 2 ^ m) (h1 : n ≤ l.length) (h2 : m ≤ l.length) : val l = a + b := by
  obtain ⟨_, _, h3, _⟩ := h
  exact add_done a b l.length _ (Nat.lt_of_lt_of_le ha (Nat.pow_le_pow_right (by decide) h1)) (Nat.lt_of_lt_of_le hb (Nat.pow_le_pow_right (by decide) h2)) h3.out

set_option maxHeartbeats 1000000 in
theorem add_any {w : World} {b1 b2 : Nat} {v1 v2 : Value} {a b : Nat} (k : Nat) (h1 : Num w b1 v1 a) (h2 : Num w b2 v2 b) (ha : a < 2 ^ k) (hb : b < 2 ^ k) (hk : k ≤ 1000000) :
    Calls Try.prog 53 #[v1, v2] w (RetNum w (a + b)) := by
  obtain ⟨la, hra, bina, tia, rfl⟩ := h1
  obtain ⟨lb, hrb, binb, tib, rfl⟩ := h2
  have hla := tia.len_le ha
  have hlb := tib.len_le hb
  have va := val_lt la bina
  have vb := val_lt lb binb
  have HA := Lib.hid ha
  have HB := Lib.hid hb
  have VA := Lib.hid va
  have VB := Lib.hid vb
  clear ha hb va vb tia tib
  obtain ⟨ada, ca, rfl, hca, ha1, ha2, hcells⟩ := id hra
  obtain ⟨adb, cb, rfl, hcb, hb1, hb2, hcellsb⟩ := id hrb
  clear hcells hcellsb
  go_enter Try.func53, Try.ntmps53
  go_wp2
  go_loopw [5, 6, 7] (fun v c i wr => ∃ (C : Nat) (l : List Nat), c = .int .u8 (C : Int) ∧ i = .int .i64 (l.length : Int) ∧ AddRel w (val la) (val lb) k C v wr l) (fun _ c i _ => 2 * (k - (intOf i).toNat) + (intOf c).toNat)
  case atStart =>
    exact ⟨0, [], rfl, rfl, Nat.zero_le _, Bin.nil, by show val [] + _ = _; simp [val, Nat.mod_one], by simp, by simp, Own.empty w (Nat.le_refl _), (Below.refl _ _).alloc (Nat.le_refl _) _⟩
  case round =>
    obtain ⟨C, l, rfl, rfl, hrel⟩ := hrel
    have hC := hrel.1
    have hlk := hrel.2.2.2.1
    have hown := hrel.2.2.2.2.2.1
    have hbel := hrel.2.2.2.2.2.2
    have hsz := hbel.size
    have xa := bit_le (val la) l.length
    have xb := bit_le (val lb) l.length
    by_cases hend : la.length ≤ l.length ∧ lb.length ≤ l.length ∧ C = 0
    · obtain ⟨e1, e2, rfl⟩ := hend
      have hv := Lib.hid (add_rel_end hrel VA.out VB.out e1 e2)
      go_wp2_with fail
      refine (trim_row (Row.of_own hown) hrel.2.1 (by omega)).mono ?_
      rintro e w' ⟨⟨v', rfl, hnum⟩, rfl⟩
      go_wp2
      go_ret
      exact ⟨v', rfl, hv.out ▸ hnum, hbel⟩
    · have hgo : l.length < k ∨ C = 1 := by omega
      have HG := Lib.hid hgo
      have hcase : l.length < la.length ∨ (la.length ≤ l.length ∧ l.length < lb.length) ∨ (la.length ≤ l.length ∧ lb.length ≤ l.length ∧ 0 < C) := by omega
      clear hend hgo
      rcases hcase with g1 | ⟨g1, g2⟩ | ⟨g1, g2, g3⟩
      all_goals
        go_wp2_with fail
        refine (at_num (hra.below hbel) bina (by omega) (l.length : Int) (by omega)).mono ?_
        rintro e w' ⟨rfl, rfl⟩
        go_wp2_with fail
        refine (at_num (hrb.below hbel) binb (by omega) (l.length : Int) (by omega)).mono ?_
        rintro e w' ⟨rfl, rfl⟩
        simp only [Int.toNat_natCast]
        go_wp2_with (at_builtin; refine wpList_append_row rfl (.tmp 35) (.tmp 38) rfl w.heap.size _ l rfl (hown.alloc _) wr.heap.size _ [(bit (val la) l.length + bit (val lb) l.length + C) % 2] rfl (Row.one wr _ _ (by omega)) (by simp; omega) (by simp; omega) ?_; intro v1 w1 hO hg _)
        obtain ⟨hnew, hmeas⟩ := add_rel_round HA.out HB.out hrel HG.out hO hg
        go_roundw
        case rel => exact ⟨_, _, by go_num, by simp, hnew⟩
        case measure => simp [intOf]; omega


/-! ### 'sub' -/
def SubRel (w : World) (a b c : Nat) (v : Value) (wr : World) (l : List Nat) : Prop :=
  c ≤ 1 ∧ Bin l ∧ Hid (val l + b % 2 ^ l.length = a % 2 ^ l.length + c * 2 ^ l.length) ∧ Own wr w.heap.size v l ∧ Below w.heap.size w wr
theorem sub_rel_round {w wr w1 : World} {a b c : Nat} {v v' : Value} {l : List Nat} {o : Obj} (h : SubRel w a b c v wr l)
    (hO : Own w1 w.heap.size v' (l ++ [(2 + bit a l.length - bit b l.length - c) % 2])) (hg : (wr.alloc o).grownBy w1 v.ownBlock) :
    SubRel w a b (1 - (2 + bit a l.length - bit b l.length - c) / 2) v' w1 (l ++ [(2 + bit a l.length - bit b l.length - c) % 2]) := by
  obtain ⟨h1, h2, h3, h6, h7⟩ := h
  refine ⟨by omega, h2.append (Bin.one (Nat.mod_lt _ (by decide))), ?_, hO, ?_⟩
  · show val _ + _ = _
    rw [val_snoc, List.length_append, List.length_singleton]
    exact sub_round a b l.length _ c h1 h3.out
  · refine (h7.alloc h7.size o).grown hg ?_ ?_
    · have := h7.size; simp; omega
    · intro k hk
      exact (h6.lt k hk).1
theorem sub_rel_end {w wr : World} {a b c : Nat} {v : Value} {l : List Nat} (h : SubRel w a b c v wr l) (ha : a < 2 ^ l.length) (hba : b ≤ a) : val l = a - b := by
  obtain ⟨h1, h2, h3, _⟩ := h
  exact sub_done a b l.length _ c h1 ha hba (val_lt l h2) h3.out

set_option maxHeartbeats 1000000 in
theorem sub_any {w : World} {b1 b2 : Nat} {v1 v2 : Value} {a b : Nat} (k : Nat) (h1 : Num w b1 v1 a) (h2 : Num w b2 v2 b) (ha : a < 2 ^ k) (hba : b ≤ a) (hk : k ≤ 1000000) :
    Calls Try.prog 72 #[v1, v2] w (RetNum w (a - b)) := by
  obtain ⟨la, hra, bina, tia, rfl⟩ := h1
  obtain ⟨lb, hrb, binb, tib, rfl⟩ := h2
  have hla := tia.len_le ha
  have hlb := tib.len_le (Nat.lt_of_le_of_lt hba ha)
  have VA := Lib.hid (val_lt la bina)
  have HBA := Lib.hid hba
  clear ha hba tia tib
  obtain ⟨ada, ca, rfl, hca, ha1, ha2, hcells⟩ := id hra
  obtain ⟨adb, cb, rfl, hcb, hb1, hb2, hcellsb⟩ := id hrb
  clear hcells hcellsb
  go_enter Try.func72, Try.ntmps72
  go_wp2
  go_loopw [5, 6, 12] (fun v c i wr => ∃ (C : Nat) (l : List Nat), c = .int .u8 (C : Int) ∧ i = .int .i64 (l.length : Int) ∧ l.length ≤ la.length ∧ SubRel w (val la) (val lb) C v wr l) (fun _ _ i _ => la.length - (intOf i).toNat)
  case atStart =>
    exact ⟨0, [], rfl, rfl, Nat.zero_le _, Nat.zero_le _, Bin.nil, by show val [] + _ = _; simp [val, Nat.mod_one], Own.empty w (Nat.le_refl _), (Below.refl _ _).alloc (Nat.le_refl _) _⟩
  case round =>
    obtain ⟨C, l, rfl, rfl, hle, hrel⟩ := hrel
    have hC := hrel.1
    have hown := hrel.2.2.2.1
    have hbel := hrel.2.2.2.2
    have hsz := hbel.size
    have xa := bit_le (val la) l.length
    have xb := bit_le (val lb) l.length
    by_cases hlt : l.length < la.length
    · go_wp2_with fail
      refine (at_num (hra.below hbel) bina (by omega) (l.length : Int) (by omega)).mono ?_
      rintro e w' ⟨rfl, rfl⟩
      go_wp2_with fail
      refine (at_num (hrb.below hbel) binb (by omega) (l.length : Int) (by omega)).mono ?_
      rintro e w' ⟨rfl, rfl⟩
      simp only [Int.toNat_natCast]
      go_wp2_with (at_builtin; refine wpList_append_row rfl (.tmp 25) (.tmp 28) rfl w.heap.size _ l rfl (hown.alloc _) wr.heap.size _ [(2 + bit (val la) l.length - bit (val lb) l.length - C) % 2] rfl (Row.one wr _ _ (by omega)) (by simp; omega) (by simp; omega) ?_; intro v1 w1 hO hg _)
      have hnew := sub_rel_round hrel hO hg
      go_roundw
      case rel => exact ⟨_, _, by go_num, by simp, by simp; omega, hnew⟩
      case measure => simp [intOf]; omega
    · have hv := Lib.hid (sub_rel_end hrel (by have := VA.out; rwa [show l.length = la.length by omega]) HBA.out)
      go_wp2_with fail
      refine (trim_row (Row.of_own hown) hrel.2.1 (by omega)).mono ?_
      rintro e w' ⟨⟨v', rfl, hnum⟩, rfl⟩
      go_wp2
      go_ret
      exact ⟨v', rfl, hv.out ▸ hnum, hbel⟩
end Go.Proofs.Ytajkhbdniadkkaa
/- What 'Cmp', 'Mul', 'Number', 'Join' and 'Two' answer. -/
namespace Go.Proofs.Ytajkhbdniadkkaa
open Go.RowKit
set_option linter.unusedVariables false

theorem ret_i64 {a b : Int} (h : a = b) : Ending.returned (.int .i64 a) = .returned (.int .i64 b) := by rw [h]

set_option maxHeartbeats 1000000 in
theorem cmp_any {w : World} {b1 b2 : Nat} {v1 v2 : Value} {la lb : List Nat} (hra : Row w b1 v1 la) (hrb : Row w b2 v2 lb) (bina : Bin la) (binb : Bin lb) (hla : la.length ≤ 1000000) (hlb : lb.length ≤ 1000000) :
    Calls Try.prog 49 #[v1, v2] w fun e w' => e = .returned (.int .i64 (sgn (val la) (val lb))) ∧ w = w' := by
  have VA := Lib.hid (val_lt la bina)
  have VB := Lib.hid (val_lt lb binb)
  obtain ⟨ada, ca, rfl, hca, ha1, ha2, hcells⟩ := id hra
  obtain ⟨adb, cb, rfl, hcb, hb1, hb2, hcellsb⟩ := id hrb
  clear hcells hcellsb
  rcases Nat.lt_or_ge la.length lb.length with hm | hm
  all_goals
    go_enter Try.func49, Try.ntmps49
    go_wp2
    go_loopw [5] (fun i wr => ∃ (k : Nat) (z : Int), i = .int .i64 z ∧ z + 1 = (k : Int) ∧ k ≤ 1000000 ∧ wr = w ∧ Hid (val la / 2 ^ k = val lb / 2 ^ k)) (fun i _ => (intOf i + 1).toNat)
    case atStart =>
      first
        | exact ⟨lb.length, _, rfl, by omega, hlb, rfl, by show _ = _; rw [Nat.div_eq_of_lt VB.out, Nat.div_eq_of_lt (Nat.lt_of_lt_of_le VA.out (Nat.pow_le_pow_right (by decide) (by omega)))]⟩
        | exact ⟨la.length, _, rfl, by omega, hla, rfl, by show _ = _; rw [Nat.div_eq_of_lt VA.out, Nat.div_eq_of_lt (Nat.lt_of_lt_of_le VB.out (Nat.pow_le_pow_right (by decide) hm))]⟩
    case round =>
      obtain ⟨k, z, rfl, hz, hk, hw, hrel⟩ := hrel
      subst hw
      rcases k with _ | j
      · obtain rfl : z = -1 := by omega
        go_wp2
        go_ret
        refine ⟨ret_i64 (sgn_eq ?_).symm, rfl⟩
        have := hrel.out
        simpa using this
      · obtain rfl : z = (j : Int) := by omega
        have ba := bit_le (val la) j
        have bb := bit_le (val lb) j
        go_wp2_with fail
        refine (at_num hra bina (by omega) (j : Int) (by omega)).mono ?_
        rintro e w' ⟨rfl, rfl⟩
        go_wp2_with fail
        refine (at_num hrb binb (by omega) (j : Int) (by omega)).mono ?_
        rintro e w' ⟨rfl, rfl⟩
        simp only [Int.toNat_natCast]
        by_cases g : bit (val lb) j < bit (val la) j
        · go_wp2
          go_ret
          exact ⟨ret_i64 (sgn_gt (cmp_gt hrel.out g)).symm, rfl⟩
        · go_wp2_with fail
          refine (at_num hra bina (by omega) (j : Int) (by omega)).mono ?_
          rintro e w' ⟨rfl, rfl⟩
          go_wp2_with fail
          refine (at_num hrb binb (by omega) (j : Int) (by omega)).mono ?_
          rintro e w' ⟨rfl, rfl⟩
          simp only [Int.toNat_natCast]
          by_cases g2 : bit (val la) j < bit (val lb) j
          · go_wp2
            go_ret
            exact ⟨ret_i64 (sgn_lt (cmp_gt hrel.out.symm g2)).symm, rfl⟩
          · have hnew := Lib.hid (cmp_eq hrel.out (by omega))
            go_wp2
            go_roundw
            case rel => exact ⟨j, _, rfl, by omega, by omega, trivial, hnew⟩
            case measure => simp [intOf]

theorem cmp_num {w : World} {b1 b2 : Nat} {v1 v2 : Value} {a b : Nat} (k : Nat) (h1 : Num w b1 v1 a) (h2 : Num w b2 v2 b) (ha : a < 2 ^ k) (hb : b < 2 ^ k) (hk : k ≤ 1000000) :
    Calls Try.prog 49 #[v1, v2] w fun e w' => e = .returned (.int .i64 (sgn a b)) ∧ w = w' := by
  obtain ⟨la, hra, bina, tia, rfl⟩ := h1
  obtain ⟨lb, hrb, binb, tib, rfl⟩ := h2
  exact cmp_any hra hrb bina binb (Nat.le_trans (tia.len_le ha) hk) (Nat.le_trans (tib.len_le hb) hk)

/-! ### 'Mul' -/
theorem mul_lt_pow {a b k m : Nat} (ha : a < 2 ^ k) (hb : b < 2 ^ m) : a * b < 2 ^ (k + m) := by
  rw [Nat.pow_add]
  exact Nat.mul_lt_mul'' ha hb
theorem mul_part_lt {a b k m : Nat} (j : Nat) (ha : a < 2 ^ k) (hb : b < 2 ^ m) : a * (b / 2 ^ j) < 2 ^ (k + m) :=
  mul_lt_pow ha (Nat.lt_of_le_of_lt (Nat.div_le_self _ _) hb)
set_option maxHeartbeats 1000000 in
theorem mul_any {w : World} {b1 b2 : Nat} {v1 v2 : Value} {a b : Nat} (k m : Nat) (h1 : Num w b1 v1 a) (h2 : Num w b2 v2 b) (ha : a < 2 ^ k) (hb : b < 2 ^ m) (hk : k + m ≤ 1000000) :
    Calls Try.prog 50 #[v1, v2] w (RetNum w (a * b)) := by
  obtain ⟨lb, hrb, binb, tib, rfl⟩ := h2
  have hlb := tib.len_le hb
  have VB := Lib.hid (val_lt lb binb)
  have hab : a * (val lb / 2 ^ 0) < 2 ^ (k + m) := mul_part_lt 0 ha hb
  have HP := Lib.hid (fun j => mul_part_lt (k := k) (m := m) j ha hb)
  have HA := Lib.hid ha
  clear ha hb tib hab
  obtain ⟨adb, cb, rfl, hcb, hb1, hb2, hcellsb⟩ := id hrb
  have HCB := Lib.hid hcellsb
  clear hcellsb
  have hna := h1
  have H1 := Lib.hid h1
  clear h1 hna
  go_enter Try.func50, Try.ntmps50
  go_wp2
  go_loopw [5, 6] (fun v i wr => ∃ (j : Nat) (z : Int), i = .int .i64 z ∧ z + 1 = (j : Int) ∧ j ≤ lb.length ∧ Num wr w.heap.size v (a * (val lb / 2 ^ j)) ∧ Below w.heap.size w wr) (fun _ i _ => (intOf i + 1).toNat)
  case atStart =>
    refine ⟨lb.length, _, rfl, by omega, Nat.le_refl _, ?_, (Below.refl _ _).alloc (Nat.le_refl _) _⟩
    rw [Nat.div_eq_of_lt VB.out, Nat.mul_zero]
    exact Num.mk (Row.of_own (Own.empty w (Nat.le_refl _))) Bin.nil tight_nil rfl
  case round =>
    obtain ⟨j, z, rfl, hz, hj, hnum, hbel⟩ := hrel
    rcases j with _ | j
    · obtain rfl : z = -1 := by omega
      go_wp2
      go_ret
      refine ⟨_, rfl, ?_, hbel⟩
      simpa using hnum
    · obtain rfl : z = (j : Int) := by omega
      have hsz := hbel.size
      go_wp2_with fail
      refine (add_any (k + m) hnum hnum (HP.out _) (HP.out _) hk).mono ?_
      rintro e w1 ⟨v1', rfl, hn1, hw1⟩
      have hs1 := hw1.size
      have hb01 : Below w.heap.size w w1 := hbel.trans (hw1.mono hsz)
      have hcell : w1.cell? (adb.add j) = some (.int .u8 ((bit (val lb) j : Nat) : Int)) := by
        rw [hb01.cell (p := adb.add j) (by rw [add_block]; exact hb2), ← get_bit lb binb]
        exact Cells.at_ HCB.out hj
      have hbit : bit (val lb) j = 0 ∨ bit (val lb) j = 1 := by have := bit_le (val lb) j; omega
      rcases hbit with h0 | h0
      · have H0 := Lib.hid h0
        rw [h0] at hcell
        clear h0
        go_wp2_with fail
        go_roundw
        case rel => exact ⟨j, _, rfl, by omega, by omega, mul_round0 a (val lb) j H0.out ▸ hn1.more hsz, hb01⟩
        case measure => simp [intOf]
      · have H0 := Lib.hid h0
        rw [h0] at hcell
        clear h0
        go_wp2_with fail
        have hlt : a * (val lb / 2 ^ (j + 1)) + a * (val lb / 2 ^ (j + 1)) < 2 ^ (k + m) := by
          have := mul_round1 a (val lb) j H0.out
          have := HP.out j
          omega
        have hlt2 : a < 2 ^ (k + m) := Nat.lt_of_lt_of_le HA.out (Nat.pow_le_pow_right (by decide) (by omega))
        refine (add_any (k + m) hn1 (H1.out.below hb01) hlt hlt2 hk).mono ?_
        rintro e w2 ⟨v2', rfl, hn2, hw2⟩
        have hs2 := hw2.size
        have hb02 : Below w.heap.size w w2 := hb01.trans (hw2.mono (by omega))
        clear hlt hlt2
        go_wp2_with fail
        go_roundw
        case rel => exact ⟨j, _, rfl, by omega, by omega, mul_round1 a (val lb) j H0.out ▸ hn2.more (by omega), hb02⟩
        case measure => simp [intOf]

end Go.Proofs.Ytajkhbdniadkkaa
/- What 'Number', 'Two' and 'Join' answer. -/
namespace Go.Proofs.Ytajkhbdniadkkaa
open Go.RowKit
set_option linter.unusedVariables false

/-- The 64 lowest digits of a number. -/
def low (n : Nat) : Nat := n % 18446744073709551616
theorem low_lt (n : Nat) : low n < 18446744073709551616 := Nat.mod_lt _ (by decide)
theorem low_of {n : Nat} (h : n < 18446744073709551616) : low n = n := Nat.mod_eq_of_lt h
theorem low_step (a j : Nat) : low (a / 2 ^ j) = (low (a / 2 ^ (j + 1)) * 2 + bit a j) % 18446744073709551616 := by
  rw [div_step a j]; unfold low; omega
theorem wrap_step (X b : Nat) : IntKind.u64.wrap (IntKind.u64.wrap ((X : Int) * 2) + (b : Int)) = (((X * 2 + b) % 18446744073709551616 : Nat) : Int) := by
  rw [IntKind.wrap_u64, IntKind.wrap_u64]; omega
theorem ret_num {a b : Nat} {p q : Bool} (h : a = b) (g : p = q) : Ending.returned (.tuple #[.int .u64 (a : Int), .bool p]) = .returned (.tuple #[.int .u64 (b : Int), .bool q]) := by rw [h, g]
set_option maxHeartbeats 1000000 in
theorem number_any {w : World} {base : Nat} {v : Value} {l : List Nat} (hr : Row w base v l) (hb : Bin l) (hl : l.length ≤ 1000000) :
    Calls Try.prog 54 #[v] w fun e w' => e = .returned (.tuple #[.int .u64 ((low (val l) : Nat) : Int), .bool (decide (l.length ≤ 64))]) ∧ w = w' := by
  have VL := Lib.hid (val_lt l hb)
  obtain ⟨ad, c, rfl, hc, ha1, ha2, hcells⟩ := id hr
  have HC := Lib.hid hcells
  clear hcells
  go_enter Try.func54, Try.ntmps54
  go_wp2
  go_loop [4, 5] (fun x i => ∃ (X j : Nat) (z : Int), x = .int .u64 (X : Int) ∧ X < 18446744073709551616 ∧ i = .int .i64 z ∧ z + 1 = (j : Int) ∧ j ≤ l.length ∧ Hid (X = low (val l / 2 ^ j))) (fun _ i => (intOf i + 1).toNat)
  case atStart => exact ⟨0, l.length, _, rfl, by omega, rfl, by omega, Nat.le_refl _, by show _ = _; rw [Nat.div_eq_of_lt VL.out]; rfl⟩
  case round =>
    obtain ⟨X, j, z, rfl, hX, rfl, hz, hj, hrel⟩ := hrel
    rcases j with _ | j
    · obtain rfl : z = -1 := by omega
      go_wp2
      go_ret2
      exact ⟨ret_num (by rw [hrel.out]; simp) (by rw [decide_eq_decide]; omega), rfl⟩
    · obtain rfl : z = (j : Int) := by omega
      have hcell : w.cell? (ad.add j) = some (.int .u8 ((bit (val l) j : Nat) : Int)) := by rw [← get_bit l hb]; exact Cells.at_ HC.out hj
      have hb1 := bit_le (val l) j
      go_wp2
      go_round
      case rel =>
        refine ⟨(X * 2 + bit (val l) j) % 18446744073709551616, j, _, ?_, Nat.mod_lt _ (by decide), rfl, by omega, by omega, ?_⟩
        · rw [wrap_step]
        · show _ = _
          rw [low_step, ← hrel.out]
      case measure => simp [intOf]
theorem number_num {w : World} {base : Nat} {v : Value} {n : Nat} (h : Num w base v n) (k : Nat) (hn : n < 2 ^ k) (hk : k ≤ 1000000) :
    Calls Try.prog 54 #[v] w fun e w' => e = .returned (.tuple #[.int .u64 ((low n : Nat) : Int), .bool (decide (n < 18446744073709551616))]) ∧ w = w' := by
  obtain ⟨l, hr, hb, ht, rfl⟩ := h
  refine (number_any hr hb (Nat.le_trans (ht.len_le hn) hk)).mono ?_
  rintro e w' ⟨rfl, rfl⟩
  refine ⟨ret_num rfl ?_, rfl⟩
  rw [decide_eq_decide]
  have := ht.lt_iff hb 64
  have e : (2 : Nat) ^ 64 = 18446744073709551616 := by decide
  omega



end Go.Proofs.Ytajkhbdniadkkaa
/- What 'Div' answers: quotient and rest as digits. -/
namespace Go.Proofs.Ytajkhbdniadkkaa
open Go.RowKit
set_option linter.unusedVariables false

theorem made_zeros (n : Nat) : (madeCells (Value.int .u8 0).cells (n * 1)).toList = digs (List.replicate n 0) := by
  have e : (Value.int .u8 0).cells = #[.int .u8 0] := rfl
  rw [e, Nat.mul_one]
  apply List.ext_getElem
  · simp [madeCells, digs]
  · intro i h1 h2
    simp [madeCells, digs, Nat.mod_one]

def DivRet (w : World) (a d : Nat) (e : Ending) (w' : World) : Prop :=
  ∃ q r, e = .returned (.tuple #[q, r]) ∧ Num w' w.heap.size q (a / d) ∧ Num w' w.heap.size r (a % d) ∧ Below w.heap.size w w'
def DivRel (w : World) (n a d j : Nat) (v : Value) (wr : World) : Prop :=
  ∃ qs, (List.replicate j 0 ++ qs).length = n ∧ Bin qs ∧ val qs = a / 2 ^ j / d ∧
    wr.ownsRow w.heap.size 5 1 (.slice (some ⟨w.heap.size, 0, none⟩) n n) n (digs (List.replicate j 0 ++ qs)) ∧ Num wr (w.heap.size + 1) v (a / 2 ^ j % d) ∧ Below w.heap.size w wr ∧ w.heap.size < wr.heap.size

theorem replicate_snoc (j : Nat) (l : List Nat) : List.replicate (j + 1) 0 ++ l = List.replicate j 0 ++ (0 :: l) := by
  rw [List.replicate_succ', List.append_assoc]; rfl
theorem set_zero (j b : Nat) (l : List Nat) : (digs (List.replicate j 0 ++ (0 :: l))).set j (.int .u8 (b : Int)) = digs (List.replicate j 0 ++ (b :: l)) := by
  simp [digs]

theorem Row.setCell {w : World} {base : Nat} {v : Value} {l : List Nat} (h : Row w base v l) {p : Addr} (hp : p.block < base) (u : Value) : Row (w.setCell p u) base v l := by
  obtain ⟨ad, c, rfl, hc, h1, h2, h3⟩ := h
  refine ⟨ad, c, rfl, hc, h1, by simpa [World.setCell] using h2, h3.keep fun q hq => World.cell?_setCell_other w p q u (fun e => by subst e; omega)⟩
theorem Num.setCell {w : World} {base : Nat} {v : Value} {n : Nat} (h : Num w base v n) {p : Addr} (hp : p.block < base) (u : Value) : Num (w.setCell p u) base v n := by
  obtain ⟨l, h1, h2⟩ := h
  exact ⟨l, h1.setCell hp u, h2⟩

theorem ownsRow_below {w w' : World} {base e n : Nat} {v : Value} {xs : List Value} (h : w.ownsRow base e 1 v n xs) (hb : Below w.heap.size w w') : w'.ownsRow base e 1 v n xs :=
  h.kept (row := none) ⟨hb.os, hb.tape, hb.output, hb.size, fun i hi _ => hb.block i hi⟩ (by cases hv : v.ownBlock <;> simp)

/-- A round in which the rest stays below the divisor. -/
theorem div_keep {w wr w1 : World} {n a d j : Nat} {v v1 : Value} (hd : 0 < d) (h : DivRel w n a d (j + 1) v wr) (hb : Below wr.heap.size wr w1) (h1 : Num w1 wr.heap.size v1 (bit a j + 2 * (a / 2 ^ (j + 1) % d)))
    (hlt : bit a j + 2 * (a / 2 ^ (j + 1) % d) < d) : DivRel w n a d j v1 w1 := by
  obtain ⟨qs, h2, h3, h4, h5, h6, h7, h8⟩ := h
  obtain ⟨e1, e2⟩ := div_round_lt (k := j) hd (by omega : 2 * (a / 2 ^ (j + 1) % d) + bit a j < d)
  refine ⟨0 :: qs, by rw [← replicate_snoc]; exact h2, h3.cons (by decide), by rw [val_cons, h4, e1]; omega, by rw [← replicate_snoc]; exact ownsRow_below h5 hb, ?_, h7.trans (hb.mono (by omega)), by have := hb.size; omega⟩
  rw [e2, Nat.add_comm (2 * _) (bit a j)]
  exact h1.more (base' := w.heap.size + 1) (by omega)
/-- A round in which the divisor goes into it once. -/
theorem div_take {w wr w2 : World} {n a d j : Nat} {v v2 : Value} (hd : 0 < d) (h : DivRel w n a d (j + 1) v wr) (hb : Below wr.heap.size wr w2) (h2 : Num w2 wr.heap.size v2 (bit a j + 2 * (a / 2 ^ (j + 1) % d) - d))
    (hge : d ≤ bit a j + 2 * (a / 2 ^ (j + 1) % d)) : DivRel w n a d j v2 (w2.setCell ⟨w.heap.size, j, none⟩ (.int .u8 1)) := by
  obtain ⟨qs, h2', h3, h4, h5, h6, h7, h8⟩ := h
  obtain ⟨e1, e2⟩ := div_round_ge (k := j) hd (by omega : d ≤ 2 * (a / 2 ^ (j + 1) % d) + bit a j)
  have hown := ownsRow_below h5 hb
  rw [replicate_snoc] at hown h2'
  have hst := (hown.stored j (.int .u8 1)).1
  have e := set_zero j 1 qs
  rw [show (Value.int .u8 1 : Value) = .int .u8 ((1 : Nat) : Int) from rfl, e] at hst
  refine ⟨1 :: qs, by simpa using h2', h3.cons (by decide), by rw [val_cons, h4, e1]; omega, hst, ?_, (h7.trans (hb.mono (by omega))).setCell (Nat.le_refl _) _, by have := hb.size; simp [World.setCell]; omega⟩
  rw [e2, show 2 * (a / 2 ^ (j + 1) % d) + bit a j - d = bit a j + 2 * (a / 2 ^ (j + 1) % d) - d by omega]
  exact (h2.more (base' := w.heap.size + 1) (by omega)).setCell (Nat.lt_succ_self w.heap.size) _

set_option maxHeartbeats 2000000 in
theorem div_any {w : World} {b1 b2 : Nat} {v1 v2 : Value} {a d : Nat} (k : Nat) (h1 : Num w b1 v1 a) (h2 : Num w b2 v2 d) (ha : a < 2 ^ k) (hd : d < 2 ^ k) (hd0 : 0 < d) (hk : k + 1 ≤ 1000000) :
    Calls Try.prog 52 #[v1, v2] w (DivRet w a d) := by
  obtain ⟨la, hra, bina, tia, rfl⟩ := h1
  have hla := tia.len_le ha
  have VA := Lib.hid (val_lt la bina)
  have HD := Lib.hid hd
  have HR := Lib.hid (fun j : Nat => Nat.mod_lt (val la / 2 ^ j) hd0)
  clear ha hd tia
  obtain ⟨ada, ca, rfl, hca, ha1, ha2, hcells⟩ := id hra
  have HC := Lib.hid hcells
  have H2 := Lib.hid h2
  clear hcells h2
  obtain ⟨i0, hi0, hz0, hz1, hz2⟩ := info_parts info_byte
  have HI := Lib.hid (And.intro hi0 (And.intro hz0 (And.intro hz1 hz2)))
  clear hi0 hz0 hz1 hz2
  go_enter Try.func52, Try.ntmps52
  go_wp2_with (at_make; refine wpList_make_full w rfl (.tmp 10) (.tmp 10) _ rfl w.heap.size 5 i0 _ 1 Try.underlying119 HI.out.1 HI.out.2.1 HI.out.2.2.1 .i64 .i64 la.length la.length la.length rfl rfl rfl rfl (by rw [HI.out.2.2.2]; omega) (by unfold maxLen; omega) (Nat.le_refl _) ?_; intro w1 hq hg1)
  rw [made_zeros] at hq
  have hlt1 := (hq.lt w.heap.size rfl).2
  have hb1 : Below w.heap.size w w1 := (Below.refl _ _).grown hg1 (Nat.le_refl _) (by simp)
  go_loopw [7, 8] (fun v i wr => ∃ (j : Nat) (z : Int), i = .int .i64 z ∧ z + 1 = (j : Int) ∧ j ≤ la.length ∧ DivRel w la.length (val la) d j v wr) (fun _ i _ => (intOf i + 1).toNat)
  case atStart =>
    refine ⟨la.length, _, rfl, by omega, Nat.le_refl _, [], by simp, Bin.nil, ?_, ?_, ?_, hb1.alloc (by omega) _, by simp; omega⟩
    · rw [Nat.div_eq_of_lt VA.out, Nat.zero_div]; rfl
    · rw [List.append_nil]
      exact World.ownsRow.alloc hq _
    · rw [Nat.div_eq_of_lt VA.out, Nat.zero_mod]
      exact Num.mk (Row.of_own (Own.empty w1 hlt1)) Bin.nil tight_nil rfl
  case round =>
    obtain ⟨j, z, rfl, hz, hj, hrel⟩ := hrel
    rcases j with _ | j
    · obtain rfl : z = -1 := by omega
      obtain ⟨qs, h2, h3, h4, h5, h6, h7, h8⟩ := hrel
      have e0 : List.replicate 0 0 ++ qs = qs := rfl
      rw [e0] at h2 h5
      have hqrow : Row wr w.heap.size (.slice (some ⟨w.heap.size, 0, none⟩) la.length la.length) qs := by
        have := Row.of_own (⟨by rw [h2]; exact h5, by simp⟩ : Own wr w.heap.size (.slice (some ⟨w.heap.size, 0, none⟩) la.length la.length) qs)
        exact this
      have H4 := Lib.hid h4
      have H2' := Lib.hid h2
      clear h4 h2
      go_wp2_with fail
      refine (trim_row hqrow h3 (by rw [H2'.out]; omega)).mono ?_
      rintro e w' ⟨⟨q', rfl, hnq⟩, rfl⟩
      go_wp2
      go_ret2
      refine ⟨_, _, rfl, ?_, ?_, h7⟩
      · have := H4.out
        simp at this
        rw [this] at hnq
        exact hnq
      · have := h6.more (base' := w.heap.size) (by omega)
        simpa using this
    · obtain rfl : z = (j : Int) := by omega
      have hr0 := HR.out (j + 1)
      have hd2 := HD.out
      obtain ⟨lr, hlr, binr, tir, hvr⟩ := hrel.choose_spec.2.2.2.2.1
      have hbel := hrel.choose_spec.2.2.2.2.2.1
      have hszr := hrel.choose_spec.2.2.2.2.2.2
      have hlen := tir.len_le (k := k) (by rw [hvr]; omega)
      have hcell : wr.cell? (ada.add j) = some (.int .u8 ((bit (val la) j : Nat) : Int)) := by
        rw [hbel.cell (p := ada.add j) (by rw [add_block]; exact ha2), ← get_bit la bina]
        exact Cells.at_ HC.out hj
      have HX := Lib.hid (show val ([bit (val la) j] ++ lr) = bit (val la) j + 2 * (val la / 2 ^ (j + 1) % d) by rw [← hvr]; rfl)
      have hb1' := bit_le (val la) j
      have hx : bit (val la) j + 2 * (val la / 2 ^ (j + 1) % d) < 2 ^ (k + 1) := by rw [show 2 ^ (k + 1) = 2 ^ k * 2 from Nat.pow_succ 2 k]; omega
      have hd3 : d < 2 ^ (k + 1) := by rw [show 2 ^ (k + 1) = 2 ^ k * 2 from Nat.pow_succ 2 k]; omega
      have H1 := Lib.hid hx
      have H3 := Lib.hid hd3
      have HL := Lib.hid hlr
      clear hvr hx hd3 hd2 hr0 hlr
      go_wp2_with (at_builtin; refine wpList_append_row rfl (.tmp 24) (.tmp 25) rfl wr.heap.size _ [bit (val la) j] rfl (Own.one wr (Nat.le_refl _) _ _ rfl) (w.heap.size + 1) _ lr rfl (HL.out.below ((Below.refl _ _).alloc (Nat.le_refl _) _)) (by simp; omega) (by simp) ?_; intro v3 w3 hO hg _)
      have hw3 : Below wr.heap.size wr w3 := ((Below.refl _ _).alloc (Nat.le_refl _) _).grown hg (by simp) (fun k hk => ((Own.one wr (Nat.le_refl _) _ (bit (val la) j) rfl).lt k hk).1)
      have hs3 := hw3.size
      have hb3 := hbel.trans (hw3.mono (by omega : w.heap.size ≤ wr.heap.size))
      refine (trim_row (Row.of_own hO) ((Bin.one (bit_lt _ _)).append binr) (by simp; omega)).mono ?_
      rintro e w' ⟨⟨v4, rfl, hn4⟩, rfl⟩
      rw [HX.out] at hn4
      go_wp2_with fail
      refine (cmp_num (k + 1) hn4 (H2.out.below hb3) H1.out H3.out hk).mono ?_
      rintro e w' ⟨rfl, rfl⟩
      rcases Nat.lt_or_ge (bit (val la) j + 2 * (val la / 2 ^ (j + 1) % d)) d with hc | hc
      · have hneg : sgn (bit (val la) j + 2 * (val la / 2 ^ (j + 1) % d)) d < 0 := by rw [sgn_lt hc]; decide
        have hnew := div_keep hd0 hrel hw3 hn4 hc
        go_wp2_with fail
        go_roundw
        case rel => exact ⟨j, _, rfl, by omega, by omega, hnew⟩
        case measure => simp [intOf]
      · have hpos : 0 ≤ sgn (bit (val la) j + 2 * (val la / 2 ^ (j + 1) % d)) d := by
          rcases Nat.lt_or_eq_of_le hc with h | h
          · rw [sgn_gt h]; decide
          · rw [sgn_eq h.symm]; decide
        go_wp2_with fail
        refine (sub_any (k + 1) hn4 (H2.out.below hb3) H1.out hc hk).mono ?_
        rintro e w5 ⟨v5, rfl, hn5, hw5⟩
        have hs5 := hw5.size
        have hw35 : Below wr.heap.size wr w5 := hw3.trans (hw5.mono hs3)
        have hown5 := ownsRow_below hrel.choose_spec.2.2.2.1 hw35
        have hcell5 : w5.cell? ⟨w.heap.size, j, none⟩ = some (.int .u8 0) := by
          rw [hown5.cellAt j (by omega), replicate_snoc]
          simp [digs]
        have hfr5 : w5.frozen? ⟨w.heap.size, j, none⟩ = false := hown5.frozenAt j
        have hnew := div_take hd0 hrel hw35 (hn5.more (by omega)) hc
        go_wp2_with fail
        go_roundw
        case rel => exact ⟨j, _, rfl, by omega, by omega, hnew⟩
        case measure => simp [intOf]


end Go.Proofs.Ytajkhbdniadkkaa
