/- What the law's own reading of a sample answers. -/
import Derived.Test.YtalhajnekpbkoaaGaugeB
import Derived.Test.YtalhajnekpbkoaaRefE
namespace Go.Proofs.Ytalhajnekpbkoaa
open Go.RowKit
set_option linter.unusedVariables false

/-- 'power'. -/
theorem power_any (n : Nat) (w : World) (hn : n ≤ 100000) : Calls Try.prog 15 #[.int .i64 (n : Int)] w (RetNum w (2 ^ n)) := by
  obtain ⟨i0, hi0, hz0, hz1, hz2⟩ := info_parts info_byte
  have HI := Lib.hid (And.intro hi0 (And.intro hz0 (And.intro hz1 hz2)))
  clear hi0 hz0 hz1 hz2
  go_enter Try.func15, Try.ntmps15
  go_wp2_with (first
    | (at_make
       refine wpList_make_full w rfl (.tmp 4) (.tmp 4) _ rfl w.heap.size 5 i0 _ 1 Try.underlying33 HI.out.1 HI.out.2.1 HI.out.2.2.1 .i64 .i64 n n n rfl rfl rfl rfl (by rw [HI.out.2.2.2]; omega) (by unfold maxLen; omega) (Nat.le_refl _) ?_
       intro w1 hq hg1
       rw [made_zeros] at hq
       have hlt1 := (hq.lt w.heap.size rfl).2
       have hb1 : Below w.heap.size w w1 := (Below.refl _ _).grown hg1 (Nat.le_refl _) (by simp)
       have hown : Own w1 w.heap.size (.slice (some ⟨w.heap.size, 0, none⟩) n n) (List.replicate n 0) := ⟨by rw [List.length_replicate]; exact hq, by simp⟩
       have HO := Lib.hid hown
       clear hq hown)
    | (at_builtin
       refine wpList_append_row rfl (.tmp 6) (.tmp 7) rfl w.heap.size _ (List.replicate n 0) rfl (HO.out.alloc _) w1.heap.size _ [1] rfl (Row.one w1 1 1 rfl) (by simp; omega) (by simp; omega) ?_
       intro v3 w3 hO hg _))
  have hw3 : Below w.heap.size w w3 := (hb1.alloc (by omega) _).grown hg (by simp; omega) (fun k hk => (HO.out.lt k hk).1)
  go_wp2
  go_ret
  refine ⟨_, rfl, Num.mk (Row.of_own hO) ((Bin.zeros n).append (Bin.one (by decide))) (tight_snoc _) ?_, hw3⟩
  rw [val_zero_append, val_one, Nat.mul_one]

/-! ### the law's 'read' -/
theorem x_parts {x : Nat} (hx : x < 18446744073709551616) : (x : Int) / 4503599627370496 % 2048 = ((x / 4503599627370496 % 2048 : Nat) : Int) := by omega
theorem lread_nan (x : Nat) (w : World) (hx : x < 18446744073709551616) (hn : 9218868437227405312 < x % 9223372036854775808) :
    Calls Try.prog 10 #[.int .u64 (x : Int)] w fun e w' => e = .returned (.tuple #[.int .i64 0, .int .i64 2]) ∧ w = w' := by
  have e1 : (x : Int) / 4503599627370496 % 2048 = 2047 := by omega
  have e2 : ((x : Int) % 4503599627370496 != 0) = true := by simp; omega
  clear hx hn
  go_enter Try.func10, Try.ntmps10
  go_wp2
  go_ret2
  exact ⟨rfl, rfl⟩
theorem lread_m0 (w : World) :
    Calls Try.prog 10 #[.int .u64 9223372036854775808] w fun e w' => e = .returned (.tuple #[.int .i64 0, .int .i64 0]) ∧ w = w' := by
  go_enter Try.func10, Try.ntmps10
  go_wp2
  go_ret2
  exact ⟨rfl, rfl⟩
theorem lread_neg (x : Nat) (w : World) (hx : x < 18446744073709551616) (hn : ¬ 9218868437227405312 < x % 9223372036854775808) (h : 9223372036854775808 < x ∨ x = 9218868437227405312) :
    Calls Try.prog 10 #[.int .u64 (x : Int)] w fun e w' => e = .returned (.tuple #[.int .i64 0, .int .i64 3]) ∧ w = w' := by
  by_cases h1 : x / 4503599627370496 % 2048 = 2047
  · have e1 : (x : Int) / 4503599627370496 % 2048 = 2047 := by omega
    have e2 : ((x : Int) % 4503599627370496 != 0) = false := by simp; omega
    have e3 : ((x : Int) == 9223372036854775808) = false := by simp; omega
    clear hx hn h h1
    go_enter Try.func10, Try.ntmps10
    go_wp2
    go_ret2
    exact ⟨rfl, rfl⟩
  · obtain ⟨E, hE⟩ : ∃ E, E = x / 4503599627370496 % 2048 := ⟨_, rfl⟩
    have e0 : E < 2048 := by omega
    have e1 : (x : Int) / 4503599627370496 % 2048 = (E : Int) := by omega
    have e2 : ((E : Int) == 2047) = false := by simp; omega
    have e3 : ((x : Int) == 9223372036854775808) = false := by simp; omega
    have e4 : (x : Int) / 9223372036854775808 = 1 := by omega
    clear hx hn h h1 hE
    go_enter Try.func10, Try.ntmps10
    go_wp2
    go_ret2
    exact ⟨rfl, rfl⟩

theorem pow_le2 {a b : Nat} (h : a ≤ b) : 2 ^ a ≤ 2 ^ b := Nat.pow_le_pow_right (by decide) h
theorem pow_lt2 {a b : Nat} (h : a < b) : 2 ^ a < 2 ^ b := Nat.pow_lt_pow_right (by decide) h
theorem ret_two64 {a b c d : Int} (h : a = b) (g : c = d) : Ending.returned (.tuple #[.int .i64 a, .int .i64 c]) = .returned (.tuple #[.int .i64 b, .int .i64 d]) := by rw [h, g]

/-- What is left of 'read', once the fraction is laid: rounded, and held against the bound. -/
theorem lread_mid (x E m sg t K : Nat) (w : World) (hE0 : 0 < E) (hE : E < 1075) (hx : x = E * 4503599627370496 + m) (hm : m < 4503599627370496) (hsg : sg = m + 4503599627370496) (ht : t + E = 1075) (hK : 1100 ≤ K) (hK2 : K ≤ 10000) (Q : Nat) (hQ : Q = rne (sg * 1000) (2 ^ t))
    (A B : Int) (hAB : (9007199254740992 < Q ∧ A = 0 ∧ B = 3) ∨ (Q ≤ 9007199254740992 ∧ A = Q ∧ B = 0)) :
    Calls Try.prog 10 #[.int .u64 (x : Int)] w fun e w' => e = .returned (.tuple #[.int .i64 A, .int .i64 B]) ∧ Below w.heap.size w w' := by
  have HAB := Lib.hid hAB
  clear hAB
  have e1 : (x : Int) / 4503599627370496 % 2048 = (E : Int) := by omega
  have e5 : (x : Int) % 4503599627370496 = (m : Int) := by omega
  have e2 : ((E : Int) == 2047) = false := by simp; omega
  have e3 : ((x : Int) == 9223372036854775808) = false := by simp; omega
  have e4 : (x : Int) / 9223372036854775808 = 0 := by omega
  have e7 : IntKind.u64.wrap ((m : Int) + 4503599627370496) = (sg : Int) := by
    have : (m : Int) + 4503599627370496 = (sg : Int) := by omega
    rw [this]; exact wrapN sg (by omega)
  have e8 : decide (1075 ≤ (E : Int)) = false := by simp; omega
  have e9 : (1075 : Int) - (E : Int) = (t : Int) := by omega
  obtain ⟨u, hu⟩ : ∃ u, u = sg * 1000 := ⟨_, rfl⟩
  obtain ⟨d, hd⟩ : ∃ d, d = 2 ^ t := ⟨_, rfl⟩
  obtain ⟨q0, hq0⟩ : ∃ q, q = u / d := ⟨_, rfl⟩
  obtain ⟨r0, hr0⟩ : ∃ r, r = u % d := ⟨_, rfl⟩
  have hd0 : 0 < d := by rw [hd]; exact Nat.two_pow_pos _
  have hK64 : 2 ^ 64 ≤ 2 ^ K := pow_le2 (by omega)
  have hdK : d < 2 ^ K := by rw [hd]; exact pow_lt2 (by omega)
  have huK : u < 2 ^ K := by omega
  have hrd : r0 < d := by rw [hr0]; exact Nat.mod_lt _ hd0
  have hqu : q0 ≤ u := by rw [hq0]; exact Nat.div_le_self _ _
  have O1 := Lib.hid (fun W : World => of_any W sg (by omega))
  have O2 := Lib.hid (fun W : World => of_any W 1000 (by decide))
  have O3 := Lib.hid (fun W : World => of_any W 1 (by decide))
  have O4 := Lib.hid (fun W : World => of_any W 9007199254740992 (by decide))
  have P := Lib.hid (fun W : World => power_any t W (by omega))
  have B1 := Lib.hid (show sg < 2 ^ 64 by omega)
  rw [← hu, ← hd] at hQ
  have hKK : 2 ^ (K + 1) = 2 * 2 ^ K := by rw [Nat.pow_succ]; omega
  have BU := Lib.hid huK
  have BD := Lib.hid hdK
  have BR := Lib.hid (show r0 < 2 ^ K by omega)
  have B2R := Lib.hid (show r0 + r0 < 2 ^ (K + 1) by omega)
  have BD1 := Lib.hid (show d < 2 ^ (K + 1) by omega)
  have BQ := Lib.hid (show q0 < 2 ^ 64 by omega)
  have BQ1 := Lib.hid (show q0 + 1 < 2 ^ 65 by omega)
  have hqi : q0 + 1 < 9223372036854775808 := by omega
  have HU := Lib.hid hu
  have HD := Lib.hid hd
  have HQ0 := Lib.hid hq0
  have HR0 := Lib.hid hr0
  have HD0 := Lib.hid hd0
  have R2 : 2 * r0 < d ∨ 2 * r0 = d ∨ d < 2 * r0 := by omega
  have RQ := Lib.hid hQ
  clear hE hx hm hsg ht hu hd hq0 hr0 hd0 hK64 hdK huK hrd hqu hKK hQ
  go_enter Try.func10, Try.ntmps10
  go_wp2_with fail
  refine (O1.out _).mono ?_
  rintro e w1 ⟨v1, rfl, n1, h1⟩
  go_wp2_with fail
  refine (O2.out _).mono ?_
  rintro e w2 ⟨v2, rfl, n2, h2⟩
  go_wp2_with fail
  refine (mul_any 64 64 (n1.below h2) n2 B1.out (by decide) (by decide)).mono ?_
  rintro e w3 ⟨v3, rfl, n3, h3⟩
  rw [← HU.out] at n3
  go_wp2_with fail
  refine (O3.out _).mono ?_
  rintro e w4 ⟨v4, rfl, n4, h4⟩
  go_wp2_with fail
  refine (P.out _).mono ?_
  rintro e w5 ⟨v5, rfl, n5, h5⟩
  rw [← HD.out] at n5
  have n3' := Lib.hid ((n3.below h4).below h5)
  have n5' := Lib.hid n5
  clear n3 n5
  go_wp2_with fail
  refine (div_any K n3'.out n5'.out BU.out BD.out HD0.out (by omega)).mono ?_
  rintro e w6 ⟨v6, v7, rfl, n6, n7, h6⟩
  rw [← HQ0.out] at n6
  rw [← HR0.out] at n7
  go_wp2_with fail
  refine (add_any K n7 n7 BR.out BR.out (by omega)).mono ?_
  rintro e w7 ⟨v8, rfl, n8, h7⟩
  go_wp2_with fail
  refine (cmp_num (K + 1) n8 ((n5'.out.below h6).below h7) B2R.out BD1.out (by omega)).mono ?_
  rintro e w' ⟨rfl, rfl⟩
  have N6 := Lib.hid (n6.below h7)
  have hbel : Below w.heap.size w w7 := ((((((h1.trans (h2.mono h1.size)).trans (h3.mono (by have := h1.size; have := h2.size; omega))).trans (h4.mono (by have := h1.size; have := h2.size; have := h3.size; omega))).trans (h5.mono (by have := h1.size; have := h2.size; have := h3.size; have := h4.size; omega))).trans (h6.mono (by have := h1.size; have := h2.size; have := h3.size; have := h4.size; have := h5.size; omega)))).trans (h7.mono (by have := h1.size; have := h2.size; have := h3.size; have := h4.size; have := h5.size; have := h6.size; omega))
  clear n1 n2 n4 n7 n8 h1 h2 h3 h4 h5 h6 h7
  obtain ⟨l6, row6, bin6, tig6, val6⟩ := id n6
  clear n6
  obtain ⟨l6, row6, bin6, tig6, val6⟩ := id N6.out
  obtain ⟨ad6, c6, rfl, hc6, ha6, hb6, hcells⟩ := row6
  have hz := tig6.zero_iff bin6
  rw [val6] at hz
  have hget := get_bit l6 bin6 0
  rw [val6] at hget
  have had : ad6.add 0 = ad6 := by unfold Addr.add; rw [if_pos rfl]
  have BQQ : Hid (Q < 2 ^ 65) := by
    show Q < 2 ^ 65
    have := BQ1.out
    have := rne_le u d
    have := RQ.out
    have := HQ0.out
    omega
  have OV : Hid ((9007199254740992 < Q ∧ decide (0 < sgn Q 9007199254740992) = true ∧ A = 0 ∧ B = 3) ∨ (Q ≤ 9007199254740992 ∧ decide (0 < sgn Q 9007199254740992) = false ∧ A = Q ∧ B = 0)) := by
    show _ ∨ _
    rcases HAB.out with ⟨h, k⟩ | ⟨h, k⟩
    · exact .inl ⟨h, sgn_over h, k⟩
    · exact .inr ⟨h, sgn_within h, k⟩
  have hodd : 0 < l6.length → w7.cell? ad6 = some (.int .u8 ((q0 % 2 : Nat) : Int)) := fun h => by
    have := (show Cells w7 ad6 l6 from hcells).at_ h
    rw [had, hget] at this
    rw [this]
    simp [bit]
  have hpar : (l6 = [] ∧ q0 = 0) ∨ (0 < l6.length ∧ w7.cell? ad6 = some (.int .u8 1) ∧ q0 % 2 = 1) ∨ (0 < l6.length ∧ w7.cell? ad6 = some (.int .u8 0) ∧ q0 % 2 = 0) := by
    rcases Nat.eq_zero_or_pos l6.length with h | h
    · exact .inl ⟨List.eq_nil_of_length_eq_zero h, hz.1 h⟩
    · rcases Nat.mod_two_eq_zero_or_one q0 with g | g
      · exact .inr (.inr ⟨h, by rw [hodd h, g]; rfl, g⟩)
      · exact .inr (.inl ⟨h, by rw [hodd h, g]; rfl, g⟩)
  have hcase : (Hid (Q = q0 + 1) ∧ ((l6 = [] ∧ sgn (r0 + r0) d = 1) ∨ (0 < l6.length ∧ w7.cell? ad6 = some (.int .u8 1) ∧ sgn (r0 + r0) d = 1) ∨ (0 < l6.length ∧ w7.cell? ad6 = some (.int .u8 0) ∧ sgn (r0 + r0) d = 1) ∨ (0 < l6.length ∧ w7.cell? ad6 = some (.int .u8 1) ∧ sgn (r0 + r0) d = 0))) ∨
      (Hid (Q = q0) ∧ ((l6 = [] ∧ sgn (r0 + r0) d = 0) ∨ (l6 = [] ∧ sgn (r0 + r0) d = -1) ∨ (0 < l6.length ∧ w7.cell? ad6 = some (.int .u8 1) ∧ sgn (r0 + r0) d = -1) ∨ (0 < l6.length ∧ w7.cell? ad6 = some (.int .u8 0) ∧ sgn (r0 + r0) d = -1) ∨ (0 < l6.length ∧ w7.cell? ad6 = some (.int .u8 0) ∧ sgn (r0 + r0) d = 0))) := by
    have hR := rne_at HQ0.out HR0.out
    rw [← RQ.out] at hR
    rcases R2 with h | h | h
    · have s := sgn_lt (show r0 + r0 < d by omega)
      have hQ : Q = q0 := hR.1 h
      rcases hpar with ⟨a, _⟩ | ⟨a, b, _⟩ | ⟨a, b, _⟩
      · exact .inr ⟨hQ, .inr (.inl ⟨a, s⟩)⟩
      · exact .inr ⟨hQ, .inr (.inr (.inl ⟨a, b, s⟩))⟩
      · exact .inr ⟨hQ, .inr (.inr (.inr (.inl ⟨a, b, s⟩)))⟩
    · have s := sgn_eq (show r0 + r0 = d by omega)
      rcases hpar with ⟨a, c⟩ | ⟨a, b, c⟩ | ⟨a, b, c⟩
      · have hQ : Q = q0 := hR.2.2.2 h (by omega)
        exact .inr ⟨hQ, .inl ⟨a, s⟩⟩
      · have hQ : Q = q0 + 1 := hR.2.2.1 h c
        exact .inl ⟨hQ, .inr (.inr (.inr ⟨a, b, s⟩))⟩
      · have hQ : Q = q0 := hR.2.2.2 h c
        exact .inr ⟨hQ, .inr (.inr (.inr (.inr ⟨a, b, s⟩)))⟩
    · have s := sgn_gt (show d < r0 + r0 by omega)
      have hQ : Q = q0 + 1 := hR.2.1 h
      rcases hpar with ⟨a, _⟩ | ⟨a, b, _⟩ | ⟨a, b, _⟩
      · exact .inl ⟨hQ, .inl ⟨a, s⟩⟩
      · exact .inl ⟨hQ, .inr (.inl ⟨a, b, s⟩)⟩
      · exact .inl ⟨hQ, .inr (.inr (.inl ⟨a, b, s⟩))⟩
  have HB := Lib.hid hbel
  clear hpar hodd hget hz hcells tig6 val6 bin6 R2 hc6 ha6 hb6 had RQ hqi hbel
  rcases hcase with ⟨HQ, hA⟩ | ⟨HQ, hA⟩
  · rcases hA with ⟨rfl, s⟩ | ⟨z1, z2, s⟩ | ⟨z1, z2, s⟩ | ⟨z1, z2, s⟩
    all_goals
    rw [s]
    clear s
    go_wp2_with fail
    refine (O3.out _).mono ?_
    rintro e w8 ⟨v9, rfl, n9, h8⟩
    go_wp2_with fail
    refine (add_any 64 (N6.out.below h8) n9 BQ.out (by decide) (by decide)).mono ?_
    rintro e w9 ⟨v10, rfl, n10, h9⟩
    rw [← HQ.out] at n10
    go_wp2_with fail
    refine (O4.out _).mono ?_
    rintro e w10 ⟨v11, rfl, n11, h10⟩
    go_wp2_with fail
    refine (cmp_num 65 ((n10).below h10) n11 BQQ.out (by decide) (by decide)).mono ?_
    rintro e w' ⟨rfl, rfl⟩
    rcases OV.out with ⟨g, T, k1, k2⟩ | ⟨g, T, k1, k2⟩
    · have k3 := Lib.hid (And.intro k1 k2)
      clear k1 k2 g
      go_wp2
      go_ret2
      exact ⟨ret_two64 k3.out.1.symm k3.out.2.symm, (((HB.out.trans (h8.mono HB.out.size)).trans (h9.mono (by have := HB.out.size; have := h8.size; omega))).trans (h10.mono (by have := HB.out.size; have := h8.size; have := h9.size; omega)))⟩
    · have k3 := Lib.hid (And.intro k1 k2)
      clear k1 k2
      go_wp2_with fail
      refine (number_num ((n10).below h10) 65 BQQ.out (by decide)).mono ?_
      rintro e w' ⟨rfl, rfl⟩
      have lo : low Q = Q := low_of (by omega)
      rw [lo]
      have wr : IntKind.i64.wrap (Q : Int) = (Q : Int) := by rw [IntKind.wrap_i64]; omega
      clear lo g
      go_wp2
      go_ret2
      exact ⟨ret_two64 k3.out.1.symm k3.out.2.symm, (((HB.out.trans (h8.mono HB.out.size)).trans (h9.mono (by have := HB.out.size; have := h8.size; omega))).trans (h10.mono (by have := HB.out.size; have := h8.size; have := h9.size; omega)))⟩
  · rcases hA with ⟨rfl, s⟩ | ⟨rfl, s⟩ | ⟨z1, z2, s⟩ | ⟨z1, z2, s⟩ | ⟨z1, z2, s⟩
    all_goals
    rw [s]
    clear s
    have n10 := N6.out
    rw [← HQ.out] at n10
    go_wp2_with fail
    refine (O4.out _).mono ?_
    rintro e w10 ⟨v11, rfl, n11, h10⟩
    go_wp2_with fail
    refine (cmp_num 65 ((n10).below h10) n11 BQQ.out (by decide) (by decide)).mono ?_
    rintro e w' ⟨rfl, rfl⟩
    rcases OV.out with ⟨g, T, k1, k2⟩ | ⟨g, T, k1, k2⟩
    · have k3 := Lib.hid (And.intro k1 k2)
      clear k1 k2 g
      go_wp2
      go_ret2
      exact ⟨ret_two64 k3.out.1.symm k3.out.2.symm, (HB.out.trans (h10.mono HB.out.size))⟩
    · have k3 := Lib.hid (And.intro k1 k2)
      clear k1 k2
      go_wp2_with fail
      refine (number_num ((n10).below h10) 65 BQQ.out (by decide)).mono ?_
      rintro e w' ⟨rfl, rfl⟩
      have lo : low Q = Q := low_of (by omega)
      rw [lo]
      have wr : IntKind.i64.wrap (Q : Int) = (Q : Int) := by rw [IntKind.wrap_i64]; omega
      clear lo g
      go_wp2
      go_ret2
      exact ⟨ret_two64 k3.out.1.symm k3.out.2.symm, (HB.out.trans (h10.mono HB.out.size))⟩

end Go.Proofs.Ytalhajnekpbkoaa
