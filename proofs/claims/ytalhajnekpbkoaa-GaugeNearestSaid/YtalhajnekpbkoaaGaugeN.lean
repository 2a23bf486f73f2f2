/- What the law GaugeNearest calls: its own difference of digits, and how far a word is from a quantity. -/
import Derived.Test.YtalhajnekpbkoaaGaugeE
namespace Go.Proofs.Ytalhajnekpbkoaa
open Go.RowKit
set_option linter.unusedVariables false

theorem bit_in {l : List Nat} (hb : Bin l) {w : World} {ad : Addr} (h : Cells w ad l) {j : Nat} (hj : j < l.length) : w.cell? (ad.add j) = some (.int .u8 ((bit (val l) j : Nat) : Int)) := by
  rw [← get_bit l hb]
  exact h.at_ hj
theorem bit_out {l : List Nat} (hb : Bin l) {j : Nat} (hj : l.length ≤ j) : bit (val l) j = 0 := bit_zero (Nat.lt_of_lt_of_le (val_lt l hb) (pow_le2 hj)) (Nat.le_refl _)

set_option maxHeartbeats 2000000 in
theorem minus_any {w : World} {b1 b2 : Nat} {v1 v2 : Value} {a b : Nat} (k : Nat) (h1 : Num w b1 v1 a) (h2 : Num w b2 v2 b) (ha : a < 2 ^ k) (hba : b ≤ a) (hk : k ≤ 1000000) :
    Calls Try.prog 17 #[v1, v2] w (RetNum w (a - b)) := by
  obtain ⟨la, hra, bina, tia, rfl⟩ := h1
  obtain ⟨lb, hrb, binb, tib, rfl⟩ := h2
  have hla := tia.len_le ha
  have hlb := tib.len_le (Nat.lt_of_le_of_lt hba ha)
  have VA := Lib.hid (val_lt la bina)
  have HBA := Lib.hid hba
  clear ha hba tia tib
  obtain ⟨ada, ca, rfl, hca, ha1, ha2, hcells⟩ := id hra
  obtain ⟨adb, cb, rfl, hcb, hb1, hb2, hcellsb⟩ := id hrb
  have HCA := Lib.hid hcells
  have HCB := Lib.hid hcellsb
  clear hcells hcellsb
  go_enter Try.func17, Try.ntmps17
  go_wp2
  go_loopw [5, 6, 13] (fun v c i wr => ∃ (C : Nat) (l : List Nat), c = .int .u8 (C : Int) ∧ i = .int .i64 (l.length : Int) ∧ l.length ≤ la.length ∧ SubRel w (val la) (val lb) C v wr l) (fun _ _ i _ => la.length - (intOf i).toNat)
  case atStart =>
    exact ⟨0, [], rfl, rfl, Nat.zero_le _, Nat.zero_le _, Bin.nil, by show val [] + _ = _; simp [val, Nat.mod_one], Own.empty w (Nat.le_refl _), (Below.refl _ _).alloc (Nat.le_refl _) _⟩
  case round =>
    obtain ⟨C, l, rfl, rfl, hle, hrel⟩ := hrel
    have hC := hrel.1
    have hown := hrel.2.2.2.1
    have hbel := hrel.2.2.2.2
    have hsz := hbel.size
    by_cases hlt : l.length < la.length
    · have cA : wr.cell? (ada.add l.length) = some (.int .u8 ((bit (val la) l.length : Nat) : Int)) := by
        rw [hbel.cell (p := ada.add l.length) (by rw [add_block]; exact ha2)]
        exact bit_in bina HCA.out hlt
      have xa := bit_le (val la) l.length
      obtain ⟨x, hx⟩ : ∃ x, x = bit (val la) l.length := ⟨_, rfl⟩
      by_cases hlt2 : l.length < lb.length
      · have cB : wr.cell? (adb.add l.length) = some (.int .u8 ((bit (val lb) l.length : Nat) : Int)) := by
          rw [hbel.cell (p := adb.add l.length) (by rw [add_block]; exact hb2)]
          exact bit_in binb HCB.out hlt2
        have xb := bit_le (val lb) l.length
        obtain ⟨y, hy⟩ : ∃ y, y = bit (val lb) l.length := ⟨_, rfl⟩
        have HX := Lib.hid hx
        have HY := Lib.hid hy
        rw [← hx] at cA xa
        rw [← hy] at cB xb
        clear hx hy
        go_wp2_with (at_builtin; refine wpList_append_row rfl (.tmp 34) (.tmp 37) rfl w.heap.size _ l rfl (hown.alloc _) wr.heap.size _ [(2 + x - y - C) % 2] rfl (Row.one wr _ _ (by omega)) (by simp; omega) (by simp; omega) ?_; intro v1 w1 hO hg _)
        have hnew := sub_rel_round (o := _) hrel (by rw [← HX.out, ← HY.out]; exact hO) hg
        rw [← HX.out, ← HY.out] at hnew
        go_roundw
        case rel => exact ⟨_, _, by go_num, by simp, by simp; omega, hnew⟩
        case measure => simp [intOf]; omega
      · have hb0 : bit (val lb) l.length = 0 := bit_out binb (by omega)
        have HX := Lib.hid hx
        have HY := Lib.hid hb0
        rw [← hx] at cA xa
        clear hx hb0
        go_wp2_with (at_builtin; refine wpList_append_row rfl (.tmp 34) (.tmp 37) rfl w.heap.size _ l rfl (hown.alloc _) wr.heap.size _ [(2 + x - 0 - C) % 2] rfl (Row.one wr _ _ (by omega)) (by simp; omega) (by simp; omega) ?_; intro v1 w1 hO hg _)
        have hnew := sub_rel_round (o := _) hrel (by rw [← HX.out, HY.out]; exact hO) hg
        rw [← HX.out, HY.out] at hnew
        go_roundw
        case rel => exact ⟨_, _, by go_num, by simp, by simp; omega, hnew⟩
        case measure => simp [intOf]; omega
    · have hv := Lib.hid (sub_rel_end hrel (by have := VA.out; rwa [show l.length = la.length by omega]) HBA.out)
      have hrow := Row.of_own hown
      have hb := hrel.2.1
      obtain ⟨ad, c, rfl, hc, h1, h2, hcells⟩ := hrow
      have HC := Lib.hid hcells
      clear hrel hcells hown
      go_wp2
      go_loop [5] (fun v => ∃ k : Nat, k ≤ l.length ∧ v = .slice (some ad) k c ∧ Hid (val (l.take k) = val l)) (fun v => lenOf v)
      case atStart => exact ⟨l.length, Nat.le_refl _, rfl, by show val _ = val l; rw [List.take_length]⟩
      case round =>
        obtain ⟨k, hk, rfl, hval⟩ := hrel
        have hl : (l.take k).length = k := by rw [List.length_take]; omega
        rcases k with _ | k
        · go_wp2
          go_ret
          have e := hval.out
          rw [List.take_zero] at e
          exact ⟨_, rfl, ⟨[], ⟨ad, c, rfl, Nat.zero_le _, h1, h2, fun j b hj => by simp at hj⟩, Bin.nil, tight_nil, by rw [e]; exact hv.out⟩, hbel⟩
        · have hcell := HC.out.at_ (j := k) (by omega)
          have hb1' : l.getD k 0 < 2 := by rw [get_bit l hb]; exact bit_lt _ _
          have hcase : l.getD k 0 = 0 ∨ l.getD k 0 = 1 := by omega
          rcases hcase with h0 | h1'
          · have H0 := Lib.hid h0
            rw [h0] at hcell
            clear h0 hb1' hl
            go_wp2
            go_round
            case rel => exact ⟨k, by omega, rfl, by show val _ = val l; rw [← take_trim l hb k H0.out]; exact hval.out⟩
            case measure => simp [lenOf]
          · have H1 := Lib.hid h1'
            have HL := Lib.hid hl
            rw [h1'] at hcell
            clear h1' hb1' hl
            go_wp2
            go_ret
            have hrow : Row wr w.heap.size (.slice (some ad) (k + 1) c) (l.take (k + 1)) := ⟨ad, c, by rw [HL.out], by rw [HL.out]; omega, h1, h2, HC.out.take (k + 1)⟩
            exact ⟨_, rfl, ⟨l.take (k + 1), hrow, hb.take _, take_tight l k hk H1.out, hval.out.trans hv.out⟩, hbel⟩

/-! ### how far a word is -/
def dist (a b : Nat) : Nat := (a - b) + (b - a)
def offA (x : Nat) : Nat := (x % 4503599627370496 + 4503599627370496) * 1000 * 2 ^ (x / 4503599627370496 % 2048 + 25)

set_option maxHeartbeats 1000000 in
theorem off_any (x m D N : Nat) (w : World) (p : Addr) (hx : x < 18446744073709551616) (hm : m ≤ 9007199254740992) (hD : D = 2 ^ 1100) (hN : N = 1101) (hD2 : D < 2 ^ N) (hp : p.block < w.heap.size) (hc : w.cell? p = some (.int .i64 (m : Int))) :
    Calls Try.prog 12 #[.int .u64 (x : Int), .pointer (some p)] w (RetNum w (dist (offA x) (m * D))) := by
  obtain ⟨E, hE⟩ : ∃ E, E = x / 4503599627370496 % 2048 := ⟨_, rfl⟩
  obtain ⟨d, hd⟩ : ∃ d, d = x % 4503599627370496 + 4503599627370496 := ⟨_, rfl⟩
  obtain ⟨t, ht⟩ : ∃ t, t = E + 25 := ⟨_, rfl⟩
  obtain ⟨u, hu⟩ : ∃ u, u = d * 1000 := ⟨_, rfl⟩
  obtain ⟨A, hA⟩ : ∃ A, A = u * 2 ^ t := ⟨_, rfl⟩
  obtain ⟨B, hB⟩ : ∃ B, B = m * D := ⟨_, rfl⟩
  have hoff : offA x = A := by unfold offA; rw [hA, hu, hd, ht, hE]
  rw [hoff, ← hB]
  obtain ⟨K, hK⟩ : ∃ K, K = 3000 := ⟨_, rfl⟩
  have e1 : (x : Int) / 4503599627370496 % 2048 = (E : Int) := by omega
  have e2 : IntKind.u64.wrap ((x : Int) % 4503599627370496 + 4503599627370496) = (d : Int) := by
    have : (x : Int) % 4503599627370496 + 4503599627370496 = (d : Int) := by omega
    rw [this]; exact wrapN d (by omega)
  have e3 : (E : Int) + 25 = (t : Int) := by omega
  have e4 : IntKind.u64.wrap (m : Int) = (m : Int) := wrapN m (by omega)
  have hu64 : u < 2 ^ 64 := by omega
  have hAK : A < 2 ^ K := by
    have h2 : 2 ^ t < 2 ^ (t + 1) := pow_lt2 (by omega)
    have h3 := mul_lt_pow hu64 h2
    rw [hA]
    exact Nat.lt_of_lt_of_le h3 (pow_le2 (by omega))
  have hBK : B < 2 ^ K := by
    have h1 : m < 2 ^ 54 := by omega
    have h3 := mul_lt_pow h1 hD2
    rw [hB]
    exact Nat.lt_of_lt_of_le h3 (pow_le2 (by omega))
  have O1 := Lib.hid (fun W : World => of_any W d (by omega))
  have O2 := Lib.hid (fun W : World => of_any W 1000 (by decide))
  have O3 := Lib.hid (fun W : World => of_any W m (by omega))
  have P1 := Lib.hid (fun W : World => power_any t W (by omega))
  have P2 := Lib.hid (fun W : World => power_any 1100 W (by decide))
  rw [← hD] at P2
  have B1 := Lib.hid (show d < 2 ^ 64 by omega)
  have B2 := Lib.hid hu64
  have B3 := Lib.hid (show 2 ^ t < 2 ^ (t + 1) from pow_lt2 (by omega))
  have B4 := Lib.hid (show 64 + (t + 1) ≤ 1000000 by omega)
  have B5 := Lib.hid (show m < 2 ^ 64 by omega)
  have B6 := Lib.hid hD2
  have B7 := Lib.hid (show 64 + N ≤ 1000000 by omega)
  have BA := Lib.hid hAK
  have BB := Lib.hid hBK
  have BK := Lib.hid (show K ≤ 1000000 by omega)
  have HU := Lib.hid hu
  have HA := Lib.hid hA
  have HB := Lib.hid hB
  have HC := Lib.hid hc
  have HP := Lib.hid hp
  have hcase : (A < B ∧ decide (sgn A B < 0) = true ∧ dist A B = B - A) ∨ (B ≤ A ∧ decide (sgn A B < 0) = false ∧ dist A B = A - B) := by
    rcases Nat.lt_or_ge A B with h | h
    · exact .inl ⟨h, by rw [sgn_lt h]; rfl, by unfold dist; omega⟩
    · refine .inr ⟨h, ?_, by unfold dist; omega⟩
      rcases Nat.lt_or_ge B A with h1 | h1
      · rw [sgn_gt h1]; rfl
      · rw [sgn_eq (by omega)]; rfl
  clear hx hm hD hN hD2 hp hc hE hd ht hu hA hB hoff hK hu64 hAK hBK
  rcases hcase with ⟨h, s, hd⟩ | ⟨h, s, hd⟩
  all_goals
    rw [hd]
    have HH := Lib.hid h
    clear h hd
    go_enter Try.func12, Try.ntmps12
    go_wp2_with fail
    refine (O1.out _).mono ?_
    rintro e w1 ⟨v1, rfl, n1, h1⟩
    go_wp2_with fail
    refine (O2.out _).mono ?_
    rintro e w2 ⟨v2, rfl, n2, h2⟩
    go_wp2_with fail
    refine (mul_any 64 64 (n1.below h2) n2 B1.out (by decide) (by decide)).mono ?_
    rintro e w3 ⟨v3, rfl, n3, h3⟩
    rw [← HU.out] at n3
    go_wp2_with fail
    refine (P1.out _).mono ?_
    rintro e w4 ⟨v4, rfl, n4, h4⟩
    go_wp2_with fail
    refine (mul_any 64 (t + 1) (n3.below h4) n4 B2.out B3.out B4.out).mono ?_
    rintro e w5 ⟨v5, rfl, n5, h5⟩
    rw [← HA.out] at n5
    have hb5 : Below w.heap.size w w5 := (((h1.trans (h2.mono h1.size)).trans (h3.mono (by have := h1.size; have := h2.size; omega))).trans (h4.mono (by have := h1.size; have := h2.size; have := h3.size; omega))).trans (h5.mono (by have := h1.size; have := h2.size; have := h3.size; have := h4.size; omega))
    have hc5 : w5.cell? p = some (.int .i64 (m : Int)) := (hb5.cell HP.out).trans HC.out
    have HB5 := Lib.hid hb5
    clear n1 n2 n3 n4 h1 h2 h3 h4 h5 hb5
    go_wp2_with fail
    refine (O3.out _).mono ?_
    rintro e w6 ⟨v6, rfl, n6, h6⟩
    go_wp2_with fail
    refine (P2.out _).mono ?_
    rintro e w7 ⟨v7, rfl, n7, h7⟩
    go_wp2_with fail
    refine (mul_any 64 N (n6.below h7) n7 B5.out B6.out B7.out).mono ?_
    rintro e w8 ⟨v8, rfl, n8, h8⟩
    rw [← HB.out] at n8
    have n5' := Lib.hid (((n5.below h6).below h7).below h8)
    have n8' := Lib.hid n8
    have HB8 := Lib.hid (((HB5.out.trans (h6.mono HB5.out.size)).trans (h7.mono (by have := HB5.out.size; have := h6.size; omega))).trans (h8.mono (by have := HB5.out.size; have := h6.size; have := h7.size; omega)))
    clear n5 n6 n7 n8 h6 h7 h8
    go_wp2_with fail
    refine (cmp_num K n5'.out n8'.out BA.out BB.out BK.out).mono ?_
    rintro e w' ⟨rfl, rfl⟩
    go_wp2_with fail
    first
      | (refine (minus_any K n8'.out n5'.out BB.out (Nat.le_of_lt HH.out) BK.out).mono ?_
         rintro e w9 ⟨v9, rfl, n9, h9⟩
         go_wp2
         go_ret
         exact ⟨v9, rfl, n9.more HB8.out.size, HB8.out.trans (h9.mono HB8.out.size)⟩)
      | (refine (minus_any K n5'.out n8'.out BA.out HH.out BK.out).mono ?_
         rintro e w9 ⟨v9, rfl, n9, h9⟩
         go_wp2
         go_ret
         exact ⟨v9, rfl, n9.more HB8.out.size, HB8.out.trans (h9.mono HB8.out.size)⟩)

/- the words ahead and behind -/
theorem dist_mul (a b c : Nat) : dist (a * c) (b * c) = dist a b * c := by
  unfold dist
  rw [Nat.add_mul, Nat.sub_mul, Nat.sub_mul]
theorem offA_at {x E k V : Nat} (hE : E < 2048) (hx : x = E * 4503599627370496 + k) (hk : k < 4503599627370496) (hV : V = 2 ^ (E + 25)) : offA x = (k + 4503599627370496) * 1000 * V := by
  have e1 : x / 4503599627370496 % 2048 = E := by omega
  have e2 : x % 4503599627370496 = k := by omega
  unfold offA
  rw [e1, e2, hV]
theorem pow_s (a : Nat) : 2 ^ (a + 1) = 2 * 2 ^ a := by rw [Nat.pow_succ, Nat.mul_comm]
/-- The three, in one measure. -/
theorem off_three {x m D N : Nat} (h : Wrote m x) (h0 : 1 ≤ m) (hN : N = 1100) (hD : D = 2 ^ N) : ∃ V a0 a1 a2 b, 0 < V ∧ offA x = a0 * V ∧ offA (x - 1) = a1 * V ∧ offA (x + 1) = a2 * V ∧ m * D = b * V ∧
    dist a0 b ≤ dist a1 b ∧ dist a0 b ≤ dist a2 b ∧ (x % 2 = 1 → dist a0 b < dist a1 b ∧ dist a0 b < dist a2 b) ∧ 4503599627370496 ≤ x ∧ x < 9214364837600034816 := by
  rcases h with ⟨rfl, _⟩ | ⟨F, k, hx, h1, h2, h3, h4, h5, h6, h7, h8, h9⟩
  · omega
  obtain ⟨G, hG⟩ : ∃ G, G = 1074 - F := ⟨_, rfl⟩
  rw [← hG] at hx
  obtain ⟨V, hV⟩ : ∃ V, V = 2 ^ (G + 25) := ⟨_, rfl⟩
  have hV0 : 0 < V := by rw [hV]; exact Nat.two_pow_pos _
  have hV1 : 2 * V = 2 ^ (G + 1 + 25) := by rw [hV, ← pow_s, show G + 25 + 1 = G + 1 + 25 by omega]
  have hV2 : 4 * V = 2 ^ (G + 2 + 25) := by
    have e : G + 2 + 25 = G + 25 + 1 + 1 := by omega
    rw [e, pow_s, pow_s, ← hV]
    omega
  obtain ⟨P, hP⟩ : ∃ P, P = m * 2 ^ F := ⟨_, rfl⟩
  have hB : m * D = 2 * P * V := by
    have e : 2 ^ N = 2 * (2 ^ F * V) := by
      rw [hV, ← Nat.pow_add, ← pow_s]
      congr 1
      omega
    rw [hD, e, hP, Nat.mul_left_comm, ← Nat.mul_assoc m, ← Nat.mul_assoc]
  rw [← hP] at h5 h6 h7 h8 h9
  obtain ⟨q, hq⟩ : ∃ q, q = 4503599627370495 := ⟨_, rfl⟩
  have bx1 : 4503599627370496 ≤ x := Nat.le_trans h3 (by rw [hx]; exact Nat.le_add_left _ _)
  have bx2 : x < 9214364837600034816 := by omega
  rcases Nat.lt_or_ge k 9007199254740992 with hk | hk
  · obtain ⟨j, rfl⟩ : ∃ j, k = j + 4503599627370496 := ⟨k - 4503599627370496, by omega⟩
    have a0 : offA x = (2000 * j + 9007199254740992000) * V := by
      rw [offA_at (E := G + 1) (k := j) (V := 2 * V) (by clear hV hV1 hV2 hB hD hN hP h5 h6 h7 h8 h9 hV0; omega) (by rw [hx, Nat.add_mul, Nat.one_mul, Nat.add_assoc, Nat.add_comm j]) (by clear hV hV1 hV2 hB hD hN hP h5 h6 h7 h8 h9 hV0; omega) hV1, ← Nat.mul_assoc, show (j + 4503599627370496) * 1000 * 2 = (2000 * j + 9007199254740992000) by omega]
    have a2 : offA (x + 1) = (2000 * j + 9007199254740994000) * V := by
      rcases Nat.lt_or_ge (j + 1) 4503599627370496 with hk2 | hk2
      · rw [offA_at (E := G + 1) (k := j + 1) (V := 2 * V) (by clear hV hV1 hV2 hB hD hN hP h5 h6 h7 h8 h9 hV0; omega) (by clear hV hV1 hV2 hB hD hN hP h5 h6 h7 h8 h9 hV0; omega) (by clear hV hV1 hV2 hB hD hN hP h5 h6 h7 h8 h9 hV0; omega) hV1, ← Nat.mul_assoc, show (j + 1 + 4503599627370496) * 1000 * 2 = 2000 * j + 9007199254740994000 by omega]
      · rw [offA_at (E := G + 2) (k := 0) (V := 4 * V) (by clear hV hV1 hV2 hB hD hN hP h5 h6 h7 h8 h9 hV0; omega) (by clear hV hV1 hV2 hB hD hN hP h5 h6 h7 h8 h9 hV0; omega) (by clear hV hV1 hV2 hB hD hN hP h5 h6 h7 h8 h9 hV0; omega) hV2, ← Nat.mul_assoc, show (0 + 4503599627370496) * 1000 * 4 = 2000 * j + 9007199254740994000 by omega]
    rcases Nat.eq_zero_or_pos j with hk3 | hk3
    · have a1 : offA (x - 1) = 9007199254740991000 * V := by
        rw [offA_at (E := G) (k := q) (V := V) (by clear hV hV1 hV2 hB hD hN hP h5 h6 h7 h8 h9 hV0; omega) (by clear hV hV1 hV2 hB hD hN hP h5 h6 h7 h8 h9 hV0; omega) (by clear hV hV1 hV2 hB hD hN hP h5 h6 h7 h8 h9 hV0; omega) hV, show (q + 4503599627370496) * 1000 = 9007199254740991000 by omega]
      have H := Lib.hid (And.intro a0 (And.intro a1 (And.intro a2 hB)))
      clear a0 a1 a2 hB
      refine ⟨V, _, _, _, _, hV0, H.out.1, H.out.2.1, H.out.2.2.1, H.out.2.2.2, ?_, ?_, ?_, bx1, bx2⟩
      all_goals
        unfold dist
        omega
    · have a1 : offA (x - 1) = (2000 * j + 9007199254740990000) * V := by
        rw [offA_at (E := G + 1) (k := j - 1) (V := 2 * V) (by clear hV hV1 hV2 hB hD hN hP h5 h6 h7 h8 h9 hV0; omega) (by clear hV hV1 hV2 hB hD hN hP h5 h6 h7 h8 h9 hV0; omega) (by clear hV hV1 hV2 hB hD hN hP h5 h6 h7 h8 h9 hV0; omega) hV1, ← Nat.mul_assoc, show (j - 1 + 4503599627370496) * 1000 * 2 = 2000 * j + 9007199254740990000 by omega]
      have H := Lib.hid (And.intro a0 (And.intro a1 (And.intro a2 hB)))
      clear a0 a1 a2 hB
      refine ⟨V, _, _, _, _, hV0, H.out.1, H.out.2.1, H.out.2.2.1, H.out.2.2.2, ?_, ?_, ?_, bx1, bx2⟩
      all_goals
        unfold dist
        omega
  · have hk2 : k = 9007199254740992 := by omega
    subst hk2
    have a0 : offA x = 18014398509481984000 * V := by
      rw [offA_at (E := G + 2) (k := 0) (V := 4 * V) (by clear hV hV1 hV2 hB hD hN hP h5 h6 h7 h8 h9 hV0; omega) (by clear hV hV1 hV2 hB hD hN hP h5 h6 h7 h8 h9 hV0; omega) (by clear hV hV1 hV2 hB hD hN hP h5 h6 h7 h8 h9 hV0; omega) hV2, ← Nat.mul_assoc, show (0 + 4503599627370496) * 1000 * 4 = 18014398509481984000 by decide]
    have a2 : offA (x + 1) = 18014398509481988000 * V := by
      rw [offA_at (E := G + 2) (k := 1) (V := 4 * V) (by clear hV hV1 hV2 hB hD hN hP h5 h6 h7 h8 h9 hV0; omega) (by clear hV hV1 hV2 hB hD hN hP h5 h6 h7 h8 h9 hV0; omega) (by clear hV hV1 hV2 hB hD hN hP h5 h6 h7 h8 h9 hV0; omega) hV2, ← Nat.mul_assoc, show (1 + 4503599627370496) * 1000 * 4 = 18014398509481988000 by decide]
    have a1 : offA (x - 1) = 18014398509481982000 * V := by
      rw [offA_at (E := G + 1) (k := q) (V := 2 * V) (by clear hV hV1 hV2 hB hD hN hP h5 h6 h7 h8 h9 hV0; omega) (by clear hV hV1 hV2 hB hD hN hP h5 h6 h7 h8 h9 hV0; omega) (by clear hV hV1 hV2 hB hD hN hP h5 h6 h7 h8 h9 hV0; omega) hV1, ← Nat.mul_assoc, show (q + 4503599627370496) * 1000 * 2 = 18014398509481982000 by omega]
    have H := Lib.hid (And.intro a0 (And.intro a1 (And.intro a2 hB)))
    clear a0 a1 a2 hB
    refine ⟨V, _, _, _, _, hV0, H.out.1, H.out.2.1, H.out.2.2.1, H.out.2.2.2, ?_, ?_, ?_, bx1, bx2⟩
    all_goals
      unfold dist
      omega

end Go.Proofs.Ytalhajnekpbkoaa
