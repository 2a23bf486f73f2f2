/- Proved here: the law QuantParses of layer 2 holds for every text: it is the quantity that the document says, or it is told why it is none. Conditions: the library's variables that the row lists hold what the program's text lays. -/
import Derived.Test.YtbocjgamlkoflaaDoorCards
import Derived.Test.YtbocjgamlkoflaaDoorTie
import Derived.Test.YtbocjgamlkoflaaDoorQLawBase
import Derived.SevenTiedAt
import Derived.Deep.RegionWith
import Derived.Deep.CutBlock
import Derived.Deep.DeepCutAuto
import Derived.ChangeMaps5
namespace Go.Proofs.YtbocjgamlkoflaaDoor.quantParses
open Go.ChangeShapes Go.WideShapes Go.ChangeAt Go.RowKit
open Go.ChangeMaps (open_string shut_string)
set_option linter.unusedVariables false

theorem scale_any (s : ByteArray) (w : World) :
    Calls Tryd.prog 11 #[.string s] w fun e w' => e = .returned (.int .u64 (unitOf s.toList : Int)) ∧ w = w' := by
  go_enter Tryd.func11, Tryd.ntmps11
  go_wp2
  all_goals
    go_ret
    refine ⟨?_, rfl⟩
    simp only [unitOf, *]
    rfl
theorem dec_lt (l : List UInt8) : ∀ acc, AllDig l → dec acc l < (acc + 1) * 10 ^ l.length := by
  induction l with
  | nil => intro acc _; rw [dec_nil, List.length_nil]; omega
  | cons c r ih =>
    intro acc h
    have hc : isDig c := h c (List.mem_cons_self)
    have hi := ih (acc * 10 + (c.toNat - 48)) (fun d hd => h d (List.mem_cons_of_mem _ hd))
    rw [dec_cons, List.length_cons, Nat.pow_succ]
    refine Nat.lt_of_lt_of_le hi ?_
    have h2 : acc * 10 + (c.toNat - 48) + 1 ≤ (acc + 1) * 10 := by unfold isDig at hc; omega
    calc (acc * 10 + (c.toNat - 48) + 1) * 10 ^ r.length ≤ (acc + 1) * 10 * 10 ^ r.length := Nat.mul_le_mul_right _ h2
      _ = (acc + 1) * (10 ^ r.length * 10) := by rw [Nat.mul_assoc, Nat.mul_comm 10]
theorem dec_bound {l : List UInt8} (h : AllDig l) (hl : l.length ≤ 60) : dec 0 l < 2 ^ 200 := by
  have h1 := dec_lt l 0 h
  have h2 : 10 ^ l.length ≤ 10 ^ 60 := Nat.pow_le_pow_right (by decide) hl
  have h3 : (10 : Nat) ^ 60 < 2 ^ 200 := by decide
  omega

theorem pow_big (k : Nat) (hk : 54 ≤ k) : 9007199254740992 < 2 ^ k :=
  Nat.lt_of_lt_of_le (by decide : 9007199254740992 < 2 ^ 54) (Nat.pow_le_pow_right (by decide) hk)

/-- A text that is too long is left out. -/
theorem long (s : ByteArray) (w : World) (hL : Laid w) (hs : 60 < s.size) (hm : s.size ≤ maxLen) :
    Calls Tryd.prog 3 #[.string s] w fun e w' => e = .returned (.bool true) ∧ Below w.heap.size w w' := by
  unfold maxLen at hm
  have HL := Lib.hid hL
  clear hL
  go_enter Tryd.func3, Tryd.ntmps3
  go_wp2_with fail
  refine (lives_any _ HL.out).mono ?_
  rintro e w1 ⟨rfl, b1⟩
  go_wp2_with fail
  refine (lives_any _ (HL.out.below b1)).mono ?_
  rintro e w2 ⟨rfl, b2⟩
  go_wp2
  go_ret
  exact ⟨rfl, b1.trans (b2.mono b1.size)⟩

theorem Num.drew {w : World} {base : Nat} {v : Value} {n : Nat} (h : Num w base v n) : Num w.drew base v n := h
/-- What the loop over the digits holds. -/
def DigRel (w : World) (base : Nat) (l : List UInt8) (k : Nat) (v : Value) (wr : World) : Prop :=
  k ≤ lead l ∧ Num wr base v (dec 0 (l.take k)) ∧ Below w.heap.size w wr ∧ base ≤ wr.heap.size
theorem take_dig {l : List UInt8} {k : Nat} (h : k ≤ lead l) : AllDig (l.take k) := by
  intro c hc
  refine lead_take l c ?_
  rw [show l.take k = (l.take (lead l)).take k by rw [List.take_take]; congr 1; omega] at hc
  exact List.mem_of_mem_take hc
theorem at_lead (s : ByteArray) (k : Nat) (h : k < s.size) (hk : k < lead s.data.toList) : isDig s[k] := by
  have h1 := lead_take s.data.toList (s.data.toList[k]'(by rw [← Lib.size_eq]; exact h)) (by
    rw [List.mem_take_iff_getElem]
    exact ⟨k, by rw [← Lib.size_eq]; omega, rfl⟩)
  exact h1
theorem lead_stop : ∀ (l : List UInt8) (h : lead l < l.length), ¬ isDig l[lead l]
  | [], h => by simp [lead] at h
  | c :: r, h => by
    by_cases hc : 48 ≤ c.toNat ∧ c.toNat ≤ 57
    · have e := lead_yes (r := r) hc.1 hc.2
      have hr : lead r < r.length := by rw [e, List.length_cons] at h; omega
      have := lead_stop r hr
      simp only [e, List.getElem_cons_succ]
      exact this
    · have e := lead_no (r := r) hc
      simp only [e, List.getElem_cons_zero]
      exact hc
theorem take_step (s : ByteArray) (k : Nat) (h : k < s.size) (acc : Nat) : dec acc (s.data.toList.take (k + 1)) = dec acc (s.data.toList.take k) * 10 + (s[k].toNat - 48) := by
  rw [List.take_succ_eq_append_getElem (by rw [← Lib.size_eq]; exact h), dec_snoc]
  rfl

set_option maxHeartbeats 4000000 in
theorem short (s : ByteArray) (w : World) (hL : Laid w) (hs : s.size ≤ 60) :
    Calls Tryd.prog 3 #[.string s] w fun e w' => e = .returned (.bool true) ∧ Below w.heap.size w w' := by
  have HL := Lib.hid hL
  clear hL
  have O0 := Lib.hid (fun W : World => of_any W 0 (by decide))
  have O10 : Hid (∀ W : World, Calls Tryd.prog 8 #[.int .u64 10] W (RetNum W 10)) := Lib.hid fun W : World => of_any W 10 (by decide)
  go_enter Tryd.func3, Tryd.ntmps3
  go_wp2_with fail
  refine (lives_any _ HL.out).mono ?_
  rintro e w1 ⟨rfl, b1⟩
  go_wp2_with fail
  refine (O0.out _).mono ?_
  rintro e w2 ⟨v0, rfl, n0, b2⟩
  have hb := b1.trans (b2.mono b1.size)
  have hz := b2.size
  clear b1 b2
  go_upto_block 0 with fail
  go_cut [3, 4] (fun n v wx => n = .int .i64 (lead s.data.toList : Int) ∧ DigRel w w1.heap.size s.data.toList (lead s.data.toList) v wx)
  case first =>
    go_wp2_with fail
    go_loopw [3, 4] (fun n v wr => ∃ k : Nat, n = .int .i64 k ∧ DigRel w w1.heap.size s.data.toList k v wr) (fun n _ _ => s.size - (intOf n).toNat)
    case atStart => exact ⟨0, rfl, Nat.zero_le _, n0, hb, hz⟩
    case round =>
      obtain ⟨k, rfl, hk, hnum, hbw, hzw⟩ := hrel
      have hle : lead s.data.toList ≤ s.size := by have := lead_le s.data.toList; rwa [← Lib.size_eq] at this
      by_cases hlt : k < lead s.data.toList
      · have hks : k < s.size := by omega
        have hd := at_lead s k hks hlt
        unfold isDig at hd
        have HD := Lib.hid (dec_bound (take_dig hk) (by rw [List.length_take]; omega))
        have HT := Lib.hid (take_step s k hks 0)
        obtain ⟨d, hdd⟩ : ∃ d : Nat, s[k].toNat = d + 48 := ⟨s[k].toNat - 48, by omega⟩
        have hd10 : d < 10 := by omega
        rw [hdd, Nat.add_sub_cancel] at HT
        have c1 : IntKind.u8.wrap ((s[k].toNat : Int) - 48) = (d : Int) := by rw [IntKind.wrap_u8]; omega
        have c2 : IntKind.u64.wrap (d : Int) = (d : Int) := by rw [IntKind.wrap_u64]; omega
        have OD := Lib.hid (fun W : World => of_any W d (by omega))
        have t1 : (48 : Int) ≤ (s[k].toNat : Int) := by omega
        have t2 : (s[k].toNat : Int) ≤ 57 := by omega
        have HDD := Lib.hid hdd
        clear hd hdd
        obtain ⟨V, hV⟩ : ∃ V, V = dec 0 (s.data.toList.take k) := ⟨_, rfl⟩
        rw [← hV] at hnum HD HT
        have HV := Lib.hid hV
        clear hV
        have H1 := Lib.hid (show V * 10 < 2 ^ 204 from mul_lt_pow (k := 200) (m := 4) HD.out (by decide))
        have H2 := Lib.hid (show d < 2 ^ 204 from Nat.lt_trans hd10 (by decide))
        have H3 := Lib.hid (show (10 : Nat) < 2 ^ 4 by decide)
        have hv : Num wr.drew w1.heap.size u4 V := hnum
        have hB : Below w.heap.size w wr.drew := hbw.drew
        have HZ := Lib.hid hzw
        clear hnum hbw hzw
        go_wp2_with fail
        go_region_with (first
          | (go_at_call 8; (with_reducible refine (O10.out _).mono ?_); rintro e w3 ⟨v3, rfl, n10, b3⟩; (try have hv := Num.below hv b3); (try have hd := Num.below hd b3); have hB := Below.trans hB (Below.mono b3 (Below.size hB)))
          | (go_at_call 8; (with_reducible refine (OD.out _).mono ?_); rintro e w4 ⟨v4, rfl, hd, b4⟩; (try have hv := Num.below hv b4); (try have n10 := Num.below n10 b4); (try have hm := Num.below hm b4); have hB := Below.trans hB (Below.mono b4 (Below.size hB)))
          | (go_at_call 10; refine (mul_any 200 4 hv n10 HD.out H3.out (Nat.le_of_ble_eq_true rfl)).mono ?_; rintro e w5 ⟨v5, rfl, hm, b5⟩; (try have hd := Num.below hd b5); have hB := Below.trans hB (Below.mono b5 (Below.size hB)))
          | (go_at_call 9; refine (add_any 204 hm hd H1.out H2.out (Nat.le_of_ble_eq_true rfl)).mono ?_; rintro e w6 ⟨v6, rfl, hs6, b6⟩; have hB := Below.trans hB (Below.mono b6 (Below.size hB))))
        all_goals
          go_wp2_with fail
          go_roundw
          case rel =>
            have z0 : wr.drew.heap.size = wr.heap.size := rfl
            have z1 := HZ.out
            have z3 := b3.size
            have z4 := b4.size
            have z5 := b5.size
            have z6 := b6.size
            refine ⟨k + 1, by go_num, hlt, ?_, hB, by omega⟩
            rw [HT.out]
            exact hs6.more (by omega)
          case measure => simp [intOf]; omega
      · obtain rfl : k = lead s.data.toList := by omega
        have R := Lib.hid (show DigRel w w1.heap.size s.data.toList (lead s.data.toList) u4 wr from ⟨hk, hnum, hbw, hzw⟩)
        clear hnum hbw hzw hk hlt
        by_cases hks : lead s.data.toList < s.size
        · have hst := lead_stop s.data.toList (by rw [← Lib.size_eq]; exact hks)
          have hn : ¬ isDig s[lead s.data.toList] := hst
          unfold isDig at hn
          clear hst
          generalize lead s.data.toList = k at *
          by_cases h1 : 48 ≤ s[k].toNat
          · have t1 : (48 : Int) ≤ (s[k].toNat : Int) := by omega
            have t2 : ¬ (s[k].toNat : Int) ≤ 57 := by omega
            clear h1 hn
            go_wp2_with fail
            go_meet
            exact ⟨rfl, R.out⟩
          · have t1 : ¬ (48 : Int) ≤ (s[k].toNat : Int) := by omega
            clear h1 hn
            go_wp2_with fail
            go_meet
            exact ⟨rfl, R.out⟩
        · generalize lead s.data.toList = k at *
          go_wp2_with fail
          go_meet
          exact ⟨rfl, R.out⟩
  case rest =>
    obtain ⟨hu3, R⟩ := hcut
    obtain ⟨-, hnum, hB, hz⟩ := R
    subst hu3
    obtain ⟨n, hn⟩ : ∃ n, n = lead s.data.toList := ⟨_, rfl⟩
    obtain ⟨u, hu⟩ : ∃ u, u = unitOf (s.data.toList.drop n) := ⟨_, rfl⟩
    have hle : n ≤ s.size := by have := lead_le s.data.toList; rw [← Lib.size_eq] at this; omega
    have hul := unit_lt (s.data.toList.drop n)
    rw [← hu] at hul
    have S := Lib.hid (fun W : World => scale_any (s.extract n s.size) W)
    rw [tail_list, ← hu] at S
    have hall : AllDig (s.data.toList.take n) := by rw [hn]; exact lead_take _
    obtain ⟨V, hV⟩ : ∃ V, V = dec 0 (s.data.toList.take n) := ⟨_, rfl⟩
    have HD := Lib.hid (dec_bound hall (by rw [List.length_take, ← Lib.size_eq]; omega))
    rw [← hn, ← hV] at hnum
    rw [← hV] at HD
    by_cases hbad : badForm s.data.toList
    · have P := Lib.hid (fun W : World => parse_form s W (by omega) hbad)
      unfold badForm at hbad
      rw [← hn, ← hu] at hbad
      rw [← hn]
      clear hn hu hall hV
      rcases Nat.eq_zero_or_pos n with h0 | h0
      · have t1 : ((n : Int) == 0) = true := by simp [h0]
        clear hbad h0
        go_wp2_with fail
        refine (S.out _).mono ?_
        rintro e w' ⟨rfl, rfl⟩
        go_wp2_with fail
        refine (P.out _).mono ?_
        rintro e w' ⟨rfl, rfl⟩
        go_wp2
        go_ret
        exact ⟨rfl, hB⟩
      · have t1 : ((n : Int) == 0) = false := by simp; omega
        rcases Nat.eq_zero_or_pos u with hu0 | hu0
        · have t2 : ((u : Int) == 0) = true := by simp [hu0]
          clear hbad h0 hu0
          go_wp2_with fail
          refine (S.out _).mono ?_
          rintro e w' ⟨rfl, rfl⟩
          go_wp2_with fail
          refine (P.out _).mono ?_
          rintro e w' ⟨rfl, rfl⟩
          go_wp2
          go_ret
          exact ⟨rfl, hB⟩
        · have t2 : ((u : Int) == 0) = false := by simp; omega
          have hsz : 0 < s.size := by omega
          have hx : 1 < n ∧ s[0].toNat = 48 := by
            rcases hbad with e | e | e
            · omega
            · refine ⟨e.1, ?_⟩
              have := e.2
              rw [head_at s hsz] at this
              rw [Option.some.inj this]
              rfl
            · omega
          have t3 : (1 : Int) < (n : Int) := by omega
          have t4 : (s[0].toNat : Int) = 48 := by omega
          clear hbad h0 hu0 hx
          go_wp2_with fail
          refine (S.out _).mono ?_
          rintro e w' ⟨rfl, rfl⟩
          go_wp2_with fail
          refine (P.out _).mono ?_
          rintro e w' ⟨rfl, rfl⟩
          go_wp2
          go_ret
          exact ⟨rfl, hB⟩
    · have G : Good s.data.toList n V u := by
        have := Good.of hbad
        rwa [← hn, ← hu, ← hV] at this
      rw [← hn]
      have hL1 := HL.out.below hB
      have OU := Lib.hid (fun W : World => of_any W u (by omega))
      have OM := Lib.hid (fun W : World => of_any W 9007199254740992 (by decide))
      have HU := Lib.hid (show u < 2 ^ 64 by omega)
      have HP := Lib.hid (mul_lt_pow HD.out HU.out)
      have HB := Lib.hid (pow_big (200 + 64) (by decide))
      have hsz : 0 < s.size := by have := G.pos; omega
      have t1 : ((n : Int) == 0) = false := by have := G.pos; simp; omega
      have t2 : ((u : Int) == 0) = false := by have := G.u_pos; simp; omega
      have hf := G.first
      have HLE := Lib.hid hL1
      rcases Nat.lt_or_ge 9007199254740992 (V * u) with hm | hm
      · have P := Lib.hid (fun (W : World) (hW : Laid W) => parse_range s W (by omega) G hm hW)
        have T := Lib.hid (sgn_over hm)
        have hcase : (1 < n ∧ ¬ (s[0].toNat : Int) = 48) ∨ ¬ 1 < n := by
          by_cases h1 : 1 < n
          · exact .inl ⟨h1, hf h1 hsz⟩
          · exact .inr h1
        obtain ⟨m, hmm⟩ : ∃ m, V * u = m := ⟨_, rfl⟩
        rw [hmm] at HP T
        have HM := Lib.hid hmm
        have hcase2 : ((1 : Int) < (n : Int) ∧ ¬ (s[0].toNat : Int) = 48) ∨ ¬ (1 : Int) < (n : Int) := by omega
        clear hn hu hall hV hbad G hf hm hcase hmm hL1
        rcases hcase2 with ⟨t3, t4⟩ | t3
        all_goals
          go_wp2_with fail
          refine (S.out _).mono ?_
          rintro e w' ⟨rfl, rfl⟩
          go_wp2_with fail
          refine (P.out _ HLE.out).mono ?_
          rintro e w3 ⟨rfl, b3⟩
          go_wp2_with fail
          refine (OU.out _).mono ?_
          rintro e w4 ⟨v4, rfl, n4, b4⟩
          go_wp2_with fail
          refine (mul_any 200 64 ((hnum.below b3).below b4) n4 HD.out HU.out (by decide)).mono ?_
          rintro e w5 ⟨v5, rfl, n5, b5⟩
          rw [HM.out] at n5
          go_wp2_with fail
          refine (OM.out _).mono ?_
          rintro e w6 ⟨v6, rfl, n6, b6⟩
          go_wp2_with fail
          refine (cmp_num (200 + 64) (n5.below b6) n6 HP.out HB.out (by decide)).mono ?_
          rintro e w' ⟨rfl, rfl⟩
          have t := T.out
          go_wp2
          go_ret
          have z := hB.size
          have z3 := b3.size
          have z4 := b4.size
          have z5 := b5.size
          exact ⟨rfl, (((hB.trans (b3.mono z)).trans (b4.mono (by omega))).trans (b5.mono (by omega))).trans (b6.mono (by omega))⟩
      · have P := Lib.hid (fun W : World => parse_ok s W (by omega) G hm)
        have T := Lib.hid (sgn_within hm)
        have hcase : (1 < n ∧ ¬ (s[0].toNat : Int) = 48) ∨ ¬ 1 < n := by
          by_cases h1 : 1 < n
          · exact .inl ⟨h1, hf h1 hsz⟩
          · exact .inr h1
        obtain ⟨m, hmm⟩ : ∃ m, V * u = m := ⟨_, rfl⟩
        rw [hmm] at HP T hm P
        have HM := Lib.hid hmm
        have c4 : IntKind.u64.wrap (m : Int) = (m : Int) := by rw [IntKind.wrap_u64]; omega
        have HW := Lib.hid (low_of (n := m) (by omega))
        have hcase2 : ((1 : Int) < (n : Int) ∧ ¬ (s[0].toNat : Int) = 48) ∨ ¬ (1 : Int) < (n : Int) := by omega
        clear hn hu hall hV hbad G hf hm hcase hmm hL1
        rcases hcase2 with ⟨t3, t4⟩ | t3
        all_goals
          go_wp2_with fail
          refine (S.out _).mono ?_
          rintro e w' ⟨rfl, rfl⟩
          go_wp2_with fail
          refine (P.out _).mono ?_
          rintro e w3 ⟨rfl, b3⟩
          go_wp2_with fail
          refine (OU.out _).mono ?_
          rintro e w4 ⟨v4, rfl, n4, b4⟩
          go_wp2_with fail
          refine (mul_any 200 64 ((hnum.below b3).below b4) n4 HD.out HU.out (by decide)).mono ?_
          rintro e w5 ⟨v5, rfl, n5, b5⟩
          rw [HM.out] at n5
          go_wp2_with fail
          refine (OM.out _).mono ?_
          rintro e w6 ⟨v6, rfl, n6, b6⟩
          go_wp2_with fail
          refine (cmp_num (200 + 64) (n5.below b6) n6 HP.out HB.out (by decide)).mono ?_
          rintro e w' ⟨rfl, rfl⟩
          have t := T.out
          go_wp2_with fail
          refine (number_num (n5.below b6) (200 + 64) HP.out (by decide)).mono ?_
          rintro e w' ⟨rfl, rfl⟩
          rw [HW.out]
          go_wp2
          go_ret
          have z := hB.size
          have z3 := b3.size
          have z4 := b4.size
          have z5 := b5.size
          exact ⟨rfl, (((hB.trans (b3.mono z)).trans (b4.mono (by omega))).trans (b5.mono (by omega))).trans (b6.mono (by omega))⟩

theorem walk (s : ByteArray) (hm : s.size ≤ maxLen) (w : World) (hL : Laid w) :
    Calls Tryd.prog 3 #[.string s] w fun e w' => e = .returned (.bool true) ∧ Below w.heap.size w w' := by
  by_cases h : s.size ≤ 60
  · exact short s w hL h
  · exact long s w hL (by omega) hm

/-! ### THE ROW's STEP: WRITTEN OUT: LEAVE IT -/
set_option maxRecDepth 100000 in
theorem lifted (os : Os) (started : os.Started) (H : Type) (enc : TypeId × Value → H) :
    ReturnsInHanded {} Tryd.checked os 3 .any (fun w args => (Rows.quantParsesSpec.pre enc Tryd.prog Tryd.f3 [] false w args ∧ laidMetH Tryd.prog lst w) ∧ sizedMet enc Tryd.prog Tryd.f3 (OpenSpec.ofChange Rows.quantParsesSpec) false w args)
      (Rows.quantParsesSpec.post enc Tryd.prog Tryd.f3 false true false false) := by
  refine returnsInHanded_of_change_and (C := Tryd.checked) (X := fun w _ => laidMetH Tryd.prog lst w) (fun _ _ _ hh h => h.of_heap hh) own started (by kernel_rfl) Tryd.func3
    (ChangeSpec.witness_shaped (enc := enc) (C := Tryd.checked) (os := os) (X := fun w _ => laidMetH Tryd.prog lst w) false (World.doorLaid Tryd.prog 2000 os) #[.string ⟨#[]⟩] 8 rfl (World.shaped_of_RefB (by kernel_rfl) (by kernel_rfl)) (by kernel_rfl) (by kernel_rfl) (by kernel_rfl) (door_met os _)) ?_
  intro W base args ds gs before hval0 hW _ _ hL _
  have hval : ∀ (j : Nat) t v, Tryd.f3.params[j]? = some t → args[j]? = some v → Value.okWide Tryd.prog W .any base t v := hval0
  have hW' := hW
  obtain ⟨p, q, hA0, hV, rfl, hfz, hnd⟩ := hW
  have hA : DataW.TrodAll enc Tryd.prog W 0 (fun _ => true) true Tryd.f3.params.toList args.toList ds p := hA0
  rw [Tryd.params3] at hA hval
  obtain ⟨v0, vs0, d0, ds0, p0, q0, hargs, rfl, rfl, h0, r0⟩ := trodAll_cons hA
  obtain ⟨rfl, rfl, rfl⟩ := trodAll_nil r0
  obtain rfl : args = #[v0] := by cases args; simp_all
  obtain ⟨rfl, rfl⟩ := trodVars_none hV
  obtain ⟨a0, rfl, rfl, rfl, w0⟩ := open_string Tryd.underlying9 (hval 0 9 v0 rfl rfl) h0
  clear hA0 hval0
  simp only [List.append_nil] at hW'
  refine (walk a0 w0 W (of_laid hL)).mono fun e W' ⟨he, hg⟩ => ?_
  subst he
  exact ⟨_, rfl, post_below hW' hg (fun _ _ _ => (trodAll_cons_mk (shut_bool Tryd.underlying4 _) trodAll_mk0)) (fun sp _ => (trodAll_cons_mk (shut_string Tryd.underlying9 w0) trodAll_mk0)) (fun _ => rfl) (ok_one (by kernel_rfl) rfl (okWide_bool_mk Tryd.underlying4 _))⟩

theorem over : Rows.QuantParsesSaid :=
  OpenClaim.holds_of_wide 3 Tryd.f3 rfl rfl rfl rfl rfl rfl rfl ⟨rfl, rfl, rfl, rfl, rfl⟩ rfl rfl rfl rfl rfl (by kernel_rfl) Tryd.func3 (by kernel_rfl)
    (of_decide_eq_true (by kernel_rfl)) (by unfold Func.isWrapper; first | (rw [if_pos (by decide +kernel)]; kernel_rfl) | (rw [if_neg (by decide +kernel)]; exact ⟨rfl, rfl⟩))
    (fun os started H enc _ => lifted os started H enc)

/-- The statement: the row, with what it lists tied to the program's text. -/
theorem proved : Rows.QuantParsesCardSaid :=
  Claim7.holds_tied_plain_at .later [] _ true _ true
    over (fun _ h => by cases h) (by kernel_rfl) (fun _ h => by cases h) quantParses_row_tie rfl ⟨rfl, rfl⟩ (by kernel_rfl) rfl
    (fun f fn hf hfn => by
      obtain rfl : f = 3 := Option.some.inj ((show Tryd.prog.funcNamed Rows.quantParsesRow.func = some 3 by kernel_rfl).symm.trans hf) |>.symm
      obtain rfl : fn = Tryd.f3 := (Option.some.inj (Tryd.func3.symm.trans hfn)).symm
      exact ⟨by kernel_rfl, fun j t ht => by
        rw [Tryd.params3] at ht
        have hm : t ∈ [9] := by simpa using Array.mem_of_getElem? ht
        have hall : ([9].all fun u => !Tryd.prog.wantsStandIn u) = true := by kernel_rfl
        exact (show Tryd.prog.wantsStandIn t = false by simpa using List.all_eq_true.1 hall t hm)⟩)
    (by kernel_rfl)
#print axioms proved
end Go.Proofs.YtbocjgamlkoflaaDoor.quantParses

