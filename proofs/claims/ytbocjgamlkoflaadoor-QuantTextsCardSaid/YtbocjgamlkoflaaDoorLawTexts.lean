/- Proved here: the law QuantTexts of layer 2 holds for every number: any quantity's text is the shorter of those without a unit and with m, and is read again; what is none has none. Conditions: the library's variables that the row lists hold what the program's text lays. -/
import Derived.Test.YtbocjgamlkoflaaDoorCards
import Derived.Test.YtbocjgamlkoflaaDoorTie
import Derived.Test.YtbocjgamlkoflaaDoorQLawBase
import Derived.SevenTiedAt
namespace Go.Proofs.YtbocjgamlkoflaaDoor.quantTexts
open Go.ChangeShapes Go.WideShapes Go.ChangeAt Go.RowKit
set_option linter.unusedVariables false

/-- It is no quantity. -/
theorem bad (m : Int) (w : World) (hL : Laid w) (hm : m < 0 ∨ 9007199254740992 < m) :
    Calls Tryd.prog 4 #[.int .i64 m] w fun e w' => e = .returned (.bool true) ∧ Below w.heap.size w w' := by
  have T := Lib.hid (fun W : World => text_no m W hm)
  have R := Lib.hid (fun W : World => right_no m W hm)
  rcases hm with h | h
  all_goals
    go_enter Tryd.func4, Tryd.ntmps4
    go_wp2_with fail
    refine (lives_any _ hL).mono ?_
    rintro e w1 ⟨rfl, h1⟩
    go_wp2_with fail
    refine (T.out _).mono ?_
    rintro e w' ⟨rfl, rfl⟩
    go_wp2_with fail
    refine (R.out _).mono ?_
    rintro e w' ⟨rfl, rfl⟩
    go_wp2
    go_ret
    exact ⟨rfl, h1⟩
theorem whole (m : Nat) (w : World) (hL : Laid w) (h : m ≤ 9007199254740992) (hm : m % 1000 = 0) :
    Calls Tryd.prog 4 #[.int .i64 (m : Int)] w fun e w' => e = .returned (.bool true) ∧ Below w.heap.size w w' := by
  have T := Lib.hid (fun (W : World) (hW : Laid W) => text_whole m W h hm hW)
  have R := Lib.hid (fun W : World => right_yes (m : Int) W (by omega) (by omega))
  have h1 : (m : Int) ≤ 9007199254740992 := by omega
  have t1 : ((m : Int) % 1000 == 0) = true := by simp; omega
  have t2 : ((m : Int) % 1000 != 0) = false := by simp; omega
  have HQ := Lib.hid (show m / 1000 * 1000 = m by omega)
  have G := Lib.hid (good_whole (m / 1000))
  have D := Lib.hid (decD_len (m / 1000) 15 (by omega))
  have C := Lib.hid (decD_dig (m / 1000))
  have HB := Lib.hid h
  clear h hm
  have HL := Lib.hid hL
  clear hL
  go_enter Tryd.func4, Tryd.ntmps4
  go_wp2_with fail
  refine (lives_any _ HL.out).mono ?_
  rintro e w1 ⟨rfl, b1⟩
  go_wp2_with fail
  refine (T.out _ (HL.out.below b1)).mono ?_
  rintro e w2 ⟨s, rfl, hs, b2⟩
  have G2 := G.out
  have D2 := D.out
  rw [← hs] at G2 D2
  rw [← Lib.size_eq] at D2
  have hpos : 0 < s.size := by
    have h1 := G2.pos
    have h2 := G2.le
    omega
  obtain ⟨n, hn⟩ : ∃ n, s.size = n + 1 := ⟨s.size - 1, by omega⟩
  have hlt : n < s.size := by omega
  have hlast : ((s[n].toNat : Int) == 109) = false := by
    have hd : isDig s[n] := C.out _ (by rw [← hs]; exact List.getElem_mem (l := s.data.toList) (n := n) (by rw [← Lib.size_eq]; omega))
    unfold isDig at hd
    simp
    omega
  have LA := Lib.hid hlast
  have P := Lib.hid (fun W : World => parse_ok s W (by omega) G2 (by have := HQ.out; have := HB.out; omega))
  rw [HQ.out] at P
  have HS := Lib.hid hs
  clear hs G2 hlast
  go_wp2_with fail
  refine (P.out _).mono ?_
  rintro e w3 ⟨rfl, b3⟩
  have la := LA.out
  go_wp2_with fail
  refine (R.out _).mono ?_
  rintro e w' ⟨rfl, rfl⟩
  go_wp2
  go_ret
  have z1 := b1.size
  have z2 := b2.size
  exact ⟨rfl, (b1.trans (b2.mono z1)).trans (b3.mono (by omega))⟩
theorem milli (m : Nat) (w : World) (hL : Laid w) (h : m ≤ 9007199254740992) (hm : m % 1000 ≠ 0) :
    Calls Tryd.prog 4 #[.int .i64 (m : Int)] w fun e w' => e = .returned (.bool true) ∧ Below w.heap.size w w' := by
  have T := Lib.hid (fun (W : World) (hW : Laid W) => text_milli m W h hm hW)
  have R := Lib.hid (fun W : World => right_yes (m : Int) W (by omega) (by omega))
  have h1 : (m : Int) ≤ 9007199254740992 := by omega
  have t1 : ((m : Int) % 1000 == 0) = false := by simp; omega
  have t2 : ((m : Int) % 1000 != 0) = true := by simp; omega
  have HQ := Lib.hid (show m * 1 = m by omega)
  have G := Lib.hid (good_milli m)
  have D := Lib.hid (show (Lib.decDigits m ++ [109]).length ≤ 17 by have := decD_len m 15 (by omega); rw [List.length_append, List.length_singleton]; omega)
  have HB := Lib.hid h
  clear h hm
  have HL := Lib.hid hL
  clear hL
  go_enter Tryd.func4, Tryd.ntmps4
  go_wp2_with fail
  refine (lives_any _ HL.out).mono ?_
  rintro e w1 ⟨rfl, b1⟩
  go_wp2_with fail
  refine (T.out _ (HL.out.below b1)).mono ?_
  rintro e w2 ⟨s, rfl, hs, b2⟩
  have G2 := G.out
  have D2 := D.out
  rw [← hs] at G2 D2
  rw [← Lib.size_eq] at D2
  have hpos : 0 < s.size := by
    have h1 := G2.pos
    have h2 := G2.le
    omega
  obtain ⟨n, hn⟩ : ∃ n, s.size = n + 1 := ⟨s.size - 1, by omega⟩
  have hlt : n < s.size := by omega
  have hlast : ((s[n].toNat : Int) == 109) = true := by
    have hl : s.data.toList.length = n + 1 := by rw [← Lib.size_eq]; exact hn
    have e : s.data.toList[n]? = some s[n] := by
      rw [List.getElem?_eq_getElem (by omega)]
      rfl
    rw [hs] at hl e
    rw [List.length_append, List.length_singleton] at hl
    rw [List.getElem?_append_right (by omega), show n - (Lib.decDigits m).length = 0 by omega] at e
    rw [← Option.some.inj e]
    rfl
  have LA := Lib.hid hlast
  have P := Lib.hid (fun W : World => parse_ok s W (by omega) G2 (by have := HQ.out; have := HB.out; omega))
  rw [HQ.out] at P
  have HS := Lib.hid hs
  clear hs G2 hlast
  go_wp2_with fail
  refine (P.out _).mono ?_
  rintro e w3 ⟨rfl, b3⟩
  have la := LA.out
  go_wp2_with fail
  refine (R.out _).mono ?_
  rintro e w' ⟨rfl, rfl⟩
  go_wp2
  go_ret
  have z1 := b1.size
  have z2 := b2.size
  exact ⟨rfl, (b1.trans (b2.mono z1)).trans (b3.mono (by omega))⟩
theorem walk (a0 : Int) (w0 : (Lit.int .i64 a0).wf = true) (w : World) (hL : Laid w) :
    Calls Tryd.prog 4 #[.int .i64 a0] w fun e w' => e = .returned (.bool true) ∧ Below w.heap.size w w' := by
  by_cases h : a0 < 0 ∨ 9007199254740992 < a0
  · exact bad a0 w hL h
  · obtain ⟨m, rfl⟩ : ∃ m : Nat, a0 = m := ⟨a0.toNat, by omega⟩
    by_cases hm : m % 1000 = 0
    · exact whole m w hL (by omega) hm
    · exact milli m w hL (by omega) hm

/-! ### THE ROW's STEP: WRITTEN OUT: LEAVE IT -/
set_option maxRecDepth 100000 in
theorem lifted (os : Os) (started : os.Started) (H : Type) (enc : TypeId × Value → H) :
    ReturnsInHanded {} Tryd.checked os 4 .any (fun w args => (Rows.quantTextsSpec.pre enc Tryd.prog Tryd.f4 [] false w args ∧ laidMetH Tryd.prog lst w) ∧ sizedMet enc Tryd.prog Tryd.f4 (OpenSpec.ofChange Rows.quantTextsSpec) false w args)
      (Rows.quantTextsSpec.post enc Tryd.prog Tryd.f4 false true false false) := by
  refine returnsInHanded_of_change_and (C := Tryd.checked) (X := fun w _ => laidMetH Tryd.prog lst w) (fun _ _ _ hh h => h.of_heap hh) own started (by kernel_rfl) Tryd.func4
    (ChangeSpec.witness_shaped (enc := enc) (C := Tryd.checked) (os := os) (X := fun w _ => laidMetH Tryd.prog lst w) false (World.doorLaid Tryd.prog 2000 os) #[.int .i64 0] 8 rfl (World.shaped_of_RefB (by kernel_rfl) (by kernel_rfl)) (by kernel_rfl) (by kernel_rfl) (by kernel_rfl) (door_met os _)) ?_
  intro W base args ds gs before hval0 hW _ _ hL _
  have hval : ∀ (j : Nat) t v, Tryd.f4.params[j]? = some t → args[j]? = some v → Value.okWide Tryd.prog W .any base t v := hval0
  have hW' := hW
  obtain ⟨p, q, hA0, hV, rfl, hfz, hnd⟩ := hW
  have hA : DataW.TrodAll enc Tryd.prog W 0 (fun _ => true) true Tryd.f4.params.toList args.toList ds p := hA0
  rw [Tryd.params4] at hA hval
  obtain ⟨v0, vs0, d0, ds0, p0, q0, hargs, rfl, rfl, h0, r0⟩ := trodAll_cons hA
  obtain ⟨rfl, rfl, rfl⟩ := trodAll_nil r0
  obtain rfl : args = #[v0] := by cases args; simp_all
  obtain ⟨rfl, rfl⟩ := trodVars_none hV
  obtain ⟨a0, rfl, rfl, rfl, w0⟩ := open_int Tryd.underlying29 (hval 0 29 v0 rfl rfl) h0
  clear hA0 hval0
  simp only [List.append_nil] at hW'
  refine (walk a0 w0 W (of_laid hL)).mono fun e W' ⟨he, hg⟩ => ?_
  subst he
  exact ⟨_, rfl, post_below hW' hg (fun _ _ _ => (trodAll_cons_mk (shut_bool Tryd.underlying4 _) trodAll_mk0)) (fun sp _ => (trodAll_cons_mk (shut_int Tryd.underlying29 w0) trodAll_mk0)) (fun _ => rfl) (ok_one (by kernel_rfl) rfl (okWide_bool_mk Tryd.underlying4 _))⟩

theorem over : Rows.QuantTextsSaid :=
  OpenClaim.holds_of_wide 4 Tryd.f4 rfl rfl rfl rfl rfl rfl rfl ⟨rfl, rfl, rfl, rfl, rfl⟩ rfl rfl rfl rfl rfl (by kernel_rfl) Tryd.func4 (by kernel_rfl)
    (of_decide_eq_true (by kernel_rfl)) (by unfold Func.isWrapper; first | (rw [if_pos (by decide +kernel)]; kernel_rfl) | (rw [if_neg (by decide +kernel)]; exact ⟨rfl, rfl⟩))
    (fun os started H enc _ => lifted os started H enc)

/-- The statement: the row, with what it lists tied to the program's text. -/
theorem proved : Rows.QuantTextsCardSaid :=
  Claim7.holds_tied_plain_at .later [] _ true _ true
    over (fun _ h => by cases h) (by kernel_rfl) (fun _ h => by cases h) quantTexts_row_tie rfl ⟨rfl, rfl⟩ (by kernel_rfl) rfl
    (fun f fn hf hfn => by
      obtain rfl : f = 4 := Option.some.inj ((show Tryd.prog.funcNamed Rows.quantTextsRow.func = some 4 by kernel_rfl).symm.trans hf) |>.symm
      obtain rfl : fn = Tryd.f4 := (Option.some.inj (Tryd.func4.symm.trans hfn)).symm
      exact ⟨by kernel_rfl, fun j t ht => by
        rw [Tryd.params4] at ht
        have hm : t ∈ [29] := by simpa using Array.mem_of_getElem? ht
        have hall : ([29].all fun u => !Tryd.prog.wantsStandIn u) = true := by kernel_rfl
        exact (show Tryd.prog.wantsStandIn t = false by simpa using List.all_eq_true.1 hall t hm)⟩)
    (by kernel_rfl)
#print axioms proved
end Go.Proofs.YtbocjgamlkoflaaDoor.quantTexts

