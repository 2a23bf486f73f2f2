/- Asks that are right: the program's and the document's. -/
import Derived.Test.YtdphooobgbminaaObR2
namespace Go.Proofs.Ytdphooobgbminaa
open Go.RowKit Go.Shelf Go.Lib Go.Sort
set_option linter.unusedVariables false
set_option linter.unusedSimpArgs false

theorem op_of (op : Int) : op = 0 ∨ op = 1 ∨ op = 2 ∨ op = 3 ∨ ((op == 0) = false ∧ (op == 1) = false ∧ (op == 2) = false ∧ (op == 3) = false) := by
  by_cases h0 : op = 0
  · exact .inl h0
  by_cases h1 : op = 1
  · exact .inr (.inl h1)
  by_cases h2 : op = 2
  · exact .inr (.inr (.inl h2))
  by_cases h3 : op = 3
  · exact .inr (.inr (.inr (.inl h3)))
  exact .inr (.inr (.inr (.inr ⟨by simpa using h0, by simpa using h1, by simpa using h2, by simpa using h3⟩)))
theorem ask_none {k v : ByteArray} {op : Int} (h0 : (op == 0) = false) (h1 : (op == 1) = false) (h2 : (op == 2) = false) (h3 : (op == 3) = false) : askB (k, v, op) = false := by
  simp at h0 h1 h2 h3
  simp [askB, h0, h1, h2, h3]
theorem ask_01 {k v : ByteArray} {op : Int} (h : op = 0 ∨ op = 1) : askB (k, v, op) = (nameB k && mayB v) := by
  simp [askB, h]
theorem ask_23 {k v : ByteArray} {op : Int} (h : op = 2 ∨ op = 3) : askB (k, v, op) = (nameB k && decide (v.size = 0)) := by
  have h1 : ¬ (op = 0 ∨ op = 1) := by omega
  by_cases hv : v.size = 0
  · simp [askB, h, h1, hv, mayB]
  · simp [askB, h, h1, hv, mayB]

set_option maxHeartbeats 4000000 in
theorem rasks_right (w : World) (q : Option Addr) (c : Nat) (l : List Req) (h : RowR 3 encR w q l) (hl : l.length ≤ 9223372036854775807) (hok : l.all ftR = true) :
    Calls Try.prog 41 #[.slice q l.length c] w fun e w' => e = .returned (.bool (asksB l)) ∧ Gr w w' := by
  have mixed : Try.prog.follows .mixedOrders = true := by kernel_rfl
  have HR := Lib.hid h
  have HO := Lib.hid (List.all_eq_true.1 hok)
  clear h hok
  go_enter Try.func41, Try.ntmps41
  go_wp2_with fail
  go_loopg [7] l.length (fun g vi wr => ∃ (k : Nat), k ≤ l.length ∧ l.length - k ≤ g ∧ vi = .int .i64 (k : Int) ∧ Hid (∀ (j : Nat) (x : Req), j < k → l[j]? = some x → askB x = true) ∧ Hid (Gr w wr))
  case atStart => exact ⟨0, Nat.zero_le _, by omega, rfl, fun j x h => absurd h (Nat.not_lt_zero _), Gr.refl _⟩
  case round =>
    obtain ⟨k, hk, hg, rfl, HP, HG⟩ := hrel
    by_cases hlt : k < l.length
    · obtain ⟨x, hx⟩ : ∃ x, l[k]? = some x := ⟨l[k], List.getElem?_eq_getElem hlt⟩
      obtain ⟨b, off, rfl, hb, hc⟩ := (HR.out.gr HG.out) k x hx
      have c1 := hc 0 _ rfl
      have c2 := hc 1 _ rfl
      have c3 := hc 2 _ rfl
      rw [Nat.add_zero] at c1
      have hok := HO.out x (List.mem_of_getElem? hx)
      simp only [ftR, Bool.and_eq_true, decide_eq_true_eq] at hok
      have HX := Lib.hid hx
      have C1 := Lib.hid (fun W => rname_any W x.1 (by omega))
      have C2 := Lib.hid (fun W => rname_any W x.2.1 (by omega))
      obtain ⟨x1, x2, x3⟩ := x
      have GA := Lib.hid (HG.out.alloc (.cells #[.string x1, .string x2, .int .i64 x3] 105))
      dsimp only at *
      clear hx hc hok
      have HQ : Hid (askB (x1, x2, x3) = true → ∀ (j : Nat) (x : Req), j < k + 1 → l[j]? = some x → askB x = true) := fun hq j x hj hx => by
        by_cases h : j = k
        · subst h
          rw [HX.out] at hx
          cases hx
          exact hq
        · exact HP.out j x (by omega) hx
      have HBAD : Hid (askB (x1, x2, x3) = false → asksB l = false) := asks_bad HX.out
      have HA : Hid (askB (x1, x2, x3) = (nameB x1 && mayB x2 && (decide (x3 = 0 ∨ x3 = 1) || (decide (x3 = 2 ∨ x3 = 3) && decide (x2.size = 0))))) := rfl
      generalize askB (x1, x2, x3) = ba at *
      by_cases he : x2.size = 0
      · have HM : Hid (mayB x2 = true) := by show _ = _; rw [mayB, decide_eq_true he, Bool.true_or]
        rw [HM.out, decide_eq_true he] at HA
        obtain rfl := empty_of he
        clear he HM C2
        generalize nameB x1 = b1 at C1 HA
        go_wp2_with fail
        refine (C1.out _).mono ?_
        rintro e w1 ⟨rfl, rfl⟩
        cases b1 with
        | false =>
          have HB := Lib.hid (HBAD.out (by rw [HA.out]; rfl))
          go_wp2
          go_ret
          exact ⟨by rw [HB.out]; rfl, GA.out⟩
        | true =>
          rcases op_of x3 with rfl | rfl | rfl | rfl | ⟨o0, o1, o2, o3⟩
          case inr.inr.inr.inr =>
            have HB := Lib.hid (HBAD.out (by rw [HA.out]; simp at o0 o1 o2 o3; simp [o0, o1, o2, o3]))
            go_wp2
            go_ret
            exact ⟨by rw [HB.out]; rfl, GA.out⟩
          all_goals
            have HP2 := Lib.hid (HQ.out (by rw [HA.out]; rfl))
            go_wp2
            go_roundg (l.length - (k + 1))
            case measure => omega
            case rel => exact ⟨k + 1, hlt, Nat.le_refl _, by go_num, HP2, GA.out⟩
      · have HM : Hid (mayB x2 = nameB x2) := by show _ = _; rw [mayB, decide_eq_false he, Bool.false_or]
        rw [HM.out, decide_eq_false he] at HA
        have t := bne_empty he
        clear he HM
        generalize nameB x1 = b1 at C1 HA
        generalize nameB x2 = b2 at C2 HA
        go_wp2_with fail
        refine (C1.out _).mono ?_
        rintro e w1 ⟨rfl, rfl⟩
        cases b1 with
        | false =>
          have HB := Lib.hid (HBAD.out (by rw [HA.out]; rfl))
          go_wp2
          go_ret
          exact ⟨by rw [HB.out]; rfl, GA.out⟩
        | true =>
          go_wp2_with fail
          refine (C2.out _).mono ?_
          rintro e w1 ⟨rfl, rfl⟩
          cases b2 with
          | false =>
            have HB := Lib.hid (HBAD.out (by rw [HA.out]; rfl))
            go_wp2
            go_ret
            exact ⟨by rw [HB.out]; rfl, GA.out⟩
          | true =>
            rcases op_of x3 with rfl | rfl | rfl | rfl | ⟨o0, o1, o2, o3⟩
            case inr.inr.inr.inr =>
              have HB := Lib.hid (HBAD.out (by rw [HA.out]; simp at o0 o1 o2 o3; simp [o0, o1, o2, o3]))
              go_wp2
              go_ret
              exact ⟨by rw [HB.out]; rfl, GA.out⟩
            case inr.inr.inl =>
              have HB := Lib.hid (HBAD.out (by rw [HA.out]; rfl))
              go_wp2
              go_ret
              exact ⟨by rw [HB.out]; rfl, GA.out⟩
            case inr.inr.inr.inl =>
              have HB := Lib.hid (HBAD.out (by rw [HA.out]; rfl))
              go_wp2
              go_ret
              exact ⟨by rw [HB.out]; rfl, GA.out⟩
            all_goals
              have HP2 := Lib.hid (HQ.out (by rw [HA.out]; rfl))
              go_wp2
              go_roundg (l.length - (k + 1))
              case measure => omega
              case rel => exact ⟨k + 1, hlt, Nat.le_refl _, by go_num, HP2, GA.out⟩
    · obtain rfl : k = l.length := by omega
      by_cases h8 : l.length ≤ 8
      · have HB : Hid (asksB l = true) := asks_ok h8 HP.out
        have t : decide ((l.length : Int) ≤ 8) = true := decide_eq_true (by omega)
        go_wp2
        go_ret
        exact ⟨by rw [HB.out]; rfl, HG.out⟩
      · have HB : Hid (asksB l = false) := asks_long (by omega)
        have t : decide ((l.length : Int) ≤ 8) = false := decide_eq_false (by omega)
        go_wp2
        go_ret
        exact ⟨by rw [HB.out]; rfl, HG.out⟩
end Go.Proofs.Ytdphooobgbminaa
