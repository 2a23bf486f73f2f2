/- Asks that are right: the program's and the document's. -/
import Derived.Test.YtbkoepghmcdnhaaGreatDoorObR2
namespace Go.Proofs.YtbkoepghmcdnhaaGreatDoor
open Go.RowKit Go.Shelf Go.Lib Go.Sort
set_option linter.unusedVariables false
set_option linter.unusedSimpArgs false

theorem op_of (op : Int) : op = 0 ∨ op = 1 ∨ op = 2 ∨ op = 3 ∨ ((op == 0) = false ∧ (op == 1) = false ∧ (op == 2) = false ∧ (op == 3) = false) := by
  by_cases h0 : op = 0
  · exact .inl h0
  by_cases h1 : op = 1
  · exact .inr (.inl h1)
  by_cases h2 : op = 2
  · exact .inr (.inr (.inl h2))
  by_cases h3 : op = 3
  · exact .inr (.inr (.inr (.inl h3)))
  exact .inr (.inr (.inr (.inr ⟨by simpa using h0, by simpa using h1, by simpa using h2, by simpa using h3⟩)))
theorem ask_none {k v : ByteArray} {op : Int} (h0 : (op == 0) = false) (h1 : (op == 1) = false) (h2 : (op == 2) = false) (h3 : (op == 3) = false) : askB (k, v, op) = false := by
  simp at h0 h1 h2 h3
  simp [askB, h0, h1, h2, h3]
theorem ask_01 {k v : ByteArray} {op : Int} (h : op = 0 ∨ op = 1) : askB (k, v, op) = (nameB k && mayB v) := by
  simp [askB, h]
theorem ask_23 {k v : ByteArray} {op : Int} (h : op = 2 ∨ op = 3) : askB (k, v, op) = (nameB k && decide (v.size = 0)) := by
  have h1 : ¬ (op = 0 ∨ op = 1) := by omega
  by_cases hv : v.size = 0
  · simp [askB, h, h1, hv, mayB]
  · simp [askB, h, h1, hv, mayB]

set_option maxHeartbeats 2000000 in
theorem ask_any (w : World) (k v : ByteArray) (op : Int) (hok : ftR (k, v, op) = true) :
    Calls Tryz.prog 139 #[.agg #[.string k, .string v, .int .i64 op]] w fun e w' => e = .returned (.bool (askB (k, v, op))) ∧ Gr w w' := by
  simp only [ftR, Bool.and_eq_true, decide_eq_true_eq] at hok
  have C1 := Lib.hid (fun W => name_any W k (by omega))
  have C2 := Lib.hid (fun W => value_any W v (by omega))
  have GA := Lib.hid ((Gr.refl w).alloc (.cells #[.string k, .string v, .int .i64 op] 105))
  clear hok
  rcases op_of op with rfl | rfl | rfl | rfl | ⟨o0, o1, o2, o3⟩
  case inr.inr.inr.inr =>
    have HB := Lib.hid (ask_none (k := k) (v := v) o0 o1 o2 o3)
    go_enter Tryz.func139, Tryz.ntmps139
    go_wp2
    go_ret
    exact ⟨by rw [HB.out]; rfl, GA.out⟩
  case inl =>
    have HB := Lib.hid (ask_01 (k := k) (v := v) (op := 0) (by decide))
    generalize nameB k = b1 at C1 HB
    generalize mayB v = b2 at C2 HB
    go_enter Tryz.func139, Tryz.ntmps139
    go_wp2_with fail
    refine (C1.out _).mono ?_
    rintro e w1 ⟨rfl, rfl⟩
    cases b1 with
    | false =>
      go_wp2
      go_ret
      exact ⟨by rw [HB.out]; rfl, GA.out⟩
    | true =>
      go_wp2_with fail
      refine (C2.out _).mono ?_
      rintro e w1 ⟨rfl, rfl⟩
      go_wp2
      go_ret
      exact ⟨by rw [HB.out]; rfl, GA.out⟩
  case inr.inl =>
    have HB := Lib.hid (ask_01 (k := k) (v := v) (op := 1) (by decide))
    generalize nameB k = b1 at C1 HB
    generalize mayB v = b2 at C2 HB
    go_enter Tryz.func139, Tryz.ntmps139
    go_wp2_with fail
    refine (C1.out _).mono ?_
    rintro e w1 ⟨rfl, rfl⟩
    cases b1 with
    | false =>
      go_wp2
      go_ret
      exact ⟨by rw [HB.out]; rfl, GA.out⟩
    | true =>
      go_wp2_with fail
      refine (C2.out _).mono ?_
      rintro e w1 ⟨rfl, rfl⟩
      go_wp2
      go_ret
      exact ⟨by rw [HB.out]; rfl, GA.out⟩
  case inr.inr.inl =>
    have HB := Lib.hid (ask_23 (k := k) (v := v) (op := 2) (by decide))
    generalize nameB k = b1 at C1 HB
    by_cases hv : v.size = 0
    · obtain rfl := empty_of hv
      clear hv
      go_enter Tryz.func139, Tryz.ntmps139
      go_wp2_with fail
      refine (C1.out _).mono ?_
      rintro e w1 ⟨rfl, rfl⟩
      cases b1 <;>
      · go_wp2
        go_ret
        exact ⟨by rw [HB.out]; rfl, GA.out⟩
    · have t := bne_empty hv
      rw [decide_eq_false hv] at HB
      clear hv
      go_enter Tryz.func139, Tryz.ntmps139
      go_wp2_with fail
      refine (C1.out _).mono ?_
      rintro e w1 ⟨rfl, rfl⟩
      cases b1 <;>
      · go_wp2
        go_ret
        exact ⟨by rw [HB.out]; rfl, GA.out⟩
  case inr.inr.inr.inl =>
    have HB := Lib.hid (ask_23 (k := k) (v := v) (op := 3) (by decide))
    generalize nameB k = b1 at C1 HB
    by_cases hv : v.size = 0
    · obtain rfl := empty_of hv
      clear hv
      go_enter Tryz.func139, Tryz.ntmps139
      go_wp2_with fail
      refine (C1.out _).mono ?_
      rintro e w1 ⟨rfl, rfl⟩
      cases b1 <;>
      · go_wp2
        go_ret
        exact ⟨by rw [HB.out]; rfl, GA.out⟩
    · have t := bne_empty hv
      rw [decide_eq_false hv] at HB
      clear hv
      go_enter Tryz.func139, Tryz.ntmps139
      go_wp2_with fail
      refine (C1.out _).mono ?_
      rintro e w1 ⟨rfl, rfl⟩
      cases b1 <;>
      · go_wp2
        go_ret
        exact ⟨by rw [HB.out]; rfl, GA.out⟩

set_option maxHeartbeats 2000000 in
theorem asks_any (w : World) (q : Option Addr) (c : Nat) (l : List Req) (h : RowR 3 encR w q l) (hl : l.length ≤ 9223372036854775807) (hok : l.all ftR = true) :
    Calls Tryz.prog 119 #[.slice q l.length c] w fun e w' => e = .returned (.bool (asksB l)) ∧ Gr w w' := by
  have mixed : Tryz.prog.follows .mixedOrders = true := by kernel_rfl
  have HR := Lib.hid h
  have HO := Lib.hid (List.all_eq_true.1 hok)
  clear h hok
  by_cases h8 : 8 < l.length
  · have HB := Lib.hid (asks_long h8)
    have t : decide ((8 : Int) < (l.length : Int)) = true := decide_eq_true (by omega)
    go_enter Tryz.func119, Tryz.ntmps119
    go_wp2
    go_ret
    exact ⟨by rw [HB.out]; rfl, Gr.refl _⟩
  have t : decide ((8 : Int) < (l.length : Int)) = false := decide_eq_false (by omega)
  go_enter Tryz.func119, Tryz.ntmps119
  go_wp2_with fail
  clear t
  go_loopg [10] l.length (fun g vi wr => ∃ (k : Nat), k ≤ l.length ∧ l.length - k ≤ g ∧ vi = .int .i64 (k : Int) ∧ Hid (∀ (j : Nat) (x : Req), j < k → l[j]? = some x → askB x = true) ∧ Hid (Gr w wr))
  case atStart => exact ⟨0, Nat.zero_le _, by omega, rfl, fun j x h => absurd h (Nat.not_lt_zero _), Gr.refl _⟩
  case round =>
    obtain ⟨k, hk, hg, rfl, HP, HG⟩ := hrel
    by_cases hlt : k < l.length
    · obtain ⟨x, hx⟩ : ∃ x, l[k]? = some x := ⟨l[k], List.getElem?_eq_getElem hlt⟩
      obtain ⟨b, off, rfl, hb, hc⟩ := (HR.out.gr HG.out) k x hx
      have c1 := hc 0 _ rfl
      have c2 := hc 1 _ rfl
      have c3 := hc 2 _ rfl
      rw [Nat.add_zero] at c1
      have hok := HO.out x (List.mem_of_getElem? hx)
      have HX := Lib.hid hx
      have C1 := Lib.hid (fun W => ask_any W x.1 x.2.1 x.2.2 hok)
      obtain ⟨x1, x2, x3⟩ := x
      have GA := Lib.hid (HG.out.alloc (.cells #[.string x1, .string x2, .int .i64 x3] 105))
      dsimp only at *
      clear hx hc hok
      obtain ⟨b1, hb1⟩ : ∃ b1, askB (x1, x2, x3) = b1 := ⟨_, rfl⟩
      rw [hb1] at C1
      have HB1 := Lib.hid hb1
      clear hb1
      go_wp2_with fail
      refine (C1.out _).mono ?_
      rintro e w1 ⟨rfl, g1⟩
      have G1 := Lib.hid (GA.out.trans g1)
      clear g1
      cases b1 with
      | false =>
        have HB : Hid (asksB l = false) := asks_bad HX.out HB1.out
        go_wp2
        go_ret
        exact ⟨by rw [HB.out]; rfl, G1.out⟩
      | true =>
        have HP2 : Hid (∀ (j : Nat) (x : Req), j < k + 1 → l[j]? = some x → askB x = true) := fun j x hj hx => by
          by_cases h : j = k
          · subst h
            rw [HX.out] at hx
            cases hx
            exact HB1.out
          · exact HP.out j x (by omega) hx
        go_wp2
        go_roundg (l.length - (k + 1))
        case measure => omega
        case rel => exact ⟨k + 1, hlt, Nat.le_refl _, by go_num, HP2, G1.out⟩
    · obtain rfl : k = l.length := by omega
      have HB : Hid (asksB l = true) := asks_ok (by omega) HP.out
      go_wp2
      go_ret
      exact ⟨by rw [HB.out]; rfl, HG.out⟩

end Go.Proofs.YtbkoepghmcdnhaaGreatDoor
