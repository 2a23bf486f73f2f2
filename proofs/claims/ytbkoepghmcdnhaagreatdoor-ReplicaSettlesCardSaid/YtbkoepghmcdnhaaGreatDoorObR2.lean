/- Labels and asks that are right: the program's; the document's asks. -/
import Derived.Test.YtbkoepghmcdnhaaGreatDoorObR
import Derived.IntWalk
namespace Go.Proofs.YtbkoepghmcdnhaaGreatDoor
open Go.RowKit Go.Shelf Go.Lib Go.Sort
set_option linter.unusedVariables false
set_option linter.unusedSimpArgs false

theorem quiet_eq {P : Program} {f : FuncId} {args : Array Value} {w : World} {n : Nat} {v : Value}
    (h : Calls P f args (w.drewN n) fun e w' => e = .returned v ∧ w.drewN n = w') : Calls P f args (w.drewN n) fun e w'' => e = .returned v ∧ ∃ m, w'' = w.drewN m :=
  h.mono fun _ _ ⟨he, hm⟩ => ⟨he, n, hm.symm⟩

set_option maxHeartbeats 4000000 in
theorem right_any (w : World) (q : Option Addr) (c : Nat) (l : List Lab) (h : RowR 2 encL w q l) (hl : l.length ≤ 9223372036854775807) (hok : l.all ftL = true) :
    Calls Tryz.prog 118 #[.slice q l.length c] w fun e w' => e = .returned (.bool (rightB l)) ∧ Gr w w' := by
  have mixed : Tryz.prog.follows .mixedOrders = true := by kernel_rfl
  have HR := Lib.hid h
  have HO := Lib.hid (List.all_eq_true.1 hok)
  clear h hok
  by_cases h8 : 8 < l.length
  · have HB := Lib.hid (right_long h8)
    have t : decide ((8 : Int) < (l.length : Int)) = true := decide_eq_true (by omega)
    go_enter Tryz.func118, Tryz.ntmps118
    go_wp2
    go_ret
    exact ⟨by rw [HB.out]; rfl, Gr.refl _⟩
  have t : decide ((8 : Int) < (l.length : Int)) = false := decide_eq_false (by omega)
  go_enter Tryz.func118, Tryz.ntmps118
  go_wp2_with fail
  clear t
  go_loopg [10] l.length (fun g vi wr => ∃ (k : Nat), k ≤ l.length ∧ l.length - k ≤ g ∧ vi = .int .i64 (k : Int) ∧ Hid (∀ (j : Nat) (x : Lab), j < k → l[j]? = some x → pairB x = true) ∧ Hid (∀ i x y, i + 1 < k → l[i]? = some x → l[i + 1]? = some y → Op.bytesLess x.1.toList y.1.toList = true) ∧ Hid (Gr w wr))
  case atStart => exact ⟨0, Nat.zero_le _, by omega, rfl, fun j x h => absurd h (Nat.not_lt_zero _), fun i x y h => absurd h (by omega), Gr.refl _⟩
  case round =>
    obtain ⟨k, hk, hg, rfl, HP, HL, HG⟩ := hrel
    by_cases hlt : k < l.length
    · obtain ⟨x, hx⟩ : ∃ x, l[k]? = some x := ⟨l[k], List.getElem?_eq_getElem hlt⟩
      obtain ⟨b, off, rfl, hb, hc⟩ := (HR.out.gr HG.out) k x hx
      have c1 := hc 0 _ rfl
      have c2 := hc 1 _ rfl
      rw [Nat.add_zero] at c1
      have hok := HO.out x (List.mem_of_getElem? hx)
      simp only [ftL, Bool.and_eq_true, decide_eq_true_eq] at hok
      have HX := Lib.hid hx
      have C1 := Lib.hid (fun W => name_any W x.1 (by omega))
      have C2 := Lib.hid (fun W => value_any W x.2 (by omega))
      have HPB : Hid (pairB x = (nameB x.1 && mayB x.2)) := rfl
      obtain ⟨x1, x2⟩ := x
      have GA := Lib.hid (HG.out.alloc (.cells #[.string x1, .string x2] 101))
      dsimp only at *
      clear hx hc hok
      generalize nameB x1 = b1 at C1 HPB
      generalize mayB x2 = b2 at C2 HPB
      cases b1 with
      | false =>
        have HB : Hid (rightB l = false) := right_pair HX.out HPB.out
        go_wp2_with fail
        go_quiet ((first | (go_at_call 61; exact quiet_eq (C1.out _)) | (go_at_call 138; exact quiet_eq (C2.out _))))
        go_wp2
        go_ret
        exact ⟨by rw [HB.out]; rfl, GA.out.drewN _⟩
      | true =>
        cases b2 with
        | false =>
          have HB : Hid (rightB l = false) := right_pair HX.out HPB.out
          go_wp2_with fail
          go_quiet ((first | (go_at_call 61; exact quiet_eq (C1.out _)) | (go_at_call 138; exact quiet_eq (C2.out _))))
          go_wp2
          go_ret
          exact ⟨by rw [HB.out]; rfl, GA.out.drewN _⟩
        | true =>
          have HP2 : Hid (∀ (j : Nat) (x : Lab), j < k + 1 → l[j]? = some x → pairB x = true) := fun j x hj hx => by
            by_cases h : j = k
            · subst h
              rw [HX.out] at hx
              cases hx
              exact HPB.out
            · exact HP.out j x (by omega) hx
          rcases Nat.eq_zero_or_pos k with h0 | hpos
          · have t0 : decide (0 < k) = false := decide_eq_false (by omega)
            have H0 := Lib.hid h0
            clear h0
            go_wp2_with fail
            go_quiet ((first | (go_at_call 61; exact quiet_eq (C1.out _)) | (go_at_call 138; exact quiet_eq (C2.out _))))
            go_wp2
            go_roundg (l.length - (k + 1))
            case measure => omega
            case rel => exact ⟨k + 1, hlt, Nat.le_refl _, by go_num, HP2, fun a x y ha => absurd ha (by have := H0.out; omega), GA.out.drewN _⟩
          · obtain ⟨m, hm⟩ : ∃ m, k = m + 1 := ⟨k - 1, by omega⟩
            obtain ⟨y, hy⟩ : ∃ y, l[m]? = some y := ⟨l[m], List.getElem?_eq_getElem (by omega)⟩
            obtain ⟨b', off', e, hb', hc⟩ := (HR.out.gr HG.out) m y hy
            cases e
            have d1 := hc 0 _ rfl
            rw [Nat.add_zero] at d1
            have HY := Lib.hid hy
            obtain ⟨y1, y2⟩ := y
            dsimp only at *
            have t0 : decide (0 < k) = true := decide_eq_true (by omega)
            have e1 : IntKind.i64.wrap ((k : Int) - 1) = (m : Int) := by rw [IntWalk.i64_in _ (by omega)]; omega
            have e2 : (m : Int) < (l.length : Int) := by omega
            have e3 : (k : Int) - 1 = (m : Int) := by omega
            have d2 : (wr.alloc (.cells #[.string x1, .string x2] 101)).cell? ⟨b, off + m * 2, none⟩ = some (.string y1) := ((Gr.refl wr).alloc _).cell d1
            have d3 : (wr.alloc (.cells #[.string x1, .string x2] 101)).cell? ⟨wr.heap.size, 0, none⟩ = some (.string x1) := by simp
            have HM := Lib.hid hm
            clear hy hc hm hpos hb hb'
            cases hq : Op.bytesLess y1.toList x1.toList with
            | false =>
              have HB : Hid (rightB l = false) := right_less (by have := HM.out; omega) HY.out HX.out hq
              go_wp2_with fail
              go_quiet ((first | (go_at_call 61; exact quiet_eq (C1.out _)) | (go_at_call 138; exact quiet_eq (C2.out _))))
              go_wp2
              go_ret
              exact ⟨by rw [HB.out]; rfl, GA.out.drewN _⟩
            | true =>
              have HL2 : Hid (∀ a x y, a + 1 < k + 1 → l[a]? = some x → l[a + 1]? = some y → Op.bytesLess x.1.toList y.1.toList = true) := fun a x y ha hx hy => by
                by_cases h : a + 1 = k
                · rw [h, HX.out] at hy
                  cases hy
                  have h3 : a = m := by have := HM.out; omega
                  subst h3
                  rw [HY.out] at hx
                  cases hx
                  exact hq
                · exact HL.out a x y (by omega) hx hy
              go_wp2_with fail
              go_quiet ((first | (go_at_call 61; exact quiet_eq (C1.out _)) | (go_at_call 138; exact quiet_eq (C2.out _))))
              clear e1 e2 e3
              go_wp2
              go_roundg (l.length - (k + 1))
              case measure => omega
              case rel => exact ⟨k + 1, hlt, Nat.le_refl _, by go_num, HP2, HL2, GA.out.drewN _⟩
    · obtain rfl : k = l.length := by omega
      have HB : Hid (rightB l = true) := right_ok (by omega) HP.out HL.out
      go_wp2
      go_ret
      exact ⟨by rw [HB.out]; rfl, HG.out⟩
end Go.Proofs.YtbkoepghmcdnhaaGreatDoor
