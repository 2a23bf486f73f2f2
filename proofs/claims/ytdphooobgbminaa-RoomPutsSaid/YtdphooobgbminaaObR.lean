/- Labels and asks that are right: the program's and the document's. -/
import Derived.Test.YtdphooobgbminaaObN
import Derived.Test.YtdphooobgbminaaObO
import Derived.Sort.Walk0
import Derived.Deep.DeepCutAuto
namespace Go.Proofs.Ytdphooobgbminaa
open Go.RowKit Go.Shelf Go.Lib Go.Sort
set_option linter.unusedVariables false
set_option linter.unusedSimpArgs false

def pairB (x : Lab) : Bool := nameB x.1 && mayB x.2
def riseB : List Lab → Bool
  | x :: y :: r => Op.bytesLess x.1.toList y.1.toList && riseB (y :: r)
  | _ => true
/-- Are labels right? -/
def rightB (l : List Lab) : Bool := decide (l.length ≤ 8) && (l.all pairB && riseB l)
theorem rise_iff : ∀ l : List Lab, riseB l = true ↔ ∀ i x y, l[i]? = some x → l[i + 1]? = some y → Op.bytesLess x.1.toList y.1.toList = true
  | [] => by simp [riseB]
  | [x] => by
    simp only [riseB, true_iff]
    intro i a b _ h2
    simp at h2
  | x :: y :: r => by
    rw [riseB, Bool.and_eq_true, rise_iff (y :: r)]
    constructor
    · rintro ⟨h1, h2⟩ i a b ha hb
      cases i with
      | zero => simp at ha hb; subst ha hb; exact h1
      | succ i => exact h2 i a b (by simpa using ha) (by simpa using hb)
    · intro h
      exact ⟨h 0 x y rfl rfl, fun i a b ha hb => h (i + 1) a b (by simpa using ha) (by simpa using hb)⟩
theorem less_tr {a b c : List UInt8} (h : Op.bytesLess a b = true) (k : Op.bytesLess b c = true) : Op.bytesLess a c = true := by
  rw [bytesLess_eq] at *
  simp only [decide_eq_true_eq] at *
  exact List.lt_trans h k
theorem rise_all {l : List Lab} (h : riseB l = true) : ∀ (d i : Nat) (x y : Lab), l[i]? = some x → l[i + d + 1]? = some y → Op.bytesLess x.1.toList y.1.toList = true
  | 0, i, x, y, hx, hy => (rise_iff l).1 h i x y hx hy
  | d + 1, i, x, y, hx, hy => by
    have hl : i + d + 1 < l.length := by have := (List.getElem?_eq_some_iff.1 hy).1; omega
    have hz : l[i + d + 1]? = some l[i + d + 1] := List.getElem?_eq_getElem hl
    exact less_tr (rise_all h d i x _ hx hz) ((rise_iff l).1 h (i + d + 1) _ y hz hy)
theorem right_pair {l : List Lab} {k : Nat} {x : Lab} (hx : l[k]? = some x) (h : pairB x = false) : rightB l = false := by
  have : l.all pairB = false := List.all_eq_false.2 ⟨x, List.mem_of_getElem? hx, by rw [h]; decide⟩
  rw [rightB, this, Bool.false_and, Bool.and_false]
theorem right_less {l : List Lab} {k i : Nat} {x y : Lab} (hk : k < i) (hx : l[k]? = some x) (hy : l[i]? = some y) (h : Op.bytesLess x.1.toList y.1.toList = false) : rightB l = false := by
  cases hr : riseB l with
  | false => rw [rightB, hr, Bool.and_false, Bool.and_false]
  | true =>
    have := rise_all hr (i - k - 1) k x y hx (by rw [show k + (i - k - 1) + 1 = i by omega]; exact hy)
    rw [this] at h
    cases h
theorem right_long {l : List Lab} (h : 8 < l.length) : rightB l = false := by
  rw [rightB, decide_eq_false (by omega), Bool.false_and]
theorem right_ok {l : List Lab} (h : l.length ≤ 8) (hp : ∀ (j : Nat) (x : Lab), j < l.length → l[j]? = some x → pairB x = true) (hr : ∀ i x y, i + 1 < l.length → l[i]? = some x → l[i + 1]? = some y → Op.bytesLess x.1.toList y.1.toList = true) : rightB l = true := by
  have h1 : l.all pairB = true := List.all_eq_true.2 fun x hx => by
    obtain ⟨j, hj⟩ := List.getElem?_of_mem hx
    exact hp j x (List.getElem?_eq_some_iff.1 hj).1 hj
  have h2 : riseB l = true := (rise_iff l).2 fun i x y hx hy => hr i x y (List.getElem?_eq_some_iff.1 hy).1 hx hy
  rw [rightB, decide_eq_true h, h1, h2]
  rfl

/-- Is an ask right? -/
def askB (x : Req) : Bool := nameB x.1 && mayB x.2.1 && (decide (x.2.2 = 0 ∨ x.2.2 = 1) || (decide (x.2.2 = 2 ∨ x.2.2 = 3) && decide (x.2.1.size = 0)))
def asksB (l : List Req) : Bool := decide (l.length ≤ 8) && l.all askB
theorem asks_bad {l : List Req} {k : Nat} {x : Req} (hx : l[k]? = some x) (h : askB x = false) : asksB l = false := by
  have : l.all askB = false := List.all_eq_false.2 ⟨x, List.mem_of_getElem? hx, by rw [h]; decide⟩
  rw [asksB, this, Bool.and_false]
theorem asks_long {l : List Req} (h : 8 < l.length) : asksB l = false := by
  rw [asksB, decide_eq_false (by omega), Bool.false_and]
theorem asks_ok {l : List Req} (h : l.length ≤ 8) (hp : ∀ (j : Nat) (x : Req), j < l.length → l[j]? = some x → askB x = true) : asksB l = true := by
  have h1 : l.all askB = true := List.all_eq_true.2 fun x hx => by
    obtain ⟨j, hj⟩ := List.getElem?_of_mem hx
    exact hp j x (List.getElem?_eq_some_iff.1 hj).1 hj
  rw [asksB, decide_eq_true h, h1]
  rfl

theorem bne_empty' {s : ByteArray} (h : ¬ s.size = 0) : (s.toList != ([] : List UInt8)) = true := by
  rw [bne, bne_empty h]
  rfl
set_option maxHeartbeats 4000000 in
theorem rright_any (w : World) (q : Option Addr) (c : Nat) (l : List Lab) (h : RowR 2 encL w q l) (hl : l.length ≤ 9223372036854775807) (hok : l.all ftL = true) :
    Calls Try.prog 28 #[.slice q l.length c] w fun e w' => e = .returned (.bool (rightB l)) ∧ Gr w w' := by
  have mixed : Try.prog.follows .mixedOrders = true := by kernel_rfl
  have HR := Lib.hid h
  have HO := Lib.hid (List.all_eq_true.1 hok)
  clear h hok
  go_enter Try.func28, Try.ntmps28
  go_wp2_with fail
  go_loopg [7] l.length (fun g vi wr => ∃ (k : Nat), k ≤ l.length ∧ l.length - k ≤ g ∧ vi = .int .i64 (k : Int) ∧ Hid (∀ (j : Nat) (x : Lab), j < k → l[j]? = some x → pairB x = true) ∧ Hid (∀ i x y, i + 1 < k → l[i]? = some x → l[i + 1]? = some y → Op.bytesLess x.1.toList y.1.toList = true) ∧ Hid (Gr w wr))
  case atStart => exact ⟨0, Nat.zero_le _, by omega, rfl, fun j x h => absurd h (Nat.not_lt_zero _), fun i x y h => absurd h (by omega), Gr.refl _⟩
  case round =>
    obtain ⟨k, hk, hg, rfl, HP, HL, HG⟩ := hrel
    by_cases hlt : k < l.length
    · obtain ⟨x, hx⟩ : ∃ x, l[k]? = some x := ⟨l[k], List.getElem?_eq_getElem hlt⟩
      obtain ⟨b, off, rfl, hb, hc⟩ := (HR.out.gr HG.out) k x hx
      have c1 := hc 0 _ rfl
      have c2 := hc 1 _ rfl
      rw [Nat.add_zero] at c1
      have hok := HO.out x (List.mem_of_getElem? hx)
      simp only [ftL, Bool.and_eq_true, decide_eq_true_eq] at hok
      have HX := Lib.hid hx
      have C1 := Lib.hid (fun W => rname_any W x.1 (by omega))
      have C2 := Lib.hid (fun W => rname_any W x.2 (by omega))
      have HPB : Hid (pairB x = (nameB x.1 && mayB x.2)) := rfl
      have HM : Hid (x.2.size = 0 → mayB x.2 = true) := fun h => by rw [mayB, decide_eq_true h, Bool.true_or]
      have HM2 : Hid (¬ x.2.size = 0 → mayB x.2 = nameB x.2) := fun h => by rw [mayB, decide_eq_false h, Bool.false_or]
      obtain ⟨x1, x2⟩ := x
      dsimp only at *
      clear hx hc hb hok
      generalize nameB x1 = b1 at C1 HPB
      cases b1 with
      | false =>
        have HB : Hid (rightB l = false) := right_pair HX.out HPB.out
        go_wp2_with fail
        refine (C1.out _).mono ?_
        rintro e w1 ⟨rfl, rfl⟩
        go_wp2
        go_ret
        exact ⟨by rw [HB.out]; rfl, HG.out⟩
      | true =>
        by_cases hbad : ¬ x2.size = 0 ∧ nameB x2 = false
        · have HB : Hid (rightB l = false) := right_pair HX.out (by rw [HPB.out, HM2.out hbad.1, hbad.2]; rfl)
          have t2 := bne_empty hbad.1
          obtain ⟨_, h2⟩ := hbad
          rw [h2] at C2
          clear h2 HM HM2
          go_wp2_with fail
          refine (C1.out _).mono ?_
          rintro e w1 ⟨rfl, rfl⟩
          go_wp2_with fail
          refine (C2.out _).mono ?_
          rintro e w1 ⟨rfl, rfl⟩
          go_wp2
          go_ret
          exact ⟨by rw [HB.out]; rfl, HG.out⟩
        have hgood : x2.size = 0 ∨ (¬ x2.size = 0 ∧ nameB x2 = true) := by
          by_cases h : x2.size = 0
          · exact .inl h
          · refine .inr ⟨h, ?_⟩
            cases hn : nameB x2 with
            | true => rfl
            | false => exact absurd ⟨h, hn⟩ hbad
        have HPT : Hid (pairB (x1, x2) = true) := by
          show _ = _
          rw [HPB.out]
          rcases hgood with h | ⟨h, h2⟩
          · rw [HM.out h]; rfl
          · rw [HM2.out h, h2]; rfl
        clear hbad HM HM2 HPB
        have HP2 : Hid (∀ (j : Nat) (x : Lab), j < k + 1 → l[j]? = some x → pairB x = true) := fun j x hj hx => by
          by_cases h : j = k
          · subst h
            rw [HX.out] at hx
            cases hx
            exact HPT.out
          · exact HP.out j x (by omega) hx
        rcases hgood with h | ⟨h, h2⟩
        · obtain rfl := empty_of h
          clear h C2
          go_wp2_with fail
          refine (C1.out _).mono ?_
          rintro e w1 ⟨rfl, rfl⟩
          go_wp2_with fail
          clear C1
          obtain ⟨wo, hwo⟩ : ∃ wo, wo = wr := ⟨_, rfl⟩
          rw [← hwo] at HG c1 ⊢
          clear hwo
          go_loopg [4] k (fun g vi wr => ∃ (i : Nat), i ≤ k ∧ k - i ≤ g ∧ vi = .int .i64 (i : Int) ∧ Hid (∀ (a : Nat) (y : Lab), a < i → l[a]? = some y → Op.bytesLess y.1.toList x1.toList = true) ∧ Hid (Gr wo wr))
          case atStart => exact ⟨0, Nat.zero_le _, by omega, rfl, fun a y h => absurd h (Nat.not_lt_zero _), Gr.refl _⟩
          case round =>
            obtain ⟨i, hi, hgi, rfl, HI, HW⟩ := hrel
            have GX := Lib.hid (HG.out.trans HW.out)
            have d1 := HW.out.cell c1
            by_cases hil : i < k
            · obtain ⟨y, hy⟩ : ∃ y, l[i]? = some y := ⟨l[i], List.getElem?_eq_getElem (by omega)⟩
              obtain ⟨b', off', e, hb, hc⟩ := (HR.out.gr GX.out) i y hy
              cases e
              have d2 := hc 0 _ rfl
              rw [Nat.add_zero] at d2
              have HY := Lib.hid hy
              clear hy hb hc
              obtain ⟨y1, y2⟩ := y
              dsimp only at *
              have hll : i < l.length := by omega
              have k1 : (i : Int) < (l.length : Int) := by omega
              have k2 : (k : Int) < (l.length : Int) := by omega
              cases hq : Op.bytesLess y1.toList x1.toList with
              | false =>
                have HB : Hid (rightB l = false) := right_less hil HY.out HX.out hq
                go_wp2_with fail
                go_quiet (fail)
                go_wp2
                go_ret
                exact ⟨by rw [HB.out]; rfl, GX.out.drewN _⟩
              | true =>
                have HI2 : Hid (∀ (a : Nat) (y : Lab), a < i + 1 → l[a]? = some y → Op.bytesLess y.1.toList x1.toList = true) := fun a z ha hz => by
                  by_cases h : a = i
                  · subst h
                    rw [HY.out] at hz
                    cases hz
                    exact hq
                  · exact HI.out a z (by omega) hz
                go_wp2_with fail
                go_quiet (fail)
                go_wp2
                go_roundg (k - (i + 1))
                case measure => omega
                case rel => exact ⟨i + 1, hil, Nat.le_refl _, by go_num, HI2, HW.out.drewN _⟩
            · obtain rfl : i = k := by omega
              have HL2 : Hid (∀ a x y, a + 1 < i + 1 → l[a]? = some x → l[a + 1]? = some y → Op.bytesLess x.1.toList y.1.toList = true) := fun a x y ha hx hy => by
                by_cases h : a + 1 = i
                · rw [h, HX.out] at hy
                  cases hy
                  exact HI.out a x (by omega) hx
                · exact HL.out a x y (by omega) hx hy
              go_wp2
              go_roundg (l.length - (i + 1))
              case measure => omega
              case rel => exact ⟨i + 1, hlt, Nat.le_refl _, by go_num, HP2, HL2, GX.out⟩
        · have t2 := bne_empty h
          rw [h2] at C2
          clear h h2
          go_wp2_with fail
          refine (C1.out _).mono ?_
          rintro e w1 ⟨rfl, rfl⟩
          go_wp2_with fail
          refine (C2.out _).mono ?_
          rintro e w1 ⟨rfl, rfl⟩
          go_wp2_with fail
          clear C1 C2
          obtain ⟨wo, hwo⟩ : ∃ wo, wo = wr := ⟨_, rfl⟩
          rw [← hwo] at HG c1 ⊢
          clear hwo
          go_loopg [4] k (fun g vi wr => ∃ (i : Nat), i ≤ k ∧ k - i ≤ g ∧ vi = .int .i64 (i : Int) ∧ Hid (∀ (a : Nat) (y : Lab), a < i → l[a]? = some y → Op.bytesLess y.1.toList x1.toList = true) ∧ Hid (Gr wo wr))
          case atStart => exact ⟨0, Nat.zero_le _, by omega, rfl, fun a y h => absurd h (Nat.not_lt_zero _), Gr.refl _⟩
          case round =>
            obtain ⟨i, hi, hgi, rfl, HI, HW⟩ := hrel
            have GX := Lib.hid (HG.out.trans HW.out)
            have d1 := HW.out.cell c1
            by_cases hil : i < k
            · obtain ⟨y, hy⟩ : ∃ y, l[i]? = some y := ⟨l[i], List.getElem?_eq_getElem (by omega)⟩
              obtain ⟨b', off', e, hb, hc⟩ := (HR.out.gr GX.out) i y hy
              cases e
              have d2 := hc 0 _ rfl
              rw [Nat.add_zero] at d2
              have HY := Lib.hid hy
              clear hy hb hc
              obtain ⟨y1, y2⟩ := y
              dsimp only at *
              have hll : i < l.length := by omega
              have k1 : (i : Int) < (l.length : Int) := by omega
              have k2 : (k : Int) < (l.length : Int) := by omega
              cases hq : Op.bytesLess y1.toList x1.toList with
              | false =>
                have HB : Hid (rightB l = false) := right_less hil HY.out HX.out hq
                go_wp2_with fail
                go_quiet (fail)
                go_wp2
                go_ret
                exact ⟨by rw [HB.out]; rfl, GX.out.drewN _⟩
              | true =>
                have HI2 : Hid (∀ (a : Nat) (y : Lab), a < i + 1 → l[a]? = some y → Op.bytesLess y.1.toList x1.toList = true) := fun a z ha hz => by
                  by_cases h : a = i
                  · subst h
                    rw [HY.out] at hz
                    cases hz
                    exact hq
                  · exact HI.out a z (by omega) hz
                go_wp2_with fail
                go_quiet (fail)
                go_wp2
                go_roundg (k - (i + 1))
                case measure => omega
                case rel => exact ⟨i + 1, hil, Nat.le_refl _, by go_num, HI2, HW.out.drewN _⟩
            · obtain rfl : i = k := by omega
              have HL2 : Hid (∀ a x y, a + 1 < i + 1 → l[a]? = some x → l[a + 1]? = some y → Op.bytesLess x.1.toList y.1.toList = true) := fun a x y ha hx hy => by
                by_cases h : a + 1 = i
                · rw [h, HX.out] at hy
                  cases hy
                  exact HI.out a x (by omega) hx
                · exact HL.out a x y (by omega) hx hy
              go_wp2
              go_roundg (l.length - (i + 1))
              case measure => omega
              case rel => exact ⟨i + 1, hlt, Nat.le_refl _, by go_num, HP2, HL2, GX.out⟩
    · obtain rfl : k = l.length := by omega
      by_cases h8 : l.length ≤ 8
      · have HB : Hid (rightB l = true) := right_ok h8 HP.out HL.out
        have t : decide ((l.length : Int) ≤ 8) = true := decide_eq_true (by omega)
        go_wp2
        go_ret
        exact ⟨by rw [HB.out]; rfl, HG.out⟩
      · have HB : Hid (rightB l = false) := right_long (by omega)
        have t : decide ((l.length : Int) ≤ 8) = false := decide_eq_false (by omega)
        go_wp2
        go_ret
        exact ⟨by rw [HB.out]; rfl, HG.out⟩
end Go.Proofs.Ytdphooobgbminaa
