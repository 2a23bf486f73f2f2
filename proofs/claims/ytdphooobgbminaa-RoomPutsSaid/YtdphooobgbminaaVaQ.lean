/- The law's wants and goes. -/
import Derived.Test.YtdphooobgbminaaVaF
import Derived.Test.YtdphooobgbminaaObX
import Derived.Deep.Light
namespace Go.Proofs.Ytdphooobgbminaa
open Go.RowKit Go.Shelf Go.Lib Go.Sort
set_option linter.unusedVariables false
set_option linter.unusedSimpArgs false
set_option maxRecDepth 20000

def wantsB (cpu mem : Int) (lab : List Lab) (sel : List Req) (tol_ : List Lab) (warm : Int) : Bool := resB cpu mem && rightB lab && asksB sel && rightB tol_ && withinB warm 0 1800
set_option maxHeartbeats 4000000 in
theorem wants_any (w : World) (cpu mem : Int) (q_lab : Option Addr) (k_lab : Nat) (lab : List Lab) (r_lab : RowR 2 encL w q_lab lab) (n_lab : lab.length ≤ 9223372036854775807) (f_lab : lab.all ftL = true) (q_sel : Option Addr) (k_sel : Nat) (sel : List Req) (r_sel : RowR 3 encR w q_sel sel) (n_sel : sel.length ≤ 9223372036854775807) (f_sel : sel.all ftR = true) (q_tol : Option Addr) (k_tol : Nat) (tol : List Lab) (r_tol : RowR 2 encL w q_tol tol) (n_tol : tol.length ≤ 9223372036854775807) (f_tol : tol.all ftL = true) (warm : Int) :
    Calls Try.prog 26 #[.agg #[.int .i64 cpu, .int .i64 mem], .slice q_lab lab.length k_lab, .slice q_sel sel.length k_sel, .slice q_tol tol.length k_tol, .int .i64 warm] w fun e w' => e = .returned (.bool (wantsB cpu mem lab sel tol warm)) ∧ Gr w w' := by
  have HO : Hid (wantsB cpu mem lab sel tol warm = (resB cpu mem && rightB lab && asksB sel && rightB tol && (decide (0 ≤ warm) && decide (warm ≤ 1800)))) := rfl
  have G0 := Lib.hid ((Gr.refl w).alloc (.cells #[.int .i64 cpu, .int .i64 mem] 25))
  have C0 := Lib.hid (fun (W : World) => sized_any W cpu mem)
  have C1 := Lib.hid (fun (W : World) (g : Gr w W) => rright_any W q_lab k_lab lab (r_lab.gr g) n_lab f_lab)
  have C2 := Lib.hid (fun (W : World) (g : Gr w W) => rasks_right W q_sel k_sel sel (r_sel.gr g) n_sel f_sel)
  have C3 := Lib.hid (fun (W : World) (g : Gr w W) => rright_any W q_tol k_tol tol (r_tol.gr g) n_tol f_tol)
  generalize resB cpu mem = b0 at HO C0
  generalize rightB lab = b1 at HO C1
  generalize asksB sel = b2 at HO C2
  generalize rightB tol = b3 at HO C3
  clear r_lab n_lab f_lab r_sel n_sel f_sel r_tol n_tol f_tol
  go_enter Try.func26, Try.ntmps26
  go_wp2_with fail
  refine (C0.out _).mono ?_
  rintro e w1 ⟨rfl, h1⟩
  have G1 := Lib.hid (G0.out.trans h1)
  clear h1
  cases b0 with
  | false => (go_wp2; go_ret; exact ⟨by rw [HO.out]; rfl, G1.out⟩)
  | true =>
    go_wp2_with fail
    refine (C1.out _ G1.out).mono ?_
    rintro e w2 ⟨rfl, h2⟩
    have G2 := Lib.hid (G1.out.trans h2)
    clear h2
    cases b1 with
    | false => (go_wp2; go_ret; exact ⟨by rw [HO.out]; rfl, G2.out⟩)
    | true =>
      go_wp2_with fail
      refine (C2.out _ G2.out).mono ?_
      rintro e w3 ⟨rfl, h3⟩
      have G3 := Lib.hid (G2.out.trans h3)
      clear h3
      cases b2 with
      | false => (go_wp2; go_ret; exact ⟨by rw [HO.out]; rfl, G3.out⟩)
      | true =>
        go_wp2_with fail
        refine (C3.out _ G3.out).mono ?_
        rintro e w4 ⟨rfl, h4⟩
        have G4 := Lib.hid (G3.out.trans h4)
        clear h4
        cases b3 with
        | false => (go_wp2; go_ret; exact ⟨by rw [HO.out]; rfl, G4.out⟩)
        | true =>
          by_cases hw : 0 ≤ warm
          · rw [decide_eq_true hw] at HO
            go_wp2
            go_ret
            exact ⟨by rw [HO.out]; rfl, G4.out⟩
          · rw [decide_eq_false hw] at HO
            go_wp2
            go_ret
            exact ⟨by rw [HO.out]; rfl, G4.out⟩

theorem pol_bad {l : List Pol} {k : Nat} {x : Pol} (hx : l[k]? = some x) (h : polB x = false) (wi pk : Int) : behC wi pk l = false := by
  have : l.all polB = false := List.all_eq_false.2 ⟨x, List.mem_of_getElem? hx, by rw [h]; decide⟩
  rw [behC, this, Bool.and_false, Bool.and_false]
theorem pol_false {pc : Bool} {va pe : Int} (h : va < 1 ∨ 1000000 < va ∨ pe < 1 ∨ 1800 < pe) : polB (pc, va, pe) = false := by
  cases hb : polB (pc, va, pe) with
  | false => rfl
  | true =>
    simp [polB, polC, withinB] at hb
    omega
theorem pol_true {pc : Bool} {va pe : Int} (h : ¬ (va < 1 ∨ 1000000 < va ∨ pe < 1 ∨ 1800 < pe)) : polB (pc, va, pe) = true := by
  simp [polB, polC, withinB]
  omega

set_option maxHeartbeats 4000000 in
theorem goes_any (w : World) (wi pk : Int) (q : Option Addr) (c : Nat) (l : List Pol) (h : RowR 3 encP w q l) (hl : l.length ≤ 9223372036854775807) :
    Calls Try.prog 29 #[.agg #[.int .i64 wi, .int .i64 pk, .slice q l.length c]] w fun e w' => e = .returned (.bool (behC wi pk l)) ∧ Gr w w' := by
  have mixed : Try.prog.follows .mixedOrders = true := by kernel_rfl
  obtain ⟨B, hB⟩ : ∃ B, B = w.heap.size := ⟨_, rfl⟩
  obtain ⟨wb, hwb⟩ : ∃ wb, wb = w.alloc (.cells #[.int .i64 wi, .int .i64 pk, .slice q l.length c] 39) := ⟨_, rfl⟩
  have GB : Gr w wb := hwb ▸ (Gr.refl w).alloc _
  have HR := Lib.hid (h.gr GB)
  have d0 : wb.cell? ⟨B, 0, none⟩ = some (.int .i64 wi) := by rw [hwb, hB]; simp
  have d1 : wb.cell? ⟨B, 1, none⟩ = some (.int .i64 pk) := by rw [hwb, hB]; simp
  have d2 : wb.cell? ⟨B, 2, none⟩ = some (.slice q l.length c) := by rw [hwb, hB]; simp
  have D := Lib.hid (And.intro d0 (And.intro d1 d2))
  have HW := Lib.hid (And.intro hwb (And.intro hB GB))
  clear h hwb hB GB d0 d1
  go_enter Try.func29, Try.ntmps29
  go_upto_region 1 with fail
  rw [← HW.out.1, ← HW.out.2.1]
  go_wp2_with fail
  clear d2
  go_loopg [8] l.length (fun g vi wr => ∃ (k : Nat), k ≤ l.length ∧ l.length - k ≤ g ∧ vi = .int .i64 (k : Int) ∧ Hid (∀ (j : Nat) (x : Pol), j < k → l[j]? = some x → polB x = true) ∧ Hid (Gr wb wr))
  case atStart => exact ⟨0, Nat.zero_le _, by omega, rfl, fun j x h => absurd h (Nat.not_lt_zero _), Gr.refl _⟩
  case round =>
    obtain ⟨k, hk, hg, rfl, HP, HG⟩ := hrel
    have GW := Lib.hid (HW.out.2.2.trans HG.out)
    by_cases hlt : k < l.length
    · obtain ⟨x, hx⟩ : ∃ x, l[k]? = some x := ⟨l[k], List.getElem?_eq_getElem hlt⟩
      obtain ⟨b, off, rfl, hb, hc⟩ := (HR.out.gr HG.out) k x hx
      have c1 := hc 0 _ rfl
      have c2 := hc 1 _ rfl
      have c3 := hc 2 _ rfl
      rw [Nat.add_zero] at c1
      have HX := Lib.hid hx
      obtain ⟨x1, x2, x3⟩ := x
      have GA := Lib.hid (HG.out.alloc (.cells #[.bool x1, .int .i64 x2, .int .i64 x3] 101))
      dsimp only at *
      clear hx hc hb
      by_cases hq : x2 < 1 ∨ 1000000 < x2 ∨ x3 < 1 ∨ 1800 < x3
      · have HB := Lib.hid (pol_bad HX.out (pol_false hq) wi pk)
        rcases hq with h | h | h | h
        all_goals
          go_wp2
          all_goals
            go_ret
            exact ⟨by rw [HB.out]; rfl, HW.out.2.2.trans GA.out⟩
      · have HP2 : Hid (∀ (j : Nat) (x : Pol), j < k + 1 → l[j]? = some x → polB x = true) := fun j x hj hx => by
          by_cases h : j = k
          · subst h
            rw [HX.out] at hx
            cases hx
            exact pol_true hq
          · exact HP.out j x (by omega) hx
        have h1 : ¬ x2 < 1 := by omega
        have h2 : ¬ 1000000 < x2 := by omega
        have h3 : ¬ x3 < 1 := by omega
        have h4 : decide (1800 < x3) = false := decide_eq_false (by omega)
        clear hq
        go_wp2
        go_roundg (l.length - (k + 1))
        case measure => omega
        case rel => exact ⟨k + 1, hlt, Nat.le_refl _, by go_num, HP2, GA.out⟩
    · obtain rfl : k = l.length := by omega
      have HA : Hid (l.all polB = true) := List.all_eq_true.2 fun x hx => by
        obtain ⟨j, hj⟩ := List.getElem?_of_mem hx
        exact HP.out j x (List.getElem?_eq_some_iff.1 hj).1 hj
      have HO : Hid (behC wi pk l = (decide (0 ≤ wi) && decide (wi ≤ 1800) && decide (0 ≤ pk) && decide (pk ≤ 2) && decide ((l.length : Int) ≤ 4))) := by
        show _ = _
        have h0 : decide ((0 : Int) ≤ (l.length : Int)) = true := decide_eq_true (by omega)
        rw [behC, HA.out, withinB, withinB, withinB, h0, Bool.true_and, Bool.and_true, Bool.and_assoc, Bool.and_assoc, Bool.and_assoc, Bool.and_assoc, Bool.and_assoc, Bool.and_assoc]
      have d0 := HG.out.cell D.out.1
      have d1 := HG.out.cell D.out.2.1
      have d2 := HG.out.cell D.out.2.2
      clear HP HA
      go_wp2
      all_goals
        go_ret
        refine ⟨ret_b ?_, GW.out⟩
        go_light
        rw [HO.out]
        simp [*]
        first | done | omega
end Go.Proofs.Ytdphooobgbminaa
