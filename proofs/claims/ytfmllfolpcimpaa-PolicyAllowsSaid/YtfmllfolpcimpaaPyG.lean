/- Layer 22 (policy): how far one goes toward a number (Go), of any behaviors and of whatever was done. -/
import Derived.Test.YtfmllfolpcimpaaPyF
namespace Go.Proofs.Ytfmllfolpcimpaa.Py
open Go.RowKit Go.Shelf Go.Lib Go.Sort Go.Deep
open Go.Joins (cell_of_block unfrozen_of_block block_setCell)
open Go.Proofs.Ytfmllfolpcimpaa.Ow
set_option linter.unusedVariables false
set_option linter.unusedSimpArgs false
set_option maxRecDepth 20000

/-- How far one goes from so many toward so many, where Limit tells lu upward and ld downward. -/
def goW (t g lu ld : Int) : Int := if g > t then max (min g lu) t else min (max g ld) t
/-- How far one goes. -/
def GoS (ku : Int) (pu : List Pol) (kd : Int) (pd : List Pol) (l : List Sca) (now there toward : Int) : Int :=
  goW (cnt there) (cnt toward) (LimS ku pu l now (cnt there) true) (LimS kd pd l now (cnt there) false)
/-- One goes no farther than toward the number, and not the other way. -/
theorem goW_range (t g lu ld : Int) : min t g ≤ goW t g lu ld ∧ goW t g lu ld ≤ max t g := by
  unfold goW
  split <;> omega

set_option maxHeartbeats 8000000 in
theorem go_of (w : World) (wu ku : Int) (qu : Option Addr) (mu cu : Nat) (wd kd : Int) (qd : Option Addr) (md cd : Nat) (V : Value) (now there toward lu ld : Int)
    (CU : ∀ W, Below w.heap.size w W → Calls Try.prog 11 #[.agg #[.int .i64 wu, .int .i64 ku, .slice qu mu cu], V, .int .i64 now, .int .i64 (cnt there), .bool true] W fun e w' => e = .returned (.int .i64 lu) ∧ Below W.heap.size W w')
    (CD : ∀ W, Below w.heap.size w W → Calls Try.prog 11 #[.agg #[.int .i64 wd, .int .i64 kd, .slice qd md cd], V, .int .i64 now, .int .i64 (cnt there), .bool false] W fun e w' => e = .returned (.int .i64 ld) ∧ Below W.heap.size W w') :
    Calls Try.prog 8 #[.agg #[.int .i64 wu, .int .i64 ku, .slice qu mu cu], .agg #[.int .i64 wd, .int .i64 kd, .slice qd md cd], V, .int .i64 now, .int .i64 there, .int .i64 toward] w fun e w' => e = .returned (.int .i64 (goW (cnt there) (cnt toward) lu ld)) ∧ Below w.heap.size w w' := by
  obtain ⟨wa, A, HA, ba, bA⟩ := box_beh w wu ku (.slice qu mu cu)
  obtain ⟨wb, B, HB, bb, bB⟩ := box_beh wa wd kd (.slice qd md cd)
  obtain rfl : B = A + 1 := by rw [← HB.out.2, ← HA.out.1, ← HA.out.2]; simp
  have bw := ba.trans (bb.mono ba.size)
  have bA2 := (bb.block A (Array.getElem?_eq_some_iff.1 bA).1).trans bA
  obtain ⟨t, ht⟩ : ∃ t, t = cnt there := ⟨_, rfl⟩
  obtain ⟨g, hg⟩ : ∃ g, g = cnt toward := ⟨_, rfl⟩
  have CT : Hid (∀ W : World, Calls Try.prog 10 #[.int .i64 there] W fun e w' => e = .returned (.int .i64 t) ∧ W = w') := fun W => by rw [ht]; exact py_cnt there W
  have CG : Hid (∀ W : World, Calls Try.prog 10 #[.int .i64 toward] W fun e w' => e = .returned (.int .i64 g) ∧ W = w') := fun W => by rw [hg]; exact py_cnt toward W
  rw [← ht] at CU CD
  rw [← ht, ← hg]
  have UU := Lib.hid (CU wb bw)
  have DD := Lib.hid (CD wb bw)
  have BW := Lib.hid bw
  obtain ⟨R, hR⟩ : ∃ R, R = goW t g lu ld := ⟨_, rfl⟩
  rw [← hR]
  unfold goW at hR
  have a0 := cell_of_block bA2 0
  have a1 := cell_of_block bA2 1
  have a2 := cell_of_block bA2 2
  have d0 := cell_of_block bB 0
  have d1 := cell_of_block bB 1
  have d2 := cell_of_block bB 2
  clear CU CD ba bb bA bB bw bA2 ht hg
  by_cases h : g > t
  · have RR : Hid (max (min g lu) t = R) := by show _ = _; rw [hR, if_pos h]
    have h1 : decide (g > t) = true := decide_eq_true h
    clear hR h
    go_enter Try.func8, Try.ntmps8
    go_upto_region 1 with fail
    rw [HA.out.1, HA.out.2, HB.out.1]
    go_wp2_with fail
    refine (CT.out _).mono ?_
    rintro e w1 ⟨rfl, rfl⟩
    go_wp2_with fail
    refine (CG.out _).mono ?_
    rintro e w1 ⟨rfl, rfl⟩
    go_wp2_with fail
    refine UU.out.mono ?_
    rintro e w2 ⟨rfl, b2⟩
    have F := Lib.hid (BW.out.trans (b2.mono BW.out.size))
    clear b2
    go_wp2
    go_ret
    exact ⟨by rw [← RR.out]; rfl, F.out⟩
  · have RR : Hid (min (max g ld) t = R) := by show _ = _; rw [hR, if_neg h]
    have h1 : decide (g > t) = false := decide_eq_false h
    clear hR h
    go_enter Try.func8, Try.ntmps8
    go_upto_region 1 with fail
    rw [HA.out.1, HA.out.2, HB.out.1]
    go_wp2_with fail
    refine (CT.out _).mono ?_
    rintro e w1 ⟨rfl, rfl⟩
    go_wp2_with fail
    refine (CG.out _).mono ?_
    rintro e w1 ⟨rfl, rfl⟩
    go_wp2_with fail
    refine DD.out.mono ?_
    rintro e w2 ⟨rfl, b2⟩
    have F := Lib.hid (BW.out.trans (b2.mono BW.out.size))
    clear b2
    go_wp2
    go_ret
    exact ⟨by rw [← RR.out]; rfl, F.out⟩
theorem py_go (w : World) (wu ku : Int) (qu : Option Addr) (cu : Nat) (pu : List Pol) (hru : RowR 3 encP w qu pu) (hlu : pu.length ≤ 1000000) (hpu : ∀ x ∈ pu, x.2.2 < 9223372036854775808)
    (wd kd : Int) (qd : Option Addr) (cd : Nat) (pd : List Pol) (hrd : RowR 3 encP w qd pd) (hld : pd.length ≤ 1000000) (hpd : ∀ x ∈ pd, x.2.2 < 9223372036854775808)
    (q : Option Addr) (c : Nat) (l : List Sca) (hr : RowR 3 encS w q l) (hl : l.length ≤ 1000000) (hi : ∀ x ∈ l, I64 x.1) (now there toward : Int) (hn : I64 now) :
    Calls Try.prog 8 #[.agg #[.int .i64 wu, .int .i64 ku, .slice qu pu.length cu], .agg #[.int .i64 wd, .int .i64 kd, .slice qd pd.length cd], .slice q l.length c, .int .i64 now, .int .i64 there, .int .i64 toward] w fun e w' => e = .returned (.int .i64 (GoS ku pu kd pd l now there toward)) ∧ Below w.heap.size w w' :=
  go_of w wu ku qu _ cu wd kd qd _ cd _ now there toward _ _
    (fun W b => py_Limit W wu ku qu cu pu (hru.below b) hlu hpu q c l (hr.below b) hl hi now (cnt there) true hn)
    (fun W b => py_Limit W wd kd qd cd pd (hrd.below b) hld hpd q c l (hr.below b) hl hi now (cnt there) false hn)
end Go.Proofs.Ytfmllfolpcimpaa.Py
