/- Layer 12, for the layers above: what Rate answers of any row of quantities at ticks that rise. -/
import Derived.Test.YtndbpijkepchgaaRtC
namespace Go.Proofs.Ytndbpijkepchgaa.Rt
open Go.RowKit Go.Lib
open Go.Joins (cell_of_block unfrozen_of_block block_setCell)
set_option linter.unusedVariables false
set_option linter.unusedSimpArgs false
set_option maxRecDepth 20000

set_option maxHeartbeats 1000000 in
theorem inc_few (w : World) (q : Option Addr) (c : Nat) (l : List Sam) (hf : l.length < 2) (h : RowS w q l) (g : Good l) :
    Calls Try.prog 17 #[.slice q l.length c] w fun e w' => e = .returned (.tuple #[.int .i64 0, .int .i64 14]) ∧ Below w.heap.size w w' := by
  have CR := Lib.hid (rright_any w q c l h (by omega) g)
  have t1 : (l.length : Int) < 2 := by omega
  clear h g hf
  go_enter Try.func17, Try.ntmps17
  go_wp2_with fail
  refine CR.out.mono ?_
  rintro e w1 ⟨rfl, b1⟩
  have B1 := Lib.hid b1
  clear b1 CR
  go_wp2
  go_ret2
  exact ⟨rfl, B1.out⟩

/-- Rate's answer and its error. -/
def incT (l : List Sam) : Int := inc l (l.length - 1)
def rateE (l : List Sam) : Int := if l.length < 2 then 14 else if 9007199254740992 < incT l then 3 else 0
def rateV (l : List Sam) : Int := if l.length < 2 then 0 else if 9007199254740992 < incT l then 0 else incT l / ((l.getD (l.length - 1) (0, 0)).1 - (l.getD 0 (0, 0)).1)
theorem good_rise {l : List Sam} (h : Good l) : ∀ (d k : Nat) x y, l[k]? = some x → l[k + (d + 1)]? = some y → x.1 < y.1 := by
  intro d
  induction d with
  | zero => intro k x y hx hy; exact h.2 k x y hx hy
  | succ d ih =>
    intro k x y hx hy
    have hlt := (List.getElem?_eq_some_iff.1 hy).1
    have hz : l[k + (d + 1)]? = some l[k + (d + 1)] := List.getElem?_eq_getElem (by omega)
    have h1 := ih k x _ hx hz
    have h2 := h.2 (k + (d + 1)) _ y hz (by rw [show k + (d + 1) + 1 = k + (d + 1 + 1) by omega]; exact hy)
    omega
theorem wrap_sub (a b : Int) : IntKind.u64.wrap (IntKind.u64.wrap b - IntKind.u64.wrap a) = IntKind.u64.wrap (b - a) := by
  rw [IntKind.wrap_u64, IntKind.wrap_u64, IntKind.wrap_u64, IntKind.wrap_u64]
  omega
def RateIs (w : World) (l : List Sam) (e : Ending) (w' : World) : Prop := e = .returned (.tuple #[.int .i64 (rateV l), .int .i64 (rateE l)]) ∧ Below w.heap.size w w'

set_option maxHeartbeats 1000000 in
theorem rate_any (w : World) (q : Option Addr) (c : Nat) (l : List Sam) (h : RowS w q l) (hl : l.length ≤ 9223372036854775807) (g : Good l) :
    Calls Try.prog 9 #[.slice q l.length c] w (RateIs w l) := by
  by_cases hf : l.length < 2
  · have CI := Lib.hid (inc_few w q c l hf h g)
    have e1 : rateV l = 0 := by unfold rateV; rw [if_pos hf]
    have e2 : rateE l = 14 := by unfold rateE; rw [if_pos hf]
    have FIN : Hid (∀ w', Below w.heap.size w w' → RateIs w l (.returned (.tuple #[.int .i64 0, .int .i64 14])) w') := fun w' b => ⟨by rw [e1, e2], b⟩
    clear h g hf e1 e2
    go_enter Try.func9, Try.ntmps9
    go_wp2_with fail
    refine CI.out.mono ?_
    rintro e w1 ⟨rfl, b1⟩
    have B1 := Lib.hid b1
    clear b1 CI
    go_wp2
    go_ret2
    exact FIN.out _ B1.out
  · obtain ⟨n, hn⟩ : ∃ n, l.length = n + 1 := ⟨l.length - 1, by omega⟩
    have CI := Lib.hid (inc_any w q c n l hn (by omega) h hl g)
    have hT : incT l = inc l n := by unfold incT; rw [show l.length - 1 = n by omega]
    by_cases hover : 9007199254740992 < inc l n
    · have e1 : rateV l = 0 := by unfold rateV; rw [if_neg hf, hT, if_pos hover]
      have e2 : rateE l = 3 := by unfold rateE; rw [if_neg hf, hT, if_pos hover]
      have FIN : Hid (∀ w', Below w.heap.size w w' → RateIs w l (.returned (.tuple #[.int .i64 0, .int .i64 3])) w') := fun w' b => ⟨by rw [e1, e2], b⟩
      have OV := Lib.hid hover
      clear h g hf e1 e2 hover hT hn
      go_enter Try.func9, Try.ntmps9
      go_wp2_with fail
      refine CI.out.mono ?_
      rintro e w1 ⟨hi, b1⟩
      have hi2 : e = .returned (.tuple #[.int .i64 0, .int .i64 3]) := by
        rcases hi with ⟨hi, _⟩ | ⟨_, hi⟩
        · have := OV.out; omega
        · exact hi
      subst hi2
      have B1 := Lib.hid b1
      clear b1 CI hi
      go_wp2
      go_ret2
      exact FIN.out _ B1.out
    · obtain ⟨x, hx⟩ : ∃ x, l[0]? = some x := ⟨l[0], List.getElem?_eq_getElem (by omega)⟩
      obtain ⟨y, hy⟩ : ∃ y, l[n]? = some y := ⟨l[n], List.getElem?_eq_getElem (by omega)⟩
      have hr := good_rise g (n - 1) 0 x y hx (by rw [show 0 + (n - 1 + 1) = n by omega]; exact hy)
      have hp := inc_pos g (n := n) (by omega)
      obtain ⟨T, hTT⟩ : ∃ T, T = inc l n := ⟨_, rfl⟩
      obtain ⟨D, hD⟩ : ∃ D, D = y.1 - x.1 := ⟨_, rfl⟩
      obtain ⟨Q, hQ⟩ : ∃ Q, Q = T / D := ⟨_, rfl⟩
      have e1 : rateV l = Q := by
        unfold rateV
        rw [if_neg hf, hT, if_neg hover, show l.length - 1 = n by omega, getD_of hx, getD_of hy, hQ, hTT, hD]
      have e2 : rateE l = 0 := by unfold rateE; rw [if_neg hf, hT, if_neg hover]
      have FIN : Hid (∀ w', Below w.heap.size w w' → RateIs w l (.returned (.tuple #[.int .i64 Q, .int .i64 0])) w') := fun w' b => ⟨by rw [e1, e2], b⟩
      obtain ⟨⟨fx, _⟩, b, off, rfl, hb, p0, _⟩ := h 0 x hx
      obtain ⟨⟨fy, _⟩, b', off', e, hb', q0, _⟩ := h n y hy
      cases e
      unfold Fits64 at fx fy
      obtain ⟨A, hA⟩ : ∃ A, A = IntKind.u64.wrap x.1 := ⟨_, rfl⟩
      obtain ⟨B, hB⟩ : ∃ B, B = IntKind.u64.wrap y.1 := ⟨_, rfl⟩
      have hD1 : 1 ≤ D := by omega
      have hD2 : D ≤ 18446744073709551615 := by omega
      have hBA : IntKind.u64.wrap (B - A) = D := by rw [hA, hB, wrap_sub, IntKind.wrap_u64]; omega
      rw [← hTT] at hp hover CI
      have hQ0 : 0 ≤ Q := by rw [hQ]; exact Int.ediv_nonneg hp (by omega)
      have hQ1 : Q ≤ 9007199254740992 := by rw [hQ]; exact Int.le_trans (Int.ediv_le_self _ hp) (by omega)
      have WT : Hid (IntKind.u64.wrap T = T) := by show _ = _; rw [IntKind.wrap_u64]; omega
      have WQ : Hid (IntKind.i64.wrap Q = Q) := IntWalk.i64_in _ (by omega)
      have WA : Hid (IntKind.u64.wrap x.1 = A ∧ IntKind.u64.wrap y.1 = B ∧ IntKind.u64.wrap (B - A) = D) := ⟨hA.symm, hB.symm, hBA⟩
      have D0 : Hid ((D == 0) = false) := by show _ = false; rw [beq_eq_false_iff_ne]; omega
      have QE : Hid (T.tdiv D = Q) := by show _ = _; rw [Int.tdiv_eq_ediv_of_nonneg hp]; exact hQ.symm
      have WU : Hid (IntKind.u64.wrap Q = Q) := by show _ = _; rw [IntKind.wrap_u64]; omega
      have OV := Lib.hid hover
      have WJ : Hid (IntKind.i64.wrap ((l.length : Int) - 1) = (n : Int)) := by show _ = _; rw [show (l.length : Int) - 1 = (n : Int) by omega]; exact IntWalk.i64_in _ (by omega)
      have n0 : (0 : Int) ≤ (n : Int) := Int.natCast_nonneg _
      have n1 : (n : Int) < (l.length : Int) := by omega
      have n2 : (0 : Int) < (l.length : Int) := by omega
      have CE : Hid (∀ W, Below w.heap.size w W → W.cell? ⟨b, off, none⟩ = some (.int .i64 x.1) ∧ W.cell? ⟨b, off + n * 2, none⟩ = some (.int .i64 y.1)) := fun W bw => by
        rw [Nat.zero_mul, Nat.add_zero] at p0
        exact ⟨(bw.cell (p := ⟨b, _, none⟩) hb).trans p0, (bw.cell (p := ⟨b, _, none⟩) hb).trans q0⟩
      clear hx hy hr hTT hD hQ e1 e2 p0 q0 hA hB hBA hover hT hn hf h g fx fy
      go_enter Try.func9, Try.ntmps9
      go_wp2_with fail
      refine CI.out.mono ?_
      rintro e w1 ⟨hi, b1⟩
      have hi2 : e = .returned (.tuple #[.int .i64 T, .int .i64 0]) := by
        rcases hi with ⟨_, hi⟩ | ⟨hi, _⟩
        · exact hi
        · have := OV.out; omega
      subst hi2
      have B1 := Lib.hid b1
      obtain ⟨c0, c1⟩ := CE.out _ b1
      clear b1 CI hi
      go_upto_region 4 with fail
      have WJ' := WJ.out
      obtain ⟨WA1, WA2, WA3⟩ := WA.out
      go_quiet (fail)
      clear WJ' WA1 WA2 WA3
      have WT' := WT.out
      have WQ' := WQ.out
      have WU' := WU.out
      have QE' := QE.out
      have D0' := D0.out
      go_wp2
      go_ret2
      exact FIN.out _ (Below.drewN' B1.out _)
end Go.Proofs.Ytndbpijkepchgaa.Rt
