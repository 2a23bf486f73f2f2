/- The law's find. -/
import Derived.Test.YtlklbhjcohgmhaaScU
import Derived.Test.YtlklbhjcohgmhaaScI
namespace Go.Proofs.Ytlklbhjcohgmhaa
open Go.RowKit Go.Lib Go.Shelf Go.Sort
open Go.Joins (cell_of_block unfrozen_of_block block_setCell)
set_option linter.unusedVariables false
set_option linter.unusedSimpArgs false
set_option maxRecDepth 20000

theorem eql_ser (a b : Sr) (w : World) : (binOp .eql KS (.agg #[.string a.1, .string a.2]) (.agg #[.string b.1, .string b.2])).run Try.prog w = .ok (.bool (decide (a = b))) w := by
  have u9 := Try.underlying9
  have a9 := Try.isAgg9
  have z9 := Try.sizeOf9
  have hS : Try.prog.underlying KS = some (.struct (Try.prog.fieldsOf KS)) := by kernel_rfl
  have hp : Try.prog.stoodInHeld KS = false := by kernel_rfl
  have e : decide (a = b) = ((a.1.toList == b.1.toList) && (a.2.toList == b.2.toList)) := by
    rw [str_eq, str_eq, Bool.eq_iff_iff, Bool.and_eq_true, decide_eq_true_eq, decide_eq_true_eq, decide_eq_true_eq]
    exact Prod.ext_iff
  rw [e, run_eql_struct, show (10000 : Nat) = 9999 + 1 from rfl, run_equalIn_agg w 9999 KS _ _ hS hp]
  simp only [Program.fieldsOf, Try.underlying33]
  by_cases h1 : a.1.toList = b.1.toList
  · by_cases h2 : a.2.toList = b.2.toList
    · go_simp
    · go_simp
  · go_simp

set_option maxHeartbeats 4000000 in
theorem find_k (N : Nat) (w : World) (q : Option Addr) (c : Nat) (M : List Me) (row : w.ownsRow N TSer 3 (.slice q M.length c) M.length (flM M)) (s : Sr) (K : Nat) (hK : K ≤ M.length) (hM : M.length ≤ 1000000) (hno : ∀ j x, M[j]? = some x → j < K → x.s ≠ s) (hyes : ∀ x, M[K]? = some x → x.s = s) :
    Calls Try.prog 13 #[.slice q M.length c, ser s] w fun r w' => r = .returned (.int .i64 (if K < M.length then (K : Int) else -1)) ∧ Below w.heap.size w w' := by
  have mixed : Try.prog.follows .mixedOrders = true := by kernel_rfl
  obtain ⟨w1, B, hB⟩ := boxed w s
  obtain ⟨m, hm⟩ : ∃ m, m = M.length := ⟨_, rfl⟩
  have row1 : w1.ownsRow N TSer 3 (.slice q M.length c) M.length (flM M) := row_keep row (fun g hg => hB.b.block g (row_blk row hg).2.1)
  have b0 := hB.c0
  have b1 := hB.c1
  have HW : Hid (w.alloc (.cells #[.string s.1, .string s.2] KS) = w1 ∧ w.heap.size = B) := ⟨hB.eq, hB.at_⟩
  have HH := Lib.hid (And.intro row1 (And.intro hm (And.intro hno (And.intro hyes hB.b))))
  have EQ : Hid (∀ (t : Sr) (ws : World), (binOp .eql KS (.agg #[.string t.1, .string t.2]) (.agg #[.string s.1, .string s.2])).run Try.prog ws = .ok (.bool (decide (t = s))) ws) := fun t ws => eql_ser t s ws
  have S0 : Hid (∃ k, w1 = w1.drewN k) := ⟨0, rfl⟩
  rw [← hm] at hK hM ⊢
  obtain ⟨rv, hrv⟩ : ∃ r : Int, r = (if K < m then (K : Int) else -1) := ⟨_, rfl⟩
  rw [← hrv]
  have HRV := Lib.hid hrv
  clear hrv
  clear row row1 hm hno hyes hB
  unfold ser
  go_enter Try.func13, Try.ntmps13
  go_upto_region 1 with fail
  rw [HW.out.1, HW.out.2]
  go_wp2_with fail
  go_loopg [8] m (fun g vi wr => ∃ j : Nat, vi = .int .i64 (j : Int) ∧ j ≤ K ∧ m - j ≤ g ∧ Hid (∃ k, wr = w1.drewN k))
  case atStart => exact ⟨0, rfl, by omega, by omega, S0⟩
  case round =>
    obtain ⟨j, rfl, hj, hg, HR⟩ := hrel
    obtain ⟨k, hwk⟩ := HR.out
    have KW := Lib.hid hwk
    have c0 : wr.cell? ⟨B, 0, none⟩ = some (.string s.1) := by rw [hwk]; exact b0
    have c1 : wr.cell? ⟨B, 1, none⟩ = some (.string s.2) := by rw [hwk]; exact b1
    clear hwk
    by_cases hlt : j < m
    · obtain ⟨row1, hm, hno, hyes, hb⟩ := HH.out
      obtain ⟨x, hx⟩ : ∃ x, M[j]? = some x := ⟨M[j]'(by omega), List.getElem?_eq_getElem (by omega)⟩
      obtain ⟨g, rfl, _, _, a0, a1, _⟩ := row_cells row1 hx
      have a0 : wr.cell? ⟨g, j * 3, none⟩ = some (.string x.s.1) := by rw [KW.out]; exact a0
      have a1 : wr.cell? ⟨g, j * 3 + 1, none⟩ = some (.string x.s.2) := by rw [KW.out]; exact a1
      have eq : ∀ ws : World, (binOp .eql KS (.agg #[.string x.s.1, .string x.s.2]) (.agg #[.string s.1, .string s.2])).run Try.prog ws = .ok (.bool (decide (x.s = s))) ws := fun ws => EQ.out _ _
      have j0 : (0 : Int) ≤ (j : Int) := Int.natCast_nonneg _
      have j1 : (j : Int) < (m : Int) := by omega
      by_cases hjK : j < K
      · have hne : decide (x.s = s) = false := decide_eq_false (hno j x hx hjK)
        rw [hne] at eq
        clear row1 hm hno hyes hb hx hne
        go_wp2_with fail
        go_quiet (fail)
        have NX : Hid (∃ t, wr.drewN nq = w1.drewN t) := ⟨k + nq, by rw [KW.out]; exact World.drewN_drewN _ _ _⟩
        go_wp2
        go_roundg (m - (j + 1))
        case measure => omega
        case rel => exact ⟨j + 1, by push_cast; rfl, by omega, by omega, NX⟩
      · have hjk : j = K := by omega
        have hxs : x.s = s := hyes x (by rw [← hjk]; exact hx)
        have hne : decide (x.s = s) = true := decide_eq_true hxs
        rw [hne] at eq
        have FIN : Hid (∀ t, Below w.heap.size w (wr.drewN t)) := fun t => by rw [KW.out]; exact Below.drewN' (Below.drewN' hb k) t
        have HK : Hid (rv = (j : Int)) := by show _ = _; rw [HRV.out, if_pos (by omega), hjk]
        clear row1 hm hno hyes hb hx hne hjk hxs hjK
        go_wp2_with fail
        go_quiet (fail)
        go_wp2
        go_ret
        exact ⟨by rw [HK.out]; rfl, FIN.out _⟩
    · have HK : Hid (rv = -1) := by show _ = _; rw [HRV.out, if_neg (by omega)]
      have FIN : Hid (Below w.heap.size w wr) := by show Below _ _ _; rw [KW.out]; exact Below.drewN' HH.out.2.2.2.2 k
      go_wp2
      go_ret
      first | exact ⟨by rw [HK.out]; rfl, FIN.out⟩ | exact ⟨rfl, FIN.out⟩
end Go.Proofs.Ytlklbhjcohgmhaa
