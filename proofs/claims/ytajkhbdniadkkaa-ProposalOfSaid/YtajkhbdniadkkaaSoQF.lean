/- The library's stable sort: two sorted rows merged in place; the whole (by sort/gensort.py). -/
import Derived.Test.YtajkhbdniadkkaaSoQD
namespace Go.Proofs.Ytajkhbdniadkkaa.Qs
open Go.Shelf Go.RowKit Go.Lib Go.Sort Go.Deep
open Go.Joins (cell_of_block unfrozen_of_block block_setCell)
set_option linter.unusedVariables false
set_option linter.unusedSimpArgs false

theorem Merged.mk {w0 : World} {blk off : Nat} {p u v q s : List El} {w' : World} (h1 : s.length = u.length + v.length) (h2 : Sorted s) (h3 : Same1 (u ++ v) s) (h4 : St w0 blk off (p ++ s ++ q) w') : Merged w0 blk off p u v q (.returned (.tuple #[])) w' := ⟨rfl, s, h1, h2, h3, h4⟩

set_option maxHeartbeats 8000000 in
set_option maxRecDepth 1000000 in
theorem sym_step (w0 w : World) (blk off cap : Nat) (l0 p u v q : List El) (a m b N : Nat) (R : RowL w0 blk off l0) (S : St w0 blk off (p ++ u ++ v ++ q) w) (hu : Sorted u) (hv : Sorted v) (hu2 : 2 ≤ u.length) (hv2 : 2 ≤ v.length)
    (hN : (p ++ u ++ v ++ q).length = N) (h0 : l0.length = N) (ha : p.length = a) (hm : a + u.length = m) (hb : m + v.length = b) (hsz : N < 4611686018427387904)
    (IH : ∀ (p' u' v' q' : List El) (a' m' b' : Nat) (W : World), u'.length + v'.length < u.length + v.length → 0 < u'.length → 0 < v'.length → Sorted u' → Sorted v' → (p' ++ u' ++ v' ++ q').length = N → p'.length = a' → a' + u'.length = m' → m' + v'.length = b' → St w0 blk off (p' ++ u' ++ v' ++ q') W →
      Calls Try.prog 82 #[.slice (some ⟨blk, off, none⟩) N cap, .int .i64 (a' : Int), .int .i64 (m' : Int), .int .i64 (b' : Int), fvC] W (Merged w0 blk off p' u' v' q')) :
    Calls Try.prog 82 #[.slice (some ⟨blk, off, none⟩) N cap, .int .i64 (a : Int), .int .i64 (m : Int), .int .i64 (b : Int), fvC] w (Merged w0 blk off p u v q) := by
  have mixed : Try.prog.follows .mixedOrders = true := by kernel_rfl
  have eg := enters_cmp
  have RR := Lib.hid R
  have S0 := Lib.hid S
  have HU := Lib.hid hu
  have HV := Lib.hid hv
  have HIH := Lib.hid IH
  have HA : Hid ((p ++ u ++ v ++ q).length = N ∧ l0.length = N ∧ p.length = a ∧ a + u.length = m ∧ m + v.length = b) := ⟨hN, h0, ha, hm, hb⟩
  have ham : a + 2 ≤ m := by omega
  have hmb : m + 2 ≤ b := by omega
  have hbN : b ≤ N := by simp at hN; omega
  clear R S hN h0 ha hm hb hu hv hu2 hv2 IH
  obtain ⟨M, hM⟩ : ∃ M, M = (a + b) / 2 := ⟨_, rfl⟩
  obtain ⟨n, hn⟩ : ∃ n, n = M + m := ⟨_, rfl⟩
  obtain ⟨P, hP⟩ : ∃ P, P = n - 1 := ⟨_, rfl⟩
  have haM : a < M := by omega
  have hMb : M < b := by omega
  have wma : IntKind.i64.wrap ((m : Int) - (a : Int)) = (m : Int) - (a : Int) := by rw [IntKind.wrap_i64]; omega
  have wma1 : ((m : Int) - (a : Int) == 1) = false := by simp; omega
  have wbm : IntKind.i64.wrap ((b : Int) - (m : Int)) = (b : Int) - (m : Int) := by rw [IntKind.wrap_i64]; omega
  have wbm1 : ((b : Int) - (m : Int) == 1) = false := by simp; omega
  have wab : IntKind.i64.wrap ((a : Int) + (b : Int)) = (a : Int) + (b : Int) := by rw [IntKind.wrap_i64]; omega
  have eM : ((a : Int) + (b : Int)) / 2 = (M : Int) := by omega
  have en : (M : Int) + (m : Int) = (n : Int) := by omega
  have wn : IntKind.i64.wrap (n : Int) = (n : Int) := by rw [IntKind.wrap_i64]; omega
  have eP : (n : Int) - 1 = (P : Int) := by omega
  have wP : IntKind.i64.wrap (P : Int) = (P : Int) := by rw [IntKind.wrap_i64]; omega
  have hnN : n ≤ N + N := by omega
  have hPn : P + 1 = n := by omega
  have HE : Hid (M = (a + b) / 2 ∧ n = M + m ∧ P = n - 1) := ⟨hM, hn, hP⟩
  obtain ⟨A, B, hA, hAB, hBm, hnA, hnB, HAB, hcase⟩ : ∃ A B : Nat, a ≤ A ∧ A ≤ B ∧ B ≤ m ∧ n ≤ A + b ∧ m + B ≤ n ∧ Hid ((A = a ∨ n = A + b) ∧ (B = m ∨ n = B + m)) ∧ ((M < m ∧ (n : Int) - (b : Int) = (A : Int) ∧ (M : Int) = (B : Int)) ∨ (m ≤ M ∧ (a : Int) = (A : Int) ∧ (m : Int) = (B : Int))) := by
    by_cases h : M < m
    · exact ⟨n - b, M, by omega, by omega, by omega, by omega, by omega, ⟨.inr (by omega), .inr (by omega)⟩, .inl ⟨h, by omega, rfl⟩⟩
    · exact ⟨a, m, by omega, by omega, by omega, by omega, by omega, ⟨.inl rfl, .inl rfl⟩, .inr ⟨by omega, rfl, rfl⟩⟩
  clear hM hn hP
  rcases hcase with ⟨hMm, eA, eB⟩ | ⟨hMm, eA, eB⟩
  case' inl => have wA : IntKind.i64.wrap ((n : Int) - (b : Int)) = (n : Int) - (b : Int) := by rw [IntKind.wrap_i64]; omega
  case' inr => have hd0 : decide (M < m) = false := decide_eq_false (by omega)
  all_goals
    have HEA : Hid _ := eA
    have HEB : Hid _ := eB
    clear eA eB
    go_enter Try.func82, Try.ntmps82
    go_wp2_with fail
    go_loopg [20, 21] (B - A) (fun g vi vj wr => ∃ (i j : Nat), vi = .int .i64 (i : Int) ∧ vj = .int .i64 (j : Int) ∧ A ≤ i ∧ i ≤ j ∧ j ≤ B ∧ j - i ≤ g ∧
      Hid ((i = A ∨ ∃ (h1 : n - i - m < v.length) (h2 : i - 1 - a < u.length), ¬ lt (v[n - i - m]) (u[i - 1 - a])) ∧ (j = B ∨ ∃ (h1 : n - 1 - j - m < v.length) (h2 : j - a < u.length), lt (v[n - 1 - j - m]) (u[j - a]))) ∧
      Hid (St w0 blk off (p ++ u ++ v ++ q) wr))
    case atStart => exact ⟨A, B, by have := HEA.out; first | rfl | (congr 1), by have := HEB.out; first | rfl | (congr 1), Nat.le_refl _, hAB, Nat.le_refl _, Nat.le_refl _, ⟨.inl rfl, .inl rfl⟩, S0.out⟩
    case round =>
      clear S0
      obtain ⟨i, j, rfl, rfl, hmi, hij, hjb, hg, HI, S1⟩ := hrel
      by_cases hlt : i < j
      · obtain ⟨h, hh⟩ : ∃ h, h = (i + j) / 2 := ⟨_, rfl⟩
        have hhi : i ≤ h := by omega
        have hhj : h < j := by omega
        obtain ⟨d, hd0⟩ : ∃ d, d = P - h := ⟨_, rfl⟩
        have w1 : IntKind.i64.wrap ((i : Int) + (j : Int)) = (i : Int) + (j : Int) := by rw [IntKind.wrap_i64]; omega
        have e1 : ((i : Int) + (j : Int)) / 2 = (h : Int) := by omega
        have e2 : (P : Int) - (h : Int) = (d : Int) := by omega
        have w2 : IntKind.i64.wrap (d : Int) = (d : Int) := by rw [IntKind.wrap_i64]; omega
        clear hh
        obtain ⟨dk, hdk⟩ : ∃ dk, dk = (p ++ u ++ v ++ q).toArray := ⟨_, rfl⟩
        have S2 : Hid (SWK enc 5 w0 blk off dk wr) := by show SWK _ _ _ _ _ _ _; rw [hdk]; exact S1.out
        have hzN : dk.size = N := by rw [hdk]; simpa using HA.out.1
        have hz : dk.size = l0.toArray.size := by rw [hzN]; simpa using HA.out.2.1.symm
        have hul : h - a < u.length := by have := HA.out.2.2.2; omega
        have hvl : d - m < v.length := by have := HA.out.2.2.2; omega
        have hdm : m ≤ d := by omega
        obtain ⟨x, hx⟩ : ∃ x, x = u[h - a] := ⟨_, rfl⟩
        obtain ⟨y, hy⟩ : ∃ y, y = v[d - m] := ⟨_, rfl⟩
        have hxd : dk[h]! = x := by
          rw [hdk, hx]
          have := at_place (p := p) (q := v ++ q) (v := u) (i := h) (j := h - a) (by have := HA.out.2.2.1; omega) hul
          simpa using this
        have hyd : dk[d]! = y := by
          rw [hdk, hy]
          have := at_place (p := p ++ u) (q := q) (v := v) (i := d) (j := d - m) (by have := HA.out.2.2; simp; omega) hvl
          simpa using this
        have HDK := Lib.hid hdk
        have HXY : Hid (x = u[h - a] ∧ y = v[d - m]) := ⟨hx, hy⟩
        have HD0 := Lib.hid hd0
        have hhN : h < N := by omega
        have hdN : d < N := by omega
        have LJ := Lib.hid (ldO S2.out RR.out hz h (by omega) x hxd)
        have LP := Lib.hid (ldO S2.out RR.out hz d (by omega) y hyd)
        clear hdk hx hy hxd hyd hd0
        obtain ⟨cv, hcv⟩ : ∃ cv, cv = cf y x := ⟨_, rfl⟩
        have hcg := fun (n : Nat) (os : Array Obj) => closure_cmp y x (grow (wr.drewN n) os)
        rw [← hcv] at hcg
        have HCV := Lib.hid hcv
        clear hcv
        by_cases hlv : cv < 0
        · have hd : decide (cv < 0) = true := decide_eq_true hlv
          go_wp2_with fail
          refine wp_region_quiet_grown (by assumption) (by kernel_rfl) ?_
          iterate 6 (quiet_step (fail))
          (refine wpQuiet_load (by kernel_rfl) 52 _ rfl (.pointer (some ⟨blk, off + d * 5, none⟩)) (.agg (enA y)) (by rfl) (fun w' h => by obtain ⟨p, rfl⟩ := h; exact LP.out _ _) ?_; simp only [Act.put, List.setIfInBounds_toArray, List.set_cons_zero, List.set_cons_succ])
          iterate 3 (quiet_step (fail))
          (refine wpQuiet_load (by kernel_rfl) 52 _ rfl (.pointer (some ⟨blk, off + h * 5, none⟩)) (.agg (enA x)) (by rfl) (fun w' h => by obtain ⟨p, rfl⟩ := h; exact LJ.out _ _) ?_; simp only [Act.put, List.setIfInBounds_toArray, List.set_cons_zero, List.set_cons_succ])
          repeat (quiet_step (first | (go_at_fn 40; refine Calls.grown_of (hcg _ _))))
          refine wpQuiet_nil ?_
          intro _ hw'
          obtain ⟨⟨nq, osq⟩, hw''⟩ := hw'
          subst hw''
          have S3 := Lib.hid (S2.out.grown nq osq)
          clear LJ LP hcg S2 S1
          generalize grow (wr.drewN nq) osq = wq at S3 ⊢
          go_wp2_with fail
          go_roundg (h - i)
          case measure => omega
          case rel =>
            refine ⟨i, h, rfl, rfl, hmi, hhi, by omega, Nat.le_refl _, ⟨HI.out.1, .inr ⟨by have := HD0.out; omega, hul, ?_⟩⟩, ?_⟩
            · have e : n - 1 - h - m = d - m := by have := HD0.out; omega
              simp only [e]
              rw [← HXY.out.1, ← HXY.out.2]
              rw [HCV.out] at hlv
              exact (cf_neg _ _).1 hlv
            · show St _ _ _ _ _
              have h := S3.out
              rw [HDK.out] at h
              exact h
        · have hd : decide (cv < 0) = false := decide_eq_false hlv
          go_wp2_with fail
          refine wp_region_quiet_grown (by assumption) (by kernel_rfl) ?_
          iterate 6 (quiet_step (fail))
          (refine wpQuiet_load (by kernel_rfl) 52 _ rfl (.pointer (some ⟨blk, off + d * 5, none⟩)) (.agg (enA y)) (by rfl) (fun w' h => by obtain ⟨p, rfl⟩ := h; exact LP.out _ _) ?_; simp only [Act.put, List.setIfInBounds_toArray, List.set_cons_zero, List.set_cons_succ])
          iterate 3 (quiet_step (fail))
          (refine wpQuiet_load (by kernel_rfl) 52 _ rfl (.pointer (some ⟨blk, off + h * 5, none⟩)) (.agg (enA x)) (by rfl) (fun w' h => by obtain ⟨p, rfl⟩ := h; exact LJ.out _ _) ?_; simp only [Act.put, List.setIfInBounds_toArray, List.set_cons_zero, List.set_cons_succ])
          repeat (quiet_step (first | (go_at_fn 40; refine Calls.grown_of (hcg _ _))))
          refine wpQuiet_nil ?_
          intro _ hw'
          obtain ⟨⟨nq, osq⟩, hw''⟩ := hw'
          subst hw''
          have S3 := Lib.hid (S2.out.grown nq osq)
          clear LJ LP hcg S2 S1
          generalize grow (wr.drewN nq) osq = wq at S3 ⊢
          go_wp2_with fail
          go_roundg (j - (h + 1))
          case measure => omega
          case rel =>
            refine ⟨h + 1, j, by go_num, rfl, by omega, by omega, hjb, Nat.le_refl _, ⟨.inr ⟨by have := HD0.out; omega, by omega, ?_⟩, HI.out.2⟩, ?_⟩
            · have e : n - (h + 1) - m = d - m := by have := HD0.out; omega
              have e' : h + 1 - 1 - a = h - a := by omega
              simp only [e, e']
              rw [← HXY.out.1, ← HXY.out.2]
              rw [HCV.out] at hlv
              exact fun e => absurd ((cf_neg _ _).2 e) (by omega)
            · show St _ _ _ _ _
              have h := S3.out
              rw [HDK.out] at h
              exact h
      · obtain rfl : i = j := by omega
        obtain ⟨e, he⟩ : ∃ e, e = n - i := ⟨_, rfl⟩
        have ee : (n : Int) - (i : Int) = (e : Int) := by omega
        have we : IntKind.i64.wrap (e : Int) = (e : Int) := by rw [IntKind.wrap_i64]; omega
        have heb : e ≤ b := by omega
        have hme : m ≤ e := by omega
        have hein : e + i = n := by omega
        obtain ⟨u1, hu1⟩ : ∃ u1, u1 = u.take (i - a) := ⟨_, rfl⟩
        obtain ⟨u2, hu2⟩ : ∃ u2, u2 = u.drop (i - a) := ⟨_, rfl⟩
        obtain ⟨v1, hv1⟩ : ∃ v1, v1 = v.take (e - m) := ⟨_, rfl⟩
        obtain ⟨v2, hv2⟩ : ∃ v2, v2 = v.drop (e - m) := ⟨_, rfl⟩
        have HX : Hid (u1 ++ u2 = u ∧ v1 ++ v2 = v ∧ a + u1.length = i ∧ i + u2.length = m ∧ m + v1.length = e ∧ e + v2.length = b ∧ i + v1.length = M ∧ M + u2.length = e ∧ (∀ x ∈ u2, ∀ y ∈ v1, lt y x) ∧ (∀ x ∈ u1, ∀ y ∈ v2, ¬ lt y x) ∧ Sorted u1 ∧ Sorted u2 ∧ Sorted v1 ∧ Sorted v2) := by
          obtain ⟨h1, h2, h3, h4, h5⟩ := HA.out
          obtain ⟨g1, g2, g3⟩ := HE.out
          have hc := cut_cross (cu := i - a) (cv := e - m) HU.out HV.out (by
            rcases HI.out.2 with h | ⟨k1, k2, k3⟩
            · rcases HAB.out.2 with g | g
              · exact .inl (by omega)
              · exact .inr (.inl (by omega))
            · refine .inr (.inr ⟨by omega, k2, ?_⟩)
              have e9 : e - m - 1 = n - 1 - i - m := by omega
              simp only [e9]
              exact k3) (by
            rcases HI.out.1 with h | ⟨k1, k2, k3⟩
            · rcases HAB.out.1 with g | g
              · exact .inl (by omega)
              · exact .inr (.inl (by omega))
            · refine .inr (.inr ⟨by omega, by omega, ?_⟩)
              have e9 : e - m = n - i - m := by omega
              have e8 : i - a - 1 = i - 1 - a := by omega
              simp only [e9, e8]
              exact k3)
          rw [← hu1, ← hu2, ← hv1, ← hv2] at hc
          refine ⟨by rw [hu1, hu2, List.take_append_drop], by rw [hv1, hv2, List.take_append_drop], by rw [hu1, List.length_take]; omega, by rw [hu2, List.length_drop]; omega, by rw [hv1, List.length_take]; omega, by rw [hv2, List.length_drop]; omega, by rw [hv1, List.length_take]; omega, by rw [hu2, List.length_drop]; omega, hc.1, hc.2, ?_, ?_, ?_, ?_⟩
          · rw [hu1]; exact HU.out.tk _
          · rw [hu2]; exact HU.out.dr _
          · rw [hv1]; exact HV.out.tk _
          · rw [hv2]; exact HV.out.dr _
        clear he hu1 hu2 hv1 hv2
        have S2 : Hid (St w0 blk off (p ++ u1 ++ u2 ++ v1 ++ (v2 ++ q)) wr) := by
          have h := S1.out
          rw [← HX.out.1, ← HX.out.2.1] at h
          show St _ _ _ _ _
          simpa using h
        have HNL : Hid ((p ++ u1 ++ u2 ++ v1 ++ (v2 ++ q)).length = N) := by
          have h := HA.out.1
          rw [← HX.out.1, ← HX.out.2.1] at h
          show _ = _
          simp at h ⊢
          omega
        have ROT : Hid (i < m → i < M → ∀ W, St w0 blk off (p ++ u1 ++ u2 ++ v1 ++ (v2 ++ q)) W → Calls Try.prog 94 #[.slice (some ⟨blk, off, none⟩) N cap, .int .i64 (i : Int), .int .i64 (m : Int), .int .i64 (e : Int), fvC] W fun e w' => e = .returned (.tuple #[]) ∧ St w0 blk off (p ++ u1 ++ v1 ++ u2 ++ (v2 ++ q)) w') := by
          intro h1 h2 W hW
          obtain ⟨_, _, k1, k2, k3, k4, k5, k6, _⟩ := HX.out
          have k7 := HA.out.2.2.1
          exact rotate_any w0 W blk off cap l0 (p ++ u1) u2 v1 (v2 ++ q) i m e N fvC RR.out hW HNL.out HA.out.2.1 (by simp; omega) (by simp; omega) (by simp; omega) (by omega) (by omega) hsz
        have NOROT : Hid ((m ≤ i ∨ M ≤ i) → ∀ W, St w0 blk off (p ++ u1 ++ u2 ++ v1 ++ (v2 ++ q)) W → St w0 blk off (p ++ u1 ++ v1 ++ u2 ++ (v2 ++ q)) W) := by
          intro h W hW
          obtain ⟨_, _, k1, k2, k3, k4, k5, k6, _⟩ := HX.out
          rcases h with h | h
          · obtain rfl : u2 = [] := List.eq_nil_of_length_eq_zero (by omega)
            simpa using hW
          · obtain rfl : v1 = [] := List.eq_nil_of_length_eq_zero (by omega)
            simpa using hW
        have REC1 : Hid (a < i → i < M → ∀ W, St w0 blk off (p ++ u1 ++ v1 ++ u2 ++ (v2 ++ q)) W → Calls Try.prog 82 #[.slice (some ⟨blk, off, none⟩) N cap, .int .i64 (a : Int), .int .i64 (i : Int), .int .i64 (M : Int), fvC] W (Merged w0 blk off p u1 v1 (u2 ++ v2 ++ q))) := by
          intro h1 h2 W hW
          obtain ⟨j1, j2, k1, k2, k3, k4, k5, k6, _, _, s1, s2, s3, s4⟩ := HX.out
          have k7 := HA.out.2.2.1
          have k8 := congrArg List.length j1
          have k9 := congrArg List.length j2
          have k10 := HNL.out
          simp at k8 k9 k10
          exact HIH.out p u1 v1 (u2 ++ v2 ++ q) a i M W (by omega) (by omega) (by omega) s1 s3 (by simp; omega) k7 k1 k5 (by simpa using hW)
        have NOREC1 : Hid ((i ≤ a ∨ M ≤ i) → Sorted (u1 ++ v1)) := by
          intro h
          obtain ⟨j1, j2, k1, k2, k3, k4, k5, k6, _, _, s1, s2, s3, s4⟩ := HX.out
          rcases h with h | h
          · obtain rfl : u1 = [] := List.eq_nil_of_length_eq_zero (by omega)
            simpa using s3
          · obtain rfl : v1 = [] := List.eq_nil_of_length_eq_zero (by omega)
            simpa using s1
        have REC2 : Hid (i < m → e < b → ∀ s1 : List El, s1.length = u1.length + v1.length → ∀ W, St w0 blk off (p ++ s1 ++ (u2 ++ v2 ++ q)) W → Calls Try.prog 82 #[.slice (some ⟨blk, off, none⟩) N cap, .int .i64 (M : Int), .int .i64 (e : Int), .int .i64 (b : Int), fvC] W (Merged w0 blk off (p ++ s1) u2 v2 q)) := by
          intro h1 h2 s hs W hW
          obtain ⟨j1, j2, k1, k2, k3, k4, k5, k6, _, _, s1, s2, s3, s4⟩ := HX.out
          have k7 := HA.out.2.2.1
          have k8 := congrArg List.length j1
          have k9 := congrArg List.length j2
          have k10 := HNL.out
          simp at k8 k9 k10
          exact HIH.out (p ++ s) u2 v2 q M e b W (by omega) (by omega) (by omega) s2 s4 (by simp; omega) (by simp; omega) (by omega) (by omega) (by simpa using hW)
        have NOREC2 : Hid ((m ≤ i ∨ b ≤ e) → Sorted (u2 ++ v2)) := by
          intro h
          obtain ⟨j1, j2, k1, k2, k3, k4, k5, k6, _, _, s1, s2, s3, s4⟩ := HX.out
          rcases h with h | h
          · obtain rfl : u2 = [] := List.eq_nil_of_length_eq_zero (by omega)
            simpa using s4
          · obtain rfl : v2 = [] := List.eq_nil_of_length_eq_zero (by omega)
            simpa using s2
        have FIN : Hid (∀ s1 s2 : List El, s1.length = u1.length + v1.length → Sorted s1 → Same1 (u1 ++ v1) s1 → s2.length = u2.length + v2.length → Sorted s2 → Same1 (u2 ++ v2) s2 → ∀ W, St w0 blk off (p ++ s1 ++ s2 ++ q) W → Merged w0 blk off p u v q (.returned (.tuple #[])) W) := by
          intro s1 s2 l1 o1 m1 l2 o2 m2 W hW
          obtain ⟨j1, j2, k1, k2, k3, k4, k5, k6, c1, c2, _⟩ := HX.out
          have hd := merge_done (by rw [j1]; exact HU.out) (by rw [j2]; exact HV.out) c1 c2 o1 o2 m1 m2
          rw [j1, j2] at hd
          have k8 := congrArg List.length j1
          have k9 := congrArg List.length j2
          simp at k8 k9
          exact Merged.mk (s := s1 ++ s2) (by simp; omega) hd.1 hd.2 (by simpa using hW)
        clear S1 wma wma1 wbm wbm1 wab eM en wn eP wP
        rcases (by omega : (i < m ∧ i < M) ∨ (i < m ∧ M ≤ i) ∨ (m ≤ i ∧ i < M) ∨ (m ≤ i ∧ M ≤ i)) with ⟨c3, c2⟩ | ⟨c3, c2⟩ | ⟨c3, c2⟩ | ⟨c3, c2⟩
        · have q1 : M < e := by have := HE.out; omega
          have q2 : m < e := by have := HE.out; omega
          first
          | (exfalso; omega)
          | (skip
             have C := Lib.hid (ROT.out c3 c2 wr S2.out)
             go_wp2_with fail
             refine C.out.mono ?_
             rintro e1 wq ⟨rfl, S3⟩
             have S3 := Lib.hid S3
             clear C
             by_cases c1 : a < i
             · have C := Lib.hid (REC1.out c1 c2 _ S3.out)
               go_wp2_with fail
               refine C.out.mono ?_
               rintro e1 wq2 ⟨rfl, s1, l1, o1, m1, S4⟩
               have T1 : Hid (s1.length = u1.length + v1.length ∧ Sorted s1 ∧ Same1 (u1 ++ v1) s1) := ⟨l1, o1, m1⟩
               have S4 := Lib.hid S4
               clear C l1 o1 m1
               by_cases c4 : e < b
               · first
                 | (exfalso; omega)
                 | (have C := Lib.hid (REC2.out c3 c4 s1 T1.out.1 _ S4.out)
                    go_wp2_with fail
                    refine C.out.mono ?_
                    rintro e1 wq3 ⟨rfl, s2, l2, o2, m2, S5⟩
                    have T2 : Hid (s2.length = u2.length + v2.length ∧ Sorted s2 ∧ Same1 (u2 ++ v2) s2) := ⟨l2, o2, m2⟩
                    have S5 := Lib.hid S5
                    clear C l2 o2 m2
                    go_wp2
                    first | go_end0 | refine bodyPost_ret (results_none rfl _ _ _) rfl ?_
                    exact FIN.out s1 s2 T1.out.1 T1.out.2.1 T1.out.2.2 T2.out.1 T2.out.2.1 T2.out.2.2 _ S5.out)
               · first
                 | (exfalso; omega)
                 | (have c4 : b ≤ e := by omega
                    obtain ⟨s2, T2, S5⟩ : ∃ s2, Hid (s2.length = u2.length + v2.length ∧ Sorted s2 ∧ Same1 (u2 ++ v2) s2) ∧ Hid (St w0 blk off (p ++ s1 ++ s2 ++ q) wq2) := ⟨u2 ++ v2, ⟨by simp, NOREC2.out (by omega), Same1.refl _⟩, by have := S4.out; show St _ _ _ _ _; simpa using this⟩
                    go_wp2
                    first | go_end0 | refine bodyPost_ret (results_none rfl _ _ _) rfl ?_
                    exact FIN.out s1 s2 T1.out.1 T1.out.2.1 T1.out.2.2 T2.out.1 T2.out.2.1 T2.out.2.2 _ S5.out)
             · have c1 : i ≤ a := by omega
               obtain ⟨s1, T1, S4⟩ : ∃ s1, Hid (s1.length = u1.length + v1.length ∧ Sorted s1 ∧ Same1 (u1 ++ v1) s1) ∧ Hid (St w0 blk off (p ++ s1 ++ (u2 ++ v2 ++ q)) wq) := ⟨u1 ++ v1, ⟨by simp, NOREC1.out (by omega), Same1.refl _⟩, by have := S3.out; show St _ _ _ _ _; simpa using this⟩
               by_cases c4 : e < b
               · first
                 | (exfalso; omega)
                 | (have C := Lib.hid (REC2.out c3 c4 s1 T1.out.1 _ S4.out)
                    go_wp2_with fail
                    refine C.out.mono ?_
                    rintro e1 wq3 ⟨rfl, s2, l2, o2, m2, S5⟩
                    have T2 : Hid (s2.length = u2.length + v2.length ∧ Sorted s2 ∧ Same1 (u2 ++ v2) s2) := ⟨l2, o2, m2⟩
                    have S5 := Lib.hid S5
                    clear C l2 o2 m2
                    go_wp2
                    first | go_end0 | refine bodyPost_ret (results_none rfl _ _ _) rfl ?_
                    exact FIN.out s1 s2 T1.out.1 T1.out.2.1 T1.out.2.2 T2.out.1 T2.out.2.1 T2.out.2.2 _ S5.out)
               · first
                 | (exfalso; omega)
                 | (have c4 : b ≤ e := by omega
                    obtain ⟨s2, T2, S5⟩ : ∃ s2, Hid (s2.length = u2.length + v2.length ∧ Sorted s2 ∧ Same1 (u2 ++ v2) s2) ∧ Hid (St w0 blk off (p ++ s1 ++ s2 ++ q) wq) := ⟨u2 ++ v2, ⟨by simp, NOREC2.out (by omega), Same1.refl _⟩, by have := S4.out; show St _ _ _ _ _; simpa using this⟩
                    go_wp2
                    first | go_end0 | refine bodyPost_ret (results_none rfl _ _ _) rfl ?_
                    exact FIN.out s1 s2 T1.out.1 T1.out.2.1 T1.out.2.2 T2.out.1 T2.out.2.1 T2.out.2.2 _ S5.out))
        · have q1 : M < e := by have := HE.out; omega
          have q2 : e ≤ m := by have := HE.out; omega
          first
          | (exfalso; omega)
          | (skip
             have S3 := Lib.hid (NOROT.out (by omega) wr S2.out)
             generalize wr = wq at S3 ⊢
             obtain ⟨s1, T1, S4⟩ : ∃ s1, Hid (s1.length = u1.length + v1.length ∧ Sorted s1 ∧ Same1 (u1 ++ v1) s1) ∧ Hid (St w0 blk off (p ++ s1 ++ (u2 ++ v2 ++ q)) wq) := ⟨u1 ++ v1, ⟨by simp, NOREC1.out (by omega), Same1.refl _⟩, by have := S3.out; show St _ _ _ _ _; simpa using this⟩
             by_cases c4 : e < b
             · first
               | (exfalso; omega)
               | (have C := Lib.hid (REC2.out c3 c4 s1 T1.out.1 _ S4.out)
                  go_wp2_with fail
                  refine C.out.mono ?_
                  rintro e1 wq3 ⟨rfl, s2, l2, o2, m2, S5⟩
                  have T2 : Hid (s2.length = u2.length + v2.length ∧ Sorted s2 ∧ Same1 (u2 ++ v2) s2) := ⟨l2, o2, m2⟩
                  have S5 := Lib.hid S5
                  clear C l2 o2 m2
                  go_wp2
                  first | go_end0 | refine bodyPost_ret (results_none rfl _ _ _) rfl ?_
                  exact FIN.out s1 s2 T1.out.1 T1.out.2.1 T1.out.2.2 T2.out.1 T2.out.2.1 T2.out.2.2 _ S5.out)
             · first
               | (exfalso; omega)
               | (have c4 : b ≤ e := by omega
                  obtain ⟨s2, T2, S5⟩ : ∃ s2, Hid (s2.length = u2.length + v2.length ∧ Sorted s2 ∧ Same1 (u2 ++ v2) s2) ∧ Hid (St w0 blk off (p ++ s1 ++ s2 ++ q) wq) := ⟨u2 ++ v2, ⟨by simp, NOREC2.out (by omega), Same1.refl _⟩, by have := S4.out; show St _ _ _ _ _; simpa using this⟩
                  go_wp2
                  first | go_end0 | refine bodyPost_ret (results_none rfl _ _ _) rfl ?_
                  exact FIN.out s1 s2 T1.out.1 T1.out.2.1 T1.out.2.2 T2.out.1 T2.out.2.1 T2.out.2.2 _ S5.out))
        · have q1 : e ≤ M := by have := HE.out; omega
          have q2 : m < e := by have := HE.out; omega
          first
          | (exfalso; omega)
          | (skip
             have S3 := Lib.hid (NOROT.out (by omega) wr S2.out)
             generalize wr = wq at S3 ⊢
             have c1 : a < i := by omega
             have C := Lib.hid (REC1.out c1 c2 _ S3.out)
             go_wp2_with fail
             refine C.out.mono ?_
             rintro e1 wq2 ⟨rfl, s1, l1, o1, m1, S4⟩
             have T1 : Hid (s1.length = u1.length + v1.length ∧ Sorted s1 ∧ Same1 (u1 ++ v1) s1) := ⟨l1, o1, m1⟩
             have S4 := Lib.hid S4
             clear C l1 o1 m1
             obtain ⟨s2, T2, S5⟩ : ∃ s2, Hid (s2.length = u2.length + v2.length ∧ Sorted s2 ∧ Same1 (u2 ++ v2) s2) ∧ Hid (St w0 blk off (p ++ s1 ++ s2 ++ q) wq2) := ⟨u2 ++ v2, ⟨by simp, NOREC2.out (by omega), Same1.refl _⟩, by have := S4.out; show St _ _ _ _ _; simpa using this⟩
             go_wp2
             first | go_end0 | refine bodyPost_ret (results_none rfl _ _ _) rfl ?_
             exact FIN.out s1 s2 T1.out.1 T1.out.2.1 T1.out.2.2 T2.out.1 T2.out.2.1 T2.out.2.2 _ S5.out)
        · have q1 : e ≤ M := by have := HE.out; omega
          have q2 : e ≤ m := by have := HE.out; omega
          first
          | (exfalso; omega)
          | (skip
             have S3 := Lib.hid (NOROT.out (by omega) wr S2.out)
             generalize wr = wq at S3 ⊢
             obtain ⟨s1, T1, S4⟩ : ∃ s1, Hid (s1.length = u1.length + v1.length ∧ Sorted s1 ∧ Same1 (u1 ++ v1) s1) ∧ Hid (St w0 blk off (p ++ s1 ++ (u2 ++ v2 ++ q)) wq) := ⟨u1 ++ v1, ⟨by simp, NOREC1.out (by omega), Same1.refl _⟩, by have := S3.out; show St _ _ _ _ _; simpa using this⟩
             obtain ⟨s2, T2, S5⟩ : ∃ s2, Hid (s2.length = u2.length + v2.length ∧ Sorted s2 ∧ Same1 (u2 ++ v2) s2) ∧ Hid (St w0 blk off (p ++ s1 ++ s2 ++ q) wq) := ⟨u2 ++ v2, ⟨by simp, NOREC2.out (by omega), Same1.refl _⟩, by have := S4.out; show St _ _ _ _ _; simpa using this⟩
             go_wp2
             first | go_end0 | refine bodyPost_ret (results_none rfl _ _ _) rfl ?_
             exact FIN.out s1 s2 T1.out.1 T1.out.2.1 T1.out.2.2 T2.out.1 T2.out.2.1 T2.out.2.2 _ S5.out)

theorem sym_any (w0 : World) (blk off cap : Nat) (l0 : List El) (N : Nat) (R : RowL w0 blk off l0) (h0 : l0.length = N) (hsz : N < 4611686018427387904) : ∀ (n : Nat) (p u v q : List El) (a m b : Nat) (w : World), u.length + v.length ≤ n → 0 < u.length → 0 < v.length → Sorted u → Sorted v → (p ++ u ++ v ++ q).length = N → p.length = a → a + u.length = m → m + v.length = b → St w0 blk off (p ++ u ++ v ++ q) w →
      Calls Try.prog 82 #[.slice (some ⟨blk, off, none⟩) N cap, .int .i64 (a : Int), .int .i64 (m : Int), .int .i64 (b : Int), fvC] w (Merged w0 blk off p u v q) := by
  intro n
  induction n with
  | zero => intros; omega
  | succ n ih =>
    intro p u v q a m b w hn hu hv su sv hN ha hm hb S
    by_cases h1 : u.length = 1
    · obtain ⟨x, rfl⟩ := List.length_eq_one_iff.1 h1
      have := sym_front w0 w blk off cap l0 p v q x a b N R S sv hN h0 ha (by simp at hm; omega) hsz
      rw [← hm]
      exact this
    · by_cases h2 : v.length = 1
      · obtain ⟨x, rfl⟩ := List.length_eq_one_iff.1 h2
        have := sym_back w0 w blk off cap l0 p u q x a m N R S su (by omega) hN h0 ha hm hsz
        rw [← hb]
        exact this
      · exact sym_step w0 w blk off cap l0 p u v q a m b N R S su sv (by omega) (by omega) hN h0 ha hm hb hsz (fun p' u' v' q' a' m' b' W h3 h4 h5 h6 h7 h8 h9 h10 h11 h12 => ih p' u' v' q' a' m' b' W (by omega) h4 h5 h6 h7 h8 h9 h10 h11 h12)

/-- Rows of so many, each sorted, one behind the other; the last one may be shorter. -/
inductive Runs (bs : Nat) : List El → Prop
  | short (l : List El) : l.length ≤ bs → Sorted l → Runs bs l
  | cons (s t : List El) : s.length = bs → Sorted s → Runs bs t → Runs bs (s ++ t)
theorem Runs.cut {bs : Nat} {l : List El} (h : Runs bs l) (hl : bs ≤ l.length) : ∃ s t, l = s ++ t ∧ s.length = bs ∧ Sorted s ∧ Runs bs t := by
  cases h with
  | short _ h1 h2 => exact ⟨l, [], by simp, by omega, h2, .short [] (by simp) Sorted.nil⟩
  | cons s t h1 h2 h3 => exact ⟨s, t, rfl, h1, h2, h3⟩
theorem Runs.sorted {bs : Nat} {l : List El} (h : Runs bs l) (hl : l.length ≤ bs) : Sorted l := by
  cases h with
  | short _ h1 h2 => exact h2
  | cons s t h1 h2 h3 =>
    rw [List.length_append] at hl
    obtain rfl : t = [] := List.eq_nil_of_length_eq_zero (by omega)
    simpa using h2
def Full (bs : Nat) (A : List El) : Prop := ∀ t, Runs bs t → Runs bs (A ++ t)
theorem Full.nil (bs : Nat) : Full bs [] := fun t h => h
theorem Full.more {bs : Nat} {A s : List El} (h : Full bs A) (hs : s.length = bs) (ss : Sorted s) : Full bs (A ++ s) := fun t ht => by
  rw [List.append_assoc]
  exact h _ (.cons s t hs ss ht)

set_option maxHeartbeats 4000000 in
set_option maxRecDepth 1000000 in
theorem stable_any (w : World) (blk off cap : Nat) (l : List El) (N : Nat) (R : RowL w blk off l) (S : St w blk off l w) (hN : l.length = N) (hsz : N < 1000000) :
    Calls Try.prog 64 #[.slice (some ⟨blk, off, none⟩) N cap, .int .i64 (N : Int), fvC] w fun e w' => e = .returned (.tuple #[]) ∧ ∃ s, s.length = l.length ∧ Sorted s ∧ Same1 l s ∧ St w blk off s w' := by
  have RR := Lib.hid R
  have S0 := Lib.hid S
  have HN := Lib.hid hN
  clear R S hN
  go_enter Try.func64, Try.ntmps64
  go_wp2_with fail
  go_loopg [7, 8] N (fun g va vb wr => ∃ (a bb : Nat) (A B : List El), va = .int .i64 (a : Int) ∧ vb = .int .i64 (bb : Int) ∧ a ≤ N ∧ N - a ≤ g ∧ bb ≤ a + 20 ∧ Hid (bb = a + 20 ∧ A.length = a ∧ A.length + B.length = N ∧ Full 20 A ∧ Same1 l (A ++ B)) ∧ Hid (St w blk off (A ++ B) wr))
  case atStart => exact ⟨0, 20, [], l, rfl, rfl, Nat.zero_le _, by omega, Nat.le_refl _, ⟨rfl, rfl, by have := HN.out; simpa using this, Full.nil _, Same1.refl _⟩, S0.out⟩
  case round =>
    clear S0
    obtain ⟨a, bb, A, B, rfl, rfl, haN, hg, hba, HI, S1⟩ := hrel
    by_cases hlt : bb ≤ N
    · have C : Calls Try.prog 81 #[.slice (some ⟨blk, off, none⟩) N cap, .int .i64 (a : Int), .int .i64 (bb : Int), fvC] wr fun e w' => e = .returned (.tuple #[]) ∧ ∃ s', s'.length = 20 ∧ Sorted s' ∧ Same1 (B.take 20) s' ∧ St w blk off (A ++ s' ++ B.drop 20) w' := by
        obtain ⟨h0, h1, h2, h3, h4⟩ := HI.out
        have e : A ++ B.take 20 ++ B.drop 20 = A ++ B := by rw [List.append_assoc, List.take_append_drop]
        have ht : (B.take 20).length = 20 := by rw [List.length_take]; omega
        have h := insertion_any w wr blk off cap l A (B.take 20) (B.drop 20) a bb N RR.out (by rw [e]; exact S1.out) (by rw [e, List.length_append]; exact h2) HN.out h1 (by omega) (by omega)
        rw [ht] at h
        exact h
      have C := Lib.hid C
      obtain ⟨cc, hcc⟩ : ∃ cc, cc = bb + 20 := ⟨_, rfl⟩
      have e1 : (bb : Int) + 20 = (cc : Int) := by omega
      have w1 : IntKind.i64.wrap (cc : Int) = (cc : Int) := by rw [IntKind.wrap_i64]; omega
      have hcb : cc ≤ bb + 20 := by omega
      have HCC := Lib.hid hcc
      clear S1 hcc
      go_wp2_with fail
      refine C.out.mono ?_
      rintro e w1 ⟨rfl, s', hl, hs, hm, S2⟩
      have T : Hid (s'.length = 20 ∧ Sorted s' ∧ Same1 (B.take 20) s') := ⟨hl, hs, hm⟩
      have S2 := Lib.hid S2
      clear hl hs hm C
      go_wp2_with fail
      go_roundg (N - bb)
      case measure => have := HI.out.1; omega
      case rel =>
        refine ⟨bb, cc, A ++ s', B.drop 20, rfl, rfl, hlt, Nat.le_refl _, hcb, ?_, ?_⟩
        · obtain ⟨h0, h1, h2, h3, h4⟩ := HI.out
          obtain ⟨g1, g2, g3⟩ := T.out
          refine ⟨HCC.out, by rw [List.length_append]; omega, by rw [List.length_append, List.length_drop]; omega, h3.more g1 g2, h4.trans ?_⟩
          have := Same1.mid g3 A (B.drop 20)
          rw [List.append_assoc, List.take_append_drop] at this
          exact this
        · exact S2.out
    · -- the last row; then the merges
      have hlt : N < bb := by omega
      have C : Calls Try.prog 81 #[.slice (some ⟨blk, off, none⟩) N cap, .int .i64 (a : Int), .int .i64 (N : Int), fvC] wr fun e w' => e = .returned (.tuple #[]) ∧ ∃ L, L.length = N ∧ Runs 20 L ∧ Same1 l L ∧ St w blk off L w' := by
        obtain ⟨h0, h1, h2, h3, h4⟩ := HI.out
        refine (insertion_any w wr blk off cap l A B [] a N N RR.out (by rw [List.append_nil]; exact S1.out) (by rw [List.append_nil, List.length_append]; exact h2) HN.out h1 (by omega) (by omega)).mono ?_
        rintro e w1 ⟨rfl, s', hl, hs, hm, S2⟩
        refine ⟨rfl, A ++ s', by rw [List.length_append]; omega, h3 _ (.short s' (by omega) hs), h4.trans (Same1.app (Same1.refl A) hm), by simpa using S2⟩
      have C := Lib.hid C
      clear S1
      go_wp2_with fail
      refine C.out.mono ?_
      rintro e w1 ⟨rfl, L, hl, hr, hm, S2⟩
      have T : Hid (L.length = N ∧ Runs 20 L ∧ Same1 l L) := ⟨hl, hr, hm⟩
      have S2 := Lib.hid S2
      clear hl hr hm C HI
      go_wp2_with fail
      go_loopg [6, 7, 8, 9] N (fun g vs va vb vm wr => ∃ (bs : Nat) (L : List El), vs = .int .i64 (bs : Int) ∧ 20 ≤ bs ∧ bs ≤ 2 * N + 20 ∧ N - bs ≤ g ∧ Hid (L.length = N ∧ Runs bs L ∧ Same1 l L) ∧ Hid (St w blk off L wr))
      case atStart => exact ⟨20, L, rfl, Nat.le_refl _, by omega, by omega, T.out, S2.out⟩
      case round =>
        clear S2 T
        obtain ⟨bs, L, rfl, h20, hbs, hg2, T, S2⟩ := hrel
        by_cases hlt2 : bs < N
        · obtain ⟨ds, hds⟩ : ∃ ds, ds = 2 * bs := ⟨_, rfl⟩
          have e1 : 2 * (bs : Int) = (ds : Int) := by omega
          have e1' : (bs : Int) * 2 = (ds : Int) := by omega
          have w1 : IntKind.i64.wrap (ds : Int) = (ds : Int) := by rw [IntKind.wrap_i64]; omega
          have hdsN : ds ≤ 2 * N := by omega
          have hbds : bs < ds := by omega
          have HDS := Lib.hid hds
          clear hds
          go_wp2_with fail
          have hgk : N - ds < N - bs := by omega
          go_loopg [7, 8] N (fun g va vb wr => ∃ (a bb : Nat) (A B : List El), va = .int .i64 (a : Int) ∧ vb = .int .i64 (bb : Int) ∧ a ≤ N ∧ N - a ≤ g ∧ bb ≤ a + ds ∧ Hid (bb = a + ds ∧ A.length = a ∧ A.length + B.length = N ∧ Full ds A ∧ Runs bs B ∧ Same1 l (A ++ B)) ∧ Hid (St w blk off (A ++ B) wr))
          case atStart => exact ⟨0, ds, [], L, rfl, rfl, Nat.zero_le _, by omega, by omega, ⟨by omega, rfl, by have := T.out.1; simpa using this, Full.nil _, T.out.2.1, T.out.2.2⟩, S2.out⟩
          case round =>
            clear S2 T
            obtain ⟨a, bb, A, B, rfl, rfl, haN2, hg3, hba2, HI, S3⟩ := hrel
            obtain ⟨mm, hmm⟩ : ∃ mm, mm = a + bs := ⟨_, rfl⟩
            have e2 : (a : Int) + (bs : Int) = (mm : Int) := by omega
            have w2 : IntKind.i64.wrap (mm : Int) = (mm : Int) := by rw [IntKind.wrap_i64]; omega
            have hmmN : mm ≤ a + bs := by omega
            have HMM := Lib.hid hmm
            clear hmm
            by_cases hlt3 : bb ≤ N
            · have C : Calls Try.prog 82 #[.slice (some ⟨blk, off, none⟩) N cap, .int .i64 (a : Int), .int .i64 (mm : Int), .int .i64 (bb : Int), fvC] wr fun e w' => e = .returned (.tuple #[]) ∧ ∃ s t, s.length = ds ∧ Sorted s ∧ Runs bs t ∧ Same1 l (A ++ s ++ t) ∧ (A ++ s).length + t.length = N ∧ St w blk off (A ++ s ++ t) w' := by
                obtain ⟨h0, h1, h2, h3, h4, h5⟩ := HI.out
                have j1 := HDS.out
                have j2 := HMM.out
                obtain ⟨s1, t1, rfl, k1, k2, k3⟩ := h4.cut (by omega)
                rw [List.length_append] at h2
                obtain ⟨s2, t2, rfl, k4, k5, k6⟩ := k3.cut (by omega)
                rw [List.length_append] at h2
                refine (sym_any w blk off cap l N RR.out HN.out (by omega) _ A s1 s2 t2 a mm bb wr (Nat.le_refl _) (by omega) (by omega) k2 k5 (by simp; omega) h1 (by omega) (by omega) (by have := S3.out; simpa [Hid] using this)).mono ?_
                rintro e w1 ⟨rfl, s, g1, g2, g3, g4⟩
                refine ⟨rfl, s, t2, by omega, g2, k6, h5.trans ?_, by simp; omega, g4⟩
                have := Same1.mid g3 A t2
                simpa using this
              have C := Lib.hid C
              obtain ⟨cc, hcc⟩ : ∃ cc, cc = bb + ds := ⟨_, rfl⟩
              have e3 : (bb : Int) + (ds : Int) = (cc : Int) := by omega
              have w3 : IntKind.i64.wrap (cc : Int) = (cc : Int) := by rw [IntKind.wrap_i64]; omega
              have hcb : cc ≤ bb + ds := by omega
              have HCC := Lib.hid hcc
              clear S3 hcc
              go_wp2_with fail
              refine C.out.mono ?_
              rintro e w1 ⟨rfl, s, t, hl, hs, hr, hm, hn, S4⟩
              have T : Hid (s.length = ds ∧ Sorted s ∧ Runs bs t ∧ Same1 l (A ++ s ++ t) ∧ (A ++ s).length + t.length = N) := ⟨hl, hs, hr, hm, hn⟩
              have S4 := Lib.hid S4
              clear hl hs hr hm hn C
              go_wp2_with fail
              go_roundg (N - bb)
              case measure => have := HI.out.1; omega
              case rel =>
                refine ⟨bb, cc, A ++ s, t, rfl, rfl, hlt3, Nat.le_refl _, hcb, ?_, S4.out⟩
                obtain ⟨h0, h1, h2, h3, h4, h5⟩ := HI.out
                obtain ⟨g1, g2, g3, g4, g5⟩ := T.out
                exact ⟨HCC.out, by rw [List.length_append]; omega, g5, h3.more g1 g2, g3, g4⟩
            · have hlt3 : N < bb := by omega
              by_cases hlt4 : mm < N
              · have C : Calls Try.prog 82 #[.slice (some ⟨blk, off, none⟩) N cap, .int .i64 (a : Int), .int .i64 (mm : Int), .int .i64 (N : Int), fvC] wr fun e w' => e = .returned (.tuple #[]) ∧ ∃ L, L.length = N ∧ Runs ds L ∧ Same1 l L ∧ St w blk off L w' := by
                  obtain ⟨h0, h1, h2, h3, h4, h5⟩ := HI.out
                  have j1 := HDS.out
                  have j2 := HMM.out
                  obtain ⟨s1, t1, rfl, k1, k2, k3⟩ := h4.cut (by omega)
                  rw [List.length_append] at h2
                  refine (sym_any w blk off cap l N RR.out HN.out (by omega) _ A s1 t1 [] a mm N wr (Nat.le_refl _) (by omega) (by omega) k2 (k3.sorted (by omega)) (by simp; omega) h1 (by omega) (by omega) (by have := S3.out; simpa [Hid] using this)).mono ?_
                  rintro e w1 ⟨rfl, s, g1, g2, g3, g4⟩
                  refine ⟨rfl, A ++ s, by rw [List.length_append]; omega, h3 _ (.short s (by omega) g2), h5.trans (Same1.app (Same1.refl A) g3), by simpa using g4⟩
                have C := Lib.hid C
                clear S3 HI
                go_wp2_with fail
                refine C.out.mono ?_
                rintro e w1 ⟨rfl, L2, hl, hr, hm, S4⟩
                have T : Hid (L2.length = N ∧ Runs ds L2 ∧ Same1 l L2) := ⟨hl, hr, hm⟩
                have S4 := Lib.hid S4
                clear hl hr hm C
                go_wp2_with fail
                go_roundg (N - ds)
                case measure => omega
                case rel => exact ⟨ds, L2, rfl, by omega, by omega, Nat.le_refl _, T.out, S4.out⟩
              · have hlt4 : N ≤ mm := by omega
                have T : Hid ((A ++ B).length = N ∧ Runs ds (A ++ B) ∧ Same1 l (A ++ B)) := by
                  obtain ⟨h0, h1, h2, h3, h4, h5⟩ := HI.out
                  have j1 := HDS.out
                  have j2 := HMM.out
                  exact ⟨by rw [List.length_append]; exact h2, h3 _ (.short B (by omega) (h4.sorted (by omega))), h5⟩
                clear HI
                go_wp2_with fail
                go_roundg (N - ds)
                case measure => omega
                case rel => exact ⟨ds, A ++ B, rfl, by omega, by omega, Nat.le_refl _, T.out, S3.out⟩
        · have hlt2 : N ≤ bs := by omega
          go_wp2
          go_end0
          obtain ⟨h1, h2, h3⟩ := T.out
          exact ⟨rfl, L, by rw [h1, HN.out], h2.sorted (by omega), h3, S2.out⟩

theorem sortStable_any (w : World) (blk off cap : Nat) (l : List El) (hH : HoldsK enc 5 w blk off l.toArray) (hblk : blk < w.heap.size) (hsz : l.length < 1000000) :
    Calls Try.prog 39 #[.slice (some ⟨blk, off, none⟩) l.length cap, fvC] w fun e w' => e = .returned (.tuple #[]) ∧ ∃ s, s.length = l.length ∧ Sorted s ∧ Same1 l s ∧ St w blk off s w' := by
  have C := Lib.hid (stable_any w blk off cap l l.length ⟨enc_len, enc_one, hH, hblk⟩ (SWK.start hH) rfl hsz)
  clear hH
  go_enter Try.func39, Try.ntmps39
  go_wp2_with fail
  refine C.out.mono ?_
  rintro e w1 ⟨rfl, h⟩
  have H := Lib.hid h
  clear h
  go_wp2
  go_end0
  exact ⟨rfl, H.out⟩
end Go.Proofs.Ytajkhbdniadkkaa.Qs
