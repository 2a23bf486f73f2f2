/- The library's stable sort of labels: two sorted rows merged in place. -/
import Derived.Test.YtmdpkblkbokhoaaStE
namespace Go.Proofs.Ytmdpkblkbokhoaa
open Go.Shelf Go.RowKit Go.Lib Go.Sort
set_option linter.unusedVariables false

theorem Merged.mk {w0 : World} {blk off : Nat} {p u v q s : List Lab} {w' : World} (h1 : s.length = u.length + v.length) (h2 : Sorted s) (h3 : Same1 (u ++ v) s) (h4 : St w0 blk off (p ++ s ++ q) w') : Merged w0 blk off p u v q (.returned (.tuple #[])) w' := ⟨rfl, s, h1, h2, h3, h4⟩

set_option maxHeartbeats 8000000 in
set_option maxRecDepth 1000000 in
theorem sym_step (w0 w : World) (blk off cap : Nat) (l0 p u v q : List Lab) (a m b N : Nat) (R : RowL w0 blk off l0) (S : St w0 blk off (p ++ u ++ v ++ q) w) (hu : Sorted u) (hv : Sorted v) (hu2 : 2 ≤ u.length) (hv2 : 2 ≤ v.length)
    (hN : (p ++ u ++ v ++ q).length = N) (h0 : l0.length = N) (ha : p.length = a) (hm : a + u.length = m) (hb : m + v.length = b) (hsz : N < 4611686018427387904)
    (IH : ∀ (p' u' v' q' : List Lab) (a' m' b' : Nat) (W : World), u'.length + v'.length < u.length + v.length → 0 < u'.length → 0 < v'.length → Sorted u' → Sorted v' → (p' ++ u' ++ v' ++ q').length = N → p'.length = a' → a' + u'.length = m' → m' + v'.length = b' → St w0 blk off (p' ++ u' ++ v' ++ q') W →
      Calls Try.prog 32 #[.slice (some ⟨blk, off, none⟩) N cap, .int .i64 (a' : Int), .int .i64 (m' : Int), .int .i64 (b' : Int), fvC] W (Merged w0 blk off p' u' v' q')) :
    Calls Try.prog 32 #[.slice (some ⟨blk, off, none⟩) N cap, .int .i64 (a : Int), .int .i64 (m : Int), .int .i64 (b : Int), fvC] w (Merged w0 blk off p u v q) := by
  have mixed : Try.prog.follows .mixedOrders = true := by kernel_rfl
  have eg := enters_cmp
  have RR := Lib.hid R
  have S0 := Lib.hid S
  have HU := Lib.hid hu
  have HV := Lib.hid hv
  have HIH := Lib.hid IH
  have HA : Hid ((p ++ u ++ v ++ q).length = N ∧ l0.length = N ∧ p.length = a ∧ a + u.length = m ∧ m + v.length = b) := ⟨hN, h0, ha, hm, hb⟩
  have ham : a + 2 ≤ m := by omega
  have hmb : m + 2 ≤ b := by omega
  have hbN : b ≤ N := by simp at hN; omega
  clear R S hN h0 ha hm hb hu hv hu2 hv2 IH
  obtain ⟨M, hM⟩ : ∃ M, M = (a + b) / 2 := ⟨_, rfl⟩
  obtain ⟨n, hn⟩ : ∃ n, n = M + m := ⟨_, rfl⟩
  obtain ⟨P, hP⟩ : ∃ P, P = n - 1 := ⟨_, rfl⟩
  have haM : a < M := by omega
  have hMb : M < b := by omega
  have wma : IntKind.i64.wrap ((m : Int) - (a : Int)) = (m : Int) - (a : Int) := by rw [IntKind.wrap_i64]; omega
  have wma1 : ((m : Int) - (a : Int) == 1) = false := by simp; omega
  have wbm : IntKind.i64.wrap ((b : Int) - (m : Int)) = (b : Int) - (m : Int) := by rw [IntKind.wrap_i64]; omega
  have wbm1 : ((b : Int) - (m : Int) == 1) = false := by simp; omega
  have wab : IntKind.i64.wrap ((a : Int) + (b : Int)) = (a : Int) + (b : Int) := by rw [IntKind.wrap_i64]; omega
  have eM : ((a : Int) + (b : Int)) / 2 = (M : Int) := by omega
  have en : (M : Int) + (m : Int) = (n : Int) := by omega
  have wn : IntKind.i64.wrap (n : Int) = (n : Int) := by rw [IntKind.wrap_i64]; omega
  have eP : (n : Int) - 1 = (P : Int) := by omega
  have wP : IntKind.i64.wrap (P : Int) = (P : Int) := by rw [IntKind.wrap_i64]; omega
  have hnN : n ≤ N + N := by omega
  have hPn : P + 1 = n := by omega
  have HE : Hid (M = (a + b) / 2 ∧ n = M + m ∧ P = n - 1) := ⟨hM, hn, hP⟩
  obtain ⟨A, B, hA, hAB, hBm, hnA, hnB, HAB, hcase⟩ : ∃ A B : Nat, a ≤ A ∧ A ≤ B ∧ B ≤ m ∧ n ≤ A + b ∧ m + B ≤ n ∧ Hid ((A = a ∨ n = A + b) ∧ (B = m ∨ n = B + m)) ∧ ((M < m ∧ (n : Int) - (b : Int) = (A : Int) ∧ (M : Int) = (B : Int)) ∨ (m ≤ M ∧ (a : Int) = (A : Int) ∧ (m : Int) = (B : Int))) := by
    by_cases h : M < m
    · exact ⟨n - b, M, by omega, by omega, by omega, by omega, by omega, ⟨.inr (by omega), .inr (by omega)⟩, .inl ⟨h, by omega, rfl⟩⟩
    · exact ⟨a, m, by omega, by omega, by omega, by omega, by omega, ⟨.inl rfl, .inl rfl⟩, .inr ⟨by omega, rfl, rfl⟩⟩
  clear hM hn hP
  rcases hcase with ⟨hMm, eA, eB⟩ | ⟨hMm, eA, eB⟩
  case' inl => have wA : IntKind.i64.wrap ((n : Int) - (b : Int)) = (n : Int) - (b : Int) := by rw [IntKind.wrap_i64]; omega
  case' inr => have hd0 : decide (M < m) = false := decide_eq_false (by omega)
  all_goals
    have HEA : Hid _ := eA
    have HEB : Hid _ := eB
    clear eA eB
    go_enter Try.func32, Try.ntmps32
    go_wp2_with fail
    go_loopg [20, 21] (B - A) (fun g vi vj wr => ∃ (i j : Nat), vi = .int .i64 (i : Int) ∧ vj = .int .i64 (j : Int) ∧ A ≤ i ∧ i ≤ j ∧ j ≤ B ∧ j - i ≤ g ∧
      Hid ((i = A ∨ ∃ (h1 : n - i - m < v.length) (h2 : i - 1 - a < u.length), ¬ kl (v[n - i - m]) < kl (u[i - 1 - a])) ∧ (j = B ∨ ∃ (h1 : n - 1 - j - m < v.length) (h2 : j - a < u.length), kl (v[n - 1 - j - m]) < kl (u[j - a]))) ∧
      Hid (St w0 blk off (p ++ u ++ v ++ q) wr))
    case atStart => exact ⟨A, B, by have := HEA.out; first | rfl | (congr 1), by have := HEB.out; first | rfl | (congr 1), Nat.le_refl _, hAB, Nat.le_refl _, Nat.le_refl _, ⟨.inl rfl, .inl rfl⟩, S0.out⟩
    case round =>
      clear S0
      obtain ⟨i, j, rfl, rfl, hmi, hij, hjb, hg, HI, S1⟩ := hrel
      by_cases hlt : i < j
      · obtain ⟨h, hh⟩ : ∃ h, h = (i + j) / 2 := ⟨_, rfl⟩
        have hhi : i ≤ h := by omega
        have hhj : h < j := by omega
        obtain ⟨d, hd0⟩ : ∃ d, d = P - h := ⟨_, rfl⟩
        have w1 : IntKind.i64.wrap ((i : Int) + (j : Int)) = (i : Int) + (j : Int) := by rw [IntKind.wrap_i64]; omega
        have e1 : ((i : Int) + (j : Int)) / 2 = (h : Int) := by omega
        have e2 : (P : Int) - (h : Int) = (d : Int) := by omega
        have w2 : IntKind.i64.wrap (d : Int) = (d : Int) := by rw [IntKind.wrap_i64]; omega
        clear hh
        obtain ⟨dk, hdk⟩ : ∃ dk, dk = (p ++ u ++ v ++ q).toArray := ⟨_, rfl⟩
        have S2 : Hid (SWK encL 2 w0 blk off dk wr) := by show SWK _ _ _ _ _ _ _; rw [hdk]; exact S1.out
        have hzN : dk.size = N := by rw [hdk]; simpa using HA.out.1
        have hz : dk.size = l0.toArray.size := by rw [hzN]; simpa using HA.out.2.1.symm
        have hul : h - a < u.length := by have := HA.out.2.2.2; omega
        have hvl : d - m < v.length := by have := HA.out.2.2.2; omega
        have hdm : m ≤ d := by omega
        obtain ⟨x, hx⟩ : ∃ x, x = u[h - a] := ⟨_, rfl⟩
        obtain ⟨y, hy⟩ : ∃ y, y = v[d - m] := ⟨_, rfl⟩
        have hxd : dk[h]! = x := by
          rw [hdk, hx]
          have := at_place (p := p) (q := v ++ q) (v := u) (i := h) (j := h - a) (by have := HA.out.2.2.1; omega) hul
          simpa using this
        have hyd : dk[d]! = y := by
          rw [hdk, hy]
          have := at_place (p := p ++ u) (q := q) (v := v) (i := d) (j := d - m) (by have := HA.out.2.2; simp; omega) hvl
          simpa using this
        have HDK := Lib.hid hdk
        have HXY : Hid (x = u[h - a] ∧ y = v[d - m]) := ⟨hx, hy⟩
        have HD0 := Lib.hid hd0
        have hhN : h < N := by omega
        have hdN : d < N := by omega
        have lj := fun n os => (SWK.cells2 S2.out RR.out hz h (by omega) x hxd n os).1
        have lj' := fun n os => (SWK.cells2 S2.out RR.out hz h (by omega) x hxd n os).2
        have lp := fun n os => (SWK.cells2 S2.out RR.out hz d (by omega) y hyd n os).1
        have lp' := fun n os => (SWK.cells2 S2.out RR.out hz d (by omega) y hyd n os).2
        clear hdk hx hy hxd hyd hd0
        obtain ⟨cv, hcv⟩ : ∃ cv, cv = cfL y x := ⟨_, rfl⟩
        have hcg := fun (n : Nat) (os : Array Obj) => closure_cmp y x (grow (wr.drewN n) os)
        rw [← hcv] at hcg
        have HCV := Lib.hid hcv
        clear hcv
        by_cases hlv : cv < 0
        · have hd : decide (cv < 0) = true := decide_eq_true hlv
          go_wp2_with fail
          go_quiet_grown (first | (go_at_fn 22; refine Calls.grown_of (hcg _ _)))
          have S3 := Lib.hid (S2.out.grown nq osq)
          clear lj lj' lp lp' hcg S2 S1
          generalize grow (wr.drewN nq) osq = wq at S3 ⊢
          go_wp2_with fail
          go_roundg (h - i)
          case measure => omega
          case rel =>
            refine ⟨i, h, rfl, rfl, hmi, hhi, by omega, Nat.le_refl _, ⟨HI.out.1, .inr ⟨by have := HD0.out; omega, hul, ?_⟩⟩, ?_⟩
            · have e : n - 1 - h - m = d - m := by have := HD0.out; omega
              simp only [e]
              rw [← HXY.out.1, ← HXY.out.2]
              rw [HCV.out] at hlv
              exact (cfL_neg _ _).1 hlv
            · show St _ _ _ _ _
              have h := S3.out
              rw [HDK.out] at h
              exact h
        · have hd : decide (cv < 0) = false := decide_eq_false hlv
          go_wp2_with fail
          go_quiet_grown (first | (go_at_fn 22; refine Calls.grown_of (hcg _ _)))
          have S3 := Lib.hid (S2.out.grown nq osq)
          clear lj lj' lp lp' hcg S2 S1
          generalize grow (wr.drewN nq) osq = wq at S3 ⊢
          go_wp2_with fail
          go_roundg (j - (h + 1))
          case measure => omega
          case rel =>
            refine ⟨h + 1, j, by go_num, rfl, by omega, by omega, hjb, Nat.le_refl _, ⟨.inr ⟨by have := HD0.out; omega, by omega, ?_⟩, HI.out.2⟩, ?_⟩
            · have e : n - (h + 1) - m = d - m := by have := HD0.out; omega
              have e' : h + 1 - 1 - a = h - a := by omega
              simp only [e, e']
              rw [← HXY.out.1, ← HXY.out.2]
              rw [HCV.out] at hlv
              exact fun e => absurd ((cfL_neg _ _).2 e) (by omega)
            · show St _ _ _ _ _
              have h := S3.out
              rw [HDK.out] at h
              exact h
      · obtain rfl : i = j := by omega
        obtain ⟨e, he⟩ : ∃ e, e = n - i := ⟨_, rfl⟩
        have ee : (n : Int) - (i : Int) = (e : Int) := by omega
        have we : IntKind.i64.wrap (e : Int) = (e : Int) := by rw [IntKind.wrap_i64]; omega
        have heb : e ≤ b := by omega
        have hme : m ≤ e := by omega
        have hein : e + i = n := by omega
        obtain ⟨u1, hu1⟩ : ∃ u1, u1 = u.take (i - a) := ⟨_, rfl⟩
        obtain ⟨u2, hu2⟩ : ∃ u2, u2 = u.drop (i - a) := ⟨_, rfl⟩
        obtain ⟨v1, hv1⟩ : ∃ v1, v1 = v.take (e - m) := ⟨_, rfl⟩
        obtain ⟨v2, hv2⟩ : ∃ v2, v2 = v.drop (e - m) := ⟨_, rfl⟩
        have HX : Hid (u1 ++ u2 = u ∧ v1 ++ v2 = v ∧ a + u1.length = i ∧ i + u2.length = m ∧ m + v1.length = e ∧ e + v2.length = b ∧ i + v1.length = M ∧ M + u2.length = e ∧ (∀ x ∈ u2, ∀ y ∈ v1, kl y < kl x) ∧ (∀ x ∈ u1, ∀ y ∈ v2, ¬ kl y < kl x) ∧ Sorted u1 ∧ Sorted u2 ∧ Sorted v1 ∧ Sorted v2) := by
          obtain ⟨h1, h2, h3, h4, h5⟩ := HA.out
          obtain ⟨g1, g2, g3⟩ := HE.out
          have hc := cut_cross (cu := i - a) (cv := e - m) HU.out HV.out (by
            rcases HI.out.2 with h | ⟨k1, k2, k3⟩
            · rcases HAB.out.2 with g | g
              · exact .inl (by omega)
              · exact .inr (.inl (by omega))
            · refine .inr (.inr ⟨by omega, k2, ?_⟩)
              have e9 : e - m - 1 = n - 1 - i - m := by omega
              simp only [e9]
              exact k3) (by
            rcases HI.out.1 with h | ⟨k1, k2, k3⟩
            · rcases HAB.out.1 with g | g
              · exact .inl (by omega)
              · exact .inr (.inl (by omega))
            · refine .inr (.inr ⟨by omega, by omega, ?_⟩)
              have e9 : e - m = n - i - m := by omega
              have e8 : i - a - 1 = i - 1 - a := by omega
              simp only [e9, e8]
              exact k3)
          rw [← hu1, ← hu2, ← hv1, ← hv2] at hc
          refine ⟨by rw [hu1, hu2, List.take_append_drop], by rw [hv1, hv2, List.take_append_drop], by rw [hu1, List.length_take]; omega, by rw [hu2, List.length_drop]; omega, by rw [hv1, List.length_take]; omega, by rw [hv2, List.length_drop]; omega, by rw [hv1, List.length_take]; omega, by rw [hu2, List.length_drop]; omega, hc.1, hc.2, ?_, ?_, ?_, ?_⟩
          · rw [hu1]; exact HU.out.tk _
          · rw [hu2]; exact HU.out.dr _
          · rw [hv1]; exact HV.out.tk _
          · rw [hv2]; exact HV.out.dr _
        clear he hu1 hu2 hv1 hv2
        have S2 : Hid (St w0 blk off (p ++ u1 ++ u2 ++ v1 ++ (v2 ++ q)) wr) := by
          have h := S1.out
          rw [← HX.out.1, ← HX.out.2.1] at h
          show St _ _ _ _ _
          simpa using h
        have HNL : Hid ((p ++ u1 ++ u2 ++ v1 ++ (v2 ++ q)).length = N) := by
          have h := HA.out.1
          rw [← HX.out.1, ← HX.out.2.1] at h
          show _ = _
          simp at h ⊢
          omega
        have ROT : Hid (i < m → i < M → ∀ W, St w0 blk off (p ++ u1 ++ u2 ++ v1 ++ (v2 ++ q)) W → Calls Try.prog 34 #[.slice (some ⟨blk, off, none⟩) N cap, .int .i64 (i : Int), .int .i64 (m : Int), .int .i64 (e : Int), fvC] W fun e w' => e = .returned (.tuple #[]) ∧ St w0 blk off (p ++ u1 ++ v1 ++ u2 ++ (v2 ++ q)) w') := by
          intro h1 h2 W hW
          obtain ⟨_, _, k1, k2, k3, k4, k5, k6, _⟩ := HX.out
          have k7 := HA.out.2.2.1
          exact rotate_any w0 W blk off cap l0 (p ++ u1) u2 v1 (v2 ++ q) i m e N fvC RR.out hW HNL.out HA.out.2.1 (by simp; omega) (by simp; omega) (by simp; omega) (by omega) (by omega) hsz
        have NOROT : Hid ((m ≤ i ∨ M ≤ i) → ∀ W, St w0 blk off (p ++ u1 ++ u2 ++ v1 ++ (v2 ++ q)) W → St w0 blk off (p ++ u1 ++ v1 ++ u2 ++ (v2 ++ q)) W) := by
          intro h W hW
          obtain ⟨_, _, k1, k2, k3, k4, k5, k6, _⟩ := HX.out
          rcases h with h | h
          · obtain rfl : u2 = [] := List.eq_nil_of_length_eq_zero (by omega)
            simpa using hW
          · obtain rfl : v1 = [] := List.eq_nil_of_length_eq_zero (by omega)
            simpa using hW
        have REC1 : Hid (a < i → i < M → ∀ W, St w0 blk off (p ++ u1 ++ v1 ++ u2 ++ (v2 ++ q)) W → Calls Try.prog 32 #[.slice (some ⟨blk, off, none⟩) N cap, .int .i64 (a : Int), .int .i64 (i : Int), .int .i64 (M : Int), fvC] W (Merged w0 blk off p u1 v1 (u2 ++ v2 ++ q))) := by
          intro h1 h2 W hW
          obtain ⟨j1, j2, k1, k2, k3, k4, k5, k6, _, _, s1, s2, s3, s4⟩ := HX.out
          have k7 := HA.out.2.2.1
          have k8 := congrArg List.length j1
          have k9 := congrArg List.length j2
          have k10 := HNL.out
          simp at k8 k9 k10
          exact HIH.out p u1 v1 (u2 ++ v2 ++ q) a i M W (by omega) (by omega) (by omega) s1 s3 (by simp; omega) k7 k1 k5 (by simpa using hW)
        have NOREC1 : Hid ((i ≤ a ∨ M ≤ i) → Sorted (u1 ++ v1)) := by
          intro h
          obtain ⟨j1, j2, k1, k2, k3, k4, k5, k6, _, _, s1, s2, s3, s4⟩ := HX.out
          rcases h with h | h
          · obtain rfl : u1 = [] := List.eq_nil_of_length_eq_zero (by omega)
            simpa using s3
          · obtain rfl : v1 = [] := List.eq_nil_of_length_eq_zero (by omega)
            simpa using s1
        have REC2 : Hid (i < m → e < b → ∀ s1 : List Lab, s1.length = u1.length + v1.length → ∀ W, St w0 blk off (p ++ s1 ++ (u2 ++ v2 ++ q)) W → Calls Try.prog 32 #[.slice (some ⟨blk, off, none⟩) N cap, .int .i64 (M : Int), .int .i64 (e : Int), .int .i64 (b : Int), fvC] W (Merged w0 blk off (p ++ s1) u2 v2 q)) := by
          intro h1 h2 s hs W hW
          obtain ⟨j1, j2, k1, k2, k3, k4, k5, k6, _, _, s1, s2, s3, s4⟩ := HX.out
          have k7 := HA.out.2.2.1
          have k8 := congrArg List.length j1
          have k9 := congrArg List.length j2
          have k10 := HNL.out
          simp at k8 k9 k10
          exact HIH.out (p ++ s) u2 v2 q M e b W (by omega) (by omega) (by omega) s2 s4 (by simp; omega) (by simp; omega) (by omega) (by omega) (by simpa using hW)
        have NOREC2 : Hid ((m ≤ i ∨ b ≤ e) → Sorted (u2 ++ v2)) := by
          intro h
          obtain ⟨j1, j2, k1, k2, k3, k4, k5, k6, _, _, s1, s2, s3, s4⟩ := HX.out
          rcases h with h | h
          · obtain rfl : u2 = [] := List.eq_nil_of_length_eq_zero (by omega)
            simpa using s4
          · obtain rfl : v2 = [] := List.eq_nil_of_length_eq_zero (by omega)
            simpa using s2
        have FIN : Hid (∀ s1 s2 : List Lab, s1.length = u1.length + v1.length → Sorted s1 → Same1 (u1 ++ v1) s1 → s2.length = u2.length + v2.length → Sorted s2 → Same1 (u2 ++ v2) s2 → ∀ W, St w0 blk off (p ++ s1 ++ s2 ++ q) W → Merged w0 blk off p u v q (.returned (.tuple #[])) W) := by
          intro s1 s2 l1 o1 m1 l2 o2 m2 W hW
          obtain ⟨j1, j2, k1, k2, k3, k4, k5, k6, c1, c2, _⟩ := HX.out
          have hd := merge_done (by rw [j1]; exact HU.out) (by rw [j2]; exact HV.out) c1 c2 o1 o2 m1 m2
          rw [j1, j2] at hd
          have k8 := congrArg List.length j1
          have k9 := congrArg List.length j2
          simp at k8 k9
          exact Merged.mk (s := s1 ++ s2) (by simp; omega) hd.1 hd.2 (by simpa using hW)
        clear S1 wma wma1 wbm wbm1 wab eM en wn eP wP
        rcases (by omega : (i < m ∧ i < M) ∨ (i < m ∧ M ≤ i) ∨ (m ≤ i ∧ i < M) ∨ (m ≤ i ∧ M ≤ i)) with ⟨c3, c2⟩ | ⟨c3, c2⟩ | ⟨c3, c2⟩ | ⟨c3, c2⟩
        · have q1 : M < e := by have := HE.out; omega
          have q2 : m < e := by have := HE.out; omega
          first
          | (exfalso; omega)
          | (skip
             have C := Lib.hid (ROT.out c3 c2 wr S2.out)
             go_wp2_with fail
             refine C.out.mono ?_
             rintro e1 wq ⟨rfl, S3⟩
             have S3 := Lib.hid S3
             clear C
             by_cases c1 : a < i
             · have C := Lib.hid (REC1.out c1 c2 _ S3.out)
               go_wp2_with fail
               refine C.out.mono ?_
               rintro e1 wq2 ⟨rfl, s1, l1, o1, m1, S4⟩
               have T1 : Hid (s1.length = u1.length + v1.length ∧ Sorted s1 ∧ Same1 (u1 ++ v1) s1) := ⟨l1, o1, m1⟩
               have S4 := Lib.hid S4
               clear C l1 o1 m1
               by_cases c4 : e < b
               · first
                 | (exfalso; omega)
                 | (have C := Lib.hid (REC2.out c3 c4 s1 T1.out.1 _ S4.out)
                    go_wp2_with fail
                    refine C.out.mono ?_
                    rintro e1 wq3 ⟨rfl, s2, l2, o2, m2, S5⟩
                    have T2 : Hid (s2.length = u2.length + v2.length ∧ Sorted s2 ∧ Same1 (u2 ++ v2) s2) := ⟨l2, o2, m2⟩
                    have S5 := Lib.hid S5
                    clear C l2 o2 m2
                    go_wp2
                    first | go_end0 | refine bodyPost_ret (results_none rfl _ _ _) rfl ?_
                    exact FIN.out s1 s2 T1.out.1 T1.out.2.1 T1.out.2.2 T2.out.1 T2.out.2.1 T2.out.2.2 _ S5.out)
               · first
                 | (exfalso; omega)
                 | (have c4 : b ≤ e := by omega
                    obtain ⟨s2, T2, S5⟩ : ∃ s2, Hid (s2.length = u2.length + v2.length ∧ Sorted s2 ∧ Same1 (u2 ++ v2) s2) ∧ Hid (St w0 blk off (p ++ s1 ++ s2 ++ q) wq2) := ⟨u2 ++ v2, ⟨by simp, NOREC2.out (by omega), Same1.refl _⟩, by have := S4.out; show St _ _ _ _ _; simpa using this⟩
                    go_wp2
                    first | go_end0 | refine bodyPost_ret (results_none rfl _ _ _) rfl ?_
                    exact FIN.out s1 s2 T1.out.1 T1.out.2.1 T1.out.2.2 T2.out.1 T2.out.2.1 T2.out.2.2 _ S5.out)
             · have c1 : i ≤ a := by omega
               obtain ⟨s1, T1, S4⟩ : ∃ s1, Hid (s1.length = u1.length + v1.length ∧ Sorted s1 ∧ Same1 (u1 ++ v1) s1) ∧ Hid (St w0 blk off (p ++ s1 ++ (u2 ++ v2 ++ q)) wq) := ⟨u1 ++ v1, ⟨by simp, NOREC1.out (by omega), Same1.refl _⟩, by have := S3.out; show St _ _ _ _ _; simpa using this⟩
               by_cases c4 : e < b
               · first
                 | (exfalso; omega)
                 | (have C := Lib.hid (REC2.out c3 c4 s1 T1.out.1 _ S4.out)
                    go_wp2_with fail
                    refine C.out.mono ?_
                    rintro e1 wq3 ⟨rfl, s2, l2, o2, m2, S5⟩
                    have T2 : Hid (s2.length = u2.length + v2.length ∧ Sorted s2 ∧ Same1 (u2 ++ v2) s2) := ⟨l2, o2, m2⟩
                    have S5 := Lib.hid S5
                    clear C l2 o2 m2
                    go_wp2
                    first | go_end0 | refine bodyPost_ret (results_none rfl _ _ _) rfl ?_
                    exact FIN.out s1 s2 T1.out.1 T1.out.2.1 T1.out.2.2 T2.out.1 T2.out.2.1 T2.out.2.2 _ S5.out)
               · first
                 | (exfalso; omega)
                 | (have c4 : b ≤ e := by omega
                    obtain ⟨s2, T2, S5⟩ : ∃ s2, Hid (s2.length = u2.length + v2.length ∧ Sorted s2 ∧ Same1 (u2 ++ v2) s2) ∧ Hid (St w0 blk off (p ++ s1 ++ s2 ++ q) wq) := ⟨u2 ++ v2, ⟨by simp, NOREC2.out (by omega), Same1.refl _⟩, by have := S4.out; show St _ _ _ _ _; simpa using this⟩
                    go_wp2
                    first | go_end0 | refine bodyPost_ret (results_none rfl _ _ _) rfl ?_
                    exact FIN.out s1 s2 T1.out.1 T1.out.2.1 T1.out.2.2 T2.out.1 T2.out.2.1 T2.out.2.2 _ S5.out))
        · have q1 : M < e := by have := HE.out; omega
          have q2 : e ≤ m := by have := HE.out; omega
          first
          | (exfalso; omega)
          | (skip
             have S3 := Lib.hid (NOROT.out (by omega) wr S2.out)
             generalize wr = wq at S3 ⊢
             obtain ⟨s1, T1, S4⟩ : ∃ s1, Hid (s1.length = u1.length + v1.length ∧ Sorted s1 ∧ Same1 (u1 ++ v1) s1) ∧ Hid (St w0 blk off (p ++ s1 ++ (u2 ++ v2 ++ q)) wq) := ⟨u1 ++ v1, ⟨by simp, NOREC1.out (by omega), Same1.refl _⟩, by have := S3.out; show St _ _ _ _ _; simpa using this⟩
             by_cases c4 : e < b
             · first
               | (exfalso; omega)
               | (have C := Lib.hid (REC2.out c3 c4 s1 T1.out.1 _ S4.out)
                  go_wp2_with fail
                  refine C.out.mono ?_
                  rintro e1 wq3 ⟨rfl, s2, l2, o2, m2, S5⟩
                  have T2 : Hid (s2.length = u2.length + v2.length ∧ Sorted s2 ∧ Same1 (u2 ++ v2) s2) := ⟨l2, o2, m2⟩
                  have S5 := Lib.hid S5
                  clear C l2 o2 m2
                  go_wp2
                  first | go_end0 | refine bodyPost_ret (results_none rfl _ _ _) rfl ?_
                  exact FIN.out s1 s2 T1.out.1 T1.out.2.1 T1.out.2.2 T2.out.1 T2.out.2.1 T2.out.2.2 _ S5.out)
             · first
               | (exfalso; omega)
               | (have c4 : b ≤ e := by omega
                  obtain ⟨s2, T2, S5⟩ : ∃ s2, Hid (s2.length = u2.length + v2.length ∧ Sorted s2 ∧ Same1 (u2 ++ v2) s2) ∧ Hid (St w0 blk off (p ++ s1 ++ s2 ++ q) wq) := ⟨u2 ++ v2, ⟨by simp, NOREC2.out (by omega), Same1.refl _⟩, by have := S4.out; show St _ _ _ _ _; simpa using this⟩
                  go_wp2
                  first | go_end0 | refine bodyPost_ret (results_none rfl _ _ _) rfl ?_
                  exact FIN.out s1 s2 T1.out.1 T1.out.2.1 T1.out.2.2 T2.out.1 T2.out.2.1 T2.out.2.2 _ S5.out))
        · have q1 : e ≤ M := by have := HE.out; omega
          have q2 : m < e := by have := HE.out; omega
          first
          | (exfalso; omega)
          | (skip
             have S3 := Lib.hid (NOROT.out (by omega) wr S2.out)
             generalize wr = wq at S3 ⊢
             have c1 : a < i := by omega
             have C := Lib.hid (REC1.out c1 c2 _ S3.out)
             go_wp2_with fail
             refine C.out.mono ?_
             rintro e1 wq2 ⟨rfl, s1, l1, o1, m1, S4⟩
             have T1 : Hid (s1.length = u1.length + v1.length ∧ Sorted s1 ∧ Same1 (u1 ++ v1) s1) := ⟨l1, o1, m1⟩
             have S4 := Lib.hid S4
             clear C l1 o1 m1
             obtain ⟨s2, T2, S5⟩ : ∃ s2, Hid (s2.length = u2.length + v2.length ∧ Sorted s2 ∧ Same1 (u2 ++ v2) s2) ∧ Hid (St w0 blk off (p ++ s1 ++ s2 ++ q) wq2) := ⟨u2 ++ v2, ⟨by simp, NOREC2.out (by omega), Same1.refl _⟩, by have := S4.out; show St _ _ _ _ _; simpa using this⟩
             go_wp2
             first | go_end0 | refine bodyPost_ret (results_none rfl _ _ _) rfl ?_
             exact FIN.out s1 s2 T1.out.1 T1.out.2.1 T1.out.2.2 T2.out.1 T2.out.2.1 T2.out.2.2 _ S5.out)
        · have q1 : e ≤ M := by have := HE.out; omega
          have q2 : e ≤ m := by have := HE.out; omega
          first
          | (exfalso; omega)
          | (skip
             have S3 := Lib.hid (NOROT.out (by omega) wr S2.out)
             generalize wr = wq at S3 ⊢
             obtain ⟨s1, T1, S4⟩ : ∃ s1, Hid (s1.length = u1.length + v1.length ∧ Sorted s1 ∧ Same1 (u1 ++ v1) s1) ∧ Hid (St w0 blk off (p ++ s1 ++ (u2 ++ v2 ++ q)) wq) := ⟨u1 ++ v1, ⟨by simp, NOREC1.out (by omega), Same1.refl _⟩, by have := S3.out; show St _ _ _ _ _; simpa using this⟩
             obtain ⟨s2, T2, S5⟩ : ∃ s2, Hid (s2.length = u2.length + v2.length ∧ Sorted s2 ∧ Same1 (u2 ++ v2) s2) ∧ Hid (St w0 blk off (p ++ s1 ++ s2 ++ q) wq) := ⟨u2 ++ v2, ⟨by simp, NOREC2.out (by omega), Same1.refl _⟩, by have := S4.out; show St _ _ _ _ _; simpa using this⟩
             go_wp2
             first | go_end0 | refine bodyPost_ret (results_none rfl _ _ _) rfl ?_
             exact FIN.out s1 s2 T1.out.1 T1.out.2.1 T1.out.2.2 T2.out.1 T2.out.2.1 T2.out.2.2 _ S5.out)

theorem sym_any (w0 : World) (blk off cap : Nat) (l0 : List Lab) (N : Nat) (R : RowL w0 blk off l0) (h0 : l0.length = N) (hsz : N < 4611686018427387904) : ∀ (n : Nat) (p u v q : List Lab) (a m b : Nat) (w : World), u.length + v.length ≤ n → 0 < u.length → 0 < v.length → Sorted u → Sorted v → (p ++ u ++ v ++ q).length = N → p.length = a → a + u.length = m → m + v.length = b → St w0 blk off (p ++ u ++ v ++ q) w →
      Calls Try.prog 32 #[.slice (some ⟨blk, off, none⟩) N cap, .int .i64 (a : Int), .int .i64 (m : Int), .int .i64 (b : Int), fvC] w (Merged w0 blk off p u v q) := by
  intro n
  induction n with
  | zero => intros; omega
  | succ n ih =>
    intro p u v q a m b w hn hu hv su sv hN ha hm hb S
    by_cases h1 : u.length = 1
    · obtain ⟨x, rfl⟩ := List.length_eq_one_iff.1 h1
      have := sym_front w0 w blk off cap l0 p v q x a b N R S sv hN h0 ha (by simp at hm; omega) hsz
      rw [← hm]
      exact this
    · by_cases h2 : v.length = 1
      · obtain ⟨x, rfl⟩ := List.length_eq_one_iff.1 h2
        have := sym_back w0 w blk off cap l0 p u q x a m N R S su (by omega) hN h0 ha hm hsz
        rw [← hb]
        exact this
      · exact sym_step w0 w blk off cap l0 p u v q a m b N R S su sv (by omega) (by omega) hN h0 ha hm hb hsz (fun p' u' v' q' a' m' b' W h3 h4 h5 h6 h7 h8 h9 h10 h11 h12 => ih p' u' v' q' a' m' b' W (by omega) h4 h5 h6 h7 h8 h9 h10 h11 h12)
end Go.Proofs.Ytmdpkblkbokhoaa
