/- The library's stable sort of labels: one label put into a sorted row ahead of it. -/
import Derived.Test.YtmdpkblkbokhoaaStD
namespace Go.Proofs.Ytmdpkblkbokhoaa
open Go.Shelf Go.RowKit Go.Lib Go.Sort
set_option linter.unusedVariables false

set_option maxHeartbeats 4000000 in
set_option maxRecDepth 1000000 in
theorem sym_back (w0 w : World) (blk off cap : Nat) (l0 p u q : List Lab) (x : Lab) (a m N : Nat) (R : RowL w0 blk off l0) (S : St w0 blk off (p ++ u ++ [x] ++ q) w) (hu : Sorted u) (hu2 : 2 ≤ u.length)
    (hN : (p ++ u ++ [x] ++ q).length = N) (h0 : l0.length = N) (ha : p.length = a) (hm : a + u.length = m) (hsz : N < 4611686018427387904) :
    Calls Try.prog 32 #[.slice (some ⟨blk, off, none⟩) N cap, .int .i64 (a : Int), .int .i64 (m : Int), .int .i64 ((m + 1 : Nat) : Int), fvC] w (Merged w0 blk off p u [x] q) := by
  have mixed : Try.prog.follows .mixedOrders = true := by kernel_rfl
  have eg := enters_cmp
  have RR := Lib.hid R
  have S0 := Lib.hid S
  have HU := Lib.hid hu
  have HA : Hid ((p ++ u ++ [x] ++ q).length = N ∧ l0.length = N ∧ p.length = a ∧ a + u.length = m) := ⟨hN, h0, ha, hm⟩
  have ham : a + 2 ≤ m := by omega
  have hmN : m + 1 ≤ N := by simp at hN; omega
  clear R S hN h0 ha hm hu hu2
  obtain ⟨b, hb⟩ : ∃ b, b = m + 1 := ⟨_, rfl⟩
  rw [← hb] at hmN ⊢
  have hma : IntKind.i64.wrap ((m : Int) - (a : Int)) = (m : Int) - (a : Int) := by rw [IntKind.wrap_i64]; omega
  have hma1 : ((m : Int) - (a : Int) == 1) = false := by simp; omega
  have hbm : IntKind.i64.wrap ((b : Int) - (m : Int)) = 1 := by rw [IntKind.wrap_i64]; omega
  have hbm1 : (b : Int) - (m : Int) = 1 := by omega
  have hmb : m < b := by omega
  have HB := Lib.hid hb
  clear hb
  unfold Merged
  go_enter Try.func32, Try.ntmps32
  go_wp2_with fail
  go_loopg [14, 15] (m - a) (fun g vi vj wr => ∃ (i j : Nat), vi = .int .i64 (i : Int) ∧ vj = .int .i64 (j : Int) ∧ a ≤ i ∧ i ≤ j ∧ j ≤ m ∧ j - i ≤ g ∧
    Hid ((i - a = 0 ∨ ∃ h : i - a - 1 < u.length, ¬ kl x < kl (u[i - a - 1])) ∧ (j - a = u.length ∨ ∃ h : j - a < u.length, kl x < kl (u[j - a]))) ∧ Hid (St w0 blk off (p ++ u ++ [x] ++ q) wr))
  case atStart => exact ⟨a, m, rfl, rfl, Nat.le_refl _, by omega, Nat.le_refl _, Nat.le_refl _, ⟨.inl (by omega), .inl (by have := HA.out.2.2.2; omega)⟩, S0.out⟩
  case round =>
    clear S0
    obtain ⟨i, j, rfl, rfl, hmi, hij, hjb, hg, HI, S1⟩ := hrel
    by_cases hlt : i < j
    · obtain ⟨h, hh⟩ : ∃ h, h = (i + j) / 2 := ⟨_, rfl⟩
      have hhi : i ≤ h := by omega
      have hhj : h < j := by omega
      have w1 : IntKind.i64.wrap ((i : Int) + (j : Int)) = (i : Int) + (j : Int) := by rw [IntKind.wrap_i64]; omega
      have e1 : ((i : Int) + (j : Int)) / 2 = (h : Int) := by omega
      clear hh
      obtain ⟨dk, hdk⟩ : ∃ dk, dk = (p ++ u ++ [x] ++ q).toArray := ⟨_, rfl⟩
      have S2 : Hid (SWK encL 2 w0 blk off dk wr) := by show SWK _ _ _ _ _ _ _; rw [hdk]; exact S1.out
      have hzN : dk.size = N := by rw [hdk]; simpa using HA.out.1
      have hz : dk.size = l0.toArray.size := by rw [hzN]; simpa using HA.out.2.1.symm
      have hvl : h - a < u.length := by have := HA.out.2.2.2; omega
      obtain ⟨y, hy⟩ : ∃ y, y = u[h - a] := ⟨_, rfl⟩
      have hx : dk[m]! = x := by
        rw [hdk]
        have := at_split (A := p ++ u) (C := q) (x := x) (i := m) (by have := HA.out.2.2; simp; omega)
        simpa using this
      have hyd : dk[h]! = y := by
        rw [hdk, hy]
        have := at_place (p := p) (q := [x] ++ q) (v := u) (i := h) (j := h - a) (by have := HA.out.2.2.1; omega) hvl
        simpa using this
      have HDK := Lib.hid hdk
      have HY := Lib.hid hy
      have hhN : h < N := by omega
      have hmN2 : m < N := by omega
      have lj := fun n os => (SWK.cells2 S2.out RR.out hz h (by omega) y hyd n os).1
      have lj' := fun n os => (SWK.cells2 S2.out RR.out hz h (by omega) y hyd n os).2
      have lp := fun n os => (SWK.cells2 S2.out RR.out hz m (by omega) x hx n os).1
      have lp' := fun n os => (SWK.cells2 S2.out RR.out hz m (by omega) x hx n os).2
      clear hdk hy hx hyd
      obtain ⟨cv, hcv⟩ : ∃ cv, cv = cfL x y := ⟨_, rfl⟩
      have hcg := fun (n : Nat) (os : Array Obj) => closure_cmp x y (grow (wr.drewN n) os)
      rw [← hcv] at hcg
      have HCV := Lib.hid hcv
      clear hcv
      by_cases hlv : cv < 0
      · have hd : decide (cv < 0) = true := decide_eq_true hlv
        go_wp2_with fail
        go_quiet_grown (first | (go_at_fn 22; refine Calls.grown_of (hcg _ _)))
        have S3 := Lib.hid (S2.out.grown nq osq)
        clear lj lj' lp lp' hcg S2 S1
        generalize grow (wr.drewN nq) osq = wq at S3 ⊢
        go_wp2_with fail
        go_roundg (h - i)
        case measure => omega
        case rel =>
          refine ⟨i, h, rfl, rfl, hmi, hhi, by omega, Nat.le_refl _, ⟨HI.out.1, .inr ⟨hvl, ?_⟩⟩, ?_⟩
          · rw [← HY.out]
            rw [HCV.out] at hlv
            exact (cfL_neg _ _).1 hlv
          · show St _ _ _ _ _
            have h := S3.out
            rw [HDK.out] at h
            exact h
      · have hd : decide (cv < 0) = false := decide_eq_false hlv
        go_wp2_with fail
        go_quiet_grown (first | (go_at_fn 22; refine Calls.grown_of (hcg _ _)))
        have S3 := Lib.hid (S2.out.grown nq osq)
        clear lj lj' lp lp' hcg S2 S1
        generalize grow (wr.drewN nq) osq = wq at S3 ⊢
        go_wp2_with fail
        go_roundg (j - (h + 1))
        case measure => omega
        case rel =>
          refine ⟨h + 1, j, by go_num, rfl, by omega, by omega, hjb, Nat.le_refl _, ⟨.inr ⟨by omega, ?_⟩, HI.out.2⟩, ?_⟩
          · have e : h + 1 - a - 1 = h - a := by omega
            simp only [e]
            rw [← HY.out]
            rw [HCV.out] at hlv
            exact fun e => absurd ((cfL_neg _ _).2 e) (by omega)
          · show St _ _ _ _ _
            have h := S3.out
            rw [HDK.out] at h
            exact h
    · obtain rfl : i = j := by omega
      go_wp2_with fail
      have S2 : Hid (St w0 blk off (p ++ u ++ x :: ([] ++ q)) wr) := by have := S1.out; show St _ _ _ _ _; simpa using this
      clear S1
      go_loopg [17] (m - i) (fun g vk wr => ∃ (k : Nat) (y1 y2 : List Lab), vk = .int .i64 (k : Int) ∧ i ≤ k ∧ k ≤ m ∧ k - i ≤ g ∧ Hid (y1 ++ y2 = u ∧ a + y1.length = k) ∧ Hid (St w0 blk off (p ++ y1 ++ x :: (y2 ++ q)) wr))
      case atStart => exact ⟨m, u, [], rfl, hjb, Nat.le_refl _, Nat.le_refl _, ⟨by simp, HA.out.2.2.2⟩, S2.out⟩
      case round =>
        clear S2
        obtain ⟨k, y1, y2, rfl, hik, hkm, hgk, HK, S3⟩ := hrel
        by_cases hk : i < k
        · obtain ⟨y0, z, rfl⟩ : ∃ y0 z, y1 = y0 ++ [z] := by
            obtain ⟨h1, h2⟩ := HK.out
            rcases List.eq_nil_or_concat y1 with h | ⟨y0, z, h⟩
            · subst h; simp at h2; omega
            · exact ⟨y0, z, by rw [h, List.concat_eq_append]⟩
          obtain ⟨kp, rfl⟩ : ∃ kp, k = kp + 1 := ⟨k - 1, by omega⟩
          have hkp : Hid (a + y0.length = kp) := by have := HK.out.2; simp at this; show _ = _; omega
          obtain ⟨dk, hdk⟩ : ∃ dk, dk = (p ++ (y0 ++ [z]) ++ x :: (y2 ++ q)).toArray := ⟨_, rfl⟩
          have S4 : Hid (SWK encL 2 w0 blk off dk wr) := by show SWK _ _ _ _ _ _ _; rw [hdk]; exact S3.out
          have hzN : dk.size = N := by
            rw [hdk]
            have h1 := HA.out.1
            have h2 := congrArg List.length HK.out.1
            simp at h1 h2 ⊢
            omega
          have hz : dk.size = l0.toArray.size := by rw [hzN]; simpa using HA.out.2.1.symm
          have hx : dk[kp + 1]! = x := by rw [hdk]; exact at_split (by have := hkp.out; have := HA.out.2.2.1; simp; omega)
          have hzd : dk[kp]! = z := by
            rw [hdk]
            have := at_split (A := p ++ y0) (C := x :: (y2 ++ q)) (x := z) (i := kp) (by have := hkp.out; have := HA.out.2.2.1; simp; omega)
            simpa using this
          have HDK := Lib.hid hdk
          obtain ⟨c1, c2, c3, c4, f1, f2, f3, f4, ⟨v1, g1⟩, ⟨v2, g2⟩, ⟨v3, g3⟩, S5⟩ := swap_facts S4.out RR.out hz (kp + 1) kp (by omega) (by omega) x z hx hzd
          have q1 : (kp : Int) < (N : Int) := by omega
          have q2 : (kp : Int) + 1 < (N : Int) := by omega
          have p2 : (0 : Int) ≤ (kp : Int) + 1 := by omega
          have t2 : ((kp : Int) + 1).toNat = kp + 1 := by omega
          have w2 : IntKind.i64.wrap (kp : Int) = (kp : Int) := by rw [IntKind.wrap_i64]; omega
          have hiz : (i : Int) < (kp : Int) + 1 := by omega
          clear hdk hx hzd S4 S3
          go_wp2_with fail
          go_big_region_o
          clear c1 c2 c3 c4 f1 f2 f3 f4 g1 g2 g3
          generalize ((((wr.setCell ⟨blk, off + (kp + 1) * 2, none⟩ (.string z.1)).setCell ⟨blk, off + (kp + 1) * 2 + 1, none⟩ (.string z.2)).setCell ⟨blk, off + kp * 2, none⟩ (.string x.1)).setCell ⟨blk, off + kp * 2 + 1, none⟩ (.string x.2)).drew = wz at S5 ⊢
          go_wp2_with fail
          go_roundg (kp - i)
          case measure => omega
          case rel =>
            refine ⟨kp, y0, z :: y2, by go_num, by omega, by omega, Nat.le_refl _, ⟨by rw [← HK.out.1]; simp, hkp.out⟩, ?_⟩
            show St _ _ _ _ _
            have h := S5.out
            rw [HDK.out, down_step (by have := hkp.out; have := HA.out.2.2.1; omega)] at h
            exact h
        · obtain rfl : i = k := by omega
          have t1d : decide ((i : Int) > (i : Int)) = false := by simp
          go_wp2
          refine bodyPost_ret (results_none rfl _ _ _) rfl ?_
          refine ⟨rfl, y1 ++ x :: y2, ?_⟩
          obtain ⟨h1, h2⟩ := HK.out
          have h3 := HA.out.2.2.2
          have hl := congrArg List.length h1
          simp at hl
          have e1 : u.take (i - a) = y1 := by rw [← h1, show i - a = y1.length by omega]; simp
          have e2 : u.drop (i - a) = y2 := by rw [← h1, show i - a = y1.length by omega]; simp
          have hd := back_done (x := x) (c := i - a) HU.out (by omega) HI.out.1 HI.out.2
          rw [e1, e2] at hd
          exact ⟨by simp; omega, hd.1, hd.2, by simpa using S3.out⟩
end Go.Proofs.Ytmdpkblkbokhoaa
