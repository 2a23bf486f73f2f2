/- The library's stable sort of labels: one label put into a sorted row behind it. -/
import Derived.Test.YtmdpkblkbokhoaaStC
import Derived.Test.YtmdpkblkbokhoaaStQ
namespace Go.Proofs.Ytmdpkblkbokhoaa
open Go.Shelf Go.RowKit Go.Lib Go.Sort
set_option linter.unusedVariables false

/-- The answer of a merge in place. -/
def Merged (w0 : World) (blk off : Nat) (p u v q : List Lab) (e : Ending) (w' : World) : Prop :=
  e = .returned (.tuple #[]) ∧ ∃ s, s.length = u.length + v.length ∧ Sorted s ∧ Same1 (u ++ v) s ∧ St w0 blk off (p ++ s ++ q) w'
theorem at_place {p q : List Lab} {i : Nat} {v : List Lab} {j : Nat} (hi : i = p.length + j) (hj : j < v.length) : (p ++ v ++ q).toArray[i]! = v[j] := by
  subst hi
  rw [getElem!_pos _ _ (by simp; omega)]
  simp [hj]
/-- A label goes one place up. -/
theorem up_step {p y1 y2 q : List Lab} {x z : Lab} {j : Nat} (hj : j = p.length + y1.length) : swp (p ++ y1 ++ x :: (z :: y2 ++ q)).toArray j (j + 1) = (p ++ (y1 ++ [z]) ++ x :: (y2 ++ q)).toArray := by
  have h := swp_split (A := p ++ y1) (B := []) (C := y2 ++ q) (x := x) (y := z) (i := j) (j := j + 1) (by simp; omega) (by simp; omega)
  simpa using h

set_option maxHeartbeats 4000000 in
set_option maxRecDepth 1000000 in
theorem sym_front (w0 w : World) (blk off cap : Nat) (l0 p v q : List Lab) (x : Lab) (a b N : Nat) (R : RowL w0 blk off l0) (S : St w0 blk off (p ++ [x] ++ v ++ q) w) (hv : Sorted v)
    (hN : (p ++ [x] ++ v ++ q).length = N) (h0 : l0.length = N) (ha : p.length = a) (hb : a + 1 + v.length = b) (hsz : N < 4611686018427387904) :
    Calls Try.prog 32 #[.slice (some ⟨blk, off, none⟩) N cap, .int .i64 (a : Int), .int .i64 ((a + 1 : Nat) : Int), .int .i64 (b : Int), fvC] w (Merged w0 blk off p [x] v q) := by
  have mixed : Try.prog.follows .mixedOrders = true := by kernel_rfl
  have eg := enters_cmp
  have RR := Lib.hid R
  have S0 := Lib.hid S
  have HV := Lib.hid hv
  have HA : Hid ((p ++ [x] ++ v ++ q).length = N ∧ l0.length = N ∧ p.length = a ∧ a + 1 + v.length = b) := ⟨hN, h0, ha, hb⟩
  have hab : a + 1 ≤ b := by omega
  have hbN : b ≤ N := by simp at hN; omega
  clear R S hN h0 ha hb hv
  obtain ⟨m, hm⟩ : ∃ m, m = a + 1 := ⟨_, rfl⟩
  rw [← hm] at hab ⊢
  have hma : IntKind.i64.wrap ((m : Int) - (a : Int)) = 1 := by rw [IntKind.wrap_i64]; omega
  have hm1 : (m : Int) - (a : Int) = 1 := by omega
  have HM := Lib.hid hm
  have hmlt : a < m := by omega
  clear hm
  unfold Merged
  go_enter Try.func32, Try.ntmps32
  go_wp2_with fail
  go_loopg [10, 11] (b - m) (fun g vi vj wr => ∃ (i j : Nat), vi = .int .i64 (i : Int) ∧ vj = .int .i64 (j : Int) ∧ m ≤ i ∧ i ≤ j ∧ j ≤ b ∧ j - i ≤ g ∧
    Hid ((i - m = 0 ∨ ∃ h : i - m - 1 < v.length, kl (v[i - m - 1]) < kl x) ∧ (j - m = v.length ∨ ∃ h : j - m < v.length, ¬ kl (v[j - m]) < kl x)) ∧ Hid (St w0 blk off (p ++ [x] ++ v ++ q) wr))
  case atStart => exact ⟨m, b, rfl, rfl, Nat.le_refl _, hab, Nat.le_refl _, Nat.le_refl _, ⟨.inl (by omega), .inl (by have := HA.out.2.2.2; have := HM.out; omega)⟩, S0.out⟩
  case round =>
    clear S0
    obtain ⟨i, j, rfl, rfl, hmi, hij, hjb, hg, HI, S1⟩ := hrel
    by_cases hlt : i < j
    · obtain ⟨h, hh⟩ : ∃ h, h = (i + j) / 2 := ⟨_, rfl⟩
      have hhi : i ≤ h := by omega
      have hhj : h < j := by omega
      have w1 : IntKind.i64.wrap ((i : Int) + (j : Int)) = (i : Int) + (j : Int) := by rw [IntKind.wrap_i64]; omega
      have e1 : ((i : Int) + (j : Int)) / 2 = (h : Int) := by omega
      clear hh
      obtain ⟨dk, hdk⟩ : ∃ dk, dk = (p ++ [x] ++ v ++ q).toArray := ⟨_, rfl⟩
      have S2 : Hid (SWK encL 2 w0 blk off dk wr) := by show SWK _ _ _ _ _ _ _; rw [hdk]; exact S1.out
      have hzN : dk.size = N := by rw [hdk]; simpa using HA.out.1
      have hz : dk.size = l0.toArray.size := by rw [hzN]; simpa using HA.out.2.1.symm
      have hvl : h - m < v.length := by have := HA.out.2.2.2; have := HM.out; omega
      obtain ⟨y, hy⟩ : ∃ y, y = v[h - m] := ⟨_, rfl⟩
      have hx : dk[a]! = x := by
        rw [hdk]
        have := at_split (A := p) (C := v ++ q) (x := x) (i := a) HA.out.2.2.1.symm
        simpa using this
      have hyd : dk[h]! = y := by rw [hdk, hy]; exact at_place (p := p ++ [x]) (by have := HA.out.2.2.1; have := HM.out; simp; omega) hvl
      have HDK := Lib.hid hdk
      have HY := Lib.hid hy
      have hhN : h < N := by omega
      have haN : a < N := by omega
      have lj := fun n os => (SWK.cells2 S2.out RR.out hz h (by omega) y hyd n os).1
      have lj' := fun n os => (SWK.cells2 S2.out RR.out hz h (by omega) y hyd n os).2
      have lp := fun n os => (SWK.cells2 S2.out RR.out hz a (by omega) x hx n os).1
      have lp' := fun n os => (SWK.cells2 S2.out RR.out hz a (by omega) x hx n os).2
      clear hdk hy hx hyd
      obtain ⟨cv, hcv⟩ : ∃ cv, cv = cfL y x := ⟨_, rfl⟩
      have hcg := fun (n : Nat) (os : Array Obj) => closure_cmp y x (grow (wr.drewN n) os)
      rw [← hcv] at hcg
      have HCV := Lib.hid hcv
      clear hcv
      by_cases hlv : cv < 0
      · have hd : decide (cv < 0) = true := decide_eq_true hlv
        go_wp2_with fail
        go_quiet_grown (first | (go_at_fn 22; refine Calls.grown_of (hcg _ _)))
        have S3 := Lib.hid (S2.out.grown nq osq)
        clear lj lj' lp lp' hcg S2 S1
        generalize grow (wr.drewN nq) osq = wq at S3 ⊢
        go_wp2_with fail
        go_roundg (j - (h + 1))
        case measure => omega
        case rel =>
          refine ⟨h + 1, j, by go_num, rfl, by omega, by omega, hjb, Nat.le_refl _, ⟨.inr ⟨by omega, ?_⟩, HI.out.2⟩, ?_⟩
          · have e : h + 1 - m - 1 = h - m := by omega
            simp only [e]
            rw [← HY.out]
            rw [HCV.out] at hlv
            exact (cfL_neg _ _).1 hlv
          · show St _ _ _ _ _
            have h := S3.out
            rw [HDK.out] at h
            exact h
      · have hd : decide (cv < 0) = false := decide_eq_false hlv
        go_wp2_with fail
        go_quiet_grown (first | (go_at_fn 22; refine Calls.grown_of (hcg _ _)))
        have S3 := Lib.hid (S2.out.grown nq osq)
        clear lj lj' lp lp' hcg S2 S1
        generalize grow (wr.drewN nq) osq = wq at S3 ⊢
        go_wp2_with fail
        go_roundg (h - i)
        case measure => omega
        case rel =>
          refine ⟨i, h, rfl, rfl, hmi, hhi, by omega, Nat.le_refl _, ⟨HI.out.1, .inr ⟨hvl, ?_⟩⟩, ?_⟩
          · rw [← HY.out]
            rw [HCV.out] at hlv
            exact fun e => absurd ((cfL_neg _ _).2 e) (by omega)
          · show St _ _ _ _ _
            have h := S3.out
            rw [HDK.out] at h
            exact h
    · obtain rfl : i = j := by omega
      have w1 : IntKind.i64.wrap ((i : Int) - 1) = (i : Int) - 1 := by rw [IntKind.wrap_i64]; omega
      go_wp2_with fail
      clear w1
      have S2 : Hid (St w0 blk off (p ++ [] ++ x :: (v ++ q)) wr) := by have := S1.out; show St _ _ _ _ _; simpa using this
      clear S1
      go_loopg [13] (i - m) (fun g vk wr => ∃ (k : Nat) (y1 y2 : List Lab), vk = .int .i64 (k : Int) ∧ a ≤ k ∧ k + 1 ≤ i ∧ i - 1 - k ≤ g ∧ Hid (y1 ++ y2 = v ∧ a + y1.length = k) ∧ Hid (St w0 blk off (p ++ y1 ++ x :: (y2 ++ q)) wr))
      case atStart => exact ⟨a, [], v, rfl, Nat.le_refl _, by omega, by omega, ⟨rfl, rfl⟩, S2.out⟩
      case round =>
        clear S2
        obtain ⟨k, y1, y2, rfl, hak, hki, hgk, HK, S3⟩ := hrel
        have w1 : IntKind.i64.wrap ((i : Int) - 1) = (i : Int) - 1 := by rw [IntKind.wrap_i64]; omega
        by_cases hk : k + 1 < i
        · have t1 : (k : Int) < (i : Int) - 1 := by omega
          obtain ⟨z, y3, rfl⟩ : ∃ z y3, y2 = z :: y3 := by
            obtain ⟨h1, h2⟩ := HK.out
            have h3 := congrArg List.length h1
            have h4 := HA.out.2.2.2
            have h5 := HM.out
            cases y2 with
            | nil => simp at h3; omega
            | cons z y3 => exact ⟨z, y3, rfl⟩
          obtain ⟨dk, hdk⟩ : ∃ dk, dk = (p ++ y1 ++ x :: (z :: y3 ++ q)).toArray := ⟨_, rfl⟩
          have S4 : Hid (SWK encL 2 w0 blk off dk wr) := by show SWK _ _ _ _ _ _ _; rw [hdk]; exact S3.out
          have hzN : dk.size = N := by
            rw [hdk]
            have h1 := HA.out.1
            have h2 := congrArg List.length HK.out.1
            simp at h1 h2 ⊢
            omega
          have hz : dk.size = l0.toArray.size := by rw [hzN]; simpa using HA.out.2.1.symm
          have hx : dk[k]! = x := by rw [hdk]; exact at_split (by have := HK.out.2; have := HA.out.2.2.1; simp; omega)
          have hzd : dk[k + 1]! = z := by
            rw [hdk]
            have := at_split (A := p ++ y1 ++ [x]) (C := y3 ++ q) (x := z) (i := k + 1) (by have := HK.out.2; have := HA.out.2.2.1; simp; omega)
            simpa using this
          have HDK := Lib.hid hdk
          obtain ⟨c1, c2, c3, c4, f1, f2, f3, f4, ⟨v1, g1⟩, ⟨v2, g2⟩, ⟨v3, g3⟩, S5⟩ := swap_facts S4.out RR.out hz k (k + 1) (by omega) (by omega) x z hx hzd
          have q1 : (k : Int) < (N : Int) := by omega
          have q2 : (k : Int) + 1 < (N : Int) := by omega
          have p2 : (0 : Int) ≤ (k : Int) + 1 := by omega
          have t2 : ((k : Int) + 1).toNat = k + 1 := by omega
          have w2 : IntKind.i64.wrap ((k : Int) + 1) = (k : Int) + 1 := by rw [IntKind.wrap_i64]; omega
          clear hdk hx hzd S4 S3
          go_wp2_with fail
          go_big_region_o
          clear c1 c2 c3 c4 f1 f2 f3 f4 g1 g2 g3
          generalize ((((wr.setCell ⟨blk, off + k * 2, none⟩ (.string z.1)).setCell ⟨blk, off + k * 2 + 1, none⟩ (.string z.2)).setCell ⟨blk, off + (k + 1) * 2, none⟩ (.string x.1)).setCell ⟨blk, off + (k + 1) * 2 + 1, none⟩ (.string x.2)).drew = wz at S5 ⊢
          go_wp2_with fail
          go_roundg (i - 1 - (k + 1))
          case measure => omega
          case rel =>
            refine ⟨k + 1, y1 ++ [z], y3, by go_num, by omega, by omega, Nat.le_refl _, ⟨by rw [← HK.out.1]; simp, by rw [List.length_append]; have := HK.out.2; simp; omega⟩, ?_⟩
            show St _ _ _ _ _
            have h := S5.out
            rw [HDK.out, up_step (by have := HK.out.2; have := HA.out.2.2.1; omega)] at h
            exact h
        · obtain rfl : i = k + 1 := by omega
          have t1 : ¬ (k : Int) < ((k + 1 : Nat) : Int) - 1 := by omega
          have t1d : decide ((k : Int) < ((k + 1 : Nat) : Int) - 1) = false := decide_eq_false t1
          go_wp2
          refine bodyPost_ret (results_none rfl _ _ _) rfl ?_
          refine ⟨rfl, y1 ++ x :: y2, ?_⟩
          obtain ⟨h1, h2⟩ := HK.out
          have h3 := HA.out.2.2.2
          have h4 := HM.out
          have hl := congrArg List.length h1
          simp at hl
          have e1 : v.take (k + 1 - m) = y1 := by rw [← h1, show k + 1 - m = y1.length by omega]; simp
          have e2 : v.drop (k + 1 - m) = y2 := by rw [← h1, show k + 1 - m = y1.length by omega]; simp
          have hd := front_done (x := x) (c := k + 1 - m) HV.out (by omega) HI.out.1 HI.out.2
          rw [e1, e2] at hd
          exact ⟨by simp; omega, hd.1, hd.2, by simpa using S3.out⟩
end Go.Proofs.Ytmdpkblkbokhoaa
