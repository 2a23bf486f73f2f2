/- The library's stable sort: one put into a sorted row (by sort/gensort.py). -/
import Derived.Test.YtajkhbdniadkkaaSoQC
namespace Go.Proofs.Ytajkhbdniadkkaa.Qs
open Go.Shelf Go.RowKit Go.Lib Go.Sort Go.Deep
open Go.Joins (cell_of_block unfrozen_of_block block_setCell)
set_option linter.unusedVariables false
set_option linter.unusedSimpArgs false

/-- The answer of a merge in place. -/
def Merged (w0 : World) (blk off : Nat) (p u v q : List El) (e : Ending) (w' : World) : Prop :=
  e = .returned (.tuple #[]) ∧ ∃ s, s.length = u.length + v.length ∧ Sorted s ∧ Same1 (u ++ v) s ∧ St w0 blk off (p ++ s ++ q) w'
theorem at_place {p q : List El} {i : Nat} {v : List El} {j : Nat} (hi : i = p.length + j) (hj : j < v.length) : (p ++ v ++ q).toArray[i]! = v[j] := by
  subst hi
  rw [getElem!_pos _ _ (by simp; omega)]
  simp [hj]
/-- A label goes one place up. -/
theorem up_step {p y1 y2 q : List El} {x z : El} {j : Nat} (hj : j = p.length + y1.length) : swp (p ++ y1 ++ x :: (z :: y2 ++ q)).toArray j (j + 1) = (p ++ (y1 ++ [z]) ++ x :: (y2 ++ q)).toArray := by
  have h := swp_split (A := p ++ y1) (B := []) (C := y2 ++ q) (x := x) (y := z) (i := j) (j := j + 1) (by simp; omega) (by simp; omega)
  simpa using h

set_option maxHeartbeats 4000000 in
set_option maxRecDepth 1000000 in
theorem sym_front (w0 w : World) (blk off cap : Nat) (l0 p v q : List El) (x : El) (a b N : Nat) (R : RowL w0 blk off l0) (S : St w0 blk off (p ++ [x] ++ v ++ q) w) (hv : Sorted v)
    (hN : (p ++ [x] ++ v ++ q).length = N) (h0 : l0.length = N) (ha : p.length = a) (hb : a + 1 + v.length = b) (hsz : N < 4611686018427387904) :
    Calls Try.prog 82 #[.slice (some ⟨blk, off, none⟩) N cap, .int .i64 (a : Int), .int .i64 ((a + 1 : Nat) : Int), .int .i64 (b : Int), fvC] w (Merged w0 blk off p [x] v q) := by
  have mixed : Try.prog.follows .mixedOrders = true := by kernel_rfl
  have eg := enters_cmp
  have RR := Lib.hid R
  have S0 := Lib.hid S
  have HV := Lib.hid hv
  have HA : Hid ((p ++ [x] ++ v ++ q).length = N ∧ l0.length = N ∧ p.length = a ∧ a + 1 + v.length = b) := ⟨hN, h0, ha, hb⟩
  have hab : a + 1 ≤ b := by omega
  have hbN : b ≤ N := by simp at hN; omega
  clear R S hN h0 ha hb hv
  obtain ⟨m, hm⟩ : ∃ m, m = a + 1 := ⟨_, rfl⟩
  rw [← hm] at hab ⊢
  have hma : IntKind.i64.wrap ((m : Int) - (a : Int)) = 1 := by rw [IntKind.wrap_i64]; omega
  have hm1 : (m : Int) - (a : Int) = 1 := by omega
  have HM := Lib.hid hm
  have hmlt : a < m := by omega
  clear hm
  unfold Merged
  go_enter Try.func82, Try.ntmps82
  go_wp2_with fail
  go_loopg [10, 11] (b - m) (fun g vi vj wr => ∃ (i j : Nat), vi = .int .i64 (i : Int) ∧ vj = .int .i64 (j : Int) ∧ m ≤ i ∧ i ≤ j ∧ j ≤ b ∧ j - i ≤ g ∧
    Hid ((i - m = 0 ∨ ∃ h : i - m - 1 < v.length, lt (v[i - m - 1]) x) ∧ (j - m = v.length ∨ ∃ h : j - m < v.length, ¬ lt (v[j - m]) x)) ∧ Hid (St w0 blk off (p ++ [x] ++ v ++ q) wr))
  case atStart => exact ⟨m, b, rfl, rfl, Nat.le_refl _, hab, Nat.le_refl _, Nat.le_refl _, ⟨.inl (by omega), .inl (by have := HA.out.2.2.2; have := HM.out; omega)⟩, S0.out⟩
  case round =>
    clear S0
    obtain ⟨i, j, rfl, rfl, hmi, hij, hjb, hg, HI, S1⟩ := hrel
    by_cases hlt : i < j
    · obtain ⟨h, hh⟩ : ∃ h, h = (i + j) / 2 := ⟨_, rfl⟩
      have hhi : i ≤ h := by omega
      have hhj : h < j := by omega
      have w1 : IntKind.i64.wrap ((i : Int) + (j : Int)) = (i : Int) + (j : Int) := by rw [IntKind.wrap_i64]; omega
      have e1 : ((i : Int) + (j : Int)) / 2 = (h : Int) := by omega
      clear hh
      obtain ⟨dk, hdk⟩ : ∃ dk, dk = (p ++ [x] ++ v ++ q).toArray := ⟨_, rfl⟩
      have S2 : Hid (SWK enc 5 w0 blk off dk wr) := by show SWK _ _ _ _ _ _ _; rw [hdk]; exact S1.out
      have hzN : dk.size = N := by rw [hdk]; simpa using HA.out.1
      have hz : dk.size = l0.toArray.size := by rw [hzN]; simpa using HA.out.2.1.symm
      have hvl : h - m < v.length := by have := HA.out.2.2.2; have := HM.out; omega
      obtain ⟨y, hy⟩ : ∃ y, y = v[h - m] := ⟨_, rfl⟩
      have hx : dk[a]! = x := by
        rw [hdk]
        have := at_split (A := p) (C := v ++ q) (x := x) (i := a) HA.out.2.2.1.symm
        simpa using this
      have hyd : dk[h]! = y := by rw [hdk, hy]; exact at_place (p := p ++ [x]) (by have := HA.out.2.2.1; have := HM.out; simp; omega) hvl
      have HDK := Lib.hid hdk
      have HY := Lib.hid hy
      have hhN : h < N := by omega
      have haN : a < N := by omega
      have LJ := Lib.hid (ldO S2.out RR.out hz h (by omega) y hyd)
      have LP := Lib.hid (ldO S2.out RR.out hz a (by omega) x hx)
      clear hdk hy hx hyd
      obtain ⟨cv, hcv⟩ : ∃ cv, cv = cf y x := ⟨_, rfl⟩
      have hcg := fun (n : Nat) (os : Array Obj) => closure_cmp y x (grow (wr.drewN n) os)
      rw [← hcv] at hcg
      have HCV := Lib.hid hcv
      clear hcv
      by_cases hlv : cv < 0
      · have hd : decide (cv < 0) = true := decide_eq_true hlv
        go_wp2_with fail
        refine wp_region_quiet_grown (by assumption) (by kernel_rfl) ?_
        iterate 4 (quiet_step (fail))
        (refine wpQuiet_load (by kernel_rfl) 52 _ rfl (.pointer (some ⟨blk, off + h * 5, none⟩)) (.agg (enA y)) (by rfl) (fun w' h => by obtain ⟨p, rfl⟩ := h; exact LJ.out _ _) ?_; simp only [Act.put, List.setIfInBounds_toArray, List.set_cons_zero, List.set_cons_succ])
        iterate 3 (quiet_step (fail))
        (refine wpQuiet_load (by kernel_rfl) 52 _ rfl (.pointer (some ⟨blk, off + a * 5, none⟩)) (.agg (enA x)) (by rfl) (fun w' h => by obtain ⟨p, rfl⟩ := h; exact LP.out _ _) ?_; simp only [Act.put, List.setIfInBounds_toArray, List.set_cons_zero, List.set_cons_succ])
        repeat (quiet_step (first | (go_at_fn 40; refine Calls.grown_of (hcg _ _))))
        refine wpQuiet_nil ?_
        intro _ hw'
        obtain ⟨⟨nq, osq⟩, hw''⟩ := hw'
        subst hw''
        have S3 := Lib.hid (S2.out.grown nq osq)
        clear LJ LP hcg S2 S1
        generalize grow (wr.drewN nq) osq = wq at S3 ⊢
        go_wp2_with fail
        go_roundg (j - (h + 1))
        case measure => omega
        case rel =>
          refine ⟨h + 1, j, by go_num, rfl, by omega, by omega, hjb, Nat.le_refl _, ⟨.inr ⟨by omega, ?_⟩, HI.out.2⟩, ?_⟩
          · have e : h + 1 - m - 1 = h - m := by omega
            simp only [e]
            rw [← HY.out]
            rw [HCV.out] at hlv
            exact (cf_neg _ _).1 hlv
          · show St _ _ _ _ _
            have h := S3.out
            rw [HDK.out] at h
            exact h
      · have hd : decide (cv < 0) = false := decide_eq_false hlv
        go_wp2_with fail
        refine wp_region_quiet_grown (by assumption) (by kernel_rfl) ?_
        iterate 4 (quiet_step (fail))
        (refine wpQuiet_load (by kernel_rfl) 52 _ rfl (.pointer (some ⟨blk, off + h * 5, none⟩)) (.agg (enA y)) (by rfl) (fun w' h => by obtain ⟨p, rfl⟩ := h; exact LJ.out _ _) ?_; simp only [Act.put, List.setIfInBounds_toArray, List.set_cons_zero, List.set_cons_succ])
        iterate 3 (quiet_step (fail))
        (refine wpQuiet_load (by kernel_rfl) 52 _ rfl (.pointer (some ⟨blk, off + a * 5, none⟩)) (.agg (enA x)) (by rfl) (fun w' h => by obtain ⟨p, rfl⟩ := h; exact LP.out _ _) ?_; simp only [Act.put, List.setIfInBounds_toArray, List.set_cons_zero, List.set_cons_succ])
        repeat (quiet_step (first | (go_at_fn 40; refine Calls.grown_of (hcg _ _))))
        refine wpQuiet_nil ?_
        intro _ hw'
        obtain ⟨⟨nq, osq⟩, hw''⟩ := hw'
        subst hw''
        have S3 := Lib.hid (S2.out.grown nq osq)
        clear LJ LP hcg S2 S1
        generalize grow (wr.drewN nq) osq = wq at S3 ⊢
        go_wp2_with fail
        go_roundg (h - i)
        case measure => omega
        case rel =>
          refine ⟨i, h, rfl, rfl, hmi, hhi, by omega, Nat.le_refl _, ⟨HI.out.1, .inr ⟨hvl, ?_⟩⟩, ?_⟩
          · rw [← HY.out]
            rw [HCV.out] at hlv
            exact fun e => absurd ((cf_neg _ _).2 e) (by omega)
          · show St _ _ _ _ _
            have h := S3.out
            rw [HDK.out] at h
            exact h
    · obtain rfl : i = j := by omega
      have w1 : IntKind.i64.wrap ((i : Int) - 1) = (i : Int) - 1 := by rw [IntKind.wrap_i64]; omega
      go_wp2_with fail
      clear w1
      have S2 : Hid (St w0 blk off (p ++ [] ++ x :: (v ++ q)) wr) := by have := S1.out; show St _ _ _ _ _; simpa using this
      clear S1
      go_loopg [13] (i - m) (fun g vk wr => ∃ (k : Nat) (y1 y2 : List El), vk = .int .i64 (k : Int) ∧ a ≤ k ∧ k + 1 ≤ i ∧ i - 1 - k ≤ g ∧ Hid (y1 ++ y2 = v ∧ a + y1.length = k) ∧ Hid (St w0 blk off (p ++ y1 ++ x :: (y2 ++ q)) wr))
      case atStart => exact ⟨a, [], v, rfl, Nat.le_refl _, by omega, by omega, ⟨rfl, rfl⟩, S2.out⟩
      case round =>
        clear S2
        obtain ⟨k, y1, y2, rfl, hak, hki, hgk, HK, S3⟩ := hrel
        have w1 : IntKind.i64.wrap ((i : Int) - 1) = (i : Int) - 1 := by rw [IntKind.wrap_i64]; omega
        by_cases hk : k + 1 < i
        · have t1 : (k : Int) < (i : Int) - 1 := by omega
          obtain ⟨z, y3, rfl⟩ : ∃ z y3, y2 = z :: y3 := by
            obtain ⟨h1, h2⟩ := HK.out
            have h3 := congrArg List.length h1
            have h4 := HA.out.2.2.2
            have h5 := HM.out
            cases y2 with
            | nil => simp at h3; omega
            | cons z y3 => exact ⟨z, y3, rfl⟩
          obtain ⟨dk, hdk⟩ : ∃ dk, dk = (p ++ y1 ++ x :: (z :: y3 ++ q)).toArray := ⟨_, rfl⟩
          have S4 : Hid (SWK enc 5 w0 blk off dk wr) := by show SWK _ _ _ _ _ _ _; rw [hdk]; exact S3.out
          have hzN : dk.size = N := by
            rw [hdk]
            have h1 := HA.out.1
            have h2 := congrArg List.length HK.out.1
            simp at h1 h2 ⊢
            omega
          have hz : dk.size = l0.toArray.size := by rw [hzN]; simpa using HA.out.2.1.symm
          have hx : dk[k]! = x := by rw [hdk]; exact at_split (by have := HK.out.2; have := HA.out.2.2.1; simp; omega)
          have hzd : dk[k + 1]! = z := by
            rw [hdk]
            have := at_split (A := p ++ y1 ++ [x]) (C := y3 ++ q) (x := z) (i := k + 1) (by have := HK.out.2; have := HA.out.2.2.1; simp; omega)
            simpa using this
          have HDK := Lib.hid hdk
          have SW := Lib.hid (swapO S4.out RR.out hz k (k + 1) (by omega) (by omega) x z hx hzd)
          have q1 : (k : Int) < (N : Int) := by omega
          have q2 : (k : Int) + 1 < (N : Int) := by omega
          have p2 : (0 : Int) ≤ (k : Int) + 1 := by omega
          have t2 : ((k : Int) + 1).toNat = k + 1 := by omega
          have w2 : IntKind.i64.wrap ((k : Int) + 1) = (k : Int) + 1 := by rw [IntKind.wrap_i64]; omega
          clear hdk hx hzd S4 S3
          go_wp2_with fail
          refine wp_region_E (S := fun ws => ws.rangeAt blk (off + k * 5) (enA x).toList ∧ ws.rangeAt blk (off + (k + 1) * 5) (enA z).toList) (f := 15) mixed ⟨SW.out.1, SW.out.2.1⟩ (fun hS => ?_)
          refine wpAnyE_takeP (i := 0) (d := 61) (v := .slice (some ⟨blk, off, none⟩) N cap) _ rfl rfl (by kernel_rfl) (by kernel_rfl) (by kernel_rfl) (by kernel_rfl) (fun _ _ _ h => h) (Or.inl ⟨by kernel_rfl, fun ws => by first | (go_simp; done) | (go_simp; with_reducible rfl) | (go_simp; rfl) | (go_simp; intro hlt; exfalso; omega) | (go_simp; omega)⟩) hS ?_
          simp only [Act.put, List.setIfInBounds_toArray, List.set_cons_zero, List.set_cons_succ]
          refine wpAnyE_takeP (i := 1) (d := 62) (v := .int .i64 ((k : Int))) _ rfl rfl (by kernel_rfl) (by kernel_rfl) (by kernel_rfl) (by kernel_rfl) (fun _ _ _ h => h) (Or.inl ⟨by kernel_rfl, fun ws => by first | (go_simp; done) | (go_simp; with_reducible rfl) | (go_simp; rfl) | (go_simp; intro hlt; exfalso; omega) | (go_simp; omega)⟩) hS ?_
          simp only [Act.put, List.setIfInBounds_toArray, List.set_cons_zero, List.set_cons_succ]
          refine wpAnyE_takeP (i := 2) (d := 63) (v := .slice (some ⟨blk, off, none⟩) N cap) _ rfl rfl (by kernel_rfl) (by kernel_rfl) (by kernel_rfl) (by kernel_rfl) (fun _ _ _ h => h) (Or.inl ⟨by kernel_rfl, fun ws => by first | (go_simp; done) | (go_simp; with_reducible rfl) | (go_simp; rfl) | (go_simp; intro hlt; exfalso; omega) | (go_simp; omega)⟩) hS ?_
          simp only [Act.put, List.setIfInBounds_toArray, List.set_cons_zero, List.set_cons_succ]
          refine wpAnyE_takeP (i := 3) (d := 64) (v := .int .i64 ((k : Int))) _ rfl rfl (by kernel_rfl) (by kernel_rfl) (by kernel_rfl) (by kernel_rfl) (fun _ _ _ h => h) (Or.inl ⟨by kernel_rfl, fun ws => by first | (go_simp; done) | (go_simp; with_reducible rfl) | (go_simp; rfl) | (go_simp; intro hlt; exfalso; omega) | (go_simp; omega)⟩) hS ?_
          simp only [Act.put, List.setIfInBounds_toArray, List.set_cons_zero, List.set_cons_succ]
          refine wpAnyE_takeP (i := 4) (d := 65) (v := .int .i64 ((k : Int) + 1)) _ rfl rfl (by kernel_rfl) (by kernel_rfl) (by kernel_rfl) (by kernel_rfl) (fun _ _ _ h => h) (Or.inl ⟨by kernel_rfl, fun ws => by first | (go_simp; done) | (go_simp; with_reducible rfl) | (go_simp; rfl) | (go_simp; intro hlt; exfalso; omega) | (go_simp; omega)⟩) hS ?_
          simp only [Act.put, List.setIfInBounds_toArray, List.set_cons_zero, List.set_cons_succ]
          refine wpAnyE_takeP (i := 5) (d := 66) (v := .slice (some ⟨blk, off, none⟩) N cap) _ rfl rfl (by kernel_rfl) (by kernel_rfl) (by kernel_rfl) (by kernel_rfl) (fun _ _ _ h => h) (Or.inl ⟨by kernel_rfl, fun ws => by first | (go_simp; done) | (go_simp; with_reducible rfl) | (go_simp; rfl) | (go_simp; intro hlt; exfalso; omega) | (go_simp; omega)⟩) hS ?_
          simp only [Act.put, List.setIfInBounds_toArray, List.set_cons_zero, List.set_cons_succ]
          refine wpAnyE_takeP (i := 6) (d := 67) (v := .int .i64 ((k : Int))) _ rfl rfl (by kernel_rfl) (by kernel_rfl) (by kernel_rfl) (by kernel_rfl) (fun _ _ _ h => h) (Or.inl ⟨by kernel_rfl, fun ws => by first | (go_simp; done) | (go_simp; with_reducible rfl) | (go_simp; rfl) | (go_simp; intro hlt; exfalso; omega) | (go_simp; omega)⟩) hS ?_
          simp only [Act.put, List.setIfInBounds_toArray, List.set_cons_zero, List.set_cons_succ]
          refine wpAnyE_takeP (i := 7) (d := 68) (v := .int .i64 ((k : Int) + 1)) _ rfl rfl (by kernel_rfl) (by kernel_rfl) (by kernel_rfl) (by kernel_rfl) (fun _ _ _ h => h) (Or.inl ⟨by kernel_rfl, fun ws => by first | (go_simp; done) | (go_simp; with_reducible rfl) | (go_simp; rfl) | (go_simp; intro hlt; exfalso; omega) | (go_simp; omega)⟩) hS ?_
          simp only [Act.put, List.setIfInBounds_toArray, List.set_cons_zero, List.set_cons_succ]
          refine wpAnyE_takeP (i := 8) (d := 69) (v := .pointer (some ⟨blk, off + (k + 1) * 5, none⟩)) _ rfl rfl (by kernel_rfl) (by kernel_rfl) (by kernel_rfl) (by kernel_rfl) (fun _ _ _ h => h) (Or.inl ⟨by kernel_rfl, fun ws => by first | (go_simp; done) | (go_simp; with_reducible rfl) | (go_simp; rfl) | (go_simp; intro hlt; exfalso; omega) | (go_simp; omega)⟩) hS ?_
          simp only [Act.put, List.setIfInBounds_toArray, List.set_cons_zero, List.set_cons_succ]
          refine wpAnyE_takeD (i := 9) (d := 70) (v := .agg (enA z)) _ rfl rfl (by kernel_rfl) (by kernel_rfl) (by kernel_rfl) (by kernel_rfl) (fun _ _ _ h => h) (yieldsIf_load_mid (by kernel_rfl) _ _ rfl blk (off + (k + 1) * 5) (by kernel_rfl) (enA z).toList _ (fun ws hSw => hSw.2) Try.underlying52 rfl (by rw [Array.length_toList, enA_size]; kernel_rfl)) hS ?_
          simp only [Act.put, List.setIfInBounds_toArray, List.set_cons_zero, List.set_cons_succ]
          refine wpAnyE_takeP (i := 10) (d := 71) (v := .slice (some ⟨blk, off, none⟩) N cap) _ rfl rfl (by kernel_rfl) (by kernel_rfl) (by kernel_rfl) (by kernel_rfl) (fun _ _ _ h => h) (Or.inl ⟨by kernel_rfl, fun ws => by first | (go_simp; done) | (go_simp; with_reducible rfl) | (go_simp; rfl) | (go_simp; intro hlt; exfalso; omega) | (go_simp; omega)⟩) hS ?_
          simp only [Act.put, List.setIfInBounds_toArray, List.set_cons_zero, List.set_cons_succ]
          refine wpAnyE_takeP (i := 11) (d := 72) (v := .int .i64 ((k : Int))) _ rfl rfl (by kernel_rfl) (by kernel_rfl) (by kernel_rfl) (by kernel_rfl) (fun _ _ _ h => h) (Or.inl ⟨by kernel_rfl, fun ws => by first | (go_simp; done) | (go_simp; with_reducible rfl) | (go_simp; rfl) | (go_simp; intro hlt; exfalso; omega) | (go_simp; omega)⟩) hS ?_
          simp only [Act.put, List.setIfInBounds_toArray, List.set_cons_zero, List.set_cons_succ]
          refine wpAnyE_takeP (i := 12) (d := 73) (v := .pointer (some ⟨blk, off + k * 5, none⟩)) _ rfl rfl (by kernel_rfl) (by kernel_rfl) (by kernel_rfl) (by kernel_rfl) (fun _ _ _ h => h) (Or.inl ⟨by kernel_rfl, fun ws => by first | (go_simp; done) | (go_simp; with_reducible rfl) | (go_simp; rfl) | (go_simp; intro hlt; exfalso; omega) | (go_simp; omega)⟩) hS ?_
          simp only [Act.put, List.setIfInBounds_toArray, List.set_cons_zero, List.set_cons_succ]
          refine wpAnyE_takeD (i := 13) (d := 74) (v := .agg (enA x)) _ rfl rfl (by kernel_rfl) (by kernel_rfl) (by kernel_rfl) (by kernel_rfl) (fun _ _ _ h => h) (yieldsIf_load_mid (by kernel_rfl) _ _ rfl blk (off + k * 5) (by kernel_rfl) (enA x).toList _ (fun ws hSw => hSw.1) Try.underlying52 rfl (by rw [Array.length_toList, enA_size]; kernel_rfl)) hS ?_
          simp only [Act.put, List.setIfInBounds_toArray, List.set_cons_zero, List.set_cons_succ]
          refine wpAnyE_takeP (i := 14) (d := 75) (v := .pointer (some ⟨blk, off + k * 5, none⟩)) _ rfl rfl (by kernel_rfl) (by kernel_rfl) (by kernel_rfl) (by kernel_rfl) (fun _ _ _ h => h) (Or.inl ⟨by kernel_rfl, fun ws => by first | (go_simp; done) | (go_simp; with_reducible rfl) | (go_simp; rfl) | (go_simp; intro hlt; exfalso; omega) | (go_simp; omega)⟩) hS ?_
          simp only [Act.put, List.setIfInBounds_toArray, List.set_cons_zero, List.set_cons_succ]
          refine wpAnyE_write rfl (by kernel_rfl) (fun K hK => ?_)
          refine Ld.step_store (by rfl) _ _ _ rfl blk (off + k * 5) (enA z) (by rfl) (by rfl) SW.out.2.2.1 (by rw [enA_size]; kernel_rfl) (enA_one z) ?_
          refine hK _ _ ?_
          try simp only [Act.put, List.setIfInBounds_toArray, List.set_cons_zero, List.set_cons_succ]
          refine wpAny_one (i := 16) rfl (by kernel_rfl) (fun K hK => ?_)
          go_simp
          refine hK _ _ ?_
          try simp only [Act.put, List.setIfInBounds_toArray, List.set_cons_zero, List.set_cons_succ]
          refine wpAny_one (i := 17) rfl (by kernel_rfl) (fun K hK => ?_)
          refine Ld.step_store (by rfl) _ _ _ rfl blk (off + (k + 1) * 5) (enA x) (by rfl) (by rfl) SW.out.2.2.2.1 (by rw [enA_size]; kernel_rfl) (enA_one x) ?_
          refine hK _ _ ?_
          try simp only [Act.put, List.setIfInBounds_toArray, List.set_cons_zero, List.set_cons_succ]
          refine wpAny_end (by kernel_rfl) ?_
          have S5 := Lib.hid SW.out.2.2.2.2
          clear SW
          generalize (wr.drew.setCells blk (off + k * 5) (enA z).toList).setCells blk (off + (k + 1) * 5) (enA x).toList = wz at S5 ⊢
          go_wp2_with fail
          go_roundg (i - 1 - (k + 1))
          case measure => omega
          case rel =>
            refine ⟨k + 1, y1 ++ [z], y3, by go_num, by omega, by omega, Nat.le_refl _, ⟨by rw [← HK.out.1]; simp, by rw [List.length_append]; have := HK.out.2; simp; omega⟩, ?_⟩
            show St _ _ _ _ _
            have h := S5.out
            rw [HDK.out, up_step (by have := HK.out.2; have := HA.out.2.2.1; omega)] at h
            exact h
        · obtain rfl : i = k + 1 := by omega
          have t1 : ¬ (k : Int) < ((k + 1 : Nat) : Int) - 1 := by omega
          have t1d : decide ((k : Int) < ((k + 1 : Nat) : Int) - 1) = false := decide_eq_false t1
          go_wp2
          refine bodyPost_ret (results_none rfl _ _ _) rfl ?_
          refine ⟨rfl, y1 ++ x :: y2, ?_⟩
          obtain ⟨h1, h2⟩ := HK.out
          have h3 := HA.out.2.2.2
          have h4 := HM.out
          have hl := congrArg List.length h1
          simp at hl
          have e1 : v.take (k + 1 - m) = y1 := by rw [← h1, show k + 1 - m = y1.length by omega]; simp
          have e2 : v.drop (k + 1 - m) = y2 := by rw [← h1, show k + 1 - m = y1.length by omega]; simp
          have hd := front_done (x := x) (c := k + 1 - m) HV.out (by omega) HI.out.1 HI.out.2
          rw [e1, e2] at hd
          exact ⟨by simp; omega, hd.1, hd.2, by simpa using S3.out⟩

set_option maxHeartbeats 4000000 in
set_option maxRecDepth 1000000 in
theorem sym_back (w0 w : World) (blk off cap : Nat) (l0 p u q : List El) (x : El) (a m N : Nat) (R : RowL w0 blk off l0) (S : St w0 blk off (p ++ u ++ [x] ++ q) w) (hu : Sorted u) (hu2 : 2 ≤ u.length)
    (hN : (p ++ u ++ [x] ++ q).length = N) (h0 : l0.length = N) (ha : p.length = a) (hm : a + u.length = m) (hsz : N < 4611686018427387904) :
    Calls Try.prog 82 #[.slice (some ⟨blk, off, none⟩) N cap, .int .i64 (a : Int), .int .i64 (m : Int), .int .i64 ((m + 1 : Nat) : Int), fvC] w (Merged w0 blk off p u [x] q) := by
  have mixed : Try.prog.follows .mixedOrders = true := by kernel_rfl
  have eg := enters_cmp
  have RR := Lib.hid R
  have S0 := Lib.hid S
  have HU := Lib.hid hu
  have HA : Hid ((p ++ u ++ [x] ++ q).length = N ∧ l0.length = N ∧ p.length = a ∧ a + u.length = m) := ⟨hN, h0, ha, hm⟩
  have ham : a + 2 ≤ m := by omega
  have hmN : m + 1 ≤ N := by simp at hN; omega
  clear R S hN h0 ha hm hu hu2
  obtain ⟨b, hb⟩ : ∃ b, b = m + 1 := ⟨_, rfl⟩
  rw [← hb] at hmN ⊢
  have hma : IntKind.i64.wrap ((m : Int) - (a : Int)) = (m : Int) - (a : Int) := by rw [IntKind.wrap_i64]; omega
  have hma1 : ((m : Int) - (a : Int) == 1) = false := by simp; omega
  have hbm : IntKind.i64.wrap ((b : Int) - (m : Int)) = 1 := by rw [IntKind.wrap_i64]; omega
  have hbm1 : (b : Int) - (m : Int) = 1 := by omega
  have hmb : m < b := by omega
  have HB := Lib.hid hb
  clear hb
  unfold Merged
  go_enter Try.func82, Try.ntmps82
  go_wp2_with fail
  go_loopg [14, 15] (m - a) (fun g vi vj wr => ∃ (i j : Nat), vi = .int .i64 (i : Int) ∧ vj = .int .i64 (j : Int) ∧ a ≤ i ∧ i ≤ j ∧ j ≤ m ∧ j - i ≤ g ∧
    Hid ((i - a = 0 ∨ ∃ h : i - a - 1 < u.length, ¬ lt x (u[i - a - 1])) ∧ (j - a = u.length ∨ ∃ h : j - a < u.length, lt x (u[j - a]))) ∧ Hid (St w0 blk off (p ++ u ++ [x] ++ q) wr))
  case atStart => exact ⟨a, m, rfl, rfl, Nat.le_refl _, by omega, Nat.le_refl _, Nat.le_refl _, ⟨.inl (by omega), .inl (by have := HA.out.2.2.2; omega)⟩, S0.out⟩
  case round =>
    clear S0
    obtain ⟨i, j, rfl, rfl, hmi, hij, hjb, hg, HI, S1⟩ := hrel
    by_cases hlt : i < j
    · obtain ⟨h, hh⟩ : ∃ h, h = (i + j) / 2 := ⟨_, rfl⟩
      have hhi : i ≤ h := by omega
      have hhj : h < j := by omega
      have w1 : IntKind.i64.wrap ((i : Int) + (j : Int)) = (i : Int) + (j : Int) := by rw [IntKind.wrap_i64]; omega
      have e1 : ((i : Int) + (j : Int)) / 2 = (h : Int) := by omega
      clear hh
      obtain ⟨dk, hdk⟩ : ∃ dk, dk = (p ++ u ++ [x] ++ q).toArray := ⟨_, rfl⟩
      have S2 : Hid (SWK enc 5 w0 blk off dk wr) := by show SWK _ _ _ _ _ _ _; rw [hdk]; exact S1.out
      have hzN : dk.size = N := by rw [hdk]; simpa using HA.out.1
      have hz : dk.size = l0.toArray.size := by rw [hzN]; simpa using HA.out.2.1.symm
      have hvl : h - a < u.length := by have := HA.out.2.2.2; omega
      obtain ⟨y, hy⟩ : ∃ y, y = u[h - a] := ⟨_, rfl⟩
      have hx : dk[m]! = x := by
        rw [hdk]
        have := at_split (A := p ++ u) (C := q) (x := x) (i := m) (by have := HA.out.2.2; simp; omega)
        simpa using this
      have hyd : dk[h]! = y := by
        rw [hdk, hy]
        have := at_place (p := p) (q := [x] ++ q) (v := u) (i := h) (j := h - a) (by have := HA.out.2.2.1; omega) hvl
        simpa using this
      have HDK := Lib.hid hdk
      have HY := Lib.hid hy
      have hhN : h < N := by omega
      have hmN2 : m < N := by omega
      have LJ := Lib.hid (ldO S2.out RR.out hz h (by omega) y hyd)
      have LP := Lib.hid (ldO S2.out RR.out hz m (by omega) x hx)
      clear hdk hy hx hyd
      obtain ⟨cv, hcv⟩ : ∃ cv, cv = cf x y := ⟨_, rfl⟩
      have hcg := fun (n : Nat) (os : Array Obj) => closure_cmp x y (grow (wr.drewN n) os)
      rw [← hcv] at hcg
      have HCV := Lib.hid hcv
      clear hcv
      by_cases hlv : cv < 0
      · have hd : decide (cv < 0) = true := decide_eq_true hlv
        go_wp2_with fail
        refine wp_region_quiet_grown (by assumption) (by kernel_rfl) ?_
        iterate 4 (quiet_step (fail))
        (refine wpQuiet_load (by kernel_rfl) 52 _ rfl (.pointer (some ⟨blk, off + m * 5, none⟩)) (.agg (enA x)) (by rfl) (fun w' h => by obtain ⟨p, rfl⟩ := h; exact LP.out _ _) ?_; simp only [Act.put, List.setIfInBounds_toArray, List.set_cons_zero, List.set_cons_succ])
        iterate 3 (quiet_step (fail))
        (refine wpQuiet_load (by kernel_rfl) 52 _ rfl (.pointer (some ⟨blk, off + h * 5, none⟩)) (.agg (enA y)) (by rfl) (fun w' h => by obtain ⟨p, rfl⟩ := h; exact LJ.out _ _) ?_; simp only [Act.put, List.setIfInBounds_toArray, List.set_cons_zero, List.set_cons_succ])
        repeat (quiet_step (first | (go_at_fn 40; refine Calls.grown_of (hcg _ _))))
        refine wpQuiet_nil ?_
        intro _ hw'
        obtain ⟨⟨nq, osq⟩, hw''⟩ := hw'
        subst hw''
        have S3 := Lib.hid (S2.out.grown nq osq)
        clear LJ LP hcg S2 S1
        generalize grow (wr.drewN nq) osq = wq at S3 ⊢
        go_wp2_with fail
        go_roundg (h - i)
        case measure => omega
        case rel =>
          refine ⟨i, h, rfl, rfl, hmi, hhi, by omega, Nat.le_refl _, ⟨HI.out.1, .inr ⟨hvl, ?_⟩⟩, ?_⟩
          · rw [← HY.out]
            rw [HCV.out] at hlv
            exact (cf_neg _ _).1 hlv
          · show St _ _ _ _ _
            have h := S3.out
            rw [HDK.out] at h
            exact h
      · have hd : decide (cv < 0) = false := decide_eq_false hlv
        go_wp2_with fail
        refine wp_region_quiet_grown (by assumption) (by kernel_rfl) ?_
        iterate 4 (quiet_step (fail))
        (refine wpQuiet_load (by kernel_rfl) 52 _ rfl (.pointer (some ⟨blk, off + m * 5, none⟩)) (.agg (enA x)) (by rfl) (fun w' h => by obtain ⟨p, rfl⟩ := h; exact LP.out _ _) ?_; simp only [Act.put, List.setIfInBounds_toArray, List.set_cons_zero, List.set_cons_succ])
        iterate 3 (quiet_step (fail))
        (refine wpQuiet_load (by kernel_rfl) 52 _ rfl (.pointer (some ⟨blk, off + h * 5, none⟩)) (.agg (enA y)) (by rfl) (fun w' h => by obtain ⟨p, rfl⟩ := h; exact LJ.out _ _) ?_; simp only [Act.put, List.setIfInBounds_toArray, List.set_cons_zero, List.set_cons_succ])
        repeat (quiet_step (first | (go_at_fn 40; refine Calls.grown_of (hcg _ _))))
        refine wpQuiet_nil ?_
        intro _ hw'
        obtain ⟨⟨nq, osq⟩, hw''⟩ := hw'
        subst hw''
        have S3 := Lib.hid (S2.out.grown nq osq)
        clear LJ LP hcg S2 S1
        generalize grow (wr.drewN nq) osq = wq at S3 ⊢
        go_wp2_with fail
        go_roundg (j - (h + 1))
        case measure => omega
        case rel =>
          refine ⟨h + 1, j, by go_num, rfl, by omega, by omega, hjb, Nat.le_refl _, ⟨.inr ⟨by omega, ?_⟩, HI.out.2⟩, ?_⟩
          · have e : h + 1 - a - 1 = h - a := by omega
            simp only [e]
            rw [← HY.out]
            rw [HCV.out] at hlv
            exact fun e => absurd ((cf_neg _ _).2 e) (by omega)
          · show St _ _ _ _ _
            have h := S3.out
            rw [HDK.out] at h
            exact h
    · obtain rfl : i = j := by omega
      go_wp2_with fail
      have S2 : Hid (St w0 blk off (p ++ u ++ x :: ([] ++ q)) wr) := by have := S1.out; show St _ _ _ _ _; simpa using this
      clear S1
      go_loopg [17] (m - i) (fun g vk wr => ∃ (k : Nat) (y1 y2 : List El), vk = .int .i64 (k : Int) ∧ i ≤ k ∧ k ≤ m ∧ k - i ≤ g ∧ Hid (y1 ++ y2 = u ∧ a + y1.length = k) ∧ Hid (St w0 blk off (p ++ y1 ++ x :: (y2 ++ q)) wr))
      case atStart => exact ⟨m, u, [], rfl, hjb, Nat.le_refl _, Nat.le_refl _, ⟨by simp, HA.out.2.2.2⟩, S2.out⟩
      case round =>
        clear S2
        obtain ⟨k, y1, y2, rfl, hik, hkm, hgk, HK, S3⟩ := hrel
        by_cases hk : i < k
        · obtain ⟨y0, z, rfl⟩ : ∃ y0 z, y1 = y0 ++ [z] := by
            obtain ⟨h1, h2⟩ := HK.out
            rcases List.eq_nil_or_concat y1 with h | ⟨y0, z, h⟩
            · subst h; simp at h2; omega
            · exact ⟨y0, z, by rw [h, List.concat_eq_append]⟩
          obtain ⟨kp, rfl⟩ : ∃ kp, k = kp + 1 := ⟨k - 1, by omega⟩
          have hkp : Hid (a + y0.length = kp) := by have := HK.out.2; simp at this; show _ = _; omega
          obtain ⟨dk, hdk⟩ : ∃ dk, dk = (p ++ (y0 ++ [z]) ++ x :: (y2 ++ q)).toArray := ⟨_, rfl⟩
          have S4 : Hid (SWK enc 5 w0 blk off dk wr) := by show SWK _ _ _ _ _ _ _; rw [hdk]; exact S3.out
          have hzN : dk.size = N := by
            rw [hdk]
            have h1 := HA.out.1
            have h2 := congrArg List.length HK.out.1
            simp at h1 h2 ⊢
            omega
          have hz : dk.size = l0.toArray.size := by rw [hzN]; simpa using HA.out.2.1.symm
          have hx : dk[kp + 1]! = x := by rw [hdk]; exact at_split (by have := hkp.out; have := HA.out.2.2.1; simp; omega)
          have hzd : dk[kp]! = z := by
            rw [hdk]
            have := at_split (A := p ++ y0) (C := x :: (y2 ++ q)) (x := z) (i := kp) (by have := hkp.out; have := HA.out.2.2.1; simp; omega)
            simpa using this
          have HDK := Lib.hid hdk
          have SW := Lib.hid (swapO S4.out RR.out hz (kp + 1) kp (by omega) (by omega) x z hx hzd)
          have q1 : (kp : Int) < (N : Int) := by omega
          have q2 : (kp : Int) + 1 < (N : Int) := by omega
          have p2 : (0 : Int) ≤ (kp : Int) + 1 := by omega
          have t2 : ((kp : Int) + 1).toNat = kp + 1 := by omega
          have w2 : IntKind.i64.wrap (kp : Int) = (kp : Int) := by rw [IntKind.wrap_i64]; omega
          have hiz : (i : Int) < (kp : Int) + 1 := by omega
          clear hdk hx hzd S4 S3
          go_wp2_with fail
          refine wp_region_E (S := fun ws => ws.rangeAt blk (off + (kp + 1) * 5) (enA x).toList ∧ ws.rangeAt blk (off + kp * 5) (enA z).toList) (f := 15) mixed ⟨SW.out.1, SW.out.2.1⟩ (fun hS => ?_)
          refine wpAnyE_takeP (i := 0) (d := 113) (v := .slice (some ⟨blk, off, none⟩) N cap) _ rfl rfl (by kernel_rfl) (by kernel_rfl) (by kernel_rfl) (by kernel_rfl) (fun _ _ _ h => h) (Or.inl ⟨by kernel_rfl, fun ws => by first | (go_simp; done) | (go_simp; with_reducible rfl) | (go_simp; rfl) | (go_simp; intro hlt; exfalso; omega) | (go_simp; omega)⟩) hS ?_
          simp only [Act.put, List.setIfInBounds_toArray, List.set_cons_zero, List.set_cons_succ]
          refine wpAnyE_takeP (i := 1) (d := 114) (v := .int .i64 ((kp : Int) + 1)) _ rfl rfl (by kernel_rfl) (by kernel_rfl) (by kernel_rfl) (by kernel_rfl) (fun _ _ _ h => h) (Or.inl ⟨by kernel_rfl, fun ws => by first | (go_simp; done) | (go_simp; with_reducible rfl) | (go_simp; rfl) | (go_simp; intro hlt; exfalso; omega) | (go_simp; omega)⟩) hS ?_
          simp only [Act.put, List.setIfInBounds_toArray, List.set_cons_zero, List.set_cons_succ]
          refine wpAnyE_takeP (i := 2) (d := 115) (v := .slice (some ⟨blk, off, none⟩) N cap) _ rfl rfl (by kernel_rfl) (by kernel_rfl) (by kernel_rfl) (by kernel_rfl) (fun _ _ _ h => h) (Or.inl ⟨by kernel_rfl, fun ws => by first | (go_simp; done) | (go_simp; with_reducible rfl) | (go_simp; rfl) | (go_simp; intro hlt; exfalso; omega) | (go_simp; omega)⟩) hS ?_
          simp only [Act.put, List.setIfInBounds_toArray, List.set_cons_zero, List.set_cons_succ]
          refine wpAnyE_takeP (i := 3) (d := 116) (v := .int .i64 ((kp : Int) + 1)) _ rfl rfl (by kernel_rfl) (by kernel_rfl) (by kernel_rfl) (by kernel_rfl) (fun _ _ _ h => h) (Or.inl ⟨by kernel_rfl, fun ws => by first | (go_simp; done) | (go_simp; with_reducible rfl) | (go_simp; rfl) | (go_simp; intro hlt; exfalso; omega) | (go_simp; omega)⟩) hS ?_
          simp only [Act.put, List.setIfInBounds_toArray, List.set_cons_zero, List.set_cons_succ]
          refine wpAnyE_takeP (i := 4) (d := 117) (v := .int .i64 ((kp : Int))) _ rfl rfl (by kernel_rfl) (by kernel_rfl) (by kernel_rfl) (by kernel_rfl) (fun _ _ _ h => h) (Or.inl ⟨by kernel_rfl, fun ws => by first | (go_simp; done) | (go_simp; with_reducible rfl) | (go_simp; rfl) | (go_simp; intro hlt; exfalso; omega) | (go_simp; omega)⟩) hS ?_
          simp only [Act.put, List.setIfInBounds_toArray, List.set_cons_zero, List.set_cons_succ]
          refine wpAnyE_takeP (i := 5) (d := 118) (v := .slice (some ⟨blk, off, none⟩) N cap) _ rfl rfl (by kernel_rfl) (by kernel_rfl) (by kernel_rfl) (by kernel_rfl) (fun _ _ _ h => h) (Or.inl ⟨by kernel_rfl, fun ws => by first | (go_simp; done) | (go_simp; with_reducible rfl) | (go_simp; rfl) | (go_simp; intro hlt; exfalso; omega) | (go_simp; omega)⟩) hS ?_
          simp only [Act.put, List.setIfInBounds_toArray, List.set_cons_zero, List.set_cons_succ]
          refine wpAnyE_takeP (i := 6) (d := 119) (v := .int .i64 ((kp : Int) + 1)) _ rfl rfl (by kernel_rfl) (by kernel_rfl) (by kernel_rfl) (by kernel_rfl) (fun _ _ _ h => h) (Or.inl ⟨by kernel_rfl, fun ws => by first | (go_simp; done) | (go_simp; with_reducible rfl) | (go_simp; rfl) | (go_simp; intro hlt; exfalso; omega) | (go_simp; omega)⟩) hS ?_
          simp only [Act.put, List.setIfInBounds_toArray, List.set_cons_zero, List.set_cons_succ]
          refine wpAnyE_takeP (i := 7) (d := 120) (v := .int .i64 ((kp : Int))) _ rfl rfl (by kernel_rfl) (by kernel_rfl) (by kernel_rfl) (by kernel_rfl) (fun _ _ _ h => h) (Or.inl ⟨by kernel_rfl, fun ws => by first | (go_simp; done) | (go_simp; with_reducible rfl) | (go_simp; rfl) | (go_simp; intro hlt; exfalso; omega) | (go_simp; omega)⟩) hS ?_
          simp only [Act.put, List.setIfInBounds_toArray, List.set_cons_zero, List.set_cons_succ]
          refine wpAnyE_takeP (i := 8) (d := 121) (v := .pointer (some ⟨blk, off + kp * 5, none⟩)) _ rfl rfl (by kernel_rfl) (by kernel_rfl) (by kernel_rfl) (by kernel_rfl) (fun _ _ _ h => h) (Or.inl ⟨by kernel_rfl, fun ws => by first | (go_simp; done) | (go_simp; with_reducible rfl) | (go_simp; rfl) | (go_simp; intro hlt; exfalso; omega) | (go_simp; omega)⟩) hS ?_
          simp only [Act.put, List.setIfInBounds_toArray, List.set_cons_zero, List.set_cons_succ]
          refine wpAnyE_takeD (i := 9) (d := 122) (v := .agg (enA z)) _ rfl rfl (by kernel_rfl) (by kernel_rfl) (by kernel_rfl) (by kernel_rfl) (fun _ _ _ h => h) (yieldsIf_load_mid (by kernel_rfl) _ _ rfl blk (off + kp * 5) (by kernel_rfl) (enA z).toList _ (fun ws hSw => hSw.2) Try.underlying52 rfl (by rw [Array.length_toList, enA_size]; kernel_rfl)) hS ?_
          simp only [Act.put, List.setIfInBounds_toArray, List.set_cons_zero, List.set_cons_succ]
          refine wpAnyE_takeP (i := 10) (d := 123) (v := .slice (some ⟨blk, off, none⟩) N cap) _ rfl rfl (by kernel_rfl) (by kernel_rfl) (by kernel_rfl) (by kernel_rfl) (fun _ _ _ h => h) (Or.inl ⟨by kernel_rfl, fun ws => by first | (go_simp; done) | (go_simp; with_reducible rfl) | (go_simp; rfl) | (go_simp; intro hlt; exfalso; omega) | (go_simp; omega)⟩) hS ?_
          simp only [Act.put, List.setIfInBounds_toArray, List.set_cons_zero, List.set_cons_succ]
          refine wpAnyE_takeP (i := 11) (d := 124) (v := .int .i64 ((kp : Int) + 1)) _ rfl rfl (by kernel_rfl) (by kernel_rfl) (by kernel_rfl) (by kernel_rfl) (fun _ _ _ h => h) (Or.inl ⟨by kernel_rfl, fun ws => by first | (go_simp; done) | (go_simp; with_reducible rfl) | (go_simp; rfl) | (go_simp; intro hlt; exfalso; omega) | (go_simp; omega)⟩) hS ?_
          simp only [Act.put, List.setIfInBounds_toArray, List.set_cons_zero, List.set_cons_succ]
          refine wpAnyE_takeP (i := 12) (d := 125) (v := .pointer (some ⟨blk, off + (kp + 1) * 5, none⟩)) _ rfl rfl (by kernel_rfl) (by kernel_rfl) (by kernel_rfl) (by kernel_rfl) (fun _ _ _ h => h) (Or.inl ⟨by kernel_rfl, fun ws => by first | (go_simp; done) | (go_simp; with_reducible rfl) | (go_simp; rfl) | (go_simp; intro hlt; exfalso; omega) | (go_simp; omega)⟩) hS ?_
          simp only [Act.put, List.setIfInBounds_toArray, List.set_cons_zero, List.set_cons_succ]
          refine wpAnyE_takeD (i := 13) (d := 126) (v := .agg (enA x)) _ rfl rfl (by kernel_rfl) (by kernel_rfl) (by kernel_rfl) (by kernel_rfl) (fun _ _ _ h => h) (yieldsIf_load_mid (by kernel_rfl) _ _ rfl blk (off + (kp + 1) * 5) (by kernel_rfl) (enA x).toList _ (fun ws hSw => hSw.1) Try.underlying52 rfl (by rw [Array.length_toList, enA_size]; kernel_rfl)) hS ?_
          simp only [Act.put, List.setIfInBounds_toArray, List.set_cons_zero, List.set_cons_succ]
          refine wpAnyE_takeP (i := 14) (d := 127) (v := .pointer (some ⟨blk, off + (kp + 1) * 5, none⟩)) _ rfl rfl (by kernel_rfl) (by kernel_rfl) (by kernel_rfl) (by kernel_rfl) (fun _ _ _ h => h) (Or.inl ⟨by kernel_rfl, fun ws => by first | (go_simp; done) | (go_simp; with_reducible rfl) | (go_simp; rfl) | (go_simp; intro hlt; exfalso; omega) | (go_simp; omega)⟩) hS ?_
          simp only [Act.put, List.setIfInBounds_toArray, List.set_cons_zero, List.set_cons_succ]
          refine wpAnyE_write rfl (by kernel_rfl) (fun K hK => ?_)
          refine Ld.step_store (by rfl) _ _ _ rfl blk (off + (kp + 1) * 5) (enA z) (by rfl) (by rfl) SW.out.2.2.1 (by rw [enA_size]; kernel_rfl) (enA_one z) ?_
          refine hK _ _ ?_
          try simp only [Act.put, List.setIfInBounds_toArray, List.set_cons_zero, List.set_cons_succ]
          refine wpAny_one (i := 16) rfl (by kernel_rfl) (fun K hK => ?_)
          go_simp
          refine hK _ _ ?_
          try simp only [Act.put, List.setIfInBounds_toArray, List.set_cons_zero, List.set_cons_succ]
          refine wpAny_one (i := 17) rfl (by kernel_rfl) (fun K hK => ?_)
          refine Ld.step_store (by rfl) _ _ _ rfl blk (off + kp * 5) (enA x) (by rfl) (by rfl) SW.out.2.2.2.1 (by rw [enA_size]; kernel_rfl) (enA_one x) ?_
          refine hK _ _ ?_
          try simp only [Act.put, List.setIfInBounds_toArray, List.set_cons_zero, List.set_cons_succ]
          refine wpAny_end (by kernel_rfl) ?_
          have S5 := Lib.hid SW.out.2.2.2.2
          clear SW
          generalize (wr.drew.setCells blk (off + (kp + 1) * 5) (enA z).toList).setCells blk (off + kp * 5) (enA x).toList = wz at S5 ⊢
          go_wp2_with fail
          go_roundg (kp - i)
          case measure => omega
          case rel =>
            refine ⟨kp, y0, z :: y2, by go_num, by omega, by omega, Nat.le_refl _, ⟨by rw [← HK.out.1]; simp, hkp.out⟩, ?_⟩
            show St _ _ _ _ _
            have h := S5.out
            rw [HDK.out, down_step (by have := hkp.out; have := HA.out.2.2.1; omega)] at h
            exact h
        · obtain rfl : i = k := by omega
          have t1d : decide ((i : Int) > (i : Int)) = false := by simp
          go_wp2
          refine bodyPost_ret (results_none rfl _ _ _) rfl ?_
          refine ⟨rfl, y1 ++ x :: y2, ?_⟩
          obtain ⟨h1, h2⟩ := HK.out
          have h3 := HA.out.2.2.2
          have hl := congrArg List.length h1
          simp at hl
          have e1 : u.take (i - a) = y1 := by rw [← h1, show i - a = y1.length by omega]; simp
          have e2 : u.drop (i - a) = y2 := by rw [← h1, show i - a = y1.length by omega]; simp
          have hd := back_done (x := x) (c := i - a) HU.out (by omega) HI.out.1 HI.out.2
          rw [e1, e2] at hd
          exact ⟨by simp; omega, hd.1, hd.2, by simpa using S3.out⟩
end Go.Proofs.Ytajkhbdniadkkaa.Qs
