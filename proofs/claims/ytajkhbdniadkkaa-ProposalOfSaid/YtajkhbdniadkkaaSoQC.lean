/- The library's stable sort: the sort by insertion (by sort/gensort.py). -/
import Derived.Test.YtajkhbdniadkkaaSoQA
namespace Go.Proofs.Ytajkhbdniadkkaa.Qs
open Go.Shelf Go.RowKit Go.Lib Go.Sort Go.Deep
open Go.Joins (cell_of_block unfrozen_of_block block_setCell)
set_option linter.unusedVariables false
set_option linter.unusedSimpArgs false
/-- A round of the sort by insertion: a label goes one place down. -/
theorem down_step {p y1 y2 q : List El} {x z : El} {j : Nat} (hj : j = p.length + y1.length) : swp (p ++ (y1 ++ [z]) ++ x :: (y2 ++ q)).toArray (j + 1) j = (p ++ y1 ++ x :: (z :: y2 ++ q)).toArray := by
  have h := swp_split' (A := p ++ y1) (B := []) (C := y2 ++ q) (x := z) (y := x) (i := j) (j := j + 1) (by simp; omega) (by simp; omega)
  simpa using h

set_option maxHeartbeats 4000000 in
set_option maxRecDepth 1000000 in
theorem insertion_any (w0 w : World) (blk off cap : Nat) (l0 p s q : List El) (a b N : Nat) (R : RowL w0 blk off l0) (S : St w0 blk off (p ++ s ++ q) w)
    (hN : (p ++ s ++ q).length = N) (h0 : l0.length = N) (ha : p.length = a) (hb : p.length + s.length = b) (hsz : N < 4611686018427387904) :
    Calls Try.prog 81 #[.slice (some ⟨blk, off, none⟩) N cap, .int .i64 (a : Int), .int .i64 (b : Int), fvC] w fun e w' =>
      e = .returned (.tuple #[]) ∧ ∃ s', s'.length = s.length ∧ Sorted s' ∧ Same1 s s' ∧ St w0 blk off (p ++ s' ++ q) w' := by
  have mixed : Try.prog.follows .mixedOrders = true := by kernel_rfl
  have eg := enters_cmp
  have RR := Lib.hid R
  have S0 := Lib.hid S
  have HA : Hid ((p ++ s ++ q).length = N ∧ l0.length = N ∧ p.length = a ∧ p.length + s.length = b) := ⟨hN, h0, ha, hb⟩
  have hab : a ≤ b := by omega
  have hbN : b ≤ N := by simp at hN; omega
  clear R S hN h0 ha hb
  have wa : IntKind.i64.wrap ((a : Int) + 1) = (a : Int) + 1 := by rw [IntKind.wrap_i64]; omega
  go_enter Try.func81, Try.ntmps81
  go_wp2
  go_loopg [8] (b - a) (fun g vi wr => ∃ (i : Nat) (s1 s2 : List El), vi = .int .i64 (i : Int) ∧ a < i ∧ i ≤ b + 1 ∧ b + 1 - i ≤ g + 1 ∧
    Hid (s1.length + s2.length = s.length ∧ (s2 = [] ∨ a + s1.length = i) ∧ a + s1.length ≤ i ∧ Sorted s1 ∧ Same1 s (s1 ++ s2)) ∧ Hid (St w0 blk off (p ++ s1 ++ (s2 ++ q)) wr))
  case atStart =>
    cases hs : s with
    | nil => exact ⟨a + 1, [], [], by go_num, by omega, by omega, by omega, ⟨rfl, .inl rfl, by simp, Sorted.nil, Same1.refl _⟩, by have := S0.out; rw [hs] at this; simpa [Hid] using this⟩
    | cons x r => exact ⟨a + 1, [x], r, by go_num, by omega, by omega, by omega, ⟨by simp; omega, .inr rfl, by simp, Sorted.one x, Same1.refl _⟩, by have := S0.out; rw [hs] at this; simpa [Hid] using this⟩
  case round =>
    obtain ⟨i, s1, s2, rfl, hai, hib, hg, HI, S1⟩ := hrel
    by_cases hlt : i < b
    · -- a label is put in
      obtain ⟨x, r, rfl⟩ : ∃ x r, s2 = x :: r := by
        obtain ⟨h1, h2, h3, _, _⟩ := HI.out
        obtain ⟨_, _, h6, h7⟩ := HA.out
        cases s2 with
        | nil => simp at h1; omega
        | cons x r => exact ⟨x, r, rfl⟩
      have HS1 : Hid (a + s1.length = i) := by
        rcases HI.out.2.1 with h | h
        · cases h
        · exact h
      go_wp2
      go_loopg [9] i (fun g2 vj wr => ∃ (j : Nat) (y1 y2 : List El), vj = .int .i64 (j : Int) ∧ a ≤ j ∧ j ≤ i ∧ j ≤ g2 ∧ Hid (a + y1.length = j ∧ y1 ++ y2 = s1 ∧ (∀ y ∈ y2, lt x y)) ∧ Hid (St w0 blk off (p ++ y1 ++ x :: (y2 ++ (r ++ q))) wr))
      case atStart => exact ⟨i, s1, [], rfl, by omega, Nat.le_refl _, Nat.le_refl _, ⟨HS1.out, by simp, by simp⟩, S1.out⟩
      case round =>
        clear S1
        obtain ⟨j, y1, y2, rfl, haj, hji, hg2, HJ, S1⟩ := hrel
        have HL : Hid ((p ++ y1 ++ x :: (y2 ++ (r ++ q))).length = N) := by
          obtain ⟨h1, h2, _⟩ := HJ.out
          have h3 := HI.out.1
          obtain ⟨h4, _, _, _⟩ := HA.out
          have h5 := congrArg List.length h2
          show _ = _
          simp at h3 h4 h5 ⊢
          omega
        have NEXT : Hid ((∀ z, y1.getLast? = some z → ¬ lt x z) → ∃ s1' s2' : List El, (s1'.length + s2'.length = s.length ∧ (s2' = [] ∨ a + s1'.length = i + 1) ∧ a + s1'.length ≤ i + 1 ∧ Sorted s1' ∧ Same1 s (s1' ++ s2')) ∧ ∀ W, St w0 blk off (p ++ y1 ++ x :: (y2 ++ (r ++ q))) W → St w0 blk off (p ++ s1' ++ (s2' ++ q)) W) := by
          intro hc
          obtain ⟨h1, h2, h3⟩ := HJ.out
          obtain ⟨g1, g2, g3, g4, g5⟩ := HI.out
          have hl := congrArg List.length h2
          simp at hl g1
          have hs1 := HS1.out
          refine ⟨y1 ++ x :: y2, r, ⟨by simp; omega, .inr (by simp; omega), by simp; omega, insert_stop (by rw [h2]; exact g4) h3 hc, ?_⟩, fun W hW => by simpa using hW⟩
          refine g5.trans ?_
          rw [← h2]
          have h4 : Same1 (y2 ++ [x]) ([x] ++ y2) := Same1.swap (fun u hu v hv => by
            simp at hv; subst hv
            exact .inr (h3 u hu))
          have h5 := Same1.mid h4 y1 r
          simpa using h5
        by_cases hja : a < j
        · obtain ⟨y0, z, rfl⟩ : ∃ y0 z, y1 = y0 ++ [z] := by
            obtain ⟨h1, _, _⟩ := HJ.out
            rcases List.eq_nil_or_concat y1 with h | ⟨y0, z, h⟩
            · subst h; simp at h1; omega
            · exact ⟨y0, z, by rw [h, List.concat_eq_append]⟩
          obtain ⟨jp, rfl⟩ : ∃ jp, j = jp + 1 := ⟨j - 1, by omega⟩
          have hjp : Hid (a + y0.length = jp) := by have := HJ.out.1; simp at this; show _ = _; omega
          obtain ⟨dk, hdk⟩ : ∃ dk, dk = (p ++ (y0 ++ [z]) ++ x :: (y2 ++ (r ++ q))).toArray := ⟨_, rfl⟩
          have S2 : Hid (SWK enc 5 w0 blk off dk wr) := by show SWK _ _ _ _ _ _ _; rw [hdk]; exact S1.out
          have hzN : dk.size = N := by rw [hdk]; simpa using HL.out
          have hz : dk.size = l0.toArray.size := by rw [hzN]; simpa using HA.out.2.1.symm
          have hx : dk[jp + 1]! = x := by rw [hdk]; exact at_split (by have := hjp.out; have := HA.out.2.2.1; simp; omega)
          have hzz : dk[jp]! = z := by
            rw [hdk]
            have := at_split (A := p ++ y0) (C := x :: (y2 ++ (r ++ q))) (x := z) (i := jp) (by have := hjp.out; have := HA.out.2.2.1; simp; omega)
            simpa using this
          have HDK := Lib.hid hdk
          clear hdk
          have wp : IntKind.i64.wrap (jp : Int) = (jp : Int) := by rw [IntKind.wrap_i64]; omega
          have jz : (jp : Int) + 1 < (N : Int) := by omega
          have jz1 : (jp : Int) < (N : Int) := by omega
          have hjaz : (a : Int) < (jp : Int) + 1 := by omega
          have p0 : (0 : Int) ≤ (jp : Int) + 1 := by omega
          have e0 : ((jp : Int) + 1).toNat = jp + 1 := by omega
          have LJ := Lib.hid (ldO S2.out RR.out hz (jp + 1) (by omega) x hx)
          have LP := Lib.hid (ldO S2.out RR.out hz jp (by omega) z hzz)
          obtain ⟨cv, hcv⟩ : ∃ cv, cv = cf x z := ⟨_, rfl⟩
          have hcg := fun (n : Nat) (os : Array Obj) => closure_cmp x z (grow (wr.drewN n) os)
          rw [← hcv] at hcg
          have HXZ := Lib.hid (And.intro hx hzz)
          have HCV := Lib.hid hcv
          clear hx hzz hcv
          by_cases hlv : cv < 0
          · have hd : decide (cv < 0) = true := decide_eq_true hlv
            go_wp2_with fail
            refine wp_region_quiet_grown (by assumption) (by kernel_rfl) ?_
            iterate 8 (quiet_step (fail))
            (refine wpQuiet_load (by kernel_rfl) 52 _ rfl (.pointer (some ⟨blk, off + (jp + 1) * 5, none⟩)) (.agg (enA x)) (by rfl) (fun w' h => by obtain ⟨p, rfl⟩ := h; exact LJ.out _ _) ?_; simp only [Act.put, List.setIfInBounds_toArray, List.set_cons_zero, List.set_cons_succ])
            iterate 4 (quiet_step (fail))
            (refine wpQuiet_load (by kernel_rfl) 52 _ rfl (.pointer (some ⟨blk, off + jp * 5, none⟩)) (.agg (enA z)) (by rfl) (fun w' h => by obtain ⟨p, rfl⟩ := h; exact LP.out _ _) ?_; simp only [Act.put, List.setIfInBounds_toArray, List.set_cons_zero, List.set_cons_succ])
            repeat (quiet_step (first | (go_at_fn 40; refine Calls.grown_of (hcg _ _))))
            refine wpQuiet_nil ?_
            intro _ hw'
            obtain ⟨⟨nq, osq⟩, hw''⟩ := hw'
            subst hw''
            have S3 := Lib.hid (S2.out.grown nq osq)
            clear LJ LP hcg S2 S1
            generalize grow (wr.drewN nq) osq = wq at S3 ⊢
            have SW := Lib.hid (swapO S3.out RR.out hz (jp + 1) jp (by omega) (by omega) x z HXZ.out.1 HXZ.out.2)
            go_wp2_with fail
            refine wp_region_E (S := fun ws => ws.rangeAt blk (off + (jp + 1) * 5) (enA x).toList ∧ ws.rangeAt blk (off + jp * 5) (enA z).toList) (f := 15) mixed ⟨SW.out.1, SW.out.2.1⟩ (fun hS => ?_)
            refine wpAnyE_takeP (i := 0) (d := 37) (v := .slice (some ⟨blk, off, none⟩) N cap) _ rfl rfl (by kernel_rfl) (by kernel_rfl) (by kernel_rfl) (by kernel_rfl) (fun _ _ _ h => h) (Or.inl ⟨by kernel_rfl, fun ws => by first | (go_simp; done) | (go_simp; with_reducible rfl) | (go_simp; rfl) | (go_simp; intro hlt; exfalso; omega) | (go_simp; omega)⟩) hS ?_
            simp only [Act.put, List.setIfInBounds_toArray, List.set_cons_zero, List.set_cons_succ]
            refine wpAnyE_takeP (i := 1) (d := 38) (v := .int .i64 ((jp : Int) + 1)) _ rfl rfl (by kernel_rfl) (by kernel_rfl) (by kernel_rfl) (by kernel_rfl) (fun _ _ _ h => h) (Or.inl ⟨by kernel_rfl, fun ws => by first | (go_simp; done) | (go_simp; with_reducible rfl) | (go_simp; rfl) | (go_simp; intro hlt; exfalso; omega) | (go_simp; omega)⟩) hS ?_
            simp only [Act.put, List.setIfInBounds_toArray, List.set_cons_zero, List.set_cons_succ]
            refine wpAnyE_takeP (i := 2) (d := 39) (v := .slice (some ⟨blk, off, none⟩) N cap) _ rfl rfl (by kernel_rfl) (by kernel_rfl) (by kernel_rfl) (by kernel_rfl) (fun _ _ _ h => h) (Or.inl ⟨by kernel_rfl, fun ws => by first | (go_simp; done) | (go_simp; with_reducible rfl) | (go_simp; rfl) | (go_simp; intro hlt; exfalso; omega) | (go_simp; omega)⟩) hS ?_
            simp only [Act.put, List.setIfInBounds_toArray, List.set_cons_zero, List.set_cons_succ]
            refine wpAnyE_takeP (i := 3) (d := 40) (v := .int .i64 ((jp : Int) + 1)) _ rfl rfl (by kernel_rfl) (by kernel_rfl) (by kernel_rfl) (by kernel_rfl) (fun _ _ _ h => h) (Or.inl ⟨by kernel_rfl, fun ws => by first | (go_simp; done) | (go_simp; with_reducible rfl) | (go_simp; rfl) | (go_simp; intro hlt; exfalso; omega) | (go_simp; omega)⟩) hS ?_
            simp only [Act.put, List.setIfInBounds_toArray, List.set_cons_zero, List.set_cons_succ]
            refine wpAnyE_takeP (i := 4) (d := 41) (v := .int .i64 ((jp : Int))) _ rfl rfl (by kernel_rfl) (by kernel_rfl) (by kernel_rfl) (by kernel_rfl) (fun _ _ _ h => h) (Or.inl ⟨by kernel_rfl, fun ws => by first | (go_simp; done) | (go_simp; with_reducible rfl) | (go_simp; rfl) | (go_simp; intro hlt; exfalso; omega) | (go_simp; omega)⟩) hS ?_
            simp only [Act.put, List.setIfInBounds_toArray, List.set_cons_zero, List.set_cons_succ]
            refine wpAnyE_takeP (i := 5) (d := 42) (v := .slice (some ⟨blk, off, none⟩) N cap) _ rfl rfl (by kernel_rfl) (by kernel_rfl) (by kernel_rfl) (by kernel_rfl) (fun _ _ _ h => h) (Or.inl ⟨by kernel_rfl, fun ws => by first | (go_simp; done) | (go_simp; with_reducible rfl) | (go_simp; rfl) | (go_simp; intro hlt; exfalso; omega) | (go_simp; omega)⟩) hS ?_
            simp only [Act.put, List.setIfInBounds_toArray, List.set_cons_zero, List.set_cons_succ]
            refine wpAnyE_takeP (i := 6) (d := 43) (v := .int .i64 ((jp : Int) + 1)) _ rfl rfl (by kernel_rfl) (by kernel_rfl) (by kernel_rfl) (by kernel_rfl) (fun _ _ _ h => h) (Or.inl ⟨by kernel_rfl, fun ws => by first | (go_simp; done) | (go_simp; with_reducible rfl) | (go_simp; rfl) | (go_simp; intro hlt; exfalso; omega) | (go_simp; omega)⟩) hS ?_
            simp only [Act.put, List.setIfInBounds_toArray, List.set_cons_zero, List.set_cons_succ]
            refine wpAnyE_takeP (i := 7) (d := 44) (v := .int .i64 ((jp : Int))) _ rfl rfl (by kernel_rfl) (by kernel_rfl) (by kernel_rfl) (by kernel_rfl) (fun _ _ _ h => h) (Or.inl ⟨by kernel_rfl, fun ws => by first | (go_simp; done) | (go_simp; with_reducible rfl) | (go_simp; rfl) | (go_simp; intro hlt; exfalso; omega) | (go_simp; omega)⟩) hS ?_
            simp only [Act.put, List.setIfInBounds_toArray, List.set_cons_zero, List.set_cons_succ]
            refine wpAnyE_takeP (i := 8) (d := 45) (v := .pointer (some ⟨blk, off + jp * 5, none⟩)) _ rfl rfl (by kernel_rfl) (by kernel_rfl) (by kernel_rfl) (by kernel_rfl) (fun _ _ _ h => h) (Or.inl ⟨by kernel_rfl, fun ws => by first | (go_simp; done) | (go_simp; with_reducible rfl) | (go_simp; rfl) | (go_simp; intro hlt; exfalso; omega) | (go_simp; omega)⟩) hS ?_
            simp only [Act.put, List.setIfInBounds_toArray, List.set_cons_zero, List.set_cons_succ]
            refine wpAnyE_takeD (i := 9) (d := 46) (v := .agg (enA z)) _ rfl rfl (by kernel_rfl) (by kernel_rfl) (by kernel_rfl) (by kernel_rfl) (fun _ _ _ h => h) (yieldsIf_load_mid (by kernel_rfl) _ _ rfl blk (off + jp * 5) (by kernel_rfl) (enA z).toList _ (fun ws hSw => hSw.2) Try.underlying52 rfl (by rw [Array.length_toList, enA_size]; kernel_rfl)) hS ?_
            simp only [Act.put, List.setIfInBounds_toArray, List.set_cons_zero, List.set_cons_succ]
            refine wpAnyE_takeP (i := 10) (d := 47) (v := .slice (some ⟨blk, off, none⟩) N cap) _ rfl rfl (by kernel_rfl) (by kernel_rfl) (by kernel_rfl) (by kernel_rfl) (fun _ _ _ h => h) (Or.inl ⟨by kernel_rfl, fun ws => by first | (go_simp; done) | (go_simp; with_reducible rfl) | (go_simp; rfl) | (go_simp; intro hlt; exfalso; omega) | (go_simp; omega)⟩) hS ?_
            simp only [Act.put, List.setIfInBounds_toArray, List.set_cons_zero, List.set_cons_succ]
            refine wpAnyE_takeP (i := 11) (d := 48) (v := .int .i64 ((jp : Int) + 1)) _ rfl rfl (by kernel_rfl) (by kernel_rfl) (by kernel_rfl) (by kernel_rfl) (fun _ _ _ h => h) (Or.inl ⟨by kernel_rfl, fun ws => by first | (go_simp; done) | (go_simp; with_reducible rfl) | (go_simp; rfl) | (go_simp; intro hlt; exfalso; omega) | (go_simp; omega)⟩) hS ?_
            simp only [Act.put, List.setIfInBounds_toArray, List.set_cons_zero, List.set_cons_succ]
            refine wpAnyE_takeP (i := 12) (d := 49) (v := .pointer (some ⟨blk, off + (jp + 1) * 5, none⟩)) _ rfl rfl (by kernel_rfl) (by kernel_rfl) (by kernel_rfl) (by kernel_rfl) (fun _ _ _ h => h) (Or.inl ⟨by kernel_rfl, fun ws => by first | (go_simp; done) | (go_simp; with_reducible rfl) | (go_simp; rfl) | (go_simp; intro hlt; exfalso; omega) | (go_simp; omega)⟩) hS ?_
            simp only [Act.put, List.setIfInBounds_toArray, List.set_cons_zero, List.set_cons_succ]
            refine wpAnyE_takeD (i := 13) (d := 50) (v := .agg (enA x)) _ rfl rfl (by kernel_rfl) (by kernel_rfl) (by kernel_rfl) (by kernel_rfl) (fun _ _ _ h => h) (yieldsIf_load_mid (by kernel_rfl) _ _ rfl blk (off + (jp + 1) * 5) (by kernel_rfl) (enA x).toList _ (fun ws hSw => hSw.1) Try.underlying52 rfl (by rw [Array.length_toList, enA_size]; kernel_rfl)) hS ?_
            simp only [Act.put, List.setIfInBounds_toArray, List.set_cons_zero, List.set_cons_succ]
            refine wpAnyE_takeP (i := 14) (d := 51) (v := .pointer (some ⟨blk, off + (jp + 1) * 5, none⟩)) _ rfl rfl (by kernel_rfl) (by kernel_rfl) (by kernel_rfl) (by kernel_rfl) (fun _ _ _ h => h) (Or.inl ⟨by kernel_rfl, fun ws => by first | (go_simp; done) | (go_simp; with_reducible rfl) | (go_simp; rfl) | (go_simp; intro hlt; exfalso; omega) | (go_simp; omega)⟩) hS ?_
            simp only [Act.put, List.setIfInBounds_toArray, List.set_cons_zero, List.set_cons_succ]
            refine wpAnyE_write rfl (by kernel_rfl) (fun K hK => ?_)
            refine Ld.step_store (by rfl) _ _ _ rfl blk (off + (jp + 1) * 5) (enA z) (by rfl) (by rfl) SW.out.2.2.1 (by rw [enA_size]; kernel_rfl) (enA_one z) ?_
            refine hK _ _ ?_
            try simp only [Act.put, List.setIfInBounds_toArray, List.set_cons_zero, List.set_cons_succ]
            refine wpAny_one (i := 16) rfl (by kernel_rfl) (fun K hK => ?_)
            go_simp
            refine hK _ _ ?_
            try simp only [Act.put, List.setIfInBounds_toArray, List.set_cons_zero, List.set_cons_succ]
            refine wpAny_one (i := 17) rfl (by kernel_rfl) (fun K hK => ?_)
            refine Ld.step_store (by rfl) _ _ _ rfl blk (off + jp * 5) (enA x) (by rfl) (by rfl) SW.out.2.2.2.1 (by rw [enA_size]; kernel_rfl) (enA_one x) ?_
            refine hK _ _ ?_
            try simp only [Act.put, List.setIfInBounds_toArray, List.set_cons_zero, List.set_cons_succ]
            refine wpAny_end (by kernel_rfl) ?_
            have S4 := Lib.hid SW.out.2.2.2.2
            clear SW
            generalize (wq.drew.setCells blk (off + (jp + 1) * 5) (enA z).toList).setCells blk (off + jp * 5) (enA x).toList = wz at S4 ⊢
            go_wp2
            go_roundg jp
            case measure => omega
            case rel =>
              refine ⟨jp, y0, z :: y2, by go_num, by omega, by omega, Nat.le_refl _, ?_, ?_⟩
              · obtain ⟨h1, h2, h3⟩ := HJ.out
                refine ⟨hjp.out, by rw [← h2]; simp, ?_⟩
                intro y hy
                rw [List.mem_cons] at hy
                rcases hy with rfl | hy
                · rw [HCV.out] at hlv
                  exact (cf_neg _ _).1 hlv
                · exact h3 y hy
              · show St _ _ _ _ _
                have h := S4.out
                rw [HDK.out, down_step (by have := hjp.out; have := HA.out.2.2.1; omega)] at h
                exact h
          · have hd : decide (cv < 0) = false := decide_eq_false hlv
            obtain ⟨s1', s2', hh, hS⟩ := NEXT.out (fun z1 hz1 => by
              simp at hz1
              subst hz1
              intro e
              rw [HCV.out] at hlv
              exact hlv ((cf_neg _ _).2 e))
            have HH := Lib.hid hh
            have HS := Lib.hid hS
            clear hh hS
            go_wp2_with fail
            refine wp_region_quiet_grown (by assumption) (by kernel_rfl) ?_
            iterate 8 (quiet_step (fail))
            (refine wpQuiet_load (by kernel_rfl) 52 _ rfl (.pointer (some ⟨blk, off + (jp + 1) * 5, none⟩)) (.agg (enA x)) (by rfl) (fun w' h => by obtain ⟨p, rfl⟩ := h; exact LJ.out _ _) ?_; simp only [Act.put, List.setIfInBounds_toArray, List.set_cons_zero, List.set_cons_succ])
            iterate 4 (quiet_step (fail))
            (refine wpQuiet_load (by kernel_rfl) 52 _ rfl (.pointer (some ⟨blk, off + jp * 5, none⟩)) (.agg (enA z)) (by rfl) (fun w' h => by obtain ⟨p, rfl⟩ := h; exact LP.out _ _) ?_; simp only [Act.put, List.setIfInBounds_toArray, List.set_cons_zero, List.set_cons_succ])
            repeat (quiet_step (first | (go_at_fn 40; refine Calls.grown_of (hcg _ _))))
            refine wpQuiet_nil ?_
            intro _ hw'
            obtain ⟨⟨nq, osq⟩, hw''⟩ := hw'
            subst hw''
            have S3 := Lib.hid (S2.out.grown nq osq)
            clear LJ LP hcg S2 S1
            generalize grow (wr.drewN nq) osq = wq at S3 ⊢
            go_wp2
            go_roundg (b - (i + 1))
            case measure => omega
            case rel =>
              refine ⟨i + 1, s1', s2', by go_num, by omega, by omega, by omega, HH.out, ?_⟩
              refine HS.out _ ?_
              have h := S3.out
              rw [HDK.out] at h
              exact h
        · have hja0 : j = a := by omega
          subst hja0
          have hd : decide ((j : Int) > (j : Int)) = false := by simp
          have hd2 : ¬ (j : Int) < (j : Int) := by omega
          obtain ⟨s1', s2', hh, hS⟩ := NEXT.out (fun z1 hz1 => by
            have h1 := HJ.out.1
            have : y1 = [] := List.eq_nil_of_length_eq_zero (by omega)
            rw [this] at hz1
            simp at hz1)
          have HH := Lib.hid hh
          have HS := Lib.hid hS
          clear hh hS
          go_wp2_with fail
          go_big_region_o
          have S3 : Hid (St w0 blk off (p ++ y1 ++ x :: (y2 ++ (r ++ q))) wr.drew) := S1.out.drew
          clear S1
          generalize wr.drew = wq at S3 ⊢
          go_wp2
          go_roundg (b - (i + 1))
          case measure => omega
          case rel => exact ⟨i + 1, s1', s2', by go_num, by omega, by omega, by omega, HH.out, HS.out _ S3.out⟩
    · have hd : decide ((i : Int) < (b : Int)) = false := by simp; omega
      go_wp2
      go_end0
      refine ⟨rfl, s1, ?_⟩
      obtain ⟨h1, h2, h3, h4, h5⟩ := HI.out
      obtain ⟨g1, g2, g3, g4⟩ := HA.out
      have e : s2 = [] := by
        rcases h2 with h | h
        · exact h
        · exact List.eq_nil_of_length_eq_zero (by omega)
      subst e
      refine ⟨by simpa using h1, h4, by simpa using h5, by simpa using S1.out⟩
end Go.Proofs.Ytajkhbdniadkkaa.Qs
