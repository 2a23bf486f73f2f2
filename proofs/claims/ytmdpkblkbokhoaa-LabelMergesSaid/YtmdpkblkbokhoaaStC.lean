/- The library's stable sort of labels: how two compare; the sort by insertion. -/
import Derived.Test.YtmdpkblkbokhoaaStB
import Derived.Test.YtmdpkblkbokhoaaStP
namespace Go.Proofs.Ytmdpkblkbokhoaa
open Go.Shelf Go.RowKit Go.Lib Go.Sort
set_option linter.unusedVariables false

theorem run_cmpstring (a b : ByteArray) (w : World) : (callFunc 33 #[.string a, .string b]).run Try.prog w = .ok (.value (.int .i64 (compareBytes a.toList b.toList))) w := by
  rw [run_callFunc_extern Try.func33 (by kernel_rfl) (by kernel_rfl) (by kernel_rfl) (e := Extern.BytealgCompare.compare) (by kernel_rfl), Lib.run_compareString, Lib.toList_data, Lib.toList_data]
  rfl
theorem cmpString (a b : ByteArray) (w : World) : Calls Try.prog 29 #[.string a, .string b] w fun e w' => e = .returned (.int .i64 (compareBytes a.toList b.toList)) ∧ w = w' := by
  have h := run_cmpstring a b
  go_enter Try.func29, Try.ntmps29
  go_wp2
  go_ret
  exact ⟨rfl, rfl⟩
theorem strCompare (a b : ByteArray) (w : World) : Calls Try.prog 23 #[.string a, .string b] w fun e w' => e = .returned (.int .i64 (compareBytes a.toList b.toList)) ∧ w = w' := by
  have C := Lib.hid (cmpString a b)
  go_enter Try.func23, Try.ntmps23
  go_wp2_with fail
  refine (C.out _).mono ?_
  rintro e w1 ⟨rfl, rfl⟩
  go_wp2
  go_ret
  exact ⟨rfl, rfl⟩
theorem closure_cmp (x y : Lab) (w : World) : Calls Try.prog 22 #[.agg #[.string x.1, .string x.2], .agg #[.string y.1, .string y.2]] w fun e w' => e = .returned (.int .i64 (cfL x y)) ∧ ∃ q os', w' = grow (w.drewN q) os' := by
  have C := Lib.hid (strCompare x.1 y.1)
  have E : cfL x y = compareBytes x.1.toList y.1.toList := rfl
  rw [← E] at C
  generalize cfL x y = r at C ⊢
  clear E
  go_enter Try.func22, Try.ntmps22
  go_wp2_with fail
  refine (C.out _).mono ?_
  rintro e w1 ⟨rfl, rfl⟩
  go_wp2
  go_ret
  exact ⟨rfl, 0, _, by rw [alloc_eq_grow, alloc_eq_grow, grow_grow]; rfl⟩
/-- The function value that compares. -/
abbrev fvC : Value := .func (.func 22) #[] #[]
theorem enters_cmp : ∀ args w, (callFunc 22 args).run Try.prog w = .ok (.enter 22 args) w := enters_of Try.func22 (by kernel_rfl) rfl

/-- What a comparison of two places reads, in every world of the class. -/
theorem SWK.cells2 {w0 W : World} {blk off : Nat} {d0 dk : Array Lab} (h : SWK encL 2 w0 blk off dk W) (R : RowK encL 2 w0 blk off d0) (hs : dk.size = d0.size) (i : Nat) (hi : i < dk.size) (x : Lab) (hx : dk[i]! = x) (n : Nat) (os : Array Obj) :
    (grow (W.drewN n) os).cell? ⟨blk, off + i * 2, none⟩ = some (.string x.1) ∧ (grow (W.drewN n) os).cell? ⟨blk, off + i * 2 + 1, none⟩ = some (.string x.2) := by
  have H := (h.grown n os).holds R.hblk R.hH hs
  rw [← hx]
  exact ⟨(HoldsK.cell H hi (c := 0) (by decide)).1, (HoldsK.cell H hi (c := 1) (by decide)).1⟩

/-- A round of the sort by insertion: a label goes one place down. -/
theorem down_step {p y1 y2 q : List Lab} {x z : Lab} {j : Nat} (hj : j = p.length + y1.length) : swp (p ++ (y1 ++ [z]) ++ x :: (y2 ++ q)).toArray (j + 1) j = (p ++ y1 ++ x :: (z :: y2 ++ q)).toArray := by
  have h := swp_split' (A := p ++ y1) (B := []) (C := y2 ++ q) (x := z) (y := x) (i := j) (j := j + 1) (by simp; omega) (by simp; omega)
  simpa using h

set_option maxHeartbeats 4000000 in
set_option maxRecDepth 1000000 in
theorem insertion_any (w0 w : World) (blk off cap : Nat) (l0 p s q : List Lab) (a b N : Nat) (R : RowL w0 blk off l0) (S : St w0 blk off (p ++ s ++ q) w)
    (hN : (p ++ s ++ q).length = N) (h0 : l0.length = N) (ha : p.length = a) (hb : p.length + s.length = b) (hsz : N < 4611686018427387904) :
    Calls Try.prog 31 #[.slice (some ⟨blk, off, none⟩) N cap, .int .i64 (a : Int), .int .i64 (b : Int), fvC] w fun e w' =>
      e = .returned (.tuple #[]) ∧ ∃ s', s'.length = s.length ∧ Sorted s' ∧ Same1 s s' ∧ St w0 blk off (p ++ s' ++ q) w' := by
  have mixed : Try.prog.follows .mixedOrders = true := by kernel_rfl
  have eg := enters_cmp
  have RR := Lib.hid R
  have S0 := Lib.hid S
  have HA : Hid ((p ++ s ++ q).length = N ∧ l0.length = N ∧ p.length = a ∧ p.length + s.length = b) := ⟨hN, h0, ha, hb⟩
  have hab : a ≤ b := by omega
  have hbN : b ≤ N := by simp at hN; omega
  clear R S hN h0 ha hb
  have wa : IntKind.i64.wrap ((a : Int) + 1) = (a : Int) + 1 := by rw [IntKind.wrap_i64]; omega
  go_enter Try.func31, Try.ntmps31
  go_wp2
  go_loopg [8] (b - a) (fun g vi wr => ∃ (i : Nat) (s1 s2 : List Lab), vi = .int .i64 (i : Int) ∧ a < i ∧ i ≤ b + 1 ∧ b + 1 - i ≤ g + 1 ∧
    Hid (s1.length + s2.length = s.length ∧ (s2 = [] ∨ a + s1.length = i) ∧ a + s1.length ≤ i ∧ Sorted s1 ∧ Same1 s (s1 ++ s2)) ∧ Hid (St w0 blk off (p ++ s1 ++ (s2 ++ q)) wr))
  case atStart =>
    cases hs : s with
    | nil => exact ⟨a + 1, [], [], by go_num, by omega, by omega, by omega, ⟨rfl, .inl rfl, by simp, Sorted.nil, Same1.refl _⟩, by have := S0.out; rw [hs] at this; simpa [Hid] using this⟩
    | cons x r => exact ⟨a + 1, [x], r, by go_num, by omega, by omega, by omega, ⟨by simp; omega, .inr rfl, by simp, Sorted.one x, Same1.refl _⟩, by have := S0.out; rw [hs] at this; simpa [Hid] using this⟩
  case round =>
    obtain ⟨i, s1, s2, rfl, hai, hib, hg, HI, S1⟩ := hrel
    by_cases hlt : i < b
    · -- a label is put in
      obtain ⟨x, r, rfl⟩ : ∃ x r, s2 = x :: r := by
        obtain ⟨h1, h2, h3, _, _⟩ := HI.out
        obtain ⟨_, _, h6, h7⟩ := HA.out
        cases s2 with
        | nil => simp at h1; omega
        | cons x r => exact ⟨x, r, rfl⟩
      have HS1 : Hid (a + s1.length = i) := by
        rcases HI.out.2.1 with h | h
        · cases h
        · exact h
      go_wp2
      go_loopg [9] i (fun g2 vj wr => ∃ (j : Nat) (y1 y2 : List Lab), vj = .int .i64 (j : Int) ∧ a ≤ j ∧ j ≤ i ∧ j ≤ g2 ∧ Hid (a + y1.length = j ∧ y1 ++ y2 = s1 ∧ (∀ y ∈ y2, kl x < kl y)) ∧ Hid (St w0 blk off (p ++ y1 ++ x :: (y2 ++ (r ++ q))) wr))
      case atStart => exact ⟨i, s1, [], rfl, by omega, Nat.le_refl _, Nat.le_refl _, ⟨HS1.out, by simp, by simp⟩, S1.out⟩
      case round =>
        clear S1
        obtain ⟨j, y1, y2, rfl, haj, hji, hg2, HJ, S1⟩ := hrel
        have HL : Hid ((p ++ y1 ++ x :: (y2 ++ (r ++ q))).length = N) := by
          obtain ⟨h1, h2, _⟩ := HJ.out
          have h3 := HI.out.1
          obtain ⟨h4, _, _, _⟩ := HA.out
          have h5 := congrArg List.length h2
          show _ = _
          simp at h3 h4 h5 ⊢
          omega
        have NEXT : Hid ((∀ z, y1.getLast? = some z → ¬ kl x < kl z) → ∃ s1' s2' : List Lab, (s1'.length + s2'.length = s.length ∧ (s2' = [] ∨ a + s1'.length = i + 1) ∧ a + s1'.length ≤ i + 1 ∧ Sorted s1' ∧ Same1 s (s1' ++ s2')) ∧ ∀ W, St w0 blk off (p ++ y1 ++ x :: (y2 ++ (r ++ q))) W → St w0 blk off (p ++ s1' ++ (s2' ++ q)) W) := by
          intro hc
          obtain ⟨h1, h2, h3⟩ := HJ.out
          obtain ⟨g1, g2, g3, g4, g5⟩ := HI.out
          have hl := congrArg List.length h2
          simp at hl g1
          have hs1 := HS1.out
          refine ⟨y1 ++ x :: y2, r, ⟨by simp; omega, .inr (by simp; omega), by simp; omega, insert_stop (by rw [h2]; exact g4) h3 hc, ?_⟩, fun W hW => by simpa using hW⟩
          refine g5.trans ?_
          rw [← h2]
          have h4 : Same1 (y2 ++ [x]) ([x] ++ y2) := Same1.swap (fun u hu v hv => by
            simp at hv; subst hv
            intro e
            have := h3 u hu
            rw [e] at this
            exact lt_irr _ this)
          have h5 := Same1.mid h4 y1 r
          simpa using h5
        by_cases hja : a < j
        · obtain ⟨y0, z, rfl⟩ : ∃ y0 z, y1 = y0 ++ [z] := by
            obtain ⟨h1, _, _⟩ := HJ.out
            rcases List.eq_nil_or_concat y1 with h | ⟨y0, z, h⟩
            · subst h; simp at h1; omega
            · exact ⟨y0, z, by rw [h, List.concat_eq_append]⟩
          obtain ⟨jp, rfl⟩ : ∃ jp, j = jp + 1 := ⟨j - 1, by omega⟩
          have hjp : Hid (a + y0.length = jp) := by have := HJ.out.1; simp at this; show _ = _; omega
          obtain ⟨dk, hdk⟩ : ∃ dk, dk = (p ++ (y0 ++ [z]) ++ x :: (y2 ++ (r ++ q))).toArray := ⟨_, rfl⟩
          have S2 : Hid (SWK encL 2 w0 blk off dk wr) := by show SWK _ _ _ _ _ _ _; rw [hdk]; exact S1.out
          have hzN : dk.size = N := by rw [hdk]; simpa using HL.out
          have hz : dk.size = l0.toArray.size := by rw [hzN]; simpa using HA.out.2.1.symm
          have hx : dk[jp + 1]! = x := by rw [hdk]; exact at_split (by have := hjp.out; have := HA.out.2.2.1; simp; omega)
          have hzz : dk[jp]! = z := by
            rw [hdk]
            have := at_split (A := p ++ y0) (C := x :: (y2 ++ (r ++ q))) (x := z) (i := jp) (by have := hjp.out; have := HA.out.2.2.1; simp; omega)
            simpa using this
          have HDK := Lib.hid hdk
          clear hdk
          have wp : IntKind.i64.wrap (jp : Int) = (jp : Int) := by rw [IntKind.wrap_i64]; omega
          have jz : (jp : Int) + 1 < (N : Int) := by omega
          have jz1 : (jp : Int) < (N : Int) := by omega
          have hjaz : (a : Int) < (jp : Int) + 1 := by omega
          have p0 : (0 : Int) ≤ (jp : Int) + 1 := by omega
          have e0 : ((jp : Int) + 1).toNat = jp + 1 := by omega
          have lj := fun n os => (SWK.cells2 S2.out RR.out hz (jp + 1) (by omega) x hx n os).1
          have lj' := fun n os => (SWK.cells2 S2.out RR.out hz (jp + 1) (by omega) x hx n os).2
          have lp := fun n os => (SWK.cells2 S2.out RR.out hz jp (by omega) z hzz n os).1
          have lp' := fun n os => (SWK.cells2 S2.out RR.out hz jp (by omega) z hzz n os).2
          obtain ⟨cv, hcv⟩ : ∃ cv, cv = cfL x z := ⟨_, rfl⟩
          have hcg := fun (n : Nat) (os : Array Obj) => closure_cmp x z (grow (wr.drewN n) os)
          rw [← hcv] at hcg
          have HXZ := Lib.hid (And.intro hx hzz)
          have HCV := Lib.hid hcv
          clear hx hzz hcv
          by_cases hlv : cv < 0
          · have hd : decide (cv < 0) = true := decide_eq_true hlv
            go_wp2_with fail
            go_quiet_grown (first | (go_at_fn 22; refine Calls.grown_of (hcg _ _)))
            have S3 := Lib.hid (S2.out.grown nq osq)
            clear lj lj' lp lp' hcg S2 S1
            generalize grow (wr.drewN nq) osq = wq at S3 ⊢
            obtain ⟨c1, c2, c3, c4, f1, f2, f3, f4, ⟨v1, g1⟩, ⟨v2, g2⟩, ⟨v3, g3⟩, S4⟩ := swap_facts S3.out RR.out hz (jp + 1) jp (by omega) (by omega) x z HXZ.out.1 HXZ.out.2
            go_wp2_with fail
            go_big_region_o
            clear c1 c2 c3 c4 f1 f2 f3 f4 g1 g2 g3
            generalize ((((wq.setCell ⟨blk, off + (jp + 1) * 2, none⟩ (.string z.1)).setCell ⟨blk, off + (jp + 1) * 2 + 1, none⟩ (.string z.2)).setCell ⟨blk, off + jp * 2, none⟩ (.string x.1)).setCell ⟨blk, off + jp * 2 + 1, none⟩ (.string x.2)).drew = wz at S4 ⊢
            go_wp2
            go_roundg jp
            case measure => omega
            case rel =>
              refine ⟨jp, y0, z :: y2, by go_num, by omega, by omega, Nat.le_refl _, ?_, ?_⟩
              · obtain ⟨h1, h2, h3⟩ := HJ.out
                refine ⟨hjp.out, by rw [← h2]; simp, ?_⟩
                intro y hy
                rw [List.mem_cons] at hy
                rcases hy with rfl | hy
                · rw [HCV.out] at hlv
                  exact (cfL_neg _ _).1 hlv
                · exact h3 y hy
              · show St _ _ _ _ _
                have h := S4.out
                rw [HDK.out, down_step (by have := hjp.out; have := HA.out.2.2.1; omega)] at h
                exact h
          · have hd : decide (cv < 0) = false := decide_eq_false hlv
            obtain ⟨s1', s2', hh, hS⟩ := NEXT.out (fun z1 hz1 => by
              simp at hz1
              subst hz1
              intro e
              rw [HCV.out] at hlv
              exact hlv ((cfL_neg _ _).2 e))
            have HH := Lib.hid hh
            have HS := Lib.hid hS
            clear hh hS
            go_wp2_with fail
            go_quiet_grown (first | (go_at_fn 22; refine Calls.grown_of (hcg _ _)))
            have S3 := Lib.hid (S2.out.grown nq osq)
            clear lj lj' lp lp' hcg S2 S1
            generalize grow (wr.drewN nq) osq = wq at S3 ⊢
            go_wp2
            go_roundg (b - (i + 1))
            case measure => omega
            case rel =>
              refine ⟨i + 1, s1', s2', by go_num, by omega, by omega, by omega, HH.out, ?_⟩
              refine HS.out _ ?_
              have h := S3.out
              rw [HDK.out] at h
              exact h
        · have hja0 : j = a := by omega
          subst hja0
          have hd : decide ((j : Int) > (j : Int)) = false := by simp
          have hd2 : ¬ (j : Int) < (j : Int) := by omega
          obtain ⟨s1', s2', hh, hS⟩ := NEXT.out (fun z1 hz1 => by
            have h1 := HJ.out.1
            have : y1 = [] := List.eq_nil_of_length_eq_zero (by omega)
            rw [this] at hz1
            simp at hz1)
          have HH := Lib.hid hh
          have HS := Lib.hid hS
          clear hh hS
          go_wp2_with fail
          go_big_region_o
          have S3 : Hid (St w0 blk off (p ++ y1 ++ x :: (y2 ++ (r ++ q))) wr.drew) := S1.out.drew
          clear S1
          generalize wr.drew = wq at S3 ⊢
          go_wp2
          go_roundg (b - (i + 1))
          case measure => omega
          case rel => exact ⟨i + 1, s1', s2', by go_num, by omega, by omega, by omega, HH.out, HS.out _ S3.out⟩
    · have hd : decide ((i : Int) < (b : Int)) = false := by simp; omega
      go_wp2
      go_end0
      refine ⟨rfl, s1, ?_⟩
      obtain ⟨h1, h2, h3, h4, h5⟩ := HI.out
      obtain ⟨g1, g2, g3, g4⟩ := HA.out
      have e : s2 = [] := by
        rcases h2 with h | h
        · exact h
        · exact List.eq_nil_of_length_eq_zero (by omega)
      subst e
      refine ⟨by simpa using h1, h4, by simpa using h5, by simpa using S1.out⟩
end Go.Proofs.Ytmdpkblkbokhoaa
