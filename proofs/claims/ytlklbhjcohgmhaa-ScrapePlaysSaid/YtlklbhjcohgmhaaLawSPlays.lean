/- Proved here: the law ScrapePlays of layer 11 holds for every input: whatever is scraped and forgotten, each answer, and what is fresh of each series at any tick, is what the model says; a copy goes on by itself. No conditions. -/
import Derived.Test.YtlklbhjcohgmhaaScLo
import Derived.Test.YtlklbhjcohgmhaaScCm
namespace Go.Proofs.Ytlklbhjcohgmhaa.scrapePlays
open Go.ChangeShapes Go.WideShapes Go.ChangeAt Go.RowKit Go.Lib Go.Shelf Go.Sort Go.Deep
open Go.Joins (cell_of_block unfrozen_of_block block_setCell)
set_option linter.unusedVariables false
set_option linter.unusedSimpArgs false
set_option maxRecDepth 20000

set_option maxHeartbeats 64000000 in
theorem plays (W : World) (n a : Nat) (hn : 1 ≤ n ∧ n ≤ 32) (ha : 1 ≤ a ∧ a ≤ 1800) (ql : Option Addr) (cl : Nat) (l : List Ac) (hl : Acs W ql l) (qk : Option Addr) (ck : Nat) (kl : List Int) (hkl : Tks W qk kl) (hL : l.length ≤ 80) (hK : kl.length ≤ 20) :
    Calls Try.prog 3 #[.agg #[.int .i64 (n : Int), .int .i64 (a : Int)], .slice ql l.length cl, .slice qk kl.length ck] W fun e w' => e = .returned (.bool true) ∧ Below W.heap.size W w' := by
  have mixed : Try.prog.follows .mixedOrders = true := by kernel_rfl
  obtain ⟨w1, N, e1, e2, b1, k1, z1⟩ := boxR W n a
  have HW := Lib.hid (And.intro e1 e2)
  have V := Lib.hid (slives w1)
  have CN := Lib.hid (fun w => bnew_ok w n a hn ha)
  obtain ⟨L, hLl⟩ : ∃ L, L = l.length := ⟨_, rfl⟩
  obtain ⟨K, hKl⟩ : ∃ K, K = kl.length := ⟨_, rfl⟩
  rw [← hLl, ← hKl]
  have t1 : decide ((80 : Int) < (L : Int)) = false := decide_eq_false (by omega)
  have t2 : decide ((20 : Int) < (K : Int)) = false := decide_eq_false (by omega)
  have n1 : decide ((n : Int) < 1) = false := decide_eq_false (by omega)
  have n2 : decide (32 < (n : Int)) = false := decide_eq_false (by omega)
  have n3 : decide ((a : Int) < 1) = false := decide_eq_false (by omega)
  have n4 : decide (1800 < (a : Int)) = false := decide_eq_false (by omega)
  have L80 : L ≤ 80 := by omega
  have K20 : K ≤ 20 := by omega
  have HH := Lib.hid (And.intro b1 (And.intro k1 (And.intro z1 (And.intro e2 (And.intro hl (And.intro hkl (And.intro hLl hKl)))))))
  clear e1 e2 b1 k1 z1 hl hkl hLl hKl hL hK
  go_enter Try.func3, Try.ntmps3
  go_upto_region 1 with fail
  rw [HW.out.1, HW.out.2]
  go_wp2_with fail
  refine V.out.mono ?_
  rintro e w2 ⟨rfl, b2⟩
  have B2 : Hid (Below w1.heap.size w1 w2) := b2
  have k2 := (b2.block N (Array.getElem?_eq_some_iff.1 HH.out.2.1).1).trans HH.out.2.1
  have c0 : w2.cell? ⟨N, 0, none⟩ = some (.int .i64 (n : Int)) := cell_of_block k2 0
  have c1 : w2.cell? ⟨N, 1, none⟩ = some (.int .i64 (a : Int)) := cell_of_block k2 1
  clear b2 V k2
  go_wp2_with fail
  refine (CN.out _).mono ?_
  rintro e w3 ⟨bb, rfl, mb, hbb, hmb, K3, b3⟩
  obtain ⟨bx, hbx⟩ : ∃ bx, bx = w3.heap.size := ⟨_, rfl⟩
  obtain ⟨w4, hw4⟩ : ∃ x, x = w3.alloc (.cells #[.slice none 0 0] SlSer) := ⟨_, rfl⟩
  have S4 : Hid (Sit N W w4 N bb mb bx n a [] none 0 []) := by
    obtain ⟨b1, k1, z1, e2, _⟩ := HH.out
    have bw : Below w1.heap.size w1 w3 := B2.out.trans (b3.mono B2.out.size)
    have b4 : Below w3.heap.size w3 w4 := hw4 ▸ (Below.refl _ _).alloc (Nat.le_refl _) _
    have hz2 := B2.out.size
    have hz3 := b3.size
    have k4 : w4.heap[bx]? = some (.cells #[.slice none 0 0] SlSer (0, 0)) := by rw [hw4, hbx]; exact heap_alloc_new w3 _
    have lt := K3.lt
    have e2 : W.heap.size = N := e2
    refine ⟨K3.gr b4, ⟨k4, World.ownsRow_nil _ _ _ _, by simp, by simp [mfoot, blkOf], by omega⟩, ?_, fun g hg => ?_, fun g hg hm => ?_, ((bw.trans (b4.mono bw.size)).block N (Array.getElem?_eq_some_iff.1 k1).1).trans k1, fun hm => ?_, fun hm => ?_⟩
    · rw [← e2]
      exact b1.trans ((bw.trans (b4.mono bw.size)).mono (by omega))
    · rcases foot_mem.1 hg with rfl | rfl | ⟨e, he, _⟩
      · omega
      · omega
      · cases he
    · have := lt g hg
      rcases mfoot_mem.1 hm with rfl | ⟨x, h1, _⟩ | ⟨x, hx, _⟩
      · omega
      · cases h1
      · cases hx
    · rcases foot_mem.1 hm with rfl | rfl | ⟨e, he, _⟩
      · omega
      · omega
      · cases he
    · rcases mfoot_mem.1 hm with rfl | ⟨x, h1, _⟩ | ⟨x, hx, _⟩
      · omega
      · cases h1
      · cases hx
  have d0 : w3.cell? ⟨N, 0, none⟩ = some (.int .i64 (n : Int)) := (b3.cell (World.block_lt_of_cell? _ _ c0)).trans c0
  have d1 : w3.cell? ⟨N, 1, none⟩ = some (.int .i64 (a : Int)) := (b3.cell (World.block_lt_of_cell? _ _ c1)).trans c1
  have HW4 : Hid (w3.alloc (.cells #[.slice none 0 0] SlSer) = w4 ∧ w3.heap.size = bx) := ⟨hw4.symm, hbx.symm⟩
  clear hbb hmb K3 b3 hbx hw4 c0 c1 CN B2
  go_upto_region 7 with fail
  rw [HW4.out.1, HW4.out.2]
  clear d0 d1
  have S4 : Hid (∃ E q c M, Sit N W w4 N bb mb bx n a E q c M ∧ E.map slE = M.map slM ∧ E.length ≤ 0) := ⟨[], none, 0, [], S4.out, rfl, Nat.le_refl _⟩
  go_wp2_with fail
  go_loopg [70] L (fun g vi wr => ∃ i : Nat, vi = .int .i64 (i : Int) ∧ i ≤ L ∧ L - i ≤ g ∧ Hid (∃ E q c M, Sit N W wr N bb mb bx n a E q c M ∧ E.map slE = M.map slM ∧ E.length ≤ i))
  case atStart => exact ⟨0, rfl, by omega, by omega, S4⟩
  case round =>
    obtain ⟨i, rfl, hi, hg, HR⟩ := hrel
    by_cases hlt : i < L
    · obtain ⟨E, q, c, M, sit, al, hE⟩ := HR.out
      obtain ⟨b1, k1, z1, e2, hl, hkl, hLl, hKl⟩ := HH.out
      obtain ⟨x, hx⟩ : ∃ x, l[i]? = some x := ⟨l[i]'(by omega), List.getElem?_eq_getElem (by omega)⟩
      obtain ⟨okx, gl, ol, rfl, hgl, a0, a1, a2, a3, a4⟩ := hl i x hx
      have low := sit.low
      have e2 : W.heap.size = N := e2
      have a0 := (low.cell (p := ⟨gl, ol + i * 5, none⟩) (by show gl < N; omega)).trans a0
      have a1 := (low.cell (p := ⟨gl, ol + i * 5 + 1, none⟩) (by show gl < N; omega)).trans a1
      have a2 := (low.cell (p := ⟨gl, ol + i * 5 + 2, none⟩) (by show gl < N; omega)).trans a2
      have a3 := (low.cell (p := ⟨gl, ol + i * 5 + 3, none⟩) (by show gl < N; omega)).trans a3
      have a4 := (low.cell (p := ⟨gl, ol + i * 5 + 4, none⟩) (by show gl < N; omega)).trans a4
      obtain ⟨w5, P, X⟩ := boxA wr x
      have P1 := X.blk
      have sit5 := sit.gr X.b
      have hPz : P = wr.heap.size := X.at_.symm
      have PF : Hid (P ∉ foot bb mb E ∧ P ∉ mfoot bx q M ∧ w5.heap[P]? = some (.cells (acC x) AcT (0, 0)) ∧ Sit N W w5 N bb mb bx n a E q c M ∧ E.map slE = M.map slM ∧ E.length ≤ i ∧ OkA x) :=
        ⟨fun hm => by have := sit.bk.lt P hm; omega, fun hm => by have := (sit.md.lt P hm).2; omega, P1, sit5, al, hE, okx⟩
      have x0 : w5.cell? ⟨P, 0, none⟩ = some (.int .i64 x.kind) := cell_of_block P1 0
      have x1 : w5.cell? ⟨P, 1, none⟩ = some (.int .i64 x.at_) := cell_of_block P1 1
      have x2 : w5.cell? ⟨P, 2, none⟩ = some (.string x.s.1) := cell_of_block P1 2
      have x3 : w5.cell? ⟨P, 3, none⟩ = some (.string x.s.2) := cell_of_block P1 3
      have x4 : w5.cell? ⟨P, 4, none⟩ = some (.int .u64 (x.bits : Int)) := cell_of_block P1 4
      have r0 : w5.cell? ⟨N, 0, none⟩ = some (.int .i64 (n : Int)) := cell_of_block sit5.rul 0
      have HX : Hid (wr.alloc (.cells #[.int .i64 x.kind, .int .i64 x.at_, .string x.s.1, .string x.s.2, .int .u64 (x.bits : Int)] AcT) = w5 ∧ wr.heap.size = P) := ⟨X.eq, X.at_⟩
      obtain ⟨kd, at_, s, bits⟩ := x
      obtain ⟨s1, s2⟩ := s
      simp only at a0 a1 a2 a3 a4 x0 x1 x2 x3 x4 HX PF
      have i0 : (0 : Int) ≤ (i : Int) := Int.natCast_nonneg _
      have i1 : (i : Int) < (L : Int) := by omega
      clear sit al hE b1 k1 z1 e2 hl hkl hLl hKl hx okx hgl low X P1 sit5 hPz HR S4
      by_cases hs1 : 60 < s1.size
      · have u1 : decide ((60 : Int) < (s1.size : Int)) = true := decide_eq_true (by omega)
        have FIN : Hid (Below N W w5) := PF.out.2.2.2.1.low
        go_upto_region 10 with fail
        rw [HX.out.1, HX.out.2]
        go_wp2
        go_ret
        exact ⟨rfl, FIN.out⟩
      · by_cases hs2 : 60 < s2.size
        · have u1 : decide ((60 : Int) < (s1.size : Int)) = false := decide_eq_false (by omega)
          have u2 : decide ((60 : Int) < (s2.size : Int)) = true := decide_eq_true (by omega)
          have FIN : Hid (Below N W w5) := PF.out.2.2.2.1.low
          go_upto_region 10 with fail
          rw [HX.out.1, HX.out.2]
          go_wp2
          go_ret
          exact ⟨rfl, FIN.out⟩
        · have u1 : decide ((60 : Int) < (s1.size : Int)) = false := decide_eq_false (by omega)
          have u2 : decide ((60 : Int) < (s2.size : Int)) = false := decide_eq_false (by omega)
          have hk3 : kd = 0 ∨ kd = 1 ∨ ((kd == 0) = false ∧ (kd == 1) = false) := by
            by_cases h0 : kd = 0
            · exact .inl h0
            · by_cases h1 : kd = 1
              · exact .inr (.inl h1)
              · exact .inr (.inr ⟨by rw [beq_eq_false_iff_ne]; exact h0, by rw [beq_eq_false_iff_ne]; exact h1⟩)
          rcases hk3 with rfl | rfl | ⟨h0, h1⟩
          · -- a sample
            go_upto_region 10 with fail
            rw [HX.out.1, HX.out.2]
            go_upto_region 17 with fail
            have CS : Hid (∃ V Er : Int, Calls Try.prog 8 #[.pointer (some ⟨bb, 0, none⟩), .int .i64 at_, .agg #[.string s1, .string s2], .int .u64 (bits : Int)] w5 fun r w1 => r = .returned (.tuple #[.int .i64 V, .int .i64 Er]) ∧ w1.heap[P]? = some (.cells #[.int .i64 0, .int .i64 at_, .string s1, .string s2, .int .u64 (bits : Int)] AcT (0, 0)) ∧ w1.heap[N]? = w5.heap[N]? ∧
                Calls Try.prog 9 #[.pointer (some ⟨bx, 0, none⟩), .int .i64 (n : Int), .agg #[.int .i64 0, .int .i64 at_, .string s1, .string s2, .int .u64 (bits : Int)]] w1 fun r w2 => Both N W N bb mb bx n a V Er E.length P (.cells #[.int .i64 0, .int .i64 at_, .string s1, .string s2, .int .u64 (bits : Int)] AcT (0, 0)) r w2) :=
              pair PF.out.2.2.2.1 PF.out.2.2.2.2.1 (by have := PF.out.2.2.2.2.2.1; omega) ⟨0, at_, (s1, s2), bits⟩ PF.out.2.2.2.2.2.2 P _ PF.out.2.2.1 PF.out.1 PF.out.2.1
            obtain ⟨Vv, Er, CS⟩ := CS.out
            have CS := Lib.hid CS
            have R5 : Hid (w5.heap[N]? = some (.cells #[.int .i64 (n : Int), .int .i64 (a : Int)] TRul (0, 0))) := PF.out.2.2.2.1.rul
            have HE5 : Hid (E.length ≤ i) := PF.out.2.2.2.2.2.1
            clear PF a0 a1 a2 a3 a4 u1 u2 hs1 hs2
            go_wp2_with fail
            refine CS.out.mono ?_
            rintro e w6 ⟨rfl, P6, R6, C2⟩
            have C2 := Lib.hid C2
            rw [R5.out] at R6
            clear x0 x1 x2 x3 x4 r0 CS R5
            have x0 : w6.cell? ⟨P, 0, none⟩ = some (.int .i64 0) := cell_of_block P6 0
            have x1 : w6.cell? ⟨P, 1, none⟩ = some (.int .i64 at_) := cell_of_block P6 1
            have x2 : w6.cell? ⟨P, 2, none⟩ = some (.string s1) := cell_of_block P6 2
            have x3 : w6.cell? ⟨P, 3, none⟩ = some (.string s2) := cell_of_block P6 3
            have x4 : w6.cell? ⟨P, 4, none⟩ = some (.int .u64 (bits : Int)) := cell_of_block P6 4
            have r0 : w6.cell? ⟨N, 0, none⟩ = some (.int .i64 (n : Int)) := cell_of_block R6 0
            clear P6 R6
            go_wp2_with fail
            refine C2.out.mono ?_
            rintro e w7 ⟨rfl, E', q', c', M', sit7, al7, hE7, P7⟩
            have NX : Hid (∃ E q c M, Sit N W w7 N bb mb bx n a E q c M ∧ E.map slE = M.map slM ∧ E.length ≤ i + 1) := ⟨E', q', c', M', sit7, al7, by have := HE5.out; omega⟩
            clear sit7 al7 hE7 P7 C2 HE5 x0 x1 x2 x3 x4 r0
            go_wp2_with fail
            go_roundg (L - (i + 1))
            case measure => omega
            case rel => exact ⟨i + 1, by push_cast; rfl, by omega, by omega, NX⟩
          · -- a subject's series go
            go_upto_region 10 with fail
            rw [HX.out.1, HX.out.2]
            obtain ⟨m, hm⟩ : ∃ m, m = M.length := ⟨_, rfl⟩
            have xb : w5.cell? ⟨bx, 0, none⟩ = some (.slice q m c) := by rw [hm]; exact cell_of_block PF.out.2.2.2.1.md.box 0
            obtain ⟨Z, hZ⟩ : ∃ Z, Z = w5.heap.size := ⟨_, rfl⟩
            have hm100 : m ≤ 100 := by
              have h1 := congrArg List.length PF.out.2.2.2.2.1
              simp at h1
              have := PF.out.2.2.2.2.2.1
              omega
            have HZ := Lib.hid (And.intro hm hZ)
            have S0 : Hid (0 + (withoutM s1 (M.take 0)).length = 0 ∧ 0 = (withoutM s1 (M.take 0)).length ∧ w5.ownsRow Z TSer 3 (.slice none 0 0) 0 (flM (withoutM s1 (M.take 0))) ∧ Below Z w5 w5) := ⟨rfl, rfl, World.ownsRow_nil _ _ _ _, Below.refl _ _⟩
            obtain ⟨inf, i1, i2, i3, i4⟩ := infoM
            have HI := Lib.hid (And.intro i1 (And.intro i2 (And.intro i3 i4)))
            clear hm hZ i1 i2 i3 i4 a0 a1 a2 a3 a4
            go_wp2_with fail
            clear u1 u2 hs1 hs2
            go_loopg [131, 16, 17] m (fun gg vi v16 v17 wr => ∃ (j cn k : Nat) (q1 : Option Addr) (c1 : Nat), vi = .int .i64 (j : Int) ∧ v16 = .int .i64 (cn : Int) ∧ v17 = .slice q1 k c1 ∧ j ≤ m ∧ m - j ≤ gg ∧ Hid (cn + (withoutM s1 (M.take j)).length = j ∧ k = (withoutM s1 (M.take j)).length ∧ wr.ownsRow Z TSer 3 (.slice q1 k c1) k (flM (withoutM s1 (M.take j))) ∧ Below Z w5 wr))
            case atStart => exact ⟨0, 0, 0, none, 0, rfl, rfl, rfl, by omega, by omega, S0⟩
            case round =>
              obtain ⟨j, cn, k, q1, c1, rfl, rfl, rfl, hj, hgg, HY⟩ := hrel
              by_cases hjm : j < m
              · obtain ⟨hcn, hk, own, low⟩ := HY.out
                obtain ⟨hm, hZ⟩ := HZ.out
                have sit5 := PF.out.2.2.2.1
                obtain ⟨y, hy⟩ : ∃ y, M[j]? = some y := ⟨M[j]'(by omega), List.getElem?_eq_getElem (by omega)⟩
                obtain ⟨g, rfl, _, hgl, y0, y1, y2, _⟩ := row_cells sit5.md.row hy
                have y0 := (low.cell (p := ⟨g, j * 3, none⟩) (by show g < Z; omega)).trans y0
                have y1 := (low.cell (p := ⟨g, j * 3 + 1, none⟩) (by show g < Z; omega)).trans y1
                have y2 := (low.cell (p := ⟨g, j * 3 + 2, none⟩) (by show g < Z; omega)).trans y2
                have hPl : P < w5.heap.size := (Array.getElem?_eq_some_iff.1 PF.out.2.2.1).1
                have p2 := (low.cell (p := ⟨P, 2, none⟩) (by show P < Z; omega)).trans x2
                obtain ⟨O, hO⟩ : ∃ O, O = wr.heap.size := ⟨_, rfl⟩
                obtain ⟨w6, hw6⟩ : ∃ z, z = wr.alloc (.cells #[.string y.s.1, .string y.s.2, .slice y.q y.l.length y.c] TSer) := ⟨_, rfl⟩
                have b6 : Below wr.heap.size wr w6 := hw6 ▸ (Below.refl _ _).alloc (Nat.le_refl _) _
                have k6 : w6.heap[O]? = some (.cells #[.string y.s.1, .string y.s.2, .slice y.q y.l.length y.c] TSer (0, 0)) := by rw [hw6, hO]; exact heap_alloc_new wr _
                have o0 : w6.cell? ⟨O, 0, none⟩ = some (.string y.s.1) := cell_of_block k6 0
                have o1 : w6.cell? ⟨O, 1, none⟩ = some (.string y.s.2) := cell_of_block k6 1
                have o2 : w6.cell? ⟨O, 2, none⟩ = some (.slice y.q y.l.length y.c) := cell_of_block k6 2
                have p26 : w6.cell? ⟨P, 2, none⟩ = some (.string s1) := (b6.cell (World.block_lt_of_cell? _ _ p2)).trans p2
                have hZy : Z ≤ wr.heap.size := by have := low.size; omega
                have low6 : Below Z w5 w6 := low.trans (b6.mono hZy)
                have own6 : w6.ownsRow Z TSer 3 (.slice q1 k c1) k (flM (withoutM s1 (M.take j))) := by rw [hw6]; exact own.alloc _
                have HW6 : Hid (wr.alloc (.cells #[.string y.s.1, .string y.s.2, .slice y.q y.l.length y.c] TSer) = w6 ∧ wr.heap.size = O) := ⟨hw6.symm, hO.symm⟩
                have hnext := withoutM_next s1 hy
                have se := str_eq y.s.1 s1
                have j0 : (0 : Int) ≤ (j : Int) := Int.natCast_nonneg _
                have j1 : (j : Int) < (m : Int) := by omega
                have hk100 : k ≤ 100 := by
                  have := withoutM_few s1 (M.take j)
                  rw [List.length_take] at this
                  omega
                have hcn100 : cn ≤ 100 := by omega
                by_cases hsub : y.s.1 = s1
                · rw [decide_eq_true hsub] at se
                  rw [if_pos hsub, List.append_nil] at hnext
                  have NX : Hid (cn + 1 + (withoutM s1 (M.take (j + 1))).length = j + 1 ∧ k = (withoutM s1 (M.take (j + 1))).length ∧ w6.ownsRow Z TSer 3 (.slice q1 k c1) k (flM (withoutM s1 (M.take (j + 1)))) ∧ Below Z w5 w6) := by
                    rw [hnext]
                    exact ⟨by omega, hk, own6, low6⟩
                  obtain ⟨y01, y02⟩ : Hid True ∧ Hid True := ⟨trivial, trivial⟩
                  obtain ⟨ys1, hys1⟩ : ∃ z, z = y.s.1 := ⟨_, rfl⟩
                  rw [← hys1] at y0 o0 se HW6
                  clear hcn hk own low hm hZ sit5 hy hgl hPl hO hw6 b6 k6 hZy low6 own6 hnext hsub HY S0 y01 y02 hys1
                  go_upto_region 27 with fail
                  rw [HW6.out.1, HW6.out.2]
                  go_wp2_with fail
                  go_roundg (m - (j + 1))
                  case measure => omega
                  case rel => exact ⟨j + 1, cn + 1, k, q1, c1, by push_cast; rfl, by push_cast; rfl, rfl, by omega, by omega, NX⟩
                · rw [decide_eq_false hsub] at se
                  rw [if_neg hsub] at hnext
                  obtain ⟨w7, hw7⟩ : ∃ z, z = w6.alloc (.cells #[.string y.s.1, .string y.s.2, .slice y.q y.l.length y.c] TSer) := ⟨_, rfl⟩
                  obtain ⟨Q, hQ⟩ : ∃ Q, Q = w6.heap.size := ⟨_, rfl⟩
                  obtain ⟨acc, hacc⟩ : ∃ acc, acc = withoutM s1 (M.take j) := ⟨_, rfl⟩
                  rw [← hacc] at hk own6 hnext hcn
                  have NEW : Hid (∀ (t : Nat) u, ([.string y.s.1, .string y.s.2, .slice y.q y.l.length y.c] : List Value)[t]? = some u → w7.cell? ((⟨Q, 0, none⟩ : Addr).add t) = some u) := by
                    have := World.news_of_block (w := w7) (B := Q) (cs := #[.string y.s.1, .string y.s.2, .slice y.q y.l.length y.c]) (t := TSer) (fr := (0, 0)) (by rw [hw7, hQ]; exact heap_alloc_new w6 _)
                    exact this
                  have hZ6 : Z ≤ w6.heap.size := by have := b6.size; omega
                  have OWN : Hid (w7.ownsRow Z TSer 3 (.slice q1 k c1) k (flM acc)) := by show World.ownsRow _ _ _ _ _ _ _; rw [hw7]; exact own6.alloc _
                  have LOW7 : Hid (Below Z w5 w7) := by show Below _ _ _; rw [hw7]; exact low6.alloc hZ6 _
                  have BS : Hid (Z ≤ w7.heap.size) := by show _ ≤ _; rw [hw7]; simp; omega
                  have HW7 : Hid (w6.alloc (.cells #[.string y.s.1, .string y.s.2, .slice y.q y.l.length y.c] TSer) = w7 ∧ w6.heap.size = Q) := ⟨hw7.symm, hQ.symm⟩
                  have HN : Hid (cn + acc.length = j ∧ k = acc.length ∧ withoutM s1 (M.take (j + 1)) = acc ++ [y] ∧ enMe y = [.string y.s.1, .string y.s.2, .slice y.q y.l.length y.c]) := ⟨hcn, hk, hnext, rfl⟩
                  obtain ⟨ys1, hys1⟩ : ∃ z, z = y.s.1 := ⟨_, rfl⟩
                  obtain ⟨ys2, hys2⟩ : ∃ z, z = y.s.2 := ⟨_, rfl⟩
                  obtain ⟨yq, hyq⟩ : ∃ z, z = y.q := ⟨_, rfl⟩
                  obtain ⟨yl, hyl⟩ : ∃ z, z = y.l.length := ⟨_, rfl⟩
                  obtain ⟨yc, hyc⟩ : ∃ z, z = y.c := ⟨_, rfl⟩
                  rw [← hys1, ← hys2, ← hyq, ← hyl, ← hyc] at HW6 HW7 NEW HN
                  rw [← hys1] at y0 o0 se
                  rw [← hys2] at y1 o1
                  rw [← hyq, ← hyl, ← hyc] at y2 o2
                  clear hcn hk own low hm hZ sit5 hy hgl hPl hO hw6 b6 k6 hZy low6 own6 hnext hsub HY S0 hw7 hQ hacc hZ6 hys1 hys2 hyq hyl hyc
                  go_upto_region 27 with fail
                  rw [HW6.out.1, HW6.out.2]
                  go_wp2_with (at_builtin; rw [HW7.out.1, HW7.out.2]; refine wpList_append_lies _ rfl _ _ SlSer (by rfl) Z TSer inf (.agg #[.string { data := #[] }, .string { data := #[] }, .slice none 0 0]) 3 56 Try.underlying31 HI.out.1 HI.out.2.1 HI.out.2.2.1 HI.out.2.2.2 rfl (by omega) (.slice q1 k c1) k (flM acc) (by rfl) OWN.out ⟨Q, 0, none⟩ 1 1 [.string ys1, .string ys2, .slice yq yl yc] (by rfl) rfl NEW.out (by intro u hu; simp at hu; rcases hu with rfl | rfl | rfl <;> rfl) (by omega) (by unfold maxLen; omega) (by omega) BS.out _ rfl ?_; intro g8 cap w8 hown8 hgrow8 hat8 hlt8)
                  have NX : Hid (cn + (withoutM s1 (M.take (j + 1))).length = j + 1 ∧ k + 1 = (withoutM s1 (M.take (j + 1))).length ∧ w8.ownsRow Z TSer 3 (.slice (some ⟨g8, 0, none⟩) (k + 1) cap) (k + 1) (flM (withoutM s1 (M.take (j + 1)))) ∧ Below Z w5 w8) := by
                    obtain ⟨hcn, hk, hnext, hen⟩ := HN.out
                    rw [hnext]
                    refine ⟨by rw [List.length_append]; simp only [List.length_singleton]; omega, by rw [List.length_append, ← hk]; rfl, ?_, LOW7.out.grown hgrow8 BS.out (fun z e => (OWN.out.lt z e).1)⟩
                    rw [flM_app]
                    have e : flM [y] = enMe y := by unfold flM; simp
                    rw [e, hen]
                    exact hown8
                  clear hown8 hgrow8 hat8 hlt8 OWN BS NEW HN LOW7
                  go_wp2_with fail
                  go_roundg (m - (j + 1))
                  case measure => omega
                  case rel => exact ⟨j + 1, cn, k + 1, some ⟨g8, 0, none⟩, cap, by push_cast; rfl, rfl, rfl, by omega, by omega, NX⟩
              · have hjm' : j = m := by omega
                subst hjm'
                obtain ⟨hcn, hk, own, low⟩ := HY.out
                obtain ⟨hm, hZ⟩ := HZ.out
                rw [hm, List.take_length] at hcn hk own
                have sit5 := PF.out.2.2.2.1
                have al5 := PF.out.2.2.2.2.1
                obtain ⟨sw1, sw2, sw3, sw4, sw5⟩ := sit5.md.swap (w6 := wr) (c' := c1) (q' := q1) (by rw [← hZ]; exact low) sit5.hN (show List.Sublist (withoutM s1 M) M from List.filter_sublist) (by rw [← hk, ← hZ]; exact own)
                rw [← hk] at sw3 sw4
                rw [← hm] at sw1
                obtain ⟨w8, hw8⟩ : ∃ z, z = wr.setCell ⟨bx, 0, none⟩ (.slice q1 k c1) := ⟨_, rfl⟩
                rw [← hw8] at sw3 sw4
                have sit8 := sit5.model sw3 sw4 (fun g hg => mfoot_mem.2 (.inl (by simpa using hg))) sw5
                have hPl : P < w5.heap.size := (Array.getElem?_eq_some_iff.1 PF.out.2.2.1).1
                have P8 : w8.heap[P]? = some (.cells (acC ⟨1, at_, (s1, s2), bits⟩) AcT (0, 0)) := (sw4.block P hPl (fun hm' => PF.out.2.1 (mfoot_mem.2 (.inl (by simpa using hm'))))).trans PF.out.2.2.1
                have x28 : w8.cell? ⟨P, 2, none⟩ = some (.string s1) := cell_of_block P8 2
                have hcnt : E.length - (without s1 E).length = cn := by
                  have h1 := congrArg List.length al5
                  have h2 := congrArg List.length (without_al al5 s1)
                  simp only [List.length_map] at h1 h2
                  omega
                have CF := forget_any w8 bb mb n a E sit8.bk s1
                rw [hcnt] at CF
                have CF := Lib.hid CF
                have NXT : Hid (∀ w9, Bk w9 bb mb n a (without s1 E) → Tch [mb] w8 w9 → ∃ E q c M, Sit N W w9 N bb mb bx n a E q c M ∧ E.map slE = M.map slM ∧ E.length ≤ i + 1) := fun w9 K9 t9 => by
                  refine ⟨_, q1, c1, withoutM s1 M, sit8.book K9 t9 (fun g hg => foot_mem.2 (.inr (.inl (by simpa using hg)))) (fun g hg => .inl ?_), without_al al5 s1, ?_⟩
                  · rcases foot_mem.1 hg with h1 | h1 | ⟨e, he, h1⟩
                    · exact foot_mem.2 (.inl h1)
                    · exact foot_mem.2 (.inr (.inl h1))
                    · exact foot_mem.2 (.inr (.inr ⟨e, (List.mem_filter.1 he).1, h1⟩))
                  · have h1 : (without s1 E).length ≤ E.length := List.length_filter_le _ _
                    have := PF.out.2.2.2.2.2.1
                    omega
                have HW8 : Hid (wr.setCell ⟨bx, 0, none⟩ (.slice q1 k c1) = w8) := hw8.symm
                clear hcn hk own low hm hZ sit5 al5 sw3 sw4 sw5 hw8 sit8 hPl P8 hcnt HY S0 PF x0 x1 x2 x3 x4 r0 xb
                go_upto_region 32 with fail
                rw [HW8.out]
                go_wp2_with fail
                refine CF.out.mono ?_
                rintro e w9 ⟨rfl, K9, t9⟩
                have NX := Lib.hid (NXT.out w9 K9 t9)
                clear K9 t9 NXT CF x28 sw1 sw2
                go_wp2_with fail
                go_roundg (L - (i + 1))
                case measure => omega
                case rel => exact ⟨i + 1, by push_cast; rfl, by omega, by omega, NX⟩
          · -- a copy
            have CC := Lib.hid (aside w5 bb mb n a E PF.out.2.2.2.1.bk (by have := PF.out.2.2.2.2.2.1; omega) (s1, s2) PF.out.2.2.2.2.2.2.1)
            go_upto_region 10 with fail
            rw [HX.out.1, HX.out.2]
            clear a0 a1 a2 a3 a4
            go_wp2_with fail
            refine CC.out.mono ?_
            rintro e w6 ⟨b2, rfl, bw6, Vv, Er, C2⟩
            have C2 := Lib.hid C2
            have y2 : w6.cell? ⟨P, 2, none⟩ = some (.string s1) := (bw6.cell (World.block_lt_of_cell? _ _ x2)).trans x2
            have y3 : w6.cell? ⟨P, 3, none⟩ = some (.string s2) := (bw6.cell (World.block_lt_of_cell? _ _ x3)).trans x3
            unfold ser at C2
            clear bw6 CC
            go_wp2_with fail
            refine C2.out.mono ?_
            rintro e w7 ⟨rfl, bw7, C3⟩
            have C3 := Lib.hid C3
            have z2 : w7.cell? ⟨P, 2, none⟩ = some (.string s1) := (bw7.cell (World.block_lt_of_cell? _ _ x2)).trans x2
            clear bw7 C2 y2 y3
            go_wp2_with fail
            refine C3.out.mono ?_
            rintro e w8 ⟨⟨kk, rfl⟩, bw8⟩
            have NX : Hid (∃ E q c M, Sit N W w8 N bb mb bx n a E q c M ∧ E.map slE = M.map slM ∧ E.length ≤ i + 1) := ⟨E, q, c, M, PF.out.2.2.2.1.gr bw8, PF.out.2.2.2.2.1, by have := PF.out.2.2.2.2.2.1; omega⟩
            clear bw8 C3 z2 PF x0 x1 x2 x3 x4 r0
            go_wp2_with fail
            go_roundg (L - (i + 1))
            case measure => omega
            case rel => exact ⟨i + 1, by push_cast; rfl, by omega, by omega, NX⟩
    · obtain ⟨E, q, c, M, sit, al, hE⟩ := HR.out
      have hiL : i = L := by omega
      subst hiL
      have i1 : decide ((i : Int) < (i : Int)) = false := decide_eq_false (by omega)
      have CA := all_any wr bb mb n a E sit.bk
      obtain ⟨m, hm⟩ : ∃ m, m = E.length := ⟨_, rfl⟩
      have hMm : m = M.length := by have := congrArg List.length al; simp only [List.length_map] at this; omega
      rw [← hm] at CA
      have CA := Lib.hid CA
      have PF := Lib.hid (And.intro sit (And.intro al (And.intro hE (And.intro hm hMm))))
      clear sit al hE hm hMm HR S4 hlt
      go_wp2_with fail
      refine CA.out.mono ?_
      rintro e w6 ⟨⟨q2, c2, lst, rfl, hls, hrow⟩, b6⟩
      have P6 : Hid (Sit N W w6 N bb mb bx n a E q c M ∧ E.map slE = M.map slM ∧ m = M.length ∧ Listed E lst ∧ RowS w6 wr.heap.size q2 lst ∧ lst.length = m ∧ m ≤ 80) := by
        obtain ⟨sit, al, hE, hm, hMm⟩ := PF.out
        have h1 := hls.1.length_eq
        rw [List.length_map] at h1
        exact ⟨sit.gr b6, al, hMm, hls, hrow, by omega, by omega⟩
      have bc : w6.cell? ⟨bx, 0, none⟩ = some (.slice q m c) := by rw [P6.out.2.2.1]; exact cell_of_block P6.out.1.md.box 0
      have S6 : Hid (Below w6.heap.size w6 w6) := Below.refl _ _
      have m80 : m ≤ 80 := P6.out.2.2.2.2.2.2
      clear hls hrow b6 PF CA
      go_wp2_with fail
      go_loopg [167] m (fun g vi wr => ∃ j : Nat, vi = .int .i64 (j : Int) ∧ j ≤ m ∧ m - j ≤ g ∧ Hid (Below w6.heap.size w6 wr))
      case atStart => exact ⟨0, rfl, by omega, by omega, S6⟩
      case round =>
        obtain ⟨j, rfl, hj, hg, HR⟩ := hrel
        by_cases hlt : j < m
        · have j0 : (0 : Int) ≤ (j : Int) := Int.natCast_nonneg _
          have j1 : (j : Int) < (m : Int) := by omega
          obtain ⟨s, hs⟩ : ∃ s, lst[j]? = some s := by
            have := P6.out.2.2.2.2.2.1
            exact ⟨lst[j]'(by omega), List.getElem?_eq_getElem (by omega)⟩
          obtain ⟨g2, rfl, hg0, hg1, e0, e1⟩ := P6.out.2.2.2.2.1 j s hs
          have b6 : Below w6.heap.size w6 wr := HR.out
          have e0 : wr.cell? ⟨g2, j * 2, none⟩ = some (.string s.1) := (b6.cell (p := ⟨g2, j * 2, none⟩) hg1).trans e0
          have e1 : wr.cell? ⟨g2, j * 2 + 1, none⟩ = some (.string s.2) := (b6.cell (p := ⟨g2, j * 2 + 1, none⟩) hg1).trans e1
          obtain ⟨w7, O, X⟩ := boxed wr s
          have HX : Hid (wr.alloc (.cells #[.string s.1, .string s.2] KS) = w7 ∧ wr.heap.size = O) := ⟨X.eq, X.at_⟩
          have B7 : Hid (Below w6.heap.size w6 w7) := b6.trans (X.b.mono b6.size)
          have S7 : Hid (w7.drew.cell? ⟨bx, 0, none⟩ = some (.slice q m c) ∧ w7.drew.cell? ⟨O, 0, none⟩ = some (.string s.1) ∧ w7.drew.cell? ⟨O, 1, none⟩ = some (.string s.2)) := ⟨(B7.out.cell (World.block_lt_of_cell? _ _ bc)).trans bc, X.c0, X.c1⟩
          have S0 : Hid (∀ ws : World, (ws.cell? ⟨bx, 0, none⟩ = some (.slice q m c) ∧ ws.cell? ⟨O, 0, none⟩ = some (.string s.1) ∧ ws.cell? ⟨O, 1, none⟩ = some (.string s.2)) → ws.cell? ⟨bx, 0, none⟩ = some (.slice q m c) ∧ ws.cell? ⟨O, 0, none⟩ = some (.string s.1) ∧ ws.cell? ⟨O, 1, none⟩ = some (.string s.2)) := fun ws h => h
          have LA : OkS s ∧ ∃ K : Nat, Calls Try.prog 13 #[.slice q m c, .agg #[.string s.1, .string s.2]] w7.drew fun r w' => r = .returned (.int .i64 (K : Int)) ∧ Below w7.drew.heap.size w7.drew w' := by
            obtain ⟨sit, al, hMm, hls, _⟩ := P6.out
            have s7 := sit.gr (Below.drewN' B7.out 1)
            have := listed_at N w7.drew bb mb n a E s7.bk q c M s7.md.row al lst hls j s hs
            rw [← hMm] at this
            exact this
          obtain ⟨oks, K1, CF⟩ := LA
          have CF := Lib.hid CF
          have OKS := Lib.hid oks
          have k0 : decide ((K1 : Int) < 0) = false := decide_eq_false (by omega)
          have hz7 : w7.heap.size = w7.drew.heap.size := rfl
          clear X b6 hg0 oks
          go_upto_region 41 with fail
          rw [HX.out.1, HX.out.2]
          clear e0 e1
          go_cut [212] from 172 to 212 (fun v wc => v = .bool false ∧ Hid (Below w6.heap.size w6 wc ∧ wc.cell? ⟨bx, 0, none⟩ = some (.slice q m c) ∧ wc.cell? ⟨O, 0, none⟩ = some (.string s.1) ∧ wc.cell? ⟨O, 1, none⟩ = some (.string s.2)))
          case first =>
            have NX : Hid (∀ w3, Below w7.drew.heap.size w7.drew w3 → Below w6.heap.size w6 w3 ∧ w3.cell? ⟨bx, 0, none⟩ = some (.slice q m c) ∧ w3.cell? ⟨O, 0, none⟩ = some (.string s.1) ∧ w3.cell? ⟨O, 1, none⟩ = some (.string s.2)) := fun w3 b => by
              have b7 := Below.drewN' B7.out 1
              obtain ⟨h1, h2, h3⟩ := S7.out
              exact ⟨b7.trans (b.mono b7.size), (b.cell (World.block_lt_of_cell? _ _ h1)).trans h1, (b.cell (World.block_lt_of_cell? _ _ h2)).trans h2, (b.cell (World.block_lt_of_cell? _ _ h3)).trans h3⟩
            rcases j with _ | J
            · have jz : decide ((0 : Int) < ((0 : Nat) : Int)) = false := rfl
              refine wp_region_held_drew (S := fun ws => ws.cell? ⟨bx, 0, none⟩ = some (.slice q m c) ∧ ws.cell? ⟨O, 0, none⟩ = some (.string s.1) ∧ ws.cell? ⟨O, 1, none⟩ = some (.string s.2)) mixed S7.out (fun hS => ?_)
              refine wpAnyH_takeD (i := 0) (d := 172) (v := .int .i64 ((0 : Nat) : Int)) _ rfl rfl (by kernel_rfl) (by kernel_rfl) (by kernel_rfl) (fun _ _ _ h => h) (Or.inl ⟨by kernel_rfl, fun ws hSw => by first | (go_simp; done) | (go_simp; with_reducible rfl) | (go_simp; rfl)⟩) hS ?_
              simp only [Act.put, List.setIfInBounds_toArray, List.set_cons_zero, List.set_cons_succ]
              refine wpAnyH_takeD (i := 1) (d := 173) (v := .bool false) _ rfl rfl (by kernel_rfl) (by kernel_rfl) (by kernel_rfl) (fun _ _ _ h => h) (Or.inl ⟨by kernel_rfl, fun ws hSw => by first | (go_simp; done) | (go_simp; with_reducible rfl) | (go_simp; rfl)⟩) hS ?_
              simp only [Act.put, List.setIfInBounds_toArray, List.set_cons_zero, List.set_cons_succ]
              refine wpAnyH_takeD (i := 2) (d := 174) (v := .bool false) _ rfl rfl (by kernel_rfl) (by kernel_rfl) (by kernel_rfl) (fun _ _ _ h => h) (Or.inl ⟨by kernel_rfl, fun ws hSw => by first | (go_simp; done) | (go_simp; with_reducible rfl) | (go_simp; rfl)⟩) hS ?_
              simp only [Act.put, List.setIfInBounds_toArray, List.set_cons_zero, List.set_cons_succ]
              refine wpAnyH_takeD (i := 3) (d := 175) (v := undef) _ rfl rfl (by kernel_rfl) (by kernel_rfl) (by kernel_rfl) (fun _ _ _ h => h) (Or.inr ⟨by kernel_rfl, rfl⟩) hS ?_
              simp only [Act.put, List.setIfInBounds_toArray, List.set_cons_zero, List.set_cons_succ]
              refine wpAnyH_takeD (i := 4) (d := 176) (v := undef) _ rfl rfl (by kernel_rfl) (by kernel_rfl) (by kernel_rfl) (fun _ _ _ h => h) (Or.inr ⟨by kernel_rfl, rfl⟩) hS ?_
              simp only [Act.put, List.setIfInBounds_toArray, List.set_cons_zero, List.set_cons_succ]
              refine wpAnyH_takeD (i := 5) (d := 177) (v := undef) _ rfl rfl (by kernel_rfl) (by kernel_rfl) (by kernel_rfl) (fun _ _ _ h => h) (Or.inr ⟨by kernel_rfl, rfl⟩) hS ?_
              simp only [Act.put, List.setIfInBounds_toArray, List.set_cons_zero, List.set_cons_succ]
              refine wpAnyH_takeD (i := 6) (d := 178) (v := undef) _ rfl rfl (by kernel_rfl) (by kernel_rfl) (by kernel_rfl) (fun _ _ _ h => h) (Or.inr ⟨by kernel_rfl, rfl⟩) hS ?_
              simp only [Act.put, List.setIfInBounds_toArray, List.set_cons_zero, List.set_cons_succ]
              refine wpAnyH_takeD (i := 7) (d := 179) (v := undef) _ rfl rfl (by kernel_rfl) (by kernel_rfl) (by kernel_rfl) (fun _ _ _ h => h) (Or.inr ⟨by kernel_rfl, rfl⟩) hS ?_
              simp only [Act.put, List.setIfInBounds_toArray, List.set_cons_zero, List.set_cons_succ]
              refine wpAnyH_takeD (i := 8) (d := 180) (v := undef) _ rfl rfl (by kernel_rfl) (by kernel_rfl) (by kernel_rfl) (fun _ _ _ h => h) (Or.inr ⟨by kernel_rfl, rfl⟩) hS ?_
              simp only [Act.put, List.setIfInBounds_toArray, List.set_cons_zero, List.set_cons_succ]
              refine wpAnyH_takeD (i := 9) (d := 181) (v := undef) _ rfl rfl (by kernel_rfl) (by kernel_rfl) (by kernel_rfl) (fun _ _ _ h => h) (Or.inr ⟨by kernel_rfl, rfl⟩) hS ?_
              simp only [Act.put, List.setIfInBounds_toArray, List.set_cons_zero, List.set_cons_succ]
              refine wpAnyH_takeD (i := 10) (d := 182) (v := undef) _ rfl rfl (by kernel_rfl) (by kernel_rfl) (by kernel_rfl) (fun _ _ _ h => h) (Or.inr ⟨by kernel_rfl, rfl⟩) hS ?_
              simp only [Act.put, List.setIfInBounds_toArray, List.set_cons_zero, List.set_cons_succ]
              refine wpAnyH_takeD (i := 11) (d := 183) (v := undef) _ rfl rfl (by kernel_rfl) (by kernel_rfl) (by kernel_rfl) (fun _ _ _ h => h) (Or.inr ⟨by kernel_rfl, rfl⟩) hS ?_
              simp only [Act.put, List.setIfInBounds_toArray, List.set_cons_zero, List.set_cons_succ]
              refine wpAnyH_takeD (i := 12) (d := 184) (v := undef) _ rfl rfl (by kernel_rfl) (by kernel_rfl) (by kernel_rfl) (fun _ _ _ h => h) (Or.inr ⟨by kernel_rfl, rfl⟩) hS ?_
              simp only [Act.put, List.setIfInBounds_toArray, List.set_cons_zero, List.set_cons_succ]
              refine wpAnyH_takeD (i := 13) (d := 185) (v := undef) _ rfl rfl (by kernel_rfl) (by kernel_rfl) (by kernel_rfl) (fun _ _ _ h => h) (Or.inr ⟨by kernel_rfl, rfl⟩) hS ?_
              simp only [Act.put, List.setIfInBounds_toArray, List.set_cons_zero, List.set_cons_succ]
              refine wpAnyH_takeD (i := 14) (d := 186) (v := undef) _ rfl rfl (by kernel_rfl) (by kernel_rfl) (by kernel_rfl) (fun _ _ _ h => h) (Or.inr ⟨by kernel_rfl, rfl⟩) hS ?_
              simp only [Act.put, List.setIfInBounds_toArray, List.set_cons_zero, List.set_cons_succ]
              refine wpAnyH_takeD (i := 15) (d := 187) (v := undef) _ rfl rfl (by kernel_rfl) (by kernel_rfl) (by kernel_rfl) (fun _ _ _ h => h) (Or.inr ⟨by kernel_rfl, rfl⟩) hS ?_
              simp only [Act.put, List.setIfInBounds_toArray, List.set_cons_zero, List.set_cons_succ]
              refine wpAnyH_takeD (i := 16) (d := 188) (v := undef) _ rfl rfl (by kernel_rfl) (by kernel_rfl) (by kernel_rfl) (fun _ _ _ h => h) (Or.inr ⟨by kernel_rfl, rfl⟩) hS ?_
              simp only [Act.put, List.setIfInBounds_toArray, List.set_cons_zero, List.set_cons_succ]
              refine wpAnyH_takeD (i := 17) (d := 189) (v := undef) _ rfl rfl (by kernel_rfl) (by kernel_rfl) (by kernel_rfl) (fun _ _ _ h => h) (Or.inr ⟨by kernel_rfl, rfl⟩) hS ?_
              simp only [Act.put, List.setIfInBounds_toArray, List.set_cons_zero, List.set_cons_succ]
              refine wpAnyH_takeD (i := 18) (d := 190) (v := undef) _ rfl rfl (by kernel_rfl) (by kernel_rfl) (by kernel_rfl) (fun _ _ _ h => h) (Or.inr ⟨by kernel_rfl, rfl⟩) hS ?_
              simp only [Act.put, List.setIfInBounds_toArray, List.set_cons_zero, List.set_cons_succ]
              refine wpAnyH_takeD (i := 19) (d := 191) (v := undef) _ rfl rfl (by kernel_rfl) (by kernel_rfl) (by kernel_rfl) (fun _ _ _ h => h) (Or.inr ⟨by kernel_rfl, rfl⟩) hS ?_
              simp only [Act.put, List.setIfInBounds_toArray, List.set_cons_zero, List.set_cons_succ]
              refine wpAnyH_takeD (i := 20) (d := 192) (v := undef) _ rfl rfl (by kernel_rfl) (by kernel_rfl) (by kernel_rfl) (fun _ _ _ h => h) (Or.inr ⟨by kernel_rfl, rfl⟩) hS ?_
              simp only [Act.put, List.setIfInBounds_toArray, List.set_cons_zero, List.set_cons_succ]
              refine wpAnyH_takeD (i := 21) (d := 193) (v := undef) _ rfl rfl (by kernel_rfl) (by kernel_rfl) (by kernel_rfl) (fun _ _ _ h => h) (Or.inr ⟨by kernel_rfl, rfl⟩) hS ?_
              simp only [Act.put, List.setIfInBounds_toArray, List.set_cons_zero, List.set_cons_succ]
              refine wpAnyH_takeD (i := 22) (d := 194) (v := undef) _ rfl rfl (by kernel_rfl) (by kernel_rfl) (by kernel_rfl) (fun _ _ _ h => h) (Or.inr ⟨by kernel_rfl, rfl⟩) hS ?_
              simp only [Act.put, List.setIfInBounds_toArray, List.set_cons_zero, List.set_cons_succ]
              refine wpAnyH_takeD (i := 23) (d := 195) (v := undef) _ rfl rfl (by kernel_rfl) (by kernel_rfl) (by kernel_rfl) (fun _ _ _ h => h) (Or.inr ⟨by kernel_rfl, rfl⟩) hS ?_
              simp only [Act.put, List.setIfInBounds_toArray, List.set_cons_zero, List.set_cons_succ]
              refine wpAnyH_takeD (i := 24) (d := 196) (v := undef) _ rfl rfl (by kernel_rfl) (by kernel_rfl) (by kernel_rfl) (fun _ _ _ h => h) (Or.inr ⟨by kernel_rfl, rfl⟩) hS ?_
              simp only [Act.put, List.setIfInBounds_toArray, List.set_cons_zero, List.set_cons_succ]
              refine wpAnyH_takeD (i := 25) (d := 197) (v := undef) _ rfl rfl (by kernel_rfl) (by kernel_rfl) (by kernel_rfl) (fun _ _ _ h => h) (Or.inr ⟨by kernel_rfl, rfl⟩) hS ?_
              simp only [Act.put, List.setIfInBounds_toArray, List.set_cons_zero, List.set_cons_succ]
              refine wpAnyH_takeD (i := 26) (d := 198) (v := undef) _ rfl rfl (by kernel_rfl) (by kernel_rfl) (by kernel_rfl) (fun _ _ _ h => h) (Or.inr ⟨by kernel_rfl, rfl⟩) hS ?_
              simp only [Act.put, List.setIfInBounds_toArray, List.set_cons_zero, List.set_cons_succ]
              refine wpAnyH_takeD (i := 27) (d := 199) (v := undef) _ rfl rfl (by kernel_rfl) (by kernel_rfl) (by kernel_rfl) (fun _ _ _ h => h) (Or.inr ⟨by kernel_rfl, rfl⟩) hS ?_
              simp only [Act.put, List.setIfInBounds_toArray, List.set_cons_zero, List.set_cons_succ]
              refine wpAnyH_takeD (i := 28) (d := 200) (v := undef) _ rfl rfl (by kernel_rfl) (by kernel_rfl) (by kernel_rfl) (fun _ _ _ h => h) (Or.inr ⟨by kernel_rfl, rfl⟩) hS ?_
              simp only [Act.put, List.setIfInBounds_toArray, List.set_cons_zero, List.set_cons_succ]
              refine wpAnyH_takeD (i := 29) (d := 201) (v := undef) _ rfl rfl (by kernel_rfl) (by kernel_rfl) (by kernel_rfl) (fun _ _ _ h => h) (Or.inr ⟨by kernel_rfl, rfl⟩) hS ?_
              simp only [Act.put, List.setIfInBounds_toArray, List.set_cons_zero, List.set_cons_succ]
              refine wpAnyH_takeD (i := 30) (d := 202) (v := undef) _ rfl rfl (by kernel_rfl) (by kernel_rfl) (by kernel_rfl) (fun _ _ _ h => h) (Or.inr ⟨by kernel_rfl, rfl⟩) hS ?_
              simp only [Act.put, List.setIfInBounds_toArray, List.set_cons_zero, List.set_cons_succ]
              refine wpAnyH_takeD (i := 31) (d := 203) (v := undef) _ rfl rfl (by kernel_rfl) (by kernel_rfl) (by kernel_rfl) (fun _ _ _ h => h) (Or.inr ⟨by kernel_rfl, rfl⟩) hS ?_
              simp only [Act.put, List.setIfInBounds_toArray, List.set_cons_zero, List.set_cons_succ]
              refine wpAnyH_takeD (i := 32) (d := 204) (v := undef) _ rfl rfl (by kernel_rfl) (by kernel_rfl) (by kernel_rfl) (fun _ _ _ h => h) (Or.inr ⟨by kernel_rfl, rfl⟩) hS ?_
              simp only [Act.put, List.setIfInBounds_toArray, List.set_cons_zero, List.set_cons_succ]
              refine wpAnyH_takeD (i := 33) (d := 205) (v := undef) _ rfl rfl (by kernel_rfl) (by kernel_rfl) (by kernel_rfl) (fun _ _ _ h => h) (Or.inr ⟨by kernel_rfl, rfl⟩) hS ?_
              simp only [Act.put, List.setIfInBounds_toArray, List.set_cons_zero, List.set_cons_succ]
              refine wpAnyH_takeD (i := 34) (d := 206) (v := .bool false) _ rfl rfl (by kernel_rfl) (by kernel_rfl) (by kernel_rfl) (fun _ _ _ h => h) (Or.inl ⟨by kernel_rfl, fun ws hSw => by first | (go_simp; done) | (go_simp; with_reducible rfl) | (go_simp; rfl)⟩) hS ?_
              simp only [Act.put, List.setIfInBounds_toArray, List.set_cons_zero, List.set_cons_succ]
              refine wpAnyH_takeD (i := 35) (d := 207) (v := .bool false) _ rfl rfl (by kernel_rfl) (by kernel_rfl) (by kernel_rfl) (fun _ _ _ h => h) (Or.inl ⟨by kernel_rfl, fun ws hSw => by first | (go_simp; done) | (go_simp; with_reducible rfl) | (go_simp; rfl)⟩) hS ?_
              simp only [Act.put, List.setIfInBounds_toArray, List.set_cons_zero, List.set_cons_succ]
              refine wpAnyH_takeD (i := 36) (d := 208) (v := .slice q m c) _ rfl rfl (by kernel_rfl) (by kernel_rfl) (by kernel_rfl) (fun _ _ _ h => h) (Or.inl ⟨by kernel_rfl, fun ws hSw => by have q := S0.out ws hSw; first | (go_simp; done) | (go_simp; with_reducible rfl) | (go_simp; rfl)⟩) hS ?_
              simp only [Act.put, List.setIfInBounds_toArray, List.set_cons_zero, List.set_cons_succ]
              refine wpAnyH_takeD (i := 37) (d := 209) (v := .agg #[.string s.1, .string s.2]) _ rfl rfl (by kernel_rfl) (by kernel_rfl) (by kernel_rfl) (fun _ _ _ h => h) (Or.inl ⟨by kernel_rfl, fun ws hSw => by have q := S0.out ws hSw; first | (go_simp; done) | (go_simp; with_reducible rfl) | (go_simp; rfl)⟩) hS ?_
              simp only [Act.put, List.setIfInBounds_toArray, List.set_cons_zero, List.set_cons_succ]
              refine wpAnyH_ready (rs := [38]) (by kernel_rfl) (by simp) ?_
              refine AllReadyH.cons rfl (fun K hK => ?_) AllReadyH.nil
              go_simp
              refine CF.out.mono ?_
              rintro r w3 ⟨rfl, b3⟩
              have N3 := Lib.hid (NX.out w3 b3)
              clear b3
              refine hK _ _ N3.out.2 (fun hS => ?_)
              try simp only [Act.put, List.setIfInBounds_toArray, List.set_cons_zero, List.set_cons_succ]
              refine wpAnyH_takeD (i := 39) (d := 211) (v := .bool false) _ rfl rfl (by kernel_rfl) (by kernel_rfl) (by kernel_rfl) (fun _ _ _ h => h) (Or.inl ⟨by kernel_rfl, fun ws hSw => by first | (go_simp; done) | (go_simp; with_reducible rfl) | (go_simp; rfl)⟩) hS ?_
              simp only [Act.put, List.setIfInBounds_toArray, List.set_cons_zero, List.set_cons_succ]
              refine wpAnyH_takeD (i := 40) (d := 212) (v := .bool false) _ rfl rfl (by kernel_rfl) (by kernel_rfl) (by kernel_rfl) (fun _ _ _ h => h) (Or.inl ⟨by kernel_rfl, fun ws hSw => by first | (go_simp; done) | (go_simp; with_reducible rfl) | (go_simp; rfl)⟩) hS ?_
              simp only [Act.put, List.setIfInBounds_toArray, List.set_cons_zero, List.set_cons_succ]
              refine wpAnyH_done (by kernel_rfl) ?_ _
              go_wp2
              go_meet
              case rel => exact ⟨rfl, N3⟩
            · obtain ⟨p, hp⟩ : ∃ p, lst[J]? = some p := by
                have := P6.out.2.2.2.2.2.1
                exact ⟨lst[J]'(by omega), List.getElem?_eq_getElem (by omega)⟩
              obtain ⟨g3, e3, _, hg3, p0, p1⟩ := P6.out.2.2.2.2.1 J p hp
              obtain rfl : g2 = g3 := by cases e3; rfl
              have ORD := listed_pre P6.out.2.2.2.1 hp hs
              have T7 : Hid (w7.drew.cell? ⟨bx, 0, none⟩ = some (.slice q m c) ∧ w7.drew.cell? ⟨O, 0, none⟩ = some (.string s.1) ∧ w7.drew.cell? ⟨O, 1, none⟩ = some (.string s.2) ∧ w7.drew.cell? ⟨g2, J * 2, none⟩ = some (.string p.1) ∧ w7.drew.cell? ⟨g2, J * 2 + 1, none⟩ = some (.string p.2)) := ⟨S7.out.1, S7.out.2.1, S7.out.2.2, (B7.out.cell (p := ⟨g2, J * 2, none⟩) hg3).trans p0, (B7.out.cell (p := ⟨g2, J * 2 + 1, none⟩) hg3).trans p1⟩
              have T0 : Hid (∀ ws : World, (ws.cell? ⟨bx, 0, none⟩ = some (.slice q m c) ∧ ws.cell? ⟨O, 0, none⟩ = some (.string s.1) ∧ ws.cell? ⟨O, 1, none⟩ = some (.string s.2) ∧ ws.cell? ⟨g2, J * 2, none⟩ = some (.string p.1) ∧ ws.cell? ⟨g2, J * 2 + 1, none⟩ = some (.string p.2)) → ws.cell? ⟨bx, 0, none⟩ = some (.slice q m c) ∧ ws.cell? ⟨O, 0, none⟩ = some (.string s.1) ∧ ws.cell? ⟨O, 1, none⟩ = some (.string s.2) ∧ ws.cell? ⟨g2, J * 2, none⟩ = some (.string p.1) ∧ ws.cell? ⟨g2, J * 2 + 1, none⟩ = some (.string p.2)) := fun ws h => h
              have PX : Hid (∀ w3, Below w7.drew.heap.size w7.drew w3 → (w3.cell? ⟨bx, 0, none⟩ = some (.slice q m c) ∧ w3.cell? ⟨O, 0, none⟩ = some (.string s.1) ∧ w3.cell? ⟨O, 1, none⟩ = some (.string s.2) ∧ w3.cell? ⟨g2, J * 2, none⟩ = some (.string p.1) ∧ w3.cell? ⟨g2, J * 2 + 1, none⟩ = some (.string p.2))) := fun w3 b => by
                obtain ⟨h1, h2, h3, h4, h5⟩ := T7.out
                exact ⟨(b.cell (World.block_lt_of_cell? _ _ h1)).trans h1, (b.cell (World.block_lt_of_cell? _ _ h2)).trans h2, (b.cell (World.block_lt_of_cell? _ _ h3)).trans h3, (b.cell (World.block_lt_of_cell? _ _ h4)).trans h4, (b.cell (World.block_lt_of_cell? _ _ h5)).trans h5⟩
              have jp : decide ((0 : Int) < ((J + 1 : Nat) : Int)) = true := decide_eq_true (by omega)
              have wJ : IntKind.i64.wrap (((J + 1 : Nat) : Int) - 1) = (J : Int) := by rw [show ((J + 1 : Nat) : Int) - 1 = (J : Int) by omega]; exact IntWalk.i64_in _ (by omega)
              have wK : IntKind.i64.wrap (J : Int) = (J : Int) := IntWalk.i64_in _ (by omega)
              have J0 : (0 : Int) ≤ (J : Int) := Int.natCast_nonneg _
              have J1 : (J : Int) < (m : Int) := by omega
              clear hp hs p0 p1 hg3 hg1 e3 S7 S0
              rcases ORD with ⟨f1, f2⟩ | ⟨f1, f2, f3⟩
              · refine wp_region_held_drew (S := fun ws => ws.cell? ⟨bx, 0, none⟩ = some (.slice q m c) ∧ ws.cell? ⟨O, 0, none⟩ = some (.string s.1) ∧ ws.cell? ⟨O, 1, none⟩ = some (.string s.2) ∧ ws.cell? ⟨g2, J * 2, none⟩ = some (.string p.1) ∧ ws.cell? ⟨g2, J * 2 + 1, none⟩ = some (.string p.2)) mixed T7.out (fun hS => ?_)
                refine wpAnyH_takeD (i := 0) (d := 172) (v := .int .i64 ((J + 1 : Nat) : Int)) _ rfl rfl (by kernel_rfl) (by kernel_rfl) (by kernel_rfl) (fun _ _ _ h => h) (Or.inl ⟨by kernel_rfl, fun ws hSw => by first | (go_simp; done) | (go_simp; with_reducible rfl) | (go_simp; rfl)⟩) hS ?_
                simp only [Act.put, List.setIfInBounds_toArray, List.set_cons_zero, List.set_cons_succ]
                refine wpAnyH_takeD (i := 1) (d := 173) (v := .bool true) _ rfl rfl (by kernel_rfl) (by kernel_rfl) (by kernel_rfl) (fun _ _ _ h => h) (Or.inl ⟨by kernel_rfl, fun ws hSw => by first | (go_simp; done) | (go_simp; with_reducible rfl) | (go_simp; rfl)⟩) hS ?_
                simp only [Act.put, List.setIfInBounds_toArray, List.set_cons_zero, List.set_cons_succ]
                refine wpAnyH_takeD (i := 2) (d := 174) (v := .bool true) _ rfl rfl (by kernel_rfl) (by kernel_rfl) (by kernel_rfl) (fun _ _ _ h => h) (Or.inl ⟨by kernel_rfl, fun ws hSw => by first | (go_simp; done) | (go_simp; with_reducible rfl) | (go_simp; rfl)⟩) hS ?_
                simp only [Act.put, List.setIfInBounds_toArray, List.set_cons_zero, List.set_cons_succ]
                refine wpAnyH_takeD (i := 3) (d := 175) (v := .slice (some ⟨g2, 0, none⟩) m c2) _ rfl rfl (by kernel_rfl) (by kernel_rfl) (by kernel_rfl) (fun _ _ _ h => h) (Or.inl ⟨by kernel_rfl, fun ws hSw => by first | (go_simp; done) | (go_simp; with_reducible rfl) | (go_simp; rfl)⟩) hS ?_
                simp only [Act.put, List.setIfInBounds_toArray, List.set_cons_zero, List.set_cons_succ]
                refine wpAnyH_takeD (i := 4) (d := 176) (v := .int .i64 ((J + 1 : Nat) : Int)) _ rfl rfl (by kernel_rfl) (by kernel_rfl) (by kernel_rfl) (fun _ _ _ h => h) (Or.inl ⟨by kernel_rfl, fun ws hSw => by first | (go_simp; done) | (go_simp; with_reducible rfl) | (go_simp; rfl)⟩) hS ?_
                simp only [Act.put, List.setIfInBounds_toArray, List.set_cons_zero, List.set_cons_succ]
                refine wpAnyH_takeD (i := 5) (d := 177) (v := .int .i64 (J : Int)) _ rfl rfl (by kernel_rfl) (by kernel_rfl) (by kernel_rfl) (fun _ _ _ h => h) (Or.inl ⟨by kernel_rfl, fun ws hSw => by first | (go_simp; done) | (go_simp; with_reducible rfl) | (go_simp; rfl)⟩) hS ?_
                simp only [Act.put, List.setIfInBounds_toArray, List.set_cons_zero, List.set_cons_succ]
                refine wpAnyH_takeD (i := 6) (d := 178) (v := .pointer (some ⟨g2, J * 2, none⟩)) _ rfl rfl (by kernel_rfl) (by kernel_rfl) (by kernel_rfl) (fun _ _ _ h => h) (Or.inl ⟨by kernel_rfl, fun ws hSw => by first | (go_simp; done) | (go_simp; with_reducible rfl) | (go_simp; rfl)⟩) hS ?_
                simp only [Act.put, List.setIfInBounds_toArray, List.set_cons_zero, List.set_cons_succ]
                refine wpAnyH_takeD (i := 7) (d := 179) (v := .pointer (some ⟨g2, J * 2, none⟩)) _ rfl rfl (by kernel_rfl) (by kernel_rfl) (by kernel_rfl) (fun _ _ _ h => h) (Or.inl ⟨by kernel_rfl, fun ws hSw => by first | (go_simp; done) | (go_simp; with_reducible rfl) | (go_simp; rfl)⟩) hS ?_
                simp only [Act.put, List.setIfInBounds_toArray, List.set_cons_zero, List.set_cons_succ]
                refine wpAnyH_takeD (i := 8) (d := 180) (v := .string p.1) _ rfl rfl (by kernel_rfl) (by kernel_rfl) (by kernel_rfl) (fun _ _ _ h => h) (Or.inl ⟨by kernel_rfl, fun ws hSw => by have q := T0.out ws hSw; first | (go_simp; done) | (go_simp; with_reducible rfl) | (go_simp; rfl)⟩) hS ?_
                simp only [Act.put, List.setIfInBounds_toArray, List.set_cons_zero, List.set_cons_succ]
                refine wpAnyH_takeD (i := 9) (d := 181) (v := .pointer (some ⟨O, 0, none⟩)) _ rfl rfl (by kernel_rfl) (by kernel_rfl) (by kernel_rfl) (fun _ _ _ h => h) (Or.inl ⟨by kernel_rfl, fun ws hSw => by first | (go_simp; done) | (go_simp; with_reducible rfl) | (go_simp; rfl)⟩) hS ?_
                simp only [Act.put, List.setIfInBounds_toArray, List.set_cons_zero, List.set_cons_succ]
                refine wpAnyH_takeD (i := 10) (d := 182) (v := .string s.1) _ rfl rfl (by kernel_rfl) (by kernel_rfl) (by kernel_rfl) (fun _ _ _ h => h) (Or.inl ⟨by kernel_rfl, fun ws hSw => by have q := T0.out ws hSw; first | (go_simp; done) | (go_simp; with_reducible rfl) | (go_simp; rfl)⟩) hS ?_
                simp only [Act.put, List.setIfInBounds_toArray, List.set_cons_zero, List.set_cons_succ]
                refine wpAnyH_takeD (i := 11) (d := 183) (v := .bool false) _ rfl rfl (by kernel_rfl) (by kernel_rfl) (by kernel_rfl) (fun _ _ _ h => h) (Or.inl ⟨by kernel_rfl, fun ws hSw => by first | (go_simp; done) | (go_simp; with_reducible rfl) | (go_simp; rfl)⟩) hS ?_
                simp only [Act.put, List.setIfInBounds_toArray, List.set_cons_zero, List.set_cons_succ]
                refine wpAnyH_takeD (i := 12) (d := 184) (v := .bool false) _ rfl rfl (by kernel_rfl) (by kernel_rfl) (by kernel_rfl) (fun _ _ _ h => h) (Or.inl ⟨by kernel_rfl, fun ws hSw => by first | (go_simp; done) | (go_simp; with_reducible rfl) | (go_simp; rfl)⟩) hS ?_
                simp only [Act.put, List.setIfInBounds_toArray, List.set_cons_zero, List.set_cons_succ]
                refine wpAnyH_takeD (i := 13) (d := 185) (v := .slice (some ⟨g2, 0, none⟩) m c2) _ rfl rfl (by kernel_rfl) (by kernel_rfl) (by kernel_rfl) (fun _ _ _ h => h) (Or.inl ⟨by kernel_rfl, fun ws hSw => by first | (go_simp; done) | (go_simp; with_reducible rfl) | (go_simp; rfl)⟩) hS ?_
                simp only [Act.put, List.setIfInBounds_toArray, List.set_cons_zero, List.set_cons_succ]
                refine wpAnyH_takeD (i := 14) (d := 186) (v := .int .i64 ((J + 1 : Nat) : Int)) _ rfl rfl (by kernel_rfl) (by kernel_rfl) (by kernel_rfl) (fun _ _ _ h => h) (Or.inl ⟨by kernel_rfl, fun ws hSw => by first | (go_simp; done) | (go_simp; with_reducible rfl) | (go_simp; rfl)⟩) hS ?_
                simp only [Act.put, List.setIfInBounds_toArray, List.set_cons_zero, List.set_cons_succ]
                refine wpAnyH_takeD (i := 15) (d := 187) (v := .int .i64 (J : Int)) _ rfl rfl (by kernel_rfl) (by kernel_rfl) (by kernel_rfl) (fun _ _ _ h => h) (Or.inl ⟨by kernel_rfl, fun ws hSw => by first | (go_simp; done) | (go_simp; with_reducible rfl) | (go_simp; rfl)⟩) hS ?_
                simp only [Act.put, List.setIfInBounds_toArray, List.set_cons_zero, List.set_cons_succ]
                refine wpAnyH_takeD (i := 16) (d := 188) (v := .pointer (some ⟨g2, J * 2, none⟩)) _ rfl rfl (by kernel_rfl) (by kernel_rfl) (by kernel_rfl) (fun _ _ _ h => h) (Or.inl ⟨by kernel_rfl, fun ws hSw => by first | (go_simp; done) | (go_simp; with_reducible rfl) | (go_simp; rfl)⟩) hS ?_
                simp only [Act.put, List.setIfInBounds_toArray, List.set_cons_zero, List.set_cons_succ]
                refine wpAnyH_takeD (i := 17) (d := 189) (v := .pointer (some ⟨g2, J * 2, none⟩)) _ rfl rfl (by kernel_rfl) (by kernel_rfl) (by kernel_rfl) (fun _ _ _ h => h) (Or.inl ⟨by kernel_rfl, fun ws hSw => by first | (go_simp; done) | (go_simp; with_reducible rfl) | (go_simp; rfl)⟩) hS ?_
                simp only [Act.put, List.setIfInBounds_toArray, List.set_cons_zero, List.set_cons_succ]
                refine wpAnyH_takeD (i := 18) (d := 190) (v := .string p.1) _ rfl rfl (by kernel_rfl) (by kernel_rfl) (by kernel_rfl) (fun _ _ _ h => h) (Or.inl ⟨by kernel_rfl, fun ws hSw => by have q := T0.out ws hSw; first | (go_simp; done) | (go_simp; with_reducible rfl) | (go_simp; rfl)⟩) hS ?_
                simp only [Act.put, List.setIfInBounds_toArray, List.set_cons_zero, List.set_cons_succ]
                refine wpAnyH_takeD (i := 19) (d := 191) (v := .pointer (some ⟨O, 0, none⟩)) _ rfl rfl (by kernel_rfl) (by kernel_rfl) (by kernel_rfl) (fun _ _ _ h => h) (Or.inl ⟨by kernel_rfl, fun ws hSw => by first | (go_simp; done) | (go_simp; with_reducible rfl) | (go_simp; rfl)⟩) hS ?_
                simp only [Act.put, List.setIfInBounds_toArray, List.set_cons_zero, List.set_cons_succ]
                refine wpAnyH_takeD (i := 20) (d := 192) (v := .string s.1) _ rfl rfl (by kernel_rfl) (by kernel_rfl) (by kernel_rfl) (fun _ _ _ h => h) (Or.inl ⟨by kernel_rfl, fun ws hSw => by have q := T0.out ws hSw; first | (go_simp; done) | (go_simp; with_reducible rfl) | (go_simp; rfl)⟩) hS ?_
                simp only [Act.put, List.setIfInBounds_toArray, List.set_cons_zero, List.set_cons_succ]
                refine wpAnyH_takeD (i := 21) (d := 193) (v := .bool false) _ rfl rfl (by kernel_rfl) (by kernel_rfl) (by kernel_rfl) (fun _ _ _ h => h) (Or.inl ⟨by kernel_rfl, fun ws hSw => by first | (go_simp; done) | (go_simp; with_reducible rfl) | (go_simp; rfl)⟩) hS ?_
                simp only [Act.put, List.setIfInBounds_toArray, List.set_cons_zero, List.set_cons_succ]
                refine wpAnyH_takeD (i := 22) (d := 194) (v := .bool false) _ rfl rfl (by kernel_rfl) (by kernel_rfl) (by kernel_rfl) (fun _ _ _ h => h) (Or.inl ⟨by kernel_rfl, fun ws hSw => by first | (go_simp; done) | (go_simp; with_reducible rfl) | (go_simp; rfl)⟩) hS ?_
                simp only [Act.put, List.setIfInBounds_toArray, List.set_cons_zero, List.set_cons_succ]
                refine wpAnyH_takeD (i := 23) (d := 195) (v := undef) _ rfl rfl (by kernel_rfl) (by kernel_rfl) (by kernel_rfl) (fun _ _ _ h => h) (Or.inr ⟨by kernel_rfl, rfl⟩) hS ?_
                simp only [Act.put, List.setIfInBounds_toArray, List.set_cons_zero, List.set_cons_succ]
                refine wpAnyH_takeD (i := 24) (d := 196) (v := undef) _ rfl rfl (by kernel_rfl) (by kernel_rfl) (by kernel_rfl) (fun _ _ _ h => h) (Or.inr ⟨by kernel_rfl, rfl⟩) hS ?_
                simp only [Act.put, List.setIfInBounds_toArray, List.set_cons_zero, List.set_cons_succ]
                refine wpAnyH_takeD (i := 25) (d := 197) (v := undef) _ rfl rfl (by kernel_rfl) (by kernel_rfl) (by kernel_rfl) (fun _ _ _ h => h) (Or.inr ⟨by kernel_rfl, rfl⟩) hS ?_
                simp only [Act.put, List.setIfInBounds_toArray, List.set_cons_zero, List.set_cons_succ]
                refine wpAnyH_takeD (i := 26) (d := 198) (v := undef) _ rfl rfl (by kernel_rfl) (by kernel_rfl) (by kernel_rfl) (fun _ _ _ h => h) (Or.inr ⟨by kernel_rfl, rfl⟩) hS ?_
                simp only [Act.put, List.setIfInBounds_toArray, List.set_cons_zero, List.set_cons_succ]
                refine wpAnyH_takeD (i := 27) (d := 199) (v := undef) _ rfl rfl (by kernel_rfl) (by kernel_rfl) (by kernel_rfl) (fun _ _ _ h => h) (Or.inr ⟨by kernel_rfl, rfl⟩) hS ?_
                simp only [Act.put, List.setIfInBounds_toArray, List.set_cons_zero, List.set_cons_succ]
                refine wpAnyH_takeD (i := 28) (d := 200) (v := undef) _ rfl rfl (by kernel_rfl) (by kernel_rfl) (by kernel_rfl) (fun _ _ _ h => h) (Or.inr ⟨by kernel_rfl, rfl⟩) hS ?_
                simp only [Act.put, List.setIfInBounds_toArray, List.set_cons_zero, List.set_cons_succ]
                refine wpAnyH_takeD (i := 29) (d := 201) (v := undef) _ rfl rfl (by kernel_rfl) (by kernel_rfl) (by kernel_rfl) (fun _ _ _ h => h) (Or.inr ⟨by kernel_rfl, rfl⟩) hS ?_
                simp only [Act.put, List.setIfInBounds_toArray, List.set_cons_zero, List.set_cons_succ]
                refine wpAnyH_takeD (i := 30) (d := 202) (v := undef) _ rfl rfl (by kernel_rfl) (by kernel_rfl) (by kernel_rfl) (fun _ _ _ h => h) (Or.inr ⟨by kernel_rfl, rfl⟩) hS ?_
                simp only [Act.put, List.setIfInBounds_toArray, List.set_cons_zero, List.set_cons_succ]
                refine wpAnyH_takeD (i := 31) (d := 203) (v := undef) _ rfl rfl (by kernel_rfl) (by kernel_rfl) (by kernel_rfl) (fun _ _ _ h => h) (Or.inr ⟨by kernel_rfl, rfl⟩) hS ?_
                simp only [Act.put, List.setIfInBounds_toArray, List.set_cons_zero, List.set_cons_succ]
                refine wpAnyH_takeD (i := 32) (d := 204) (v := .bool false) _ rfl rfl (by kernel_rfl) (by kernel_rfl) (by kernel_rfl) (fun _ _ _ h => h) (Or.inl ⟨by kernel_rfl, fun ws hSw => by first | (go_simp; done) | (go_simp; with_reducible rfl) | (go_simp; rfl)⟩) hS ?_
                simp only [Act.put, List.setIfInBounds_toArray, List.set_cons_zero, List.set_cons_succ]
                refine wpAnyH_takeD (i := 33) (d := 205) (v := .bool false) _ rfl rfl (by kernel_rfl) (by kernel_rfl) (by kernel_rfl) (fun _ _ _ h => h) (Or.inl ⟨by kernel_rfl, fun ws hSw => by first | (go_simp; done) | (go_simp; with_reducible rfl) | (go_simp; rfl)⟩) hS ?_
                simp only [Act.put, List.setIfInBounds_toArray, List.set_cons_zero, List.set_cons_succ]
                refine wpAnyH_takeD (i := 34) (d := 206) (v := .bool false) _ rfl rfl (by kernel_rfl) (by kernel_rfl) (by kernel_rfl) (fun _ _ _ h => h) (Or.inl ⟨by kernel_rfl, fun ws hSw => by first | (go_simp; done) | (go_simp; with_reducible rfl) | (go_simp; rfl)⟩) hS ?_
                simp only [Act.put, List.setIfInBounds_toArray, List.set_cons_zero, List.set_cons_succ]
                refine wpAnyH_takeD (i := 35) (d := 207) (v := .bool false) _ rfl rfl (by kernel_rfl) (by kernel_rfl) (by kernel_rfl) (fun _ _ _ h => h) (Or.inl ⟨by kernel_rfl, fun ws hSw => by first | (go_simp; done) | (go_simp; with_reducible rfl) | (go_simp; rfl)⟩) hS ?_
                simp only [Act.put, List.setIfInBounds_toArray, List.set_cons_zero, List.set_cons_succ]
                refine wpAnyH_takeD (i := 36) (d := 208) (v := .slice q m c) _ rfl rfl (by kernel_rfl) (by kernel_rfl) (by kernel_rfl) (fun _ _ _ h => h) (Or.inl ⟨by kernel_rfl, fun ws hSw => by have q := T0.out ws hSw; first | (go_simp; done) | (go_simp; with_reducible rfl) | (go_simp; rfl)⟩) hS ?_
                simp only [Act.put, List.setIfInBounds_toArray, List.set_cons_zero, List.set_cons_succ]
                refine wpAnyH_takeD (i := 37) (d := 209) (v := .agg #[.string s.1, .string s.2]) _ rfl rfl (by kernel_rfl) (by kernel_rfl) (by kernel_rfl) (fun _ _ _ h => h) (Or.inl ⟨by kernel_rfl, fun ws hSw => by have q := T0.out ws hSw; first | (go_simp; done) | (go_simp; with_reducible rfl) | (go_simp; rfl)⟩) hS ?_
                simp only [Act.put, List.setIfInBounds_toArray, List.set_cons_zero, List.set_cons_succ]
                refine wpAnyH_ready (rs := [38]) (by kernel_rfl) (by simp) ?_
                refine AllReadyH.cons rfl (fun K hK => ?_) AllReadyH.nil
                go_simp
                refine CF.out.mono ?_
                rintro r w3 ⟨rfl, b3⟩
                have N3 := Lib.hid (NX.out w3 b3)
                have M3 := Lib.hid (PX.out w3 b3)
                clear b3
                refine hK _ _ M3.out (fun hS => ?_)
                try simp only [Act.put, List.setIfInBounds_toArray, List.set_cons_zero, List.set_cons_succ]
                refine wpAnyH_takeD (i := 39) (d := 211) (v := .bool false) _ rfl rfl (by kernel_rfl) (by kernel_rfl) (by kernel_rfl) (fun _ _ _ h => h) (Or.inl ⟨by kernel_rfl, fun ws hSw => by first | (go_simp; done) | (go_simp; with_reducible rfl) | (go_simp; rfl)⟩) hS ?_
                simp only [Act.put, List.setIfInBounds_toArray, List.set_cons_zero, List.set_cons_succ]
                refine wpAnyH_takeD (i := 40) (d := 212) (v := .bool false) _ rfl rfl (by kernel_rfl) (by kernel_rfl) (by kernel_rfl) (fun _ _ _ h => h) (Or.inl ⟨by kernel_rfl, fun ws hSw => by first | (go_simp; done) | (go_simp; with_reducible rfl) | (go_simp; rfl)⟩) hS ?_
                simp only [Act.put, List.setIfInBounds_toArray, List.set_cons_zero, List.set_cons_succ]
                refine wpAnyH_done (by kernel_rfl) ?_ _
                go_wp2
                go_meet
                case rel => exact ⟨rfl, N3⟩
              · refine wp_region_held_drew (S := fun ws => ws.cell? ⟨bx, 0, none⟩ = some (.slice q m c) ∧ ws.cell? ⟨O, 0, none⟩ = some (.string s.1) ∧ ws.cell? ⟨O, 1, none⟩ = some (.string s.2) ∧ ws.cell? ⟨g2, J * 2, none⟩ = some (.string p.1) ∧ ws.cell? ⟨g2, J * 2 + 1, none⟩ = some (.string p.2)) mixed T7.out (fun hS => ?_)
                refine wpAnyH_takeD (i := 0) (d := 172) (v := .int .i64 ((J + 1 : Nat) : Int)) _ rfl rfl (by kernel_rfl) (by kernel_rfl) (by kernel_rfl) (fun _ _ _ h => h) (Or.inl ⟨by kernel_rfl, fun ws hSw => by first | (go_simp; done) | (go_simp; with_reducible rfl) | (go_simp; rfl)⟩) hS ?_
                simp only [Act.put, List.setIfInBounds_toArray, List.set_cons_zero, List.set_cons_succ]
                refine wpAnyH_takeD (i := 1) (d := 173) (v := .bool true) _ rfl rfl (by kernel_rfl) (by kernel_rfl) (by kernel_rfl) (fun _ _ _ h => h) (Or.inl ⟨by kernel_rfl, fun ws hSw => by first | (go_simp; done) | (go_simp; with_reducible rfl) | (go_simp; rfl)⟩) hS ?_
                simp only [Act.put, List.setIfInBounds_toArray, List.set_cons_zero, List.set_cons_succ]
                refine wpAnyH_takeD (i := 2) (d := 174) (v := .bool true) _ rfl rfl (by kernel_rfl) (by kernel_rfl) (by kernel_rfl) (fun _ _ _ h => h) (Or.inl ⟨by kernel_rfl, fun ws hSw => by first | (go_simp; done) | (go_simp; with_reducible rfl) | (go_simp; rfl)⟩) hS ?_
                simp only [Act.put, List.setIfInBounds_toArray, List.set_cons_zero, List.set_cons_succ]
                refine wpAnyH_takeD (i := 3) (d := 175) (v := .slice (some ⟨g2, 0, none⟩) m c2) _ rfl rfl (by kernel_rfl) (by kernel_rfl) (by kernel_rfl) (fun _ _ _ h => h) (Or.inl ⟨by kernel_rfl, fun ws hSw => by first | (go_simp; done) | (go_simp; with_reducible rfl) | (go_simp; rfl)⟩) hS ?_
                simp only [Act.put, List.setIfInBounds_toArray, List.set_cons_zero, List.set_cons_succ]
                refine wpAnyH_takeD (i := 4) (d := 176) (v := .int .i64 ((J + 1 : Nat) : Int)) _ rfl rfl (by kernel_rfl) (by kernel_rfl) (by kernel_rfl) (fun _ _ _ h => h) (Or.inl ⟨by kernel_rfl, fun ws hSw => by first | (go_simp; done) | (go_simp; with_reducible rfl) | (go_simp; rfl)⟩) hS ?_
                simp only [Act.put, List.setIfInBounds_toArray, List.set_cons_zero, List.set_cons_succ]
                refine wpAnyH_takeD (i := 5) (d := 177) (v := .int .i64 (J : Int)) _ rfl rfl (by kernel_rfl) (by kernel_rfl) (by kernel_rfl) (fun _ _ _ h => h) (Or.inl ⟨by kernel_rfl, fun ws hSw => by first | (go_simp; done) | (go_simp; with_reducible rfl) | (go_simp; rfl)⟩) hS ?_
                simp only [Act.put, List.setIfInBounds_toArray, List.set_cons_zero, List.set_cons_succ]
                refine wpAnyH_takeD (i := 6) (d := 178) (v := .pointer (some ⟨g2, J * 2, none⟩)) _ rfl rfl (by kernel_rfl) (by kernel_rfl) (by kernel_rfl) (fun _ _ _ h => h) (Or.inl ⟨by kernel_rfl, fun ws hSw => by first | (go_simp; done) | (go_simp; with_reducible rfl) | (go_simp; rfl)⟩) hS ?_
                simp only [Act.put, List.setIfInBounds_toArray, List.set_cons_zero, List.set_cons_succ]
                refine wpAnyH_takeD (i := 7) (d := 179) (v := .pointer (some ⟨g2, J * 2, none⟩)) _ rfl rfl (by kernel_rfl) (by kernel_rfl) (by kernel_rfl) (fun _ _ _ h => h) (Or.inl ⟨by kernel_rfl, fun ws hSw => by first | (go_simp; done) | (go_simp; with_reducible rfl) | (go_simp; rfl)⟩) hS ?_
                simp only [Act.put, List.setIfInBounds_toArray, List.set_cons_zero, List.set_cons_succ]
                refine wpAnyH_takeD (i := 8) (d := 180) (v := .string p.1) _ rfl rfl (by kernel_rfl) (by kernel_rfl) (by kernel_rfl) (fun _ _ _ h => h) (Or.inl ⟨by kernel_rfl, fun ws hSw => by have q := T0.out ws hSw; first | (go_simp; done) | (go_simp; with_reducible rfl) | (go_simp; rfl)⟩) hS ?_
                simp only [Act.put, List.setIfInBounds_toArray, List.set_cons_zero, List.set_cons_succ]
                refine wpAnyH_takeD (i := 9) (d := 181) (v := .pointer (some ⟨O, 0, none⟩)) _ rfl rfl (by kernel_rfl) (by kernel_rfl) (by kernel_rfl) (fun _ _ _ h => h) (Or.inl ⟨by kernel_rfl, fun ws hSw => by first | (go_simp; done) | (go_simp; with_reducible rfl) | (go_simp; rfl)⟩) hS ?_
                simp only [Act.put, List.setIfInBounds_toArray, List.set_cons_zero, List.set_cons_succ]
                refine wpAnyH_takeD (i := 10) (d := 182) (v := .string s.1) _ rfl rfl (by kernel_rfl) (by kernel_rfl) (by kernel_rfl) (fun _ _ _ h => h) (Or.inl ⟨by kernel_rfl, fun ws hSw => by have q := T0.out ws hSw; first | (go_simp; done) | (go_simp; with_reducible rfl) | (go_simp; rfl)⟩) hS ?_
                simp only [Act.put, List.setIfInBounds_toArray, List.set_cons_zero, List.set_cons_succ]
                refine wpAnyH_takeD (i := 11) (d := 183) (v := .bool false) _ rfl rfl (by kernel_rfl) (by kernel_rfl) (by kernel_rfl) (fun _ _ _ h => h) (Or.inl ⟨by kernel_rfl, fun ws hSw => by first | (go_simp; done) | (go_simp; with_reducible rfl) | (go_simp; rfl)⟩) hS ?_
                simp only [Act.put, List.setIfInBounds_toArray, List.set_cons_zero, List.set_cons_succ]
                refine wpAnyH_takeD (i := 12) (d := 184) (v := .bool false) _ rfl rfl (by kernel_rfl) (by kernel_rfl) (by kernel_rfl) (fun _ _ _ h => h) (Or.inl ⟨by kernel_rfl, fun ws hSw => by first | (go_simp; done) | (go_simp; with_reducible rfl) | (go_simp; rfl)⟩) hS ?_
                simp only [Act.put, List.setIfInBounds_toArray, List.set_cons_zero, List.set_cons_succ]
                refine wpAnyH_takeD (i := 13) (d := 185) (v := .slice (some ⟨g2, 0, none⟩) m c2) _ rfl rfl (by kernel_rfl) (by kernel_rfl) (by kernel_rfl) (fun _ _ _ h => h) (Or.inl ⟨by kernel_rfl, fun ws hSw => by first | (go_simp; done) | (go_simp; with_reducible rfl) | (go_simp; rfl)⟩) hS ?_
                simp only [Act.put, List.setIfInBounds_toArray, List.set_cons_zero, List.set_cons_succ]
                refine wpAnyH_takeD (i := 14) (d := 186) (v := .int .i64 ((J + 1 : Nat) : Int)) _ rfl rfl (by kernel_rfl) (by kernel_rfl) (by kernel_rfl) (fun _ _ _ h => h) (Or.inl ⟨by kernel_rfl, fun ws hSw => by first | (go_simp; done) | (go_simp; with_reducible rfl) | (go_simp; rfl)⟩) hS ?_
                simp only [Act.put, List.setIfInBounds_toArray, List.set_cons_zero, List.set_cons_succ]
                refine wpAnyH_takeD (i := 15) (d := 187) (v := .int .i64 (J : Int)) _ rfl rfl (by kernel_rfl) (by kernel_rfl) (by kernel_rfl) (fun _ _ _ h => h) (Or.inl ⟨by kernel_rfl, fun ws hSw => by first | (go_simp; done) | (go_simp; with_reducible rfl) | (go_simp; rfl)⟩) hS ?_
                simp only [Act.put, List.setIfInBounds_toArray, List.set_cons_zero, List.set_cons_succ]
                refine wpAnyH_takeD (i := 16) (d := 188) (v := .pointer (some ⟨g2, J * 2, none⟩)) _ rfl rfl (by kernel_rfl) (by kernel_rfl) (by kernel_rfl) (fun _ _ _ h => h) (Or.inl ⟨by kernel_rfl, fun ws hSw => by first | (go_simp; done) | (go_simp; with_reducible rfl) | (go_simp; rfl)⟩) hS ?_
                simp only [Act.put, List.setIfInBounds_toArray, List.set_cons_zero, List.set_cons_succ]
                refine wpAnyH_takeD (i := 17) (d := 189) (v := .pointer (some ⟨g2, J * 2, none⟩)) _ rfl rfl (by kernel_rfl) (by kernel_rfl) (by kernel_rfl) (fun _ _ _ h => h) (Or.inl ⟨by kernel_rfl, fun ws hSw => by first | (go_simp; done) | (go_simp; with_reducible rfl) | (go_simp; rfl)⟩) hS ?_
                simp only [Act.put, List.setIfInBounds_toArray, List.set_cons_zero, List.set_cons_succ]
                refine wpAnyH_takeD (i := 18) (d := 190) (v := .string p.1) _ rfl rfl (by kernel_rfl) (by kernel_rfl) (by kernel_rfl) (fun _ _ _ h => h) (Or.inl ⟨by kernel_rfl, fun ws hSw => by have q := T0.out ws hSw; first | (go_simp; done) | (go_simp; with_reducible rfl) | (go_simp; rfl)⟩) hS ?_
                simp only [Act.put, List.setIfInBounds_toArray, List.set_cons_zero, List.set_cons_succ]
                refine wpAnyH_takeD (i := 19) (d := 191) (v := .pointer (some ⟨O, 0, none⟩)) _ rfl rfl (by kernel_rfl) (by kernel_rfl) (by kernel_rfl) (fun _ _ _ h => h) (Or.inl ⟨by kernel_rfl, fun ws hSw => by first | (go_simp; done) | (go_simp; with_reducible rfl) | (go_simp; rfl)⟩) hS ?_
                simp only [Act.put, List.setIfInBounds_toArray, List.set_cons_zero, List.set_cons_succ]
                refine wpAnyH_takeD (i := 20) (d := 192) (v := .string s.1) _ rfl rfl (by kernel_rfl) (by kernel_rfl) (by kernel_rfl) (fun _ _ _ h => h) (Or.inl ⟨by kernel_rfl, fun ws hSw => by have q := T0.out ws hSw; first | (go_simp; done) | (go_simp; with_reducible rfl) | (go_simp; rfl)⟩) hS ?_
                simp only [Act.put, List.setIfInBounds_toArray, List.set_cons_zero, List.set_cons_succ]
                refine wpAnyH_takeD (i := 21) (d := 193) (v := .bool true) _ rfl rfl (by kernel_rfl) (by kernel_rfl) (by kernel_rfl) (fun _ _ _ h => h) (Or.inl ⟨by kernel_rfl, fun ws hSw => by first | (go_simp; done) | (go_simp; with_reducible rfl) | (go_simp; rfl)⟩) hS ?_
                simp only [Act.put, List.setIfInBounds_toArray, List.set_cons_zero, List.set_cons_succ]
                refine wpAnyH_takeD (i := 22) (d := 194) (v := .bool true) _ rfl rfl (by kernel_rfl) (by kernel_rfl) (by kernel_rfl) (fun _ _ _ h => h) (Or.inl ⟨by kernel_rfl, fun ws hSw => by first | (go_simp; done) | (go_simp; with_reducible rfl) | (go_simp; rfl)⟩) hS ?_
                simp only [Act.put, List.setIfInBounds_toArray, List.set_cons_zero, List.set_cons_succ]
                refine wpAnyH_takeD (i := 23) (d := 195) (v := .slice (some ⟨g2, 0, none⟩) m c2) _ rfl rfl (by kernel_rfl) (by kernel_rfl) (by kernel_rfl) (fun _ _ _ h => h) (Or.inl ⟨by kernel_rfl, fun ws hSw => by first | (go_simp; done) | (go_simp; with_reducible rfl) | (go_simp; rfl)⟩) hS ?_
                simp only [Act.put, List.setIfInBounds_toArray, List.set_cons_zero, List.set_cons_succ]
                refine wpAnyH_takeD (i := 24) (d := 196) (v := .int .i64 ((J + 1 : Nat) : Int)) _ rfl rfl (by kernel_rfl) (by kernel_rfl) (by kernel_rfl) (fun _ _ _ h => h) (Or.inl ⟨by kernel_rfl, fun ws hSw => by first | (go_simp; done) | (go_simp; with_reducible rfl) | (go_simp; rfl)⟩) hS ?_
                simp only [Act.put, List.setIfInBounds_toArray, List.set_cons_zero, List.set_cons_succ]
                refine wpAnyH_takeD (i := 25) (d := 197) (v := .int .i64 (J : Int)) _ rfl rfl (by kernel_rfl) (by kernel_rfl) (by kernel_rfl) (fun _ _ _ h => h) (Or.inl ⟨by kernel_rfl, fun ws hSw => by first | (go_simp; done) | (go_simp; with_reducible rfl) | (go_simp; rfl)⟩) hS ?_
                simp only [Act.put, List.setIfInBounds_toArray, List.set_cons_zero, List.set_cons_succ]
                refine wpAnyH_takeD (i := 26) (d := 198) (v := .pointer (some ⟨g2, J * 2, none⟩)) _ rfl rfl (by kernel_rfl) (by kernel_rfl) (by kernel_rfl) (fun _ _ _ h => h) (Or.inl ⟨by kernel_rfl, fun ws hSw => by first | (go_simp; done) | (go_simp; with_reducible rfl) | (go_simp; rfl)⟩) hS ?_
                simp only [Act.put, List.setIfInBounds_toArray, List.set_cons_zero, List.set_cons_succ]
                refine wpAnyH_takeD (i := 27) (d := 199) (v := .pointer (some ⟨g2, J * 2 + 1, none⟩)) _ rfl rfl (by kernel_rfl) (by kernel_rfl) (by kernel_rfl) (fun _ _ _ h => h) (Or.inl ⟨by kernel_rfl, fun ws hSw => by first | (go_simp; done) | (go_simp; with_reducible rfl) | (go_simp; rfl)⟩) hS ?_
                simp only [Act.put, List.setIfInBounds_toArray, List.set_cons_zero, List.set_cons_succ]
                refine wpAnyH_takeD (i := 28) (d := 200) (v := .string p.2) _ rfl rfl (by kernel_rfl) (by kernel_rfl) (by kernel_rfl) (fun _ _ _ h => h) (Or.inl ⟨by kernel_rfl, fun ws hSw => by have q := T0.out ws hSw; first | (go_simp; done) | (go_simp; with_reducible rfl) | (go_simp; rfl)⟩) hS ?_
                simp only [Act.put, List.setIfInBounds_toArray, List.set_cons_zero, List.set_cons_succ]
                refine wpAnyH_takeD (i := 29) (d := 201) (v := .pointer (some ⟨O, 1, none⟩)) _ rfl rfl (by kernel_rfl) (by kernel_rfl) (by kernel_rfl) (fun _ _ _ h => h) (Or.inl ⟨by kernel_rfl, fun ws hSw => by first | (go_simp; done) | (go_simp; with_reducible rfl) | (go_simp; rfl)⟩) hS ?_
                simp only [Act.put, List.setIfInBounds_toArray, List.set_cons_zero, List.set_cons_succ]
                refine wpAnyH_takeD (i := 30) (d := 202) (v := .string s.2) _ rfl rfl (by kernel_rfl) (by kernel_rfl) (by kernel_rfl) (fun _ _ _ h => h) (Or.inl ⟨by kernel_rfl, fun ws hSw => by have q := T0.out ws hSw; first | (go_simp; done) | (go_simp; with_reducible rfl) | (go_simp; rfl)⟩) hS ?_
                simp only [Act.put, List.setIfInBounds_toArray, List.set_cons_zero, List.set_cons_succ]
                refine wpAnyH_takeD (i := 31) (d := 203) (v := .bool false) _ rfl rfl (by kernel_rfl) (by kernel_rfl) (by kernel_rfl) (fun _ _ _ h => h) (Or.inl ⟨by kernel_rfl, fun ws hSw => by first | (go_simp; done) | (go_simp; with_reducible rfl) | (go_simp; rfl)⟩) hS ?_
                simp only [Act.put, List.setIfInBounds_toArray, List.set_cons_zero, List.set_cons_succ]
                refine wpAnyH_takeD (i := 32) (d := 204) (v := .bool false) _ rfl rfl (by kernel_rfl) (by kernel_rfl) (by kernel_rfl) (fun _ _ _ h => h) (Or.inl ⟨by kernel_rfl, fun ws hSw => by first | (go_simp; done) | (go_simp; with_reducible rfl) | (go_simp; rfl)⟩) hS ?_
                simp only [Act.put, List.setIfInBounds_toArray, List.set_cons_zero, List.set_cons_succ]
                refine wpAnyH_takeD (i := 33) (d := 205) (v := .bool false) _ rfl rfl (by kernel_rfl) (by kernel_rfl) (by kernel_rfl) (fun _ _ _ h => h) (Or.inl ⟨by kernel_rfl, fun ws hSw => by first | (go_simp; done) | (go_simp; with_reducible rfl) | (go_simp; rfl)⟩) hS ?_
                simp only [Act.put, List.setIfInBounds_toArray, List.set_cons_zero, List.set_cons_succ]
                refine wpAnyH_takeD (i := 34) (d := 206) (v := .bool false) _ rfl rfl (by kernel_rfl) (by kernel_rfl) (by kernel_rfl) (fun _ _ _ h => h) (Or.inl ⟨by kernel_rfl, fun ws hSw => by first | (go_simp; done) | (go_simp; with_reducible rfl) | (go_simp; rfl)⟩) hS ?_
                simp only [Act.put, List.setIfInBounds_toArray, List.set_cons_zero, List.set_cons_succ]
                refine wpAnyH_takeD (i := 35) (d := 207) (v := .bool false) _ rfl rfl (by kernel_rfl) (by kernel_rfl) (by kernel_rfl) (fun _ _ _ h => h) (Or.inl ⟨by kernel_rfl, fun ws hSw => by first | (go_simp; done) | (go_simp; with_reducible rfl) | (go_simp; rfl)⟩) hS ?_
                simp only [Act.put, List.setIfInBounds_toArray, List.set_cons_zero, List.set_cons_succ]
                refine wpAnyH_takeD (i := 36) (d := 208) (v := .slice q m c) _ rfl rfl (by kernel_rfl) (by kernel_rfl) (by kernel_rfl) (fun _ _ _ h => h) (Or.inl ⟨by kernel_rfl, fun ws hSw => by have q := T0.out ws hSw; first | (go_simp; done) | (go_simp; with_reducible rfl) | (go_simp; rfl)⟩) hS ?_
                simp only [Act.put, List.setIfInBounds_toArray, List.set_cons_zero, List.set_cons_succ]
                refine wpAnyH_takeD (i := 37) (d := 209) (v := .agg #[.string s.1, .string s.2]) _ rfl rfl (by kernel_rfl) (by kernel_rfl) (by kernel_rfl) (fun _ _ _ h => h) (Or.inl ⟨by kernel_rfl, fun ws hSw => by have q := T0.out ws hSw; first | (go_simp; done) | (go_simp; with_reducible rfl) | (go_simp; rfl)⟩) hS ?_
                simp only [Act.put, List.setIfInBounds_toArray, List.set_cons_zero, List.set_cons_succ]
                refine wpAnyH_ready (rs := [38]) (by kernel_rfl) (by simp) ?_
                refine AllReadyH.cons rfl (fun K hK => ?_) AllReadyH.nil
                go_simp
                refine CF.out.mono ?_
                rintro r w3 ⟨rfl, b3⟩
                have N3 := Lib.hid (NX.out w3 b3)
                have M3 := Lib.hid (PX.out w3 b3)
                clear b3
                refine hK _ _ M3.out (fun hS => ?_)
                try simp only [Act.put, List.setIfInBounds_toArray, List.set_cons_zero, List.set_cons_succ]
                refine wpAnyH_takeD (i := 39) (d := 211) (v := .bool false) _ rfl rfl (by kernel_rfl) (by kernel_rfl) (by kernel_rfl) (fun _ _ _ h => h) (Or.inl ⟨by kernel_rfl, fun ws hSw => by first | (go_simp; done) | (go_simp; with_reducible rfl) | (go_simp; rfl)⟩) hS ?_
                simp only [Act.put, List.setIfInBounds_toArray, List.set_cons_zero, List.set_cons_succ]
                refine wpAnyH_takeD (i := 40) (d := 212) (v := .bool false) _ rfl rfl (by kernel_rfl) (by kernel_rfl) (by kernel_rfl) (fun _ _ _ h => h) (Or.inl ⟨by kernel_rfl, fun ws hSw => by first | (go_simp; done) | (go_simp; with_reducible rfl) | (go_simp; rfl)⟩) hS ?_
                simp only [Act.put, List.setIfInBounds_toArray, List.set_cons_zero, List.set_cons_succ]
                refine wpAnyH_done (by kernel_rfl) ?_ _
                go_wp2
                go_meet
                case rel => exact ⟨rfl, N3⟩
          case rest =>
            obtain ⟨rfl, HZ⟩ := hcut
            have L0 : Hid (Below wc.heap.size wc wc) := Below.refl _ _
            clear CF S7 S0 HX B7 k0 hz7 HR
            go_wp2_with fail
            go_loopg [215] K (fun g vi wr => ∃ t : Nat, vi = .int .i64 (t : Int) ∧ t ≤ K ∧ K - t ≤ g ∧ Hid (Below wc.heap.size wc wr))
            case atStart => exact ⟨0, rfl, by omega, by omega, L0⟩
            case round =>
              obtain ⟨t, rfl, ht, hgt, HT⟩ := hrel
              by_cases hlk : t < K
              · obtain ⟨x, hx⟩ : ∃ x, kl[t]? = some x := by
                  have := HH.out.2.2.2.2.2.2.2
                  exact ⟨kl[t]'(by omega), List.getElem?_eq_getElem (by omega)⟩
                obtain ⟨xm, gk, ok, rfl, hgk, y0⟩ := HH.out.2.2.2.2.2.1 t x hx
                have hgN : gk < N := by have := HW.out.2; have := HH.out.2.2.2.1; omega
                obtain ⟨z1, z2, z3, z4⟩ := HZ.out
                have bt : Below wc.heap.size wc wr := HT.out
                have B6 : Hid (Below w6.heap.size w6 wr) := z1.trans (bt.mono z1.size)
                have sit := P6.out.1.gr B6.out
                have y0 : wr.cell? ⟨gk, ok + t, none⟩ = some (.int .i64 x) := (sit.low.cell (p := ⟨gk, ok + t, none⟩) hgN).trans y0
                have u0 : wr.cell? ⟨bx, 0, none⟩ = some (.slice q m c) := (bt.cell (World.block_lt_of_cell? _ _ z2)).trans z2
                have u1 : wr.cell? ⟨O, 0, none⟩ = some (.string s.1) := (bt.cell (World.block_lt_of_cell? _ _ z3)).trans z3
                have u2 : wr.cell? ⟨O, 1, none⟩ = some (.string s.2) := (bt.cell (World.block_lt_of_cell? _ _ z4)).trans z4
                have u3 : wr.cell? ⟨N, 1, none⟩ = some (.int .i64 (a : Int)) := cell_of_block sit.rul 1
                have CS : Hid (Calls Try.prog 14 #[.pointer (some ⟨bb, 0, none⟩), .slice q m c, .int .i64 (a : Int), .int .i64 x, .agg #[.string s.1, .string s.2]] wr fun r w' => r = .returned (.bool true) ∧ Below wr.heap.size wr w') := by
                  have := sis_any N wr bb mb n a E sit.bk q c M sit.md.row sit.md.mo P6.out.2.1 x xm s OKS.out sit.hN
                  rw [← P6.out.2.2.1] at this
                  exact this
                have HBT := Lib.hid bt
                have t0 : (0 : Int) ≤ (t : Int) := Int.natCast_nonneg _
                have t1 : (t : Int) < (K : Int) := by omega
                clear hx xm hgk hgN z1 z2 z3 z4 bt sit B6 HT
                by_cases h0 : 0 ≤ x
                · have h1 : decide ((0 : Int) ≤ x) = true := decide_eq_true h0
                  go_wp2_with fail
                  refine CS.out.mono ?_
                  rintro r w8 ⟨rfl, b8⟩
                  have NX : Hid (Below wc.heap.size wc w8) := HBT.out.trans (b8.mono HBT.out.size)
                  clear b8 CS u0 u1 u2 u3 y0
                  go_wp2_with fail
                  go_roundg (K - (t + 1))
                  case measure => omega
                  case rel => exact ⟨t + 1, by push_cast; rfl, by omega, by omega, NX⟩
                · have h1 : decide ((0 : Int) ≤ x) = false := decide_eq_false h0
                  clear CS
                  go_wp2_with fail
                  go_roundg (K - (t + 1))
                  case measure => omega
                  case rel => exact ⟨t + 1, by push_cast; rfl, by omega, by omega, HBT⟩
              · have NX : Hid (Below w6.heap.size w6 wr) := HZ.out.1.trans (HT.out.mono HZ.out.1.size)
                have e : t = K := by omega
                subst e
                clear HT HZ hlk
                go_wp2_with fail
                go_roundg (m - (j + 1))
                case measure => omega
                case rel => exact ⟨j + 1, by push_cast; rfl, by omega, by omega, NX⟩
        · have sit := P6.out.1.gr HR.out
          have e : j = m := by omega
          subst e
          have u0 : wr.cell? ⟨bx, 0, none⟩ = some (.slice q j c) := (HR.out.cell (World.block_lt_of_cell? _ _ bc)).trans bc
          have u3 : wr.cell? ⟨N, 1, none⟩ = some (.int .i64 (a : Int)) := cell_of_block sit.rul 1
          have CS : Hid (Calls Try.prog 14 #[.pointer (some ⟨bb, 0, none⟩), .slice q j c, .int .i64 (a : Int), .int .i64 5, .agg #[.string { data := #[63] }, .string { data := #[63] }]] wr fun r w' => r = .returned (.bool true) ∧ Below wr.heap.size wr w') := by
            have := sis_any N wr bb mb n a E sit.bk q c M sit.md.row sit.md.mo P6.out.2.1 5 (by omega) (⟨#[63]⟩, ⟨#[63]⟩) ⟨by decide, by decide⟩ sit.hN
            rw [← P6.out.2.2.1] at this
            exact this
          have LO : Hid (Below N W wr ∧ N ≤ wr.heap.size) := ⟨sit.low, sit.hN⟩
          clear sit HR hlt
          go_wp2_with fail
          refine CS.out.mono ?_
          rintro r w8 ⟨rfl, b8⟩
          have FIN : Hid (Below N W w8) := LO.out.1.trans (b8.mono LO.out.2)
          clear b8 CS u0 u3 LO
          go_wp2
          go_ret
          exact ⟨rfl, by rw [HW.out.2]; exact FIN.out⟩

theorem walk {H : Type} {enc : TypeId × Value → H} {base : Nat} (W : World) (v0 : Value) (d0 : DataW H) (p0 : List MemPlace) (o0 : Value.okWide Try.prog W .any base 23 v0) (h0 : DataW.Trod enc Try.prog W 0 (fun _ => true) true 23 v0 d0 p0)
    (v1 : Value) (d1 : DataW H) (p1 : List MemPlace) (o1 : Value.okWide Try.prog W .any base 24 v1) (h1 : DataW.Trod enc Try.prog W 0 (fun _ => true) true 24 v1 d1 p1)
    (v2 : Value) (d2 : DataW H) (p2 : List MemPlace) (o2 : Value.okWide Try.prog W .any base 25 v2) (h2 : DataW.Trod enc Try.prog W 0 (fun _ => true) true 25 v2 d2 p2) :
    Calls Try.prog 3 #[v0, v1, v2] W fun e W' => e = .returned (.bool true) ∧ Below W.heap.size W W' := by
  obtain ⟨n, a, rfl⟩ := open_rules o0 h0
  obtain ⟨ql, cl, l, rfl, hl⟩ := open_acs o1 h1
  obtain ⟨qk, ck, kl, rfl, hkl⟩ := open_tks o2 h2
  by_cases hL : l.length ≤ 80
  · by_cases hK : kl.length ≤ 20
    · by_cases hr : n < 1 ∨ 32 < n ∨ a < 1 ∨ 1800 < a
      · exact odd W n a ql cl l.length qk ck kl.length hL hK hr
      · obtain ⟨n', rfl⟩ : ∃ k : Nat, n = (k : Int) := ⟨n.toNat, by omega⟩
        obtain ⟨a', rfl⟩ : ∃ k : Nat, a = (k : Int) := ⟨a.toNat, by omega⟩
        exact plays W n' a' (by omega) (by omega) ql cl l hl qk ck kl hkl hL hK
    · exact long W n a ql cl l.length qk ck kl.length (.inr (by omega))
  · exact long W n a ql cl l.length qk ck kl.length (.inl (by omega))

/-! ### THE ROW's STEP -/
set_option maxRecDepth 100000 in
theorem lifted (os : Os) (started : os.Started) (H : Type) (enc : TypeId × Value → H) :
    ReturnsInHanded {} Try.checked os 3 .any (Rows.scrapePlaysSpec.pre6 enc Try.prog Try.f3 Rows.scrapePlaysRow.domain false) (Rows.scrapePlaysSpec.post enc Try.prog Try.f3 false true false false) := by
  refine returnsInHanded_of_change (C := Try.checked) own started (by kernel_rfl) Try.func3
    (ChangeSpec.witness6 (enc := enc) (C := Try.checked) false ⟨#[], #[.agg #[.int .i64 0, .int .i64 0], .slice none 0 0, .slice none 0 0], []⟩ 8 (by kernel_rfl) (by kernel_rfl) (by kernel_rfl) (by kernel_rfl)) ?_
  intro W base args ds gs before hval0 hW hcnd _
  have hval : ∀ (j : Nat) t v, Try.f3.params[j]? = some t → args[j]? = some v → Value.okWide Try.prog W .any base t v := hval0
  have hW' := hW
  obtain ⟨p, q, hA0, hV, rfl, hfz, hnd⟩ := hW
  have hA : DataW.TrodAll enc Try.prog W 0 (fun _ => true) true Try.f3.params.toList args.toList ds p := hA0
  have hlt : ∀ x ∈ p, x.block < W.heap.size := fun x hx => hW'.lt x (List.mem_append_left _ hx)
  rw [Try.params3] at hA hval
  have hread : ∀ t ∈ [23, 24, 25], Try.prog.readableRec t = true ∧ t < Try.prog.types.size := by
    intro t ht
    simp only [List.mem_cons, List.not_mem_nil, or_false] at ht
    rcases ht with rfl | rfl | rfl <;> exact ⟨by kernel_rfl, of_decide_eq_true (by kernel_rfl)⟩
  have again : ∀ (W' : World), Below W.heap.size W W' → ∀ sp : Nat → Bool, (∀ x ∈ p, sp x.block = true) → DataW.TrodAll enc Try.prog W' 0 sp true [23, 24, 25] args.toList ds p :=
    fun W' hb sp hsp => all_again (by kernel_rfl) hb [23, 24, 25] args.toList ds p hread hA hlt hsp
  obtain ⟨v0, v1, v2, d0, d1, d2, p0, p1, p2, rfl, rfl, rfl, h0, h1, h2⟩ := trodAll_three hA
  obtain ⟨rfl, rfl⟩ := trodVars_none hV
  clear hA0 hval0
  simp only [List.append_nil] at hW'
  refine (walk W v0 d0 p0 (hval 0 23 v0 rfl rfl) h0 v1 d1 p1 (hval 1 24 v1 rfl rfl) h1 v2 d2 p2 (hval 2 25 v2 rfl rfl) h2).mono fun e W' ⟨he, hg⟩ => ?_
  subst he
  exact ⟨_, rfl, post_below hW' hg (fun _ _ _ => trodAll_mk1 (shut_bool Try.underlying4 _)) (fun sp hsp => again W' hg sp hsp) (fun _ => rfl) (ok_one (by kernel_rfl) rfl (okWide_bool_mk Try.underlying4 _))⟩

theorem over : Rows.scrapePlaysRow.holds Try.pinned (OpenSpec.ofChange Rows.scrapePlaysSpec) :=
  OpenClaim.holds_of_wide 3 Try.f3 rfl rfl rfl rfl rfl rfl rfl ⟨rfl, rfl, rfl, rfl, rfl⟩ rfl rfl rfl rfl rfl (by kernel_rfl) Try.func3 (by kernel_rfl)
    (of_decide_eq_true (by kernel_rfl)) (by unfold Func.isWrapper; first | (rw [if_pos (by decide +kernel)]; kernel_rfl) | (rw [if_neg (by decide +kernel)]; exact ⟨rfl, rfl⟩))
    (fun os started H enc _ => lifted os started H enc)

/-- The statement. -/
theorem proved : Rows.ScrapePlaysSaid :=
  over
#print axioms proved
end Go.Proofs.Ytlklbhjcohgmhaa.scrapePlays
