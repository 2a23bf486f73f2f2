/- Proved here: the law RingPlays of layer 10 holds for every input: whatever is put and cut, each answer, and all samples from any tick on, are what the document says; a copy goes on by itself. No conditions. -/
import Derived.Test.YthpmdaioekpipaaRgT
import Derived.Deep.AppendLies
import Derived.IntWalk
namespace Go.Proofs.Ythpmdaioekpipaa.ringPlays
open Go.ChangeShapes Go.WideShapes Go.ChangeAt Go.RowKit Go.Lib Go.Shelf Go.Sort Go.Deep
open Go.Joins (cell_of_block unfrozen_of_block block_setCell)
set_option linter.unusedVariables false
set_option linter.unusedSimpArgs false
set_option maxRecDepth 100000

abbrev F3 := 3
set_option maxHeartbeats 16000000 in
theorem few (W : World) (most at_ : Int) (q : Option Addr) (M c : Nat) (h : 100 < M) :
    Calls Try.prog 3 #[.int .i64 most, .slice q M c, .int .i64 at_] W fun e w' => e = .returned (.bool true) ∧ Below W.heap.size W w' := by
  have V := Lib.hid ring_lives
  have hb : decide (100 < (M : Int)) = true := decide_eq_true (by omega)
  have hb2 : (100 : Int) < (M : Int) := by omega
  go_enter Try.func3, Try.ntmps3
  go_wp2_with fail
  refine (V.out _).mono ?_
  rintro e w1 ⟨rfl, b1⟩
  have B1 := Lib.hid b1
  clear b1
  go_wp2_with fail
  refine (V.out _).mono ?_
  rintro e w2 ⟨rfl, b2⟩
  have B2 : Hid (Below W.heap.size W w2) := B1.out.trans (b2.mono B1.out.size)
  clear b2
  go_wp2
  go_ret
  exact ⟨rfl, B2.out⟩
set_option maxHeartbeats 16000000 in
theorem odd (W : World) (most at_ : Int) (q : Option Addr) (M c : Nat) (h : ¬ 100 < M) (hm : most < 1 ∨ 32 < most) :
    Calls Try.prog 3 #[.int .i64 most, .slice q M c, .int .i64 at_] W fun e w' => e = .returned (.bool true) ∧ Below W.heap.size W w' := by
  have V := Lib.hid ring_lives
  have CN := Lib.hid (fun w => new_badI w most hm)
  have hb2 : ¬ (100 : Int) < (M : Int) := by omega
  have hcase : (most < 1) ∨ (¬ most < 1 ∧ 32 < most) := by omega
  rcases hcase with h1 | ⟨h1, h2⟩
  all_goals
    go_enter Try.func3, Try.ntmps3
    go_wp2_with fail
    refine (V.out _).mono ?_
    rintro e w1 ⟨rfl, b1⟩
    have B1 := Lib.hid b1
    clear b1
    go_wp2_with fail
    refine (CN.out _).mono ?_
    rintro e w' ⟨rfl, rfl⟩
    go_wp2
    go_ret
    exact ⟨rfl, B1.out⟩

set_option maxHeartbeats 16000000 in
theorem plays (W : World) (n : Nat) (at_ : Int) (qa : Option Addr) (ca : Nat) (l : List Ac) (hl : ¬ 100 < l.length) (hn : 1 ≤ n ∧ n ≤ 32) (ha : Acs W qa l) :
    Calls Try.prog 3 #[.int .i64 (n : Int), .slice qa l.length ca, .int .i64 at_] W fun e w' => e = .returned (.bool true) ∧ Below W.heap.size W w' := by
  have mixed : Try.prog.follows .mixedOrders = true := by kernel_rfl
  have V := Lib.hid ring_lives
  have CN := Lib.hid (fun w => new_okI w n hn)
  obtain ⟨N, hN⟩ : ∃ N, N = W.heap.size := ⟨_, rfl⟩
  obtain ⟨M, hM⟩ : ∃ M, M = l.length := ⟨_, rfl⟩
  rw [← hM] at hl ⊢
  have hb2 : ¬ (100 : Int) < (M : Int) := by omega
  have h1 : ¬ ((n : Int) < 1) := by omega
  have h2 : ¬ (32 < (n : Int)) := by omega
  have d0 : decide ((100 : Int) < (M : Int)) = false := decide_eq_false hb2
  have d1 : decide ((n : Int) < 1) = false := decide_eq_false h1
  have d2 : decide (32 < (n : Int)) = false := decide_eq_false h2
  have HN : Hid (W.heap.size = N ∧ M = l.length ∧ Acs W qa l) := ⟨hN.symm, hM, ha⟩
  clear hN hM ha
  go_enter Try.func3, Try.ntmps3
  go_wp2_with fail
  refine (V.out _).mono ?_
  rintro e w1 ⟨rfl, b1⟩
  have B1 : Hid (Below N W w1) := by show Below _ _ _; rw [← HN.out.1]; exact b1
  clear b1
  go_wp2_with fail
  refine (CN.out _).mono ?_
  rintro e w2 ⟨rb, rfl, gb, r1, r2, H, b2⟩
  have S0 : Hid (Sit N W w2 rb gb n [] none 0 []) := by
    have := B1.out.size
    have := HN.out.1
    exact ⟨B1.out.trans (b2.mono (by omega)), H, Mo.nil _ _, List.Pairwise.nil, ⟨by omega, by omega⟩, ⟨(fun ⟨a, ha, _⟩ => by cases ha), (fun ⟨a, ha, _⟩ => by cases ha)⟩⟩
  clear r1 r2 H b2 CN
  go_wp2_with fail
  go_loopg [9, 42] M (fun g v9 vi wr => ∃ (j : Nat) (q : Option Addr) (c : Nat) (L : List (Int × Int)), v9 = .slice q L.length c ∧ vi = .int .i64 (j : Int) ∧ j ≤ M ∧ M - j ≤ g ∧ Hid (Sit N W wr rb gb n L q c L))
  case atStart => exact ⟨0, none, 0, [], rfl, rfl, by omega, by omega, S0⟩
  case round =>
    obtain ⟨j, q, c, L, rfl, rfl, hj, hg, HR⟩ := hrel
    by_cases hlt : j < M
    · have h := HR.out
      obtain ⟨x, hx⟩ : ∃ x, l[j]? = some x := ⟨l[j]'(by have := HN.out.2.1; omega), List.getElem?_eq_getElem _⟩
      obtain ⟨b, off, rfl, hbl, a0, a1, a2⟩ := HN.out.2.2 j x hx
      obtain ⟨kd, ta, xv⟩ := x
      have hNW := HN.out.1
      simp only at a0 a1 a2
      have e0 : wr.cell? ⟨b, off + j * 3, none⟩ = some (.int .i64 kd) := (h.low.cell (p := ⟨b, off + j * 3, none⟩) (by show b < N; omega)).trans a0
      have e1 : wr.cell? ⟨b, off + j * 3 + 1, none⟩ = some (.int .i64 ta) := (h.low.cell (p := ⟨b, off + j * 3 + 1, none⟩) (by show b < N; omega)).trans a1
      have e2 : wr.cell? ⟨b, off + j * 3 + 2, none⟩ = some (.int .i64 xv) := (h.low.cell (p := ⟨b, off + j * 3 + 2, none⟩) (by show b < N; omega)).trans a2
      obtain ⟨A, hA⟩ : ∃ A, A = wr.heap.size := ⟨_, rfl⟩
      obtain ⟨w3, hw3⟩ : ∃ w3, w3 = wr.alloc (.cells #[.int .i64 kd, .int .i64 ta, .int .i64 xv] AcT) := ⟨_, rfl⟩
      have b3 : Below wr.heap.size wr w3 := hw3 ▸ (Below.refl _ _).alloc (Nat.le_refl _) _
      have k3 : w3.heap[A]? = some (.cells #[.int .i64 kd, .int .i64 ta, .int .i64 xv] AcT (0, 0)) := by rw [hw3, hA]; exact heap_alloc_new wr _
      have S3 : Hid (Sit N W w3 rb gb n L q c L ∧ w3.heap[A]? = some (.cells #[.int .i64 kd, .int .i64 ta, .int .i64 xv] AcT (0, 0))) := ⟨h.gr hNW b3, k3⟩
      have HW3 : Hid (wr.alloc (.cells #[.int .i64 kd, .int .i64 ta, .int .i64 xv] AcT) = w3 ∧ wr.heap.size = A) := ⟨hw3.symm, hA.symm⟩
      have HR' := HR
      clear h hx hbl a0 a1 a2 hNW hA hw3 b3 k3 HR S0
      go_upto_block 2 with fail
      rw [HW3.out.1, HW3.out.2]
      obtain ⟨m, hm⟩ : ∃ m, m = L.length := ⟨_, rfl⟩
      rw [← hm]
      have HM : Hid (L.length = m) := hm.symm
      have hmn : m ≤ n := by rw [hm]; exact S3.out.1.has.few.1
      have HLT : Hid (rb < A ∧ gb < A) := by
        have h1 := S3.out.1.has.lt
        have h2 := HR'.out.has.lt
        have := HW3.out.2
        show _ ∧ _
        omega
      clear e0 e1 e2 hm HR'
      have f0 : w3.cell? ⟨A, 0, none⟩ = some (.int .i64 kd) := cell_of_block S3.out.2 0
      have f1 : w3.cell? ⟨A, 1, none⟩ = some (.int .i64 ta) := cell_of_block S3.out.2 1
      have f2 : w3.cell? ⟨A, 2, none⟩ = some (.int .i64 xv) := cell_of_block S3.out.2 2
      go_cut [9, 12, 13, 14] from 48 to 122 (fun v9 v12 v13 v14 wc => ∃ (q' : Option Addr) (c' : Nat) (L' : List (Int × Int)), v9 = .slice q' L'.length c' ∧ Hid (Sit N W wc rb gb n L' q' c' L'))
      case first =>
        have hk : (kd = 0 ∨ kd = 1) ∨ kd = 2 ∨ (¬ kd = 0 ∧ ¬ kd = 1 ∧ ¬ kd = 2) := by omega
        rcases hk with hk | rfl | ⟨k0, k1, k2⟩
        · by_cases h0 : ta < 0
          · -- a tick below 0
            obtain ⟨cp, f, cc, hr, _⟩ := S3.out.1.has
            have CP := Lib.hid (put_belowI w3 rb gb n cp f _ cc hr ta xv h0)
            clear hr
            rcases hk with rfl | rfl
            all_goals
              go_upto_region 21 with fail
              go_wp2_with fail
              refine CP.out.mono ?_
              rintro e w' ⟨rfl, rfl⟩
              go_wp2_with fail
              go_meet
              case rel => exact ⟨q, c, L, by rw [HM.out], S3.out.1⟩
          · rcases List.eq_nil_or_concat L with hl | ⟨L1, y, hl⟩
            · have m0 : m = 0 := by rw [← HM.out, hl]; rfl
              have hlast : ∀ y, L.getLast? = some y → y.1 < ta := fun y hy => by rw [hl] at hy; cases hy
              subst m0
              clear f0 hl
              rcases hk with hk | hk
              · subst hk
                go_upto_region 19 with fail
                go_quiet (fail)
                obtain ⟨wq, hwq⟩ : ∃ wq, wq = w3.drewN nq := ⟨_, rfl⟩
                rw [← hwq]
                have SQ : Hid (Sit N W wq rb gb n L q c L ∧ wq.heap[A]? = some (.cells #[.int .i64 0, .int .i64 ta, .int .i64 xv] AcT (0, 0))) := by
                  rw [hwq]
                  exact ⟨S3.out.1.gr HN.out.1 (Below.drewN' (Below.refl _ _) nq), S3.out.2⟩
                clear f1 f2
                have f1 : wq.cell? ⟨A, 1, none⟩ = some (.int .i64 ta) := cell_of_block SQ.out.2 1
                have f2 : wq.cell? ⟨A, 2, none⟩ = some (.int .i64 xv) := cell_of_block SQ.out.2 2
                clear hwq S3
                -- the ring takes it
                have CP := Lib.hid (put_okI wq rb gb n L SQ.out.1.has ta xv (by omega) hlast)
                have HK := Lib.hid hlast
                clear hlast
                go_upto_region 21 with fail
                go_wp2_with fail
                refine CP.out.mono ?_
                rintro e w5 ⟨rfl, H5, t5⟩
                have hNW := HN.out.1
                have S5 : Hid (Sit N W w5 rb gb n (keepL n L ++ [(ta, xv)]) q c L ∧ w5.heap[A]? = some (.cells #[.int .i64 0, .int .i64 ta, .int .i64 xv] AcT (0, 0))) :=
                  ⟨SQ.out.1.ring hNW t5 H5 (rises_keep SQ.out.1.up HK.out), (t5.block A (Array.getElem?_eq_some_iff.1 SQ.out.2).1 (by have := HLT.out; simp; omega)).trans SQ.out.2⟩
                have f1 : w5.cell? ⟨A, 1, none⟩ = some (.int .i64 ta) := cell_of_block S5.out.2 1
                have f2 : w5.cell? ⟨A, 2, none⟩ = some (.int .i64 xv) := cell_of_block S5.out.2 2
                obtain ⟨T, hT⟩ : ∃ T, T = w5.heap.size := ⟨_, rfl⟩
                obtain ⟨w6, hw6⟩ : ∃ w6, w6 = w5.alloc (.cells #[.int .i64 ta, .int .i64 xv] TSI) := ⟨_, rfl⟩
                have b6 : Below w5.heap.size w5 w6 := hw6 ▸ (Below.refl _ _).alloc (Nat.le_refl _) _
                have S6 : Hid (Sit N W w6 rb gb n (keepL n L ++ [(ta, xv)]) q c L) := S5.out.1.gr hNW b6
                have NEW : Hid (∀ (t : Nat) u, ([.int .i64 ta, .int .i64 xv] : List Value)[t]? = some u → w6.cell? ((⟨T, 0, none⟩ : Addr).add t) = some u) := by
                  have := World.news_of_block (w := w6) (B := T) (cs := #[.int .i64 ta, .int .i64 xv]) (t := TSI) (fr := (0, 0)) (by rw [hw6, hT]; exact heap_alloc_new w5 _)
                  exact this
                have HB6 : Hid (N ≤ w6.heap.size) := by show _ ≤ _; have := S6.out.low.size; omega
                have HW6 : Hid (w5.alloc (.cells #[.int .i64 ta, .int .i64 xv] TSI) = w6 ∧ w5.heap.size = T) := ⟨hw6.symm, hT.symm⟩
                clear H5 t5 hT hw6 b6 CP SQ hNW
                go_wp2_with (at_builtin; rw [HW6.out.1, HW6.out.2]; refine wpList_push rfl _ _ (by rfl) (x := (ta, xv)) HM.out (by rfl) S6.out.mod HB6.out (by have := HM.out; omega) ⟨T, 0, none⟩ 1 (by rfl) NEW.out ?_; intro v7 w7 hp7)
                obtain ⟨q7, c7, rfl, s7⟩ := S6.out.push HN.out.1 hp7
                have hnf : ¬ (n : Int) < (0 : Int) + 1 := by omega
                have FIN : Hid (Sit N W w7 rb gb n (L ++ [(ta, xv)]) q7 c7 (L ++ [(ta, xv)])) := by
                  have e : keepL n L = L := if_neg (by have := HM.out; omega)
                  rw [e] at s7
                  exact s7
                have hml : L.length = 0 := HM.out
                rw [hml]
                clear s7 hp7 S5 S6 NEW HB6 HW6 hml f1 f2
                go_wp2_with fail
                go_meet
                case rel => exact ⟨q7, c7, L ++ [(ta, xv)], by rw [List.length_append, HM.out]; rfl, FIN⟩
              · subst hk
                go_upto_region 19 with fail
                go_quiet (fail)
                obtain ⟨wq, hwq⟩ : ∃ wq, wq = w3.drewN nq := ⟨_, rfl⟩
                rw [← hwq]
                have SQ : Hid (Sit N W wq rb gb n L q c L ∧ wq.heap[A]? = some (.cells #[.int .i64 1, .int .i64 ta, .int .i64 xv] AcT (0, 0))) := by
                  rw [hwq]
                  exact ⟨S3.out.1.gr HN.out.1 (Below.drewN' (Below.refl _ _) nq), S3.out.2⟩
                clear f1 f2
                have f1 : wq.cell? ⟨A, 1, none⟩ = some (.int .i64 ta) := cell_of_block SQ.out.2 1
                have f2 : wq.cell? ⟨A, 2, none⟩ = some (.int .i64 xv) := cell_of_block SQ.out.2 2
                clear hwq S3
                -- the ring takes it
                have CP := Lib.hid (put_okI wq rb gb n L SQ.out.1.has ta xv (by omega) hlast)
                have HK := Lib.hid hlast
                clear hlast
                go_upto_region 21 with fail
                go_wp2_with fail
                refine CP.out.mono ?_
                rintro e w5 ⟨rfl, H5, t5⟩
                have hNW := HN.out.1
                have S5 : Hid (Sit N W w5 rb gb n (keepL n L ++ [(ta, xv)]) q c L ∧ w5.heap[A]? = some (.cells #[.int .i64 1, .int .i64 ta, .int .i64 xv] AcT (0, 0))) :=
                  ⟨SQ.out.1.ring hNW t5 H5 (rises_keep SQ.out.1.up HK.out), (t5.block A (Array.getElem?_eq_some_iff.1 SQ.out.2).1 (by have := HLT.out; simp; omega)).trans SQ.out.2⟩
                have f1 : w5.cell? ⟨A, 1, none⟩ = some (.int .i64 ta) := cell_of_block S5.out.2 1
                have f2 : w5.cell? ⟨A, 2, none⟩ = some (.int .i64 xv) := cell_of_block S5.out.2 2
                obtain ⟨T, hT⟩ : ∃ T, T = w5.heap.size := ⟨_, rfl⟩
                obtain ⟨w6, hw6⟩ : ∃ w6, w6 = w5.alloc (.cells #[.int .i64 ta, .int .i64 xv] TSI) := ⟨_, rfl⟩
                have b6 : Below w5.heap.size w5 w6 := hw6 ▸ (Below.refl _ _).alloc (Nat.le_refl _) _
                have S6 : Hid (Sit N W w6 rb gb n (keepL n L ++ [(ta, xv)]) q c L) := S5.out.1.gr hNW b6
                have NEW : Hid (∀ (t : Nat) u, ([.int .i64 ta, .int .i64 xv] : List Value)[t]? = some u → w6.cell? ((⟨T, 0, none⟩ : Addr).add t) = some u) := by
                  have := World.news_of_block (w := w6) (B := T) (cs := #[.int .i64 ta, .int .i64 xv]) (t := TSI) (fr := (0, 0)) (by rw [hw6, hT]; exact heap_alloc_new w5 _)
                  exact this
                have HB6 : Hid (N ≤ w6.heap.size) := by show _ ≤ _; have := S6.out.low.size; omega
                have HW6 : Hid (w5.alloc (.cells #[.int .i64 ta, .int .i64 xv] TSI) = w6 ∧ w5.heap.size = T) := ⟨hw6.symm, hT.symm⟩
                clear H5 t5 hT hw6 b6 CP SQ hNW
                go_wp2_with (at_builtin; rw [HW6.out.1, HW6.out.2]; refine wpList_push rfl _ _ (by rfl) (x := (ta, xv)) HM.out (by rfl) S6.out.mod HB6.out (by have := HM.out; omega) ⟨T, 0, none⟩ 1 (by rfl) NEW.out ?_; intro v7 w7 hp7)
                obtain ⟨q7, c7, rfl, s7⟩ := S6.out.push HN.out.1 hp7
                have hnf : ¬ (n : Int) < (0 : Int) + 1 := by omega
                have FIN : Hid (Sit N W w7 rb gb n (L ++ [(ta, xv)]) q7 c7 (L ++ [(ta, xv)])) := by
                  have e : keepL n L = L := if_neg (by have := HM.out; omega)
                  rw [e] at s7
                  exact s7
                have hml : L.length = 0 := HM.out
                rw [hml]
                clear s7 hp7 S5 S6 NEW HB6 HW6 hml f1 f2
                go_wp2_with fail
                go_meet
                case rel => exact ⟨q7, c7, L ++ [(ta, xv)], by rw [List.length_append, HM.out]; rfl, FIN⟩
            · rw [List.concat_eq_append] at hl
              obtain ⟨j', hj'⟩ : ∃ j', j' = L1.length := ⟨_, rfl⟩
              have hmj : m = j' + 1 := by rw [← HM.out, hl, hj']; simp
              obtain ⟨g, o, rfl, _, _, a0, a1⟩ := S3.out.1.mod.cells (j := j') (x := y) (by rw [hl, hj']; simp)
              have WJ : IntKind.i64.wrap ((m : Int) - 1) = (j' : Int) := by rw [show (m : Int) - 1 = (j' : Int) by omega]; exact IntWalk.i64_in _ (by omega)
              have hp1 : decide ((0 : Int) < (m : Int)) = true := decide_eq_true (by omega)
              have hp2 : 0 < m := by omega
              have hj0 : (0 : Int) ≤ (j' : Int) := Int.natCast_nonneg _
              have hj1 : (j' : Int) < (m : Int) := by omega
              have hj2 : j' < m := by omega
              by_cases hst : ta ≤ y.1
              · have CP : Hid (∀ w : World, HasI w rb gb n L → Calls Try.prog 7 #[.pointer (some ⟨rb, 0, none⟩), .int .i64 ta, .int .i64 xv] w fun e w' => e = .returned (.int .i64 13) ∧ Below w.heap.size w w') := fun w H => put_staleI w rb gb n L1 y (by rw [← hl]; exact H) ta xv (by omega) hst
                obtain ⟨ya, yv⟩ := y
                simp only at a0 a1 hst
                clear f0 hl hj' hmj a1
                rcases hk with hk | hk
                · subst hk
                  go_upto_region 19 with fail
                  go_quiet (fail)
                  obtain ⟨wq, hwq⟩ : ∃ wq, wq = w3.drewN nq := ⟨_, rfl⟩
                  rw [← hwq]
                  have SQ : Hid (Sit N W wq rb gb n L (some ⟨g, o, none⟩) c L ∧ wq.heap[A]? = some (.cells #[.int .i64 0, .int .i64 ta, .int .i64 xv] AcT (0, 0))) := by
                    rw [hwq]
                    exact ⟨S3.out.1.gr HN.out.1 (Below.drewN' (Below.refl _ _) nq), S3.out.2⟩
                  clear f1 f2
                  have f1 : wq.cell? ⟨A, 1, none⟩ = some (.int .i64 ta) := cell_of_block SQ.out.2 1
                  have f2 : wq.cell? ⟨A, 2, none⟩ = some (.int .i64 xv) := cell_of_block SQ.out.2 2
                  have CQ := Lib.hid (CP.out wq SQ.out.1.has)
                  clear hwq S3 CP WJ a0
                  go_upto_region 21 with fail
                  go_wp2_with fail
                  refine CQ.out.mono ?_
                  rintro e w5 ⟨rfl, b5⟩
                  have FIN : Hid (Sit N W w5 rb gb n L (some ⟨g, o, none⟩) c L) := SQ.out.1.gr HN.out.1 b5
                  clear b5 CQ
                  go_wp2_with fail
                  go_meet
                  case rel => exact ⟨_, c, L, by rw [HM.out], FIN⟩
                · subst hk
                  go_upto_region 19 with fail
                  go_quiet (fail)
                  obtain ⟨wq, hwq⟩ : ∃ wq, wq = w3.drewN nq := ⟨_, rfl⟩
                  rw [← hwq]
                  have SQ : Hid (Sit N W wq rb gb n L (some ⟨g, o, none⟩) c L ∧ wq.heap[A]? = some (.cells #[.int .i64 1, .int .i64 ta, .int .i64 xv] AcT (0, 0))) := by
                    rw [hwq]
                    exact ⟨S3.out.1.gr HN.out.1 (Below.drewN' (Below.refl _ _) nq), S3.out.2⟩
                  clear f1 f2
                  have f1 : wq.cell? ⟨A, 1, none⟩ = some (.int .i64 ta) := cell_of_block SQ.out.2 1
                  have f2 : wq.cell? ⟨A, 2, none⟩ = some (.int .i64 xv) := cell_of_block SQ.out.2 2
                  have CQ := Lib.hid (CP.out wq SQ.out.1.has)
                  clear hwq S3 CP WJ a0
                  go_upto_region 21 with fail
                  go_wp2_with fail
                  refine CQ.out.mono ?_
                  rintro e w5 ⟨rfl, b5⟩
                  have FIN : Hid (Sit N W w5 rb gb n L (some ⟨g, o, none⟩) c L) := SQ.out.1.gr HN.out.1 b5
                  clear b5 CQ
                  go_wp2_with fail
                  go_meet
                  case rel => exact ⟨_, c, L, by rw [HM.out], FIN⟩
              · have hlast : ∀ y', L.getLast? = some y' → y'.1 < ta := fun y' hy => by rw [hl] at hy; simp at hy; rw [← hy]; omega
                obtain ⟨ya, yv⟩ := y
                simp only at a0 a1 hst
                by_cases hfull : m = n
                · have hful := hfull.symm
                  subst hful
                  clear f0 hl hj' hmj a1
                  rcases hk with hk | hk
                  · subst hk
                    go_upto_region 19 with fail
                    go_quiet (fail)
                    obtain ⟨wq, hwq⟩ : ∃ wq, wq = w3.drewN nq := ⟨_, rfl⟩
                    rw [← hwq]
                    have SQ : Hid (Sit N W wq rb gb n L (some ⟨g, o, none⟩) c L ∧ wq.heap[A]? = some (.cells #[.int .i64 0, .int .i64 ta, .int .i64 xv] AcT (0, 0))) := by
                      rw [hwq]
                      exact ⟨S3.out.1.gr HN.out.1 (Below.drewN' (Below.refl _ _) nq), S3.out.2⟩
                    clear f1 f2
                    have f1 : wq.cell? ⟨A, 1, none⟩ = some (.int .i64 ta) := cell_of_block SQ.out.2 1
                    have f2 : wq.cell? ⟨A, 2, none⟩ = some (.int .i64 xv) := cell_of_block SQ.out.2 2
                    clear hwq S3 WJ a0
                    -- the ring takes it
                    have CP := Lib.hid (put_okI wq rb gb n L SQ.out.1.has ta xv (by omega) hlast)
                    have HK := Lib.hid hlast
                    clear hlast
                    go_upto_region 21 with fail
                    go_wp2_with fail
                    refine CP.out.mono ?_
                    rintro e w5 ⟨rfl, H5, t5⟩
                    have hNW := HN.out.1
                    have S5 : Hid (Sit N W w5 rb gb n (keepL n L ++ [(ta, xv)]) (some ⟨g, o, none⟩) c L ∧ w5.heap[A]? = some (.cells #[.int .i64 0, .int .i64 ta, .int .i64 xv] AcT (0, 0))) :=
                      ⟨SQ.out.1.ring hNW t5 H5 (rises_keep SQ.out.1.up HK.out), (t5.block A (Array.getElem?_eq_some_iff.1 SQ.out.2).1 (by have := HLT.out; simp; omega)).trans SQ.out.2⟩
                    have f1 : w5.cell? ⟨A, 1, none⟩ = some (.int .i64 ta) := cell_of_block S5.out.2 1
                    have f2 : w5.cell? ⟨A, 2, none⟩ = some (.int .i64 xv) := cell_of_block S5.out.2 2
                    obtain ⟨T, hT⟩ : ∃ T, T = w5.heap.size := ⟨_, rfl⟩
                    obtain ⟨w6, hw6⟩ : ∃ w6, w6 = w5.alloc (.cells #[.int .i64 ta, .int .i64 xv] TSI) := ⟨_, rfl⟩
                    have b6 : Below w5.heap.size w5 w6 := hw6 ▸ (Below.refl _ _).alloc (Nat.le_refl _) _
                    have S6 : Hid (Sit N W w6 rb gb n (keepL n L ++ [(ta, xv)]) (some ⟨g, o, none⟩) c L) := S5.out.1.gr hNW b6
                    have NEW : Hid (∀ (t : Nat) u, ([.int .i64 ta, .int .i64 xv] : List Value)[t]? = some u → w6.cell? ((⟨T, 0, none⟩ : Addr).add t) = some u) := by
                      have := World.news_of_block (w := w6) (B := T) (cs := #[.int .i64 ta, .int .i64 xv]) (t := TSI) (fr := (0, 0)) (by rw [hw6, hT]; exact heap_alloc_new w5 _)
                      exact this
                    have HB6 : Hid (N ≤ w6.heap.size) := by show _ ≤ _; have := S6.out.low.size; omega
                    have HW6 : Hid (w5.alloc (.cells #[.int .i64 ta, .int .i64 xv] TSI) = w6 ∧ w5.heap.size = T) := ⟨hw6.symm, hT.symm⟩
                    clear H5 t5 hT hw6 b6 CP SQ hNW
                    go_wp2_with (at_builtin; rw [HW6.out.1, HW6.out.2]; refine wpList_push rfl _ _ (by rfl) (x := (ta, xv)) HM.out (by rfl) S6.out.mod HB6.out (by have := HM.out; omega) ⟨T, 0, none⟩ 1 (by rfl) NEW.out ?_; intro v7 w7 hp7)
                    obtain ⟨q7, c7, rfl, s7⟩ := S6.out.push HN.out.1 hp7
                    have hnf : (n : Int) < (n : Int) + 1 := by omega
                    have hml : L.length = n := HM.out
                    have FIN : Hid (∃ g' o' : Nat, q7 = some ⟨g', o', none⟩ ∧ 2 ≤ c7 ∧ Sit N W w7 rb gb n ((L ++ [(ta, xv)]).drop 1) (some ⟨g', o' + 2, none⟩) (c7 - 1) ((L ++ [(ta, xv)]).drop 1)) := by
                      have hne : 1 ≤ L.length := by omega
                      obtain ⟨y0, r, hr⟩ : ∃ y0 r, L = y0 :: r := by
                        cases L with
                        | nil => simp at hne
                        | cons a b => exact ⟨a, b, rfl⟩
                      have e : keepL n L ++ [(ta, xv)] = (L ++ [(ta, xv)]).drop 1 := by
                        unfold keepL
                        rw [if_pos (by omega), hr]
                        rfl
                      rw [e] at s7
                      have hle := s7.mod.le
                      rw [List.length_append] at hle
                      simp only [List.length_singleton] at hle
                      cases hq : q7 with
                      | none => have := s7.mod.nul hq; omega
                      | some a =>
                        obtain ⟨g', o', cur, rfl, _⟩ := s7.mod.row a hq
                        subst hq
                        rw [hr] at s7 ⊢
                        rw [List.cons_append] at s7 ⊢
                        have s8 := s7.tail
                        rw [if_neg (by omega)] at s8
                        exact ⟨g', o', rfl, by omega, s8⟩
                    obtain ⟨g7, o7, rfl, hc7, S8⟩ := FIN.out
                    have S8 := Lib.hid S8
                    have hc1 : ¬ c7 = 1 := by omega
                    rw [hml]
                    clear s7 hp7 S5 S6 NEW HB6 HW6 FIN hml f1 f2 hmn hnf
                    go_simp
                    go_wp2_with fail
                    go_meet
                    case rel => exact ⟨_, _, (L ++ [(ta, xv)]).drop 1, by rw [List.length_drop, List.length_append, HM.out]; rfl, S8.out⟩
                  · subst hk
                    go_upto_region 19 with fail
                    go_quiet (fail)
                    obtain ⟨wq, hwq⟩ : ∃ wq, wq = w3.drewN nq := ⟨_, rfl⟩
                    rw [← hwq]
                    have SQ : Hid (Sit N W wq rb gb n L (some ⟨g, o, none⟩) c L ∧ wq.heap[A]? = some (.cells #[.int .i64 1, .int .i64 ta, .int .i64 xv] AcT (0, 0))) := by
                      rw [hwq]
                      exact ⟨S3.out.1.gr HN.out.1 (Below.drewN' (Below.refl _ _) nq), S3.out.2⟩
                    clear f1 f2
                    have f1 : wq.cell? ⟨A, 1, none⟩ = some (.int .i64 ta) := cell_of_block SQ.out.2 1
                    have f2 : wq.cell? ⟨A, 2, none⟩ = some (.int .i64 xv) := cell_of_block SQ.out.2 2
                    clear hwq S3 WJ a0
                    -- the ring takes it
                    have CP := Lib.hid (put_okI wq rb gb n L SQ.out.1.has ta xv (by omega) hlast)
                    have HK := Lib.hid hlast
                    clear hlast
                    go_upto_region 21 with fail
                    go_wp2_with fail
                    refine CP.out.mono ?_
                    rintro e w5 ⟨rfl, H5, t5⟩
                    have hNW := HN.out.1
                    have S5 : Hid (Sit N W w5 rb gb n (keepL n L ++ [(ta, xv)]) (some ⟨g, o, none⟩) c L ∧ w5.heap[A]? = some (.cells #[.int .i64 1, .int .i64 ta, .int .i64 xv] AcT (0, 0))) :=
                      ⟨SQ.out.1.ring hNW t5 H5 (rises_keep SQ.out.1.up HK.out), (t5.block A (Array.getElem?_eq_some_iff.1 SQ.out.2).1 (by have := HLT.out; simp; omega)).trans SQ.out.2⟩
                    have f1 : w5.cell? ⟨A, 1, none⟩ = some (.int .i64 ta) := cell_of_block S5.out.2 1
                    have f2 : w5.cell? ⟨A, 2, none⟩ = some (.int .i64 xv) := cell_of_block S5.out.2 2
                    obtain ⟨T, hT⟩ : ∃ T, T = w5.heap.size := ⟨_, rfl⟩
                    obtain ⟨w6, hw6⟩ : ∃ w6, w6 = w5.alloc (.cells #[.int .i64 ta, .int .i64 xv] TSI) := ⟨_, rfl⟩
                    have b6 : Below w5.heap.size w5 w6 := hw6 ▸ (Below.refl _ _).alloc (Nat.le_refl _) _
                    have S6 : Hid (Sit N W w6 rb gb n (keepL n L ++ [(ta, xv)]) (some ⟨g, o, none⟩) c L) := S5.out.1.gr hNW b6
                    have NEW : Hid (∀ (t : Nat) u, ([.int .i64 ta, .int .i64 xv] : List Value)[t]? = some u → w6.cell? ((⟨T, 0, none⟩ : Addr).add t) = some u) := by
                      have := World.news_of_block (w := w6) (B := T) (cs := #[.int .i64 ta, .int .i64 xv]) (t := TSI) (fr := (0, 0)) (by rw [hw6, hT]; exact heap_alloc_new w5 _)
                      exact this
                    have HB6 : Hid (N ≤ w6.heap.size) := by show _ ≤ _; have := S6.out.low.size; omega
                    have HW6 : Hid (w5.alloc (.cells #[.int .i64 ta, .int .i64 xv] TSI) = w6 ∧ w5.heap.size = T) := ⟨hw6.symm, hT.symm⟩
                    clear H5 t5 hT hw6 b6 CP SQ hNW
                    go_wp2_with (at_builtin; rw [HW6.out.1, HW6.out.2]; refine wpList_push rfl _ _ (by rfl) (x := (ta, xv)) HM.out (by rfl) S6.out.mod HB6.out (by have := HM.out; omega) ⟨T, 0, none⟩ 1 (by rfl) NEW.out ?_; intro v7 w7 hp7)
                    obtain ⟨q7, c7, rfl, s7⟩ := S6.out.push HN.out.1 hp7
                    have hnf : (n : Int) < (n : Int) + 1 := by omega
                    have hml : L.length = n := HM.out
                    have FIN : Hid (∃ g' o' : Nat, q7 = some ⟨g', o', none⟩ ∧ 2 ≤ c7 ∧ Sit N W w7 rb gb n ((L ++ [(ta, xv)]).drop 1) (some ⟨g', o' + 2, none⟩) (c7 - 1) ((L ++ [(ta, xv)]).drop 1)) := by
                      have hne : 1 ≤ L.length := by omega
                      obtain ⟨y0, r, hr⟩ : ∃ y0 r, L = y0 :: r := by
                        cases L with
                        | nil => simp at hne
                        | cons a b => exact ⟨a, b, rfl⟩
                      have e : keepL n L ++ [(ta, xv)] = (L ++ [(ta, xv)]).drop 1 := by
                        unfold keepL
                        rw [if_pos (by omega), hr]
                        rfl
                      rw [e] at s7
                      have hle := s7.mod.le
                      rw [List.length_append] at hle
                      simp only [List.length_singleton] at hle
                      cases hq : q7 with
                      | none => have := s7.mod.nul hq; omega
                      | some a =>
                        obtain ⟨g', o', cur, rfl, _⟩ := s7.mod.row a hq
                        subst hq
                        rw [hr] at s7 ⊢
                        rw [List.cons_append] at s7 ⊢
                        have s8 := s7.tail
                        rw [if_neg (by omega)] at s8
                        exact ⟨g', o', rfl, by omega, s8⟩
                    obtain ⟨g7, o7, rfl, hc7, S8⟩ := FIN.out
                    have S8 := Lib.hid S8
                    have hc1 : ¬ c7 = 1 := by omega
                    rw [hml]
                    clear s7 hp7 S5 S6 NEW HB6 HW6 FIN hml f1 f2 hmn hnf
                    go_simp
                    go_wp2_with fail
                    go_meet
                    case rel => exact ⟨_, _, (L ++ [(ta, xv)]).drop 1, by rw [List.length_drop, List.length_append, HM.out]; rfl, S8.out⟩
                · clear f0 hl hj' hmj a1
                  rcases hk with hk | hk
                  · subst hk
                    go_upto_region 19 with fail
                    go_quiet (fail)
                    obtain ⟨wq, hwq⟩ : ∃ wq, wq = w3.drewN nq := ⟨_, rfl⟩
                    rw [← hwq]
                    have SQ : Hid (Sit N W wq rb gb n L (some ⟨g, o, none⟩) c L ∧ wq.heap[A]? = some (.cells #[.int .i64 0, .int .i64 ta, .int .i64 xv] AcT (0, 0))) := by
                      rw [hwq]
                      exact ⟨S3.out.1.gr HN.out.1 (Below.drewN' (Below.refl _ _) nq), S3.out.2⟩
                    clear f1 f2
                    have f1 : wq.cell? ⟨A, 1, none⟩ = some (.int .i64 ta) := cell_of_block SQ.out.2 1
                    have f2 : wq.cell? ⟨A, 2, none⟩ = some (.int .i64 xv) := cell_of_block SQ.out.2 2
                    clear hwq S3 WJ a0
                    -- the ring takes it
                    have CP := Lib.hid (put_okI wq rb gb n L SQ.out.1.has ta xv (by omega) hlast)
                    have HK := Lib.hid hlast
                    clear hlast
                    go_upto_region 21 with fail
                    go_wp2_with fail
                    refine CP.out.mono ?_
                    rintro e w5 ⟨rfl, H5, t5⟩
                    have hNW := HN.out.1
                    have S5 : Hid (Sit N W w5 rb gb n (keepL n L ++ [(ta, xv)]) (some ⟨g, o, none⟩) c L ∧ w5.heap[A]? = some (.cells #[.int .i64 0, .int .i64 ta, .int .i64 xv] AcT (0, 0))) :=
                      ⟨SQ.out.1.ring hNW t5 H5 (rises_keep SQ.out.1.up HK.out), (t5.block A (Array.getElem?_eq_some_iff.1 SQ.out.2).1 (by have := HLT.out; simp; omega)).trans SQ.out.2⟩
                    have f1 : w5.cell? ⟨A, 1, none⟩ = some (.int .i64 ta) := cell_of_block S5.out.2 1
                    have f2 : w5.cell? ⟨A, 2, none⟩ = some (.int .i64 xv) := cell_of_block S5.out.2 2
                    obtain ⟨T, hT⟩ : ∃ T, T = w5.heap.size := ⟨_, rfl⟩
                    obtain ⟨w6, hw6⟩ : ∃ w6, w6 = w5.alloc (.cells #[.int .i64 ta, .int .i64 xv] TSI) := ⟨_, rfl⟩
                    have b6 : Below w5.heap.size w5 w6 := hw6 ▸ (Below.refl _ _).alloc (Nat.le_refl _) _
                    have S6 : Hid (Sit N W w6 rb gb n (keepL n L ++ [(ta, xv)]) (some ⟨g, o, none⟩) c L) := S5.out.1.gr hNW b6
                    have NEW : Hid (∀ (t : Nat) u, ([.int .i64 ta, .int .i64 xv] : List Value)[t]? = some u → w6.cell? ((⟨T, 0, none⟩ : Addr).add t) = some u) := by
                      have := World.news_of_block (w := w6) (B := T) (cs := #[.int .i64 ta, .int .i64 xv]) (t := TSI) (fr := (0, 0)) (by rw [hw6, hT]; exact heap_alloc_new w5 _)
                      exact this
                    have HB6 : Hid (N ≤ w6.heap.size) := by show _ ≤ _; have := S6.out.low.size; omega
                    have HW6 : Hid (w5.alloc (.cells #[.int .i64 ta, .int .i64 xv] TSI) = w6 ∧ w5.heap.size = T) := ⟨hw6.symm, hT.symm⟩
                    clear H5 t5 hT hw6 b6 CP SQ hNW
                    go_wp2_with (at_builtin; rw [HW6.out.1, HW6.out.2]; refine wpList_push rfl _ _ (by rfl) (x := (ta, xv)) HM.out (by rfl) S6.out.mod HB6.out (by have := HM.out; omega) ⟨T, 0, none⟩ 1 (by rfl) NEW.out ?_; intro v7 w7 hp7)
                    obtain ⟨q7, c7, rfl, s7⟩ := S6.out.push HN.out.1 hp7
                    have hnf : ¬ (n : Int) < (m : Int) + 1 := by omega
                    have FIN : Hid (Sit N W w7 rb gb n (L ++ [(ta, xv)]) q7 c7 (L ++ [(ta, xv)])) := by
                      have e : keepL n L = L := if_neg (by have := HM.out; omega)
                      rw [e] at s7
                      exact s7
                    have hml : L.length = m := HM.out
                    rw [hml]
                    clear s7 hp7 S5 S6 NEW HB6 HW6 hml f1 f2
                    go_wp2_with fail
                    go_meet
                    case rel => exact ⟨q7, c7, L ++ [(ta, xv)], by rw [List.length_append, HM.out]; rfl, FIN⟩
                  · subst hk
                    go_upto_region 19 with fail
                    go_quiet (fail)
                    obtain ⟨wq, hwq⟩ : ∃ wq, wq = w3.drewN nq := ⟨_, rfl⟩
                    rw [← hwq]
                    have SQ : Hid (Sit N W wq rb gb n L (some ⟨g, o, none⟩) c L ∧ wq.heap[A]? = some (.cells #[.int .i64 1, .int .i64 ta, .int .i64 xv] AcT (0, 0))) := by
                      rw [hwq]
                      exact ⟨S3.out.1.gr HN.out.1 (Below.drewN' (Below.refl _ _) nq), S3.out.2⟩
                    clear f1 f2
                    have f1 : wq.cell? ⟨A, 1, none⟩ = some (.int .i64 ta) := cell_of_block SQ.out.2 1
                    have f2 : wq.cell? ⟨A, 2, none⟩ = some (.int .i64 xv) := cell_of_block SQ.out.2 2
                    clear hwq S3 WJ a0
                    -- the ring takes it
                    have CP := Lib.hid (put_okI wq rb gb n L SQ.out.1.has ta xv (by omega) hlast)
                    have HK := Lib.hid hlast
                    clear hlast
                    go_upto_region 21 with fail
                    go_wp2_with fail
                    refine CP.out.mono ?_
                    rintro e w5 ⟨rfl, H5, t5⟩
                    have hNW := HN.out.1
                    have S5 : Hid (Sit N W w5 rb gb n (keepL n L ++ [(ta, xv)]) (some ⟨g, o, none⟩) c L ∧ w5.heap[A]? = some (.cells #[.int .i64 1, .int .i64 ta, .int .i64 xv] AcT (0, 0))) :=
                      ⟨SQ.out.1.ring hNW t5 H5 (rises_keep SQ.out.1.up HK.out), (t5.block A (Array.getElem?_eq_some_iff.1 SQ.out.2).1 (by have := HLT.out; simp; omega)).trans SQ.out.2⟩
                    have f1 : w5.cell? ⟨A, 1, none⟩ = some (.int .i64 ta) := cell_of_block S5.out.2 1
                    have f2 : w5.cell? ⟨A, 2, none⟩ = some (.int .i64 xv) := cell_of_block S5.out.2 2
                    obtain ⟨T, hT⟩ : ∃ T, T = w5.heap.size := ⟨_, rfl⟩
                    obtain ⟨w6, hw6⟩ : ∃ w6, w6 = w5.alloc (.cells #[.int .i64 ta, .int .i64 xv] TSI) := ⟨_, rfl⟩
                    have b6 : Below w5.heap.size w5 w6 := hw6 ▸ (Below.refl _ _).alloc (Nat.le_refl _) _
                    have S6 : Hid (Sit N W w6 rb gb n (keepL n L ++ [(ta, xv)]) (some ⟨g, o, none⟩) c L) := S5.out.1.gr hNW b6
                    have NEW : Hid (∀ (t : Nat) u, ([.int .i64 ta, .int .i64 xv] : List Value)[t]? = some u → w6.cell? ((⟨T, 0, none⟩ : Addr).add t) = some u) := by
                      have := World.news_of_block (w := w6) (B := T) (cs := #[.int .i64 ta, .int .i64 xv]) (t := TSI) (fr := (0, 0)) (by rw [hw6, hT]; exact heap_alloc_new w5 _)
                      exact this
                    have HB6 : Hid (N ≤ w6.heap.size) := by show _ ≤ _; have := S6.out.low.size; omega
                    have HW6 : Hid (w5.alloc (.cells #[.int .i64 ta, .int .i64 xv] TSI) = w6 ∧ w5.heap.size = T) := ⟨hw6.symm, hT.symm⟩
                    clear H5 t5 hT hw6 b6 CP SQ hNW
                    go_wp2_with (at_builtin; rw [HW6.out.1, HW6.out.2]; refine wpList_push rfl _ _ (by rfl) (x := (ta, xv)) HM.out (by rfl) S6.out.mod HB6.out (by have := HM.out; omega) ⟨T, 0, none⟩ 1 (by rfl) NEW.out ?_; intro v7 w7 hp7)
                    obtain ⟨q7, c7, rfl, s7⟩ := S6.out.push HN.out.1 hp7
                    have hnf : ¬ (n : Int) < (m : Int) + 1 := by omega
                    have FIN : Hid (Sit N W w7 rb gb n (L ++ [(ta, xv)]) q7 c7 (L ++ [(ta, xv)])) := by
                      have e : keepL n L = L := if_neg (by have := HM.out; omega)
                      rw [e] at s7
                      exact s7
                    have hml : L.length = m := HM.out
                    rw [hml]
                    clear s7 hp7 S5 S6 NEW HB6 HW6 hml f1 f2
                    go_wp2_with fail
                    go_meet
                    case rel => exact ⟨q7, c7, L ++ [(ta, xv)], by rw [List.length_append, HM.out]; rfl, FIN⟩
        · -- cut
          obtain ⟨K, hK1, hK2, hK3, hK4, hK5⟩ := frm_drop ta S3.out.1.up
          have HK := Lib.hid (And.intro hK2 (And.intro hK3 (And.intro hK4 hK5)))
          rw [HM.out] at hK1
          clear hK2 hK3 hK4 hK5 f0 f1 f2
          go_upto_block 3 with fail
          go_cut [9, 13] from 101 to 116 (fun v9 v13 wc => ∃ (q' : Option Addr) (c' : Nat), v9 = .slice q' (L.drop K).length c' ∧ v13 = .int .i64 (K : Int) ∧ Hid (Sit N W wc rb gb n L q' c' (L.drop K) ∧ wc.heap[A]? = some (.cells #[.int .i64 2, .int .i64 ta, .int .i64 xv] AcT (0, 0))))
          case first =>
            go_wp2_with fail
            go_loopg [9, 13] K (fun g v9 v13 ws => ∃ (i : Nat) (q' : Option Addr) (c' : Nat), v9 = .slice q' (L.drop i).length c' ∧ v13 = .int .i64 (i : Int) ∧ i ≤ K ∧ K - i ≤ g ∧ Hid (Sit N W ws rb gb n L q' c' (L.drop i) ∧ ws.heap[A]? = some (.cells #[.int .i64 2, .int .i64 ta, .int .i64 xv] AcT (0, 0))))
            case atStart => exact ⟨0, q, c, by rw [List.drop_zero, HM.out], rfl, by omega, by omega, by rw [List.drop_zero]; exact S3.out.1, S3.out.2⟩
            case round =>
              obtain ⟨i, q', c', rfl, rfl, hi, hgi, HS⟩ := hrel
              have hm' := HM.out
              obtain ⟨r, hr⟩ : ∃ r, r = (L.drop i).length := ⟨_, rfl⟩
              have hrm : r = m - i := by rw [hr, List.length_drop, hm']
              rw [← hr]
              have g1 : wr.cell? ⟨A, 1, none⟩ = some (.int .i64 ta) := cell_of_block HS.out.2 1
              by_cases him : i < m
              · obtain ⟨y, hy⟩ : ∃ y, L[i]? = some y := ⟨L[i]'(by omega), List.getElem?_eq_getElem (by omega)⟩
                have hcons : L.drop i = y :: L.drop (i + 1) := by
                  obtain ⟨hy1, hy2⟩ := List.getElem?_eq_some_iff.1 hy
                  rw [List.drop_eq_getElem_cons hy1, hy2]
                have hiff := HK.out.1 i y hy
                obtain ⟨g, o, rfl, _, _, a0, a1⟩ := HS.out.1.mod.cells (j := 0) (x := y) (by rw [hcons]; rfl)
                rw [Nat.zero_mul, Nat.add_zero] at a0
                obtain ⟨ya, yv⟩ := y
                simp only at a0 hiff
                have hr1 : 0 < r := by omega
                have hr2 : (0 : Int) < (r : Int) := by omega
                by_cases hiK : i < K
                · have hlx : ya < ta := hiff.1 hiK
                  have S8 : Hid (∀ nq, Sit N W (wr.drewN nq) rb gb n L (some ⟨g, if c' = 1 then o else o + 2, none⟩) (c' - 1) (L.drop (i + 1)) ∧ (wr.drewN nq).heap[A]? = some (.cells #[.int .i64 2, .int .i64 ta, .int .i64 xv] AcT (0, 0))) := fun nq => by
                    have s := HS.out.1
                    rw [hcons] at s
                    exact ⟨s.tail.gr HN.out.1 (Below.drewN' (Below.refl _ _) nq), HS.out.2⟩
                  have hrc : r ≤ c' := by rw [hr]; exact HS.out.1.mod.le
                  have hri : (L.drop (i + 1)).length = r - 1 := by rw [List.length_drop, hm']; omega
                  have HRI := Lib.hid hri
                  by_cases hc1 : c' = 1
                  · subst hc1
                    have hr3 : r = 1 := by omega
                    clear hy hcons hiff HS hr hrm hm' a1 hrc hri
                    subst hr3
                    go_upto_region 29 with fail
                    go_quiet (fail)
                    clear a0 g1
                    go_wp2_with fail
                    go_roundg (K - (i + 1))
                    case measure => omega
                    case rel => exact ⟨i + 1, _, _, by rw [HRI.out]; first | rfl | (simp; done), by push_cast; rfl, by omega, by omega, S8.out nq⟩
                  · have S9 : Hid (∀ nq, Sit N W (wr.drewN nq) rb gb n L (some ⟨g, o + 2, none⟩) (c' - 1) (L.drop (i + 1)) ∧ (wr.drewN nq).heap[A]? = some (.cells #[.int .i64 2, .int .i64 ta, .int .i64 xv] AcT (0, 0))) := fun nq => by
                      have s := S8.out nq
                      rw [if_neg hc1] at s
                      exact s
                    clear hy hcons hiff HS hr hrm hm' a1 hrc hri S8
                    go_upto_region 29 with fail
                    go_quiet (fail)
                    clear a0 g1
                    go_wp2_with fail
                    go_roundg (K - (i + 1))
                    case measure => omega
                    case rel => exact ⟨i + 1, _, _, by rw [HRI.out], by push_cast; rfl, by omega, by omega, S9.out nq⟩
                · have hlx : ¬ ya < ta := fun e => hiK (hiff.2 e)
                  have e : i = K := by omega
                  subst e
                  have S8 : Hid (∀ nq, Sit N W (wr.drewN nq) rb gb n L (some ⟨g, o, none⟩) c' (L.drop i) ∧ (wr.drewN nq).heap[A]? = some (.cells #[.int .i64 2, .int .i64 ta, .int .i64 xv] AcT (0, 0))) := fun nq => ⟨HS.out.1.gr HN.out.1 (Below.drewN' (Below.refl _ _) nq), HS.out.2⟩
                  have HR2 := Lib.hid hr
                  clear hy hcons hiff HS hr hrm hm' a1
                  go_upto_region 29 with fail
                  go_quiet (fail)
                  clear a0 g1
                  go_wp2_with fail
                  go_meet
                  case rel => exact ⟨_, _, by rw [HR2.out], rfl, S8.out nq⟩
              · have e : i = K := by omega
                subst e
                have hr0 : r = 0 := by omega
                have S8 : Hid (∀ nq, Sit N W (wr.drewN nq) rb gb n L q' c' (L.drop i) ∧ (wr.drewN nq).heap[A]? = some (.cells #[.int .i64 2, .int .i64 ta, .int .i64 xv] AcT (0, 0))) := fun nq => ⟨HS.out.1.gr HN.out.1 (Below.drewN' (Below.refl _ _) nq), HS.out.2⟩
                have HR2 := Lib.hid hr
                clear HS hr hrm hm'
                subst hr0
                go_upto_region 29 with fail
                go_quiet (fail)
                clear g1
                go_wp2_with fail
                go_meet
                case rel => exact ⟨_, _, by rw [← HR2.out], rfl, S8.out nq⟩
          case rest =>
            obtain ⟨q', c', rfl, rfl, HS⟩ := hcut
            have CP : Hid (Calls Try.prog 8 #[.pointer (some ⟨rb, 0, none⟩), .int .i64 ta] wc fun e w' => e = .returned (.int .i64 (K : Int)) ∧ HasI w' rb gb n (frmI ta L) ∧ Tch [rb, gb] wc w') := by
              have := cut_someI wc rb gb n L ta HS.out.1.has HK.out.2.2.1
              rw [HK.out.2.2.2] at this
              exact this
            have g1 : wc.cell? ⟨A, 1, none⟩ = some (.int .i64 ta) := cell_of_block HS.out.2 1
            go_wp2_with fail
            refine CP.out.mono ?_
            rintro e w5 ⟨rfl, H5, t5⟩
            have FIN : Hid (Sit N W w5 rb gb n (L.drop K) q' c' (L.drop K)) := by
              rw [HK.out.2.1] at H5
              exact HS.out.1.ring HN.out.1 t5 H5 (rises_drop HS.out.1.up K)
            clear H5 t5 HS CP g1
            go_wp2_with fail
            go_meet
            case rel => exact ⟨_, _, L.drop K, by rw [List.length_drop], FIN⟩
        · -- a copy is put to
          have CC := Lib.hid (copyI w3 rb gb n L S3.out.1.has)
          clear f1 f2
          go_upto_region 11 with fail
          clear f0
          go_wp2_with fail
          refine CC.out.mono ?_
          rintro e w5 ⟨r2, rfl, g2, z1, z2, H5, b5⟩
          have S5 : Hid (Sit N W w5 rb gb n L q c L) := S3.out.1.gr HN.out.1 b5
          have CP := Lib.hid (put_all w5 r2 g2 n L H5 S3.out.1.up)
          have HZ : Hid (w3.heap.size ≤ r2 ∧ w3.heap.size ≤ g2) := ⟨z1, z2⟩
          clear z1 z2 H5 b5 CC
          go_wp2_with fail
          refine (CP.out _ _).mono ?_
          rintro e w6 ⟨E6, rfl, L6, H6, up6, t6⟩
          have S6 : Hid (Sit N W w6 rb gb n L q c L) := S5.out.other HN.out.1 S3.out.1 HZ.out t6
          have CQ := Lib.hid (cut_all w6 r2 g2 n L6 H6 up6)
          clear H6 up6 t6 CP
          go_wp2_with fail
          refine (CQ.out _).mono ?_
          rintro e w7 ⟨E7, rfl, L7, H7, up7, t7⟩
          have S7 : Hid (Sit N W w7 rb gb n L q c L) := S6.out.other HN.out.1 S3.out.1 HZ.out t7
          clear H7 up7 t7 CQ
          go_wp2_with fail
          go_meet
          case rel => exact ⟨q, c, L, by rw [HM.out], S7⟩
      case rest =>
        obtain ⟨q5, c5, L5, rfl, HS⟩ := hcut
        have CI := Lib.hid (ris_any N wc rb gb n q5 c5 L5 at_ HS.out.has HS.out.mod HS.out.up)
        clear f0 f1 f2
        go_wp2_with fail
        refine CI.out.mono ?_
        rintro e w5 ⟨rfl, b5⟩
        have S5 : Hid (Sit N W w5 rb gb n L5 q5 c5 L5) := HS.out.gr HN.out.1 b5
        have CJ := Lib.hid (ris_any N w5 rb gb n q5 c5 L5 0 S5.out.has S5.out.mod S5.out.up)
        clear b5 CI HS
        go_wp2_with fail
        refine CJ.out.mono ?_
        rintro e w6 ⟨rfl, b6⟩
        have S6 : Hid (Sit N W w6 rb gb n L5 q5 c5 L5) := S5.out.gr HN.out.1 b6
        clear b6 CJ S5
        go_wp2_with fail
        go_roundg (M - (j + 1))
        case measure => omega
        case rel => exact ⟨j + 1, q5, c5, L5, rfl, by push_cast; rfl, by omega, by omega, S6⟩
    · have low := HR.out.low
      have FIN : Hid (Below W.heap.size W wr) := by show Below _ _ _; rw [HN.out.1]; exact low
      clear low HR S0
      go_wp2
      go_ret
      exact ⟨rfl, FIN.out⟩

theorem walk {H : Type} {enc : TypeId × Value → H} {base : Nat} (W : World) (v0 : Value) (d0 : DataW H) (p0 : List MemPlace) (o0 : Value.okWide Try.prog W .any base 3 v0) (h0 : DataW.Trod enc Try.prog W 0 (fun _ => true) true 3 v0 d0 p0)
    (v1 : Value) (d1 : DataW H) (p1 : List MemPlace) (o1 : Value.okWide Try.prog W .any base 22 v1) (h1 : DataW.Trod enc Try.prog W 0 (fun _ => true) true 22 v1 d1 p1)
    (v2 : Value) (d2 : DataW H) (p2 : List MemPlace) (o2 : Value.okWide Try.prog W .any base 2 v2) (h2 : DataW.Trod enc Try.prog W 0 (fun _ => true) true 2 v2 d2 p2) :
    Calls Try.prog 3 #[v0, v1, v2] W fun e W' => e = .returned (.bool true) ∧ Below W.heap.size W W' := by
  obtain ⟨most, rfl, rfl, rfl, hm⟩ := open_int Try.underlying3 o0 h0
  obtain ⟨q, c, l, rfl, hl⟩ := open_acs o1 h1
  obtain ⟨a, rfl, rfl, rfl, ha⟩ := open_int Try.underlying2 o2 h2
  by_cases hlong : 100 < l.length
  · exact few W most a q l.length c hlong
  · by_cases hodd : most < 1 ∨ 32 < most
    · exact odd W most a q l.length c hlong hodd
    · obtain ⟨n, rfl⟩ : ∃ n : Nat, most = (n : Int) := ⟨most.toNat, by omega⟩
      exact plays W n a q c l hlong (by omega) hl

/-! ### THE ROW's STEP -/
set_option maxRecDepth 100000 in
theorem lifted (os : Os) (started : os.Started) (H : Type) (enc : TypeId × Value → H) :
    ReturnsInHanded {} Try.checked os 3 .any (Rows.ringPlaysSpec.pre6 enc Try.prog Try.f3 Rows.ringPlaysRow.domain false) (Rows.ringPlaysSpec.post enc Try.prog Try.f3 false true false false) := by
  refine returnsInHanded_of_change (C := Try.checked) own started (by kernel_rfl) Try.func3
    (ChangeSpec.witness6 (enc := enc) (C := Try.checked) false ⟨#[], #[.int .i64 0, .slice none 0 0, .int .i64 0], []⟩ 8 (by kernel_rfl) (by kernel_rfl) (by kernel_rfl) (by kernel_rfl)) ?_
  intro W base args ds gs before hval0 hW hcnd _
  have hval : ∀ (j : Nat) t v, Try.f3.params[j]? = some t → args[j]? = some v → Value.okWide Try.prog W .any base t v := hval0
  have hW' := hW
  obtain ⟨p, q, hA0, hV, rfl, hfz, hnd⟩ := hW
  have hA : DataW.TrodAll enc Try.prog W 0 (fun _ => true) true Try.f3.params.toList args.toList ds p := hA0
  have hlt : ∀ x ∈ p, x.block < W.heap.size := fun x hx => hW'.lt x (List.mem_append_left _ hx)
  rw [Try.params3] at hA hval
  have hread : ∀ t ∈ [3, 22, 2], Try.prog.readableRec t = true ∧ t < Try.prog.types.size := by
    intro t ht
    simp only [List.mem_cons, List.not_mem_nil, or_false] at ht
    rcases ht with rfl | rfl | rfl <;> exact ⟨by kernel_rfl, of_decide_eq_true (by kernel_rfl)⟩
  have again : ∀ (W' : World), Below W.heap.size W W' → ∀ sp : Nat → Bool, (∀ x ∈ p, sp x.block = true) → DataW.TrodAll enc Try.prog W' 0 sp true [3, 22, 2] args.toList ds p :=
    fun W' hb sp hsp => all_again (by kernel_rfl) hb [3, 22, 2] args.toList ds p hread hA hlt hsp
  obtain ⟨v0, v1, v2, d0, d1, d2, p0, p1, p2, rfl, rfl, rfl, h0, h1, h2⟩ := trodAll_three hA
  obtain ⟨rfl, rfl⟩ := trodVars_none hV
  clear hA0 hval0
  simp only [List.append_nil] at hW'
  refine (walk W v0 d0 p0 (hval 0 3 v0 rfl rfl) h0 v1 d1 p1 (hval 1 22 v1 rfl rfl) h1 v2 d2 p2 (hval 2 2 v2 rfl rfl) h2).mono fun e W' ⟨he, hg⟩ => ?_
  subst he
  exact ⟨_, rfl, post_below hW' hg (fun _ _ _ => trodAll_mk1 (shut_bool Try.underlying4 _)) (fun sp hsp => again W' hg sp hsp) (fun _ => rfl) (ok_one (by kernel_rfl) rfl (okWide_bool_mk Try.underlying4 _))⟩

theorem over : Rows.ringPlaysRow.holds Try.pinned (OpenSpec.ofChange Rows.ringPlaysSpec) :=
  OpenClaim.holds_of_wide 3 Try.f3 rfl rfl rfl rfl rfl rfl rfl ⟨rfl, rfl, rfl, rfl, rfl⟩ rfl rfl rfl rfl rfl (by kernel_rfl) Try.func3 (by kernel_rfl)
    (of_decide_eq_true (by kernel_rfl)) (by unfold Func.isWrapper; first | (rw [if_pos (by decide +kernel)]; kernel_rfl) | (rw [if_neg (by decide +kernel)]; exact ⟨rfl, rfl⟩))
    (fun os started H enc _ => lifted os started H enc)

/-- The statement. -/
theorem proved : Rows.RingPlaysSaid :=
  over
#print axioms proved
end Go.Proofs.Ythpmdaioekpipaa.ringPlays

