/- Proved here: the law WatchTells of layer 9 holds for every input: whatever is done between, a watch tells all events of its kinds since it was told last, each once, in order; and all objects, if it is asked. No conditions. -/
import Derived.Test.YtbagicilmmkdhaaGreatWtA
namespace Go.Proofs.YtbagicilmmkdhaaGreat.watchTells
open Go.ChangeShapes Go.WideShapes Go.ChangeAt Go.RowKit Go.Lib Go.Shelf Go.Sort Go.Deep
open Go.Joins (cell_of_block unfrozen_of_block block_setCell)
set_option linter.unusedVariables false
set_option linter.unusedSimpArgs false
set_option maxRecDepth 20000

set_option maxHeartbeats 40000000 in
theorem walk_at (W : World) (q0 : Option Addr) (c0 : Nat) (ks : List Int) (K0 : Ints W q0 ks) (q1 : Option Addr) (c1 : Nat) (sl : List Stv) (A1 : Steps W q1 sl) (from_ : Nat) (hfr : from_ < 18446744073709551616) :
    Calls Tryz.prog 4 #[.slice q0 ks.length c0, .slice q1 sl.length c1, .int .u64 (from_ : Int)] W fun e W' => e = .returned (.bool true) ∧ Below W.heap.size W W' := by
  have mixed : Tryz.prog.follows .mixedOrders = true := by kernel_rfl
  have V := Lib.hid watch_lives
  obtain ⟨N, hN⟩ : ∃ N, N = W.heap.size := ⟨_, rfl⟩
  obtain ⟨n0, hn0⟩ : ∃ n, n = ks.length := ⟨_, rfl⟩
  obtain ⟨n1, hn1⟩ : ∃ n, n = sl.length := ⟨_, rfl⟩
  obtain ⟨f, hf⟩ : ∃ f : Nat → Bool, f = fun i : Nat => sees ks (i : Int) := ⟨_, rfl⟩
  obtain ⟨wR, hwR⟩ : ∃ x, x = W.alloc (.cells #[.bool false] 4) := ⟨_, rfl⟩
  have GR : Gr W wR := hwR ▸ (Gr.refl W).alloc _
  have r0 : wR.heap[N]? = some (.cells #[.bool false] 4 (0, 0)) := by rw [hwR, hN]; exact heap_alloc_new W _
  have HWR : Hid (W.alloc (.cells #[.bool false] 4) = wR ∧ W.heap.size = N) := ⟨hwR.symm, hN.symm⟩
  have HH := Lib.hid (And.intro K0 (And.intro A1 (And.intro hn0 (And.intro hn1 (And.intro hf (And.intro GR (And.intro r0 hfr)))))))
  rw [← hn0, ← hn1]
  obtain ⟨b1, hb1⟩ : ∃ b, b = decide (60 < (n1 : Int)) := ⟨_, rfl⟩
  obtain ⟨b2, hb2⟩ : ∃ b, b = decide (8 < (n0 : Int)) := ⟨_, rfl⟩
  have hb1' := hb1.symm
  have hb2' := hb2.symm
  clear K0 A1 hn0 hn1 hf hwR hN GR r0 hfr hb1 hb2
  refine (callsIn_wide (n := 6)).1 ?_
  refine callsIn_of_wp_marks Tryz.func4 rfl trivial ?_ rfl
  simp only [Tryz.ntmps4, List.size_toArray, List.length_cons, List.length_nil, Nat.reduceAdd, Nat.reduceSub, Array.replicate_succ, Array.replicate_zero, List.push_toArray, List.append_toArray, List.nil_append, List.cons_append]
  refine wpIn_wide.2 ?_
  go_upto_region 1 with fail
  rw [HWR.out.1, HWR.out.2]
  go_wp2_with fail
  refine (V.out _).mono ?_
  rintro e w1 ⟨rfl, v1⟩
  have B1 : Hid (Below W.heap.size W w1 ∧ w1.heap[N]? = some (.cells #[.bool false] 4 (0, 0)) ∧ N < w1.heap.size) := by
    obtain ⟨_, _, _, _, _, GR, r0, _⟩ := HH.out
    have hl := (Array.getElem?_eq_some_iff.1 r0).1
    exact ⟨GR.below.trans (v1.mono GR.below.size), (v1.block N hl).trans r0, Nat.lt_of_lt_of_le hl v1.size⟩
  clear v1
  cases b1 with
  | true =>
    go_wp2_with fail
    refine (V.out _).mono ?_
    rintro e w2 ⟨rfl, v2⟩
    have r2 : w2.heap[N]? = some (.cells #[.bool false] 4 (0, 0)) := (v2.block N B1.out.2.2).trans B1.out.2.1
    have rc : w2.cell? ⟨N, 0, none⟩ = some (.bool false) := cell_of_block r2 0
    have rf : w2.frozen? ⟨N, 0, none⟩ = false := unfrozen_of_block r2 0
    obtain ⟨wz, hwz⟩ : ∃ x, x = w2.setCell ⟨N, 0, none⟩ (.bool true) := ⟨_, rfl⟩
    have FIN : Hid (wz.heap[N]? = some (.cells #[.bool true] 4 (0, 0)) ∧ Below W.heap.size W wz) := by
      refine ⟨by rw [hwz, block_setCell r2]; rfl, ?_⟩
      rw [hwz]
      exact (B1.out.1.trans (v2.mono B1.out.1.size)).setCell (by show W.heap.size ≤ N; rw [HWR.out.2]; exact Nat.le_refl _) _
    have hwz' := hwz.symm
    clear v2 r2 hwz
    go_wp2_with fail
    refine leaves_marks (F := Fence.wide) (n := 6) (P := Tryz.prog) (fn := Tryz.f4) [] wz List.Pairwise.nil (fun D hD => by cases hD) (fun w'' c'' => ?_)
    exact ⟨_, results_cellB rfl _ w'' N rfl ((c''.block N (Array.getElem?_eq_some_iff.1 FIN.out.1).1 (by simp)).trans FIN.out.1), rfl, FIN.out.2.trans (c''.below (fun g hg => by cases hg) FIN.out.2.size)⟩
  | false =>
  cases b2 with
  | true =>
    go_wp2_with fail
    refine (V.out _).mono ?_
    rintro e w2 ⟨rfl, v2⟩
    have r2 : w2.heap[N]? = some (.cells #[.bool false] 4 (0, 0)) := (v2.block N B1.out.2.2).trans B1.out.2.1
    have rc : w2.cell? ⟨N, 0, none⟩ = some (.bool false) := cell_of_block r2 0
    have rf : w2.frozen? ⟨N, 0, none⟩ = false := unfrozen_of_block r2 0
    obtain ⟨wz, hwz⟩ : ∃ x, x = w2.setCell ⟨N, 0, none⟩ (.bool true) := ⟨_, rfl⟩
    have FIN : Hid (wz.heap[N]? = some (.cells #[.bool true] 4 (0, 0)) ∧ Below W.heap.size W wz) := by
      refine ⟨by rw [hwz, block_setCell r2]; rfl, ?_⟩
      rw [hwz]
      exact (B1.out.1.trans (v2.mono B1.out.1.size)).setCell (by show W.heap.size ≤ N; rw [HWR.out.2]; exact Nat.le_refl _) _
    have hwz' := hwz.symm
    clear v2 r2 hwz
    go_wp2_with fail
    refine leaves_marks (F := Fence.wide) (n := 6) (P := Tryz.prog) (fn := Tryz.f4) [] wz List.Pairwise.nil (fun D hD => by cases hD) (fun w'' c'' => ?_)
    exact ⟨_, results_cellB rfl _ w'' N rfl ((c''.block N (Array.getElem?_eq_some_iff.1 FIN.out.1).1 (by simp)).trans FIN.out.1), rfl, FIN.out.2.trans (c''.below (fun g hg => by cases hg) FIN.out.2.size)⟩
  | false =>
  have hN1 : n1 ≤ 60 := by have := of_decide_eq_false hb1'; omega
  have CN := Lib.hid (new_any W.heap.size w1 50 (by omega) (by omega) B1.out.1.size)
  go_wp2_with fail
  refine CN.out.mono ?_
  rintro e w2 ⟨⟨S, sp, rfl, st, hS⟩, b2⟩
  have B2 : Hid (Below W.heap.size W w2 ∧ w2.heap[N]? = some (.cells #[.bool false] 4 (0, 0)) ∧ N < w2.heap.size) :=
    ⟨B1.out.1.trans (b2.mono B1.out.1.size), (b2.block N B1.out.2.2).trans B1.out.2.1, Nat.lt_of_lt_of_le B1.out.2.2 b2.size⟩
  have CW : Hid (Calls Tryz.prog 13 #[.pointer (some ⟨sp, 0, none⟩), .slice q0 n0 c0] w2 fun e w' => e = .returned (.pointer (some ⟨w2.heap.size, 0, none⟩)) ∧ w'.heap[w2.heap.size]? = some (.cells (waC sp f 0) WaT (0, 0)) ∧ Below w2.heap.size w2 w') := by
    obtain ⟨K0, _, hn0, _, hf, _⟩ := HH.out
    rw [hn0, hf]
    exact wnew_any W.heap.size w2 S sp 50 [] [] st q0 c0 ks (K0.below B2.out.1)
  obtain ⟨wp, hwp⟩ : ∃ x, x = w2.heap.size := ⟨_, rfl⟩
  have HS := Lib.hid (And.intro st (And.intro hS hwp))
  rw [← hwp] at CW
  clear st hS b2 hwp CN
  go_wp2_with fail
  refine CW.out.mono ?_
  rintro e w3 ⟨rfl, k3, b3⟩
  have B3 : Hid (Below W.heap.size W w3 ∧ w3.heap[N]? = some (.cells #[.bool false] 4 (0, 0)) ∧ Wat W.heap.size w3 S sp wp 50 f 0 [] []) := by
    obtain ⟨st, hS, hwp⟩ := HS.out
    rw [hwp] at b3 k3 ⊢
    refine ⟨B2.out.1.trans (b3.mono B2.out.1.size), (b3.block N B2.out.2.2).trans B2.out.2.1, st.gr b3, k3, fun hm => ?_, B2.out.1.size⟩
    have := (st.prot _ hm).2.1
    omega
  have LN : Hid (N ∉ S ∧ N ≠ wp) := by
    obtain ⟨st, hS, hwp⟩ := HS.out
    exact ⟨fun hm => by have := hS N hm; have := B1.out.2.2; omega, by have := B2.out.2.2; omega⟩
  clear k3 b3 HS CW B1 B2
  go_upto_region 7 with fail
  obtain ⟨I, hI⟩ : ∃ I : Nat → Act → World → Prop, I = fun gg a' w' => ∃ (j pl : Nat) (Ds : List Nat) (u12 u13 u14 u15 u16 u17 u19 u20 u21 u22 u23 u50 u51 u52 u53 u54 u55 u56 u57 u58 u59 u60 u61 u62 u63 u64 u65 u66 u67 u68 u69 u70 u71 u72 u73 u74 u75 u76 u77 u78 u79 u80 u81 u82 u83 u84 u85 u86 u87 u88 u89 u90 u91 u92 u93 u94 u95 u96 u97 u98 u99 u100 u101 u102 u103 u104 u105 u106 u107 u108 u109 u110 u111 u112 u113 u114 u115 u116 u117 u118 u119 u120 u121 u122 u123 u124 u125 u126 u127 u128 u129 u130 u131 u132 u133 u134 u135 u136 u137 u138 u139 u140 u141 u142 u143 u144 u145 u146 u147 u148 u149 u150 u151 u152 u153 u154 u155 u156 u157 u158 u159 u160 u161 u162 u163 u164 u165 u166 : Value), a' = { tmps := List.toArray (Value.slice q0 n0 c0 :: Value.slice q1 n1 c1 :: Value.int .u64 (from_ : Int) :: undef :: undef :: undef :: Value.pointer (some ⟨N, 0, none⟩) :: Value.pointer (some ⟨sp, 0, none⟩) :: Value.int .i64 0 :: Value.pointer (some ⟨wp, 0, none⟩) :: Value.int .u64 (pl : Int) :: undef :: u12 :: u13 :: u14 :: u15 :: u16 :: u17 :: undef :: u19 :: u20 :: u21 :: u22 :: u23 :: undef :: undef :: undef :: Value.bool true :: Value.bool false :: Value.bool false :: Value.slice q1 n1 c1 :: Value.int .i64 (n1 : Int) :: Value.bool false :: Value.bool false :: Value.bool false :: Value.slice q0 n0 c0 :: Value.int .i64 (n0 : Int) :: Value.bool false :: Value.bool false :: undef :: Value.tuple #[.pointer (some ⟨sp, 0, none⟩), .int .i64 0] :: Value.tuple #[.pointer (some ⟨sp, 0, none⟩), .int .i64 0] :: Value.pointer (some ⟨sp, 0, none⟩) :: Value.int .i64 0 :: Value.pointer (some ⟨sp, 0, none⟩) :: Value.slice q0 n0 c0 :: Value.pointer (some ⟨wp, 0, none⟩) :: Value.slice q1 n1 c1 :: Value.int .i64 (n1 : Int) :: Value.int .i64 (j : Int) :: u50 :: u51 :: u52 :: u53 :: u54 :: u55 :: u56 :: u57 :: u58 :: u59 :: u60 :: u61 :: u62 :: u63 :: u64 :: u65 :: u66 :: u67 :: u68 :: u69 :: u70 :: u71 :: u72 :: u73 :: u74 :: u75 :: u76 :: u77 :: u78 :: u79 :: u80 :: u81 :: u82 :: u83 :: u84 :: u85 :: u86 :: u87 :: u88 :: u89 :: u90 :: u91 :: u92 :: u93 :: u94 :: u95 :: u96 :: u97 :: u98 :: u99 :: u100 :: u101 :: u102 :: u103 :: u104 :: u105 :: u106 :: u107 :: u108 :: u109 :: u110 :: u111 :: u112 :: u113 :: u114 :: u115 :: u116 :: u117 :: u118 :: u119 :: u120 :: u121 :: u122 :: u123 :: u124 :: u125 :: u126 :: u127 :: u128 :: u129 :: u130 :: u131 :: u132 :: u133 :: u134 :: u135 :: u136 :: u137 :: u138 :: u139 :: u140 :: u141 :: u142 :: u143 :: u144 :: u145 :: u146 :: u147 :: u148 :: u149 :: u150 :: u151 :: u152 :: u153 :: u154 :: u155 :: u156 :: u157 :: u158 :: u159 :: u160 :: u161 :: u162 :: u163 :: u164 :: u165 :: u166 :: undef :: undef :: undef :: undef :: undef :: undef :: undef :: undef :: undef :: undef :: undef :: undef :: undef :: undef :: undef :: undef :: undef :: undef :: undef :: undef :: undef :: undef :: undef :: undef :: undef :: undef :: undef :: undef :: undef :: []), defers := Ds.map mark } ∧ j ≤ n1 ∧ n1 - j ≤ gg ∧ Hid (∃ S l hist, LedAt N sp wp f W w' S l hist j pl Ds) := ⟨_, rfl⟩
  refine wp_loop_ghost_k I n1 ?_ ?_
  · rw [hI]
    refine ⟨0, 0, [], ?_⟩
    repeat apply Exists.intro
    refine ⟨rfl, ?_⟩
    exact ⟨by omega, by omega, S, [], [], by obtain ⟨h1, h2, h3⟩ := B3.out; rw [HWR.out.2] at h1 h3; exact ⟨h3, Nat.le_refl _, ⟨Nat.le_refl _, Nat.le_refl _⟩, fun e he => (nomatch he), ⟨_, h2⟩, LN.out, h1, List.Pairwise.nil, fun D hD => (nomatch hD)⟩⟩
  have HI := Lib.hid hI
  intro gk a' wr hrel J K hJ hK
  rw [hI] at hrel
  clear hI B3 LN
  obtain ⟨j, pl, Ds, hrel⟩ := hrel
  obtain ⟨u12, hrel⟩ := hrel
  obtain ⟨u13, hrel⟩ := hrel
  obtain ⟨u14, hrel⟩ := hrel
  obtain ⟨u15, hrel⟩ := hrel
  obtain ⟨u16, hrel⟩ := hrel
  obtain ⟨u17, hrel⟩ := hrel
  obtain ⟨u19, hrel⟩ := hrel
  obtain ⟨u20, hrel⟩ := hrel
  obtain ⟨u21, hrel⟩ := hrel
  obtain ⟨u22, hrel⟩ := hrel
  obtain ⟨u23, hrel⟩ := hrel
  obtain ⟨u50, hrel⟩ := hrel
  obtain ⟨u51, hrel⟩ := hrel
  obtain ⟨u52, hrel⟩ := hrel
  obtain ⟨u53, hrel⟩ := hrel
  obtain ⟨u54, hrel⟩ := hrel
  obtain ⟨u55, hrel⟩ := hrel
  obtain ⟨u56, hrel⟩ := hrel
  obtain ⟨u57, hrel⟩ := hrel
  obtain ⟨u58, hrel⟩ := hrel
  obtain ⟨u59, hrel⟩ := hrel
  obtain ⟨u60, hrel⟩ := hrel
  obtain ⟨u61, hrel⟩ := hrel
  obtain ⟨u62, hrel⟩ := hrel
  obtain ⟨u63, hrel⟩ := hrel
  obtain ⟨u64, hrel⟩ := hrel
  obtain ⟨u65, hrel⟩ := hrel
  obtain ⟨u66, hrel⟩ := hrel
  obtain ⟨u67, hrel⟩ := hrel
  obtain ⟨u68, hrel⟩ := hrel
  obtain ⟨u69, hrel⟩ := hrel
  obtain ⟨u70, hrel⟩ := hrel
  obtain ⟨u71, hrel⟩ := hrel
  obtain ⟨u72, hrel⟩ := hrel
  obtain ⟨u73, hrel⟩ := hrel
  obtain ⟨u74, hrel⟩ := hrel
  obtain ⟨u75, hrel⟩ := hrel
  obtain ⟨u76, hrel⟩ := hrel
  obtain ⟨u77, hrel⟩ := hrel
  obtain ⟨u78, hrel⟩ := hrel
  obtain ⟨u79, hrel⟩ := hrel
  obtain ⟨u80, hrel⟩ := hrel
  obtain ⟨u81, hrel⟩ := hrel
  obtain ⟨u82, hrel⟩ := hrel
  obtain ⟨u83, hrel⟩ := hrel
  obtain ⟨u84, hrel⟩ := hrel
  obtain ⟨u85, hrel⟩ := hrel
  obtain ⟨u86, hrel⟩ := hrel
  obtain ⟨u87, hrel⟩ := hrel
  obtain ⟨u88, hrel⟩ := hrel
  obtain ⟨u89, hrel⟩ := hrel
  obtain ⟨u90, hrel⟩ := hrel
  obtain ⟨u91, hrel⟩ := hrel
  obtain ⟨u92, hrel⟩ := hrel
  obtain ⟨u93, hrel⟩ := hrel
  obtain ⟨u94, hrel⟩ := hrel
  obtain ⟨u95, hrel⟩ := hrel
  obtain ⟨u96, hrel⟩ := hrel
  obtain ⟨u97, hrel⟩ := hrel
  obtain ⟨u98, hrel⟩ := hrel
  obtain ⟨u99, hrel⟩ := hrel
  obtain ⟨u100, hrel⟩ := hrel
  obtain ⟨u101, hrel⟩ := hrel
  obtain ⟨u102, hrel⟩ := hrel
  obtain ⟨u103, hrel⟩ := hrel
  obtain ⟨u104, hrel⟩ := hrel
  obtain ⟨u105, hrel⟩ := hrel
  obtain ⟨u106, hrel⟩ := hrel
  obtain ⟨u107, hrel⟩ := hrel
  obtain ⟨u108, hrel⟩ := hrel
  obtain ⟨u109, hrel⟩ := hrel
  obtain ⟨u110, hrel⟩ := hrel
  obtain ⟨u111, hrel⟩ := hrel
  obtain ⟨u112, hrel⟩ := hrel
  obtain ⟨u113, hrel⟩ := hrel
  obtain ⟨u114, hrel⟩ := hrel
  obtain ⟨u115, hrel⟩ := hrel
  obtain ⟨u116, hrel⟩ := hrel
  obtain ⟨u117, hrel⟩ := hrel
  obtain ⟨u118, hrel⟩ := hrel
  obtain ⟨u119, hrel⟩ := hrel
  obtain ⟨u120, hrel⟩ := hrel
  obtain ⟨u121, hrel⟩ := hrel
  obtain ⟨u122, hrel⟩ := hrel
  obtain ⟨u123, hrel⟩ := hrel
  obtain ⟨u124, hrel⟩ := hrel
  obtain ⟨u125, hrel⟩ := hrel
  obtain ⟨u126, hrel⟩ := hrel
  obtain ⟨u127, hrel⟩ := hrel
  obtain ⟨u128, hrel⟩ := hrel
  obtain ⟨u129, hrel⟩ := hrel
  obtain ⟨u130, hrel⟩ := hrel
  obtain ⟨u131, hrel⟩ := hrel
  obtain ⟨u132, hrel⟩ := hrel
  obtain ⟨u133, hrel⟩ := hrel
  obtain ⟨u134, hrel⟩ := hrel
  obtain ⟨u135, hrel⟩ := hrel
  obtain ⟨u136, hrel⟩ := hrel
  obtain ⟨u137, hrel⟩ := hrel
  obtain ⟨u138, hrel⟩ := hrel
  obtain ⟨u139, hrel⟩ := hrel
  obtain ⟨u140, hrel⟩ := hrel
  obtain ⟨u141, hrel⟩ := hrel
  obtain ⟨u142, hrel⟩ := hrel
  obtain ⟨u143, hrel⟩ := hrel
  obtain ⟨u144, hrel⟩ := hrel
  obtain ⟨u145, hrel⟩ := hrel
  obtain ⟨u146, hrel⟩ := hrel
  obtain ⟨u147, hrel⟩ := hrel
  obtain ⟨u148, hrel⟩ := hrel
  obtain ⟨u149, hrel⟩ := hrel
  obtain ⟨u150, hrel⟩ := hrel
  obtain ⟨u151, hrel⟩ := hrel
  obtain ⟨u152, hrel⟩ := hrel
  obtain ⟨u153, hrel⟩ := hrel
  obtain ⟨u154, hrel⟩ := hrel
  obtain ⟨u155, hrel⟩ := hrel
  obtain ⟨u156, hrel⟩ := hrel
  obtain ⟨u157, hrel⟩ := hrel
  obtain ⟨u158, hrel⟩ := hrel
  obtain ⟨u159, hrel⟩ := hrel
  obtain ⟨u160, hrel⟩ := hrel
  obtain ⟨u161, hrel⟩ := hrel
  obtain ⟨u162, hrel⟩ := hrel
  obtain ⟨u163, hrel⟩ := hrel
  obtain ⟨u164, hrel⟩ := hrel
  obtain ⟨u165, hrel⟩ := hrel
  obtain ⟨u166, hrel⟩ := hrel
  obtain ⟨rfl, hj1, hj2, HR⟩ := hrel
  by_cases hj : j < n1
  · obtain ⟨S, l, hist, L⟩ := HR.out
    obtain ⟨-, A1, -, hn1, -, -, -, -⟩ := HH.out
    obtain ⟨x, b, off, hx, rfl, hok, LD0⟩ := A1.at (by omega : j < sl.length)
    have hNw := HWR.out.2
    have LD := Lib.hid (LD0 wr (by rw [hNw]; exact L.low))
    obtain ⟨X, hX⟩ : ∃ X, X = cellsSt x := ⟨_, rfl⟩
    rw [← hX] at LD
    have hXs : X.size = 50 := by rw [hX]; exact sizeSt x
    obtain ⟨th, n0_, b3⟩ := stp_new wr X hXs
    obtain ⟨w3, hw3⟩ : ∃ W, W = (wr.alloc (.cells zerSt StpT)).setCells wr.heap.size 0 X.toList := ⟨_, rfl⟩
    obtain ⟨A, hA⟩ : ∃ A, A = wr.heap.size := ⟨_, rfl⟩
    rw [← hw3] at n0_ b3
    rw [← hA, hX] at n0_
    have L3 := L.gr b3
    have TH := Lib.hid th
    have IN : Hid ((Tryz.prog.info? StpT).map (·.size) = some X.size) := by show _ = _; rw [hXs]; exact info_stp
    have ON : Hid (X.all (·.oneCell') = true) := by show _ = _; rw [hX]; exact oneSt x
    have HW3 : Hid ((wr.alloc (.cells zerSt StpT)).setCells wr.heap.size 0 X.toList = w3 ∧ wr.heap.size = A) := ⟨hw3.symm, hA.symm⟩
    have ok3 := hok.below (by rw [hNw]; exact L3.low)
    obtain ⟨k0, ra, ro, q2⟩ := stp_facts n0_
    have LB := Lib.hid (load_at47 (c := x.2.2.1) ro)
    have hfit := ok3.1.2.2
    have CF := Lib.hid (few_any w3 x.2.2.1.1 x.2.2.2.2 ok3.1.1 ok3.1.2.2)
    have q2 : w3.cell? ⟨A, 3, none⟩ = some (.string x.2.2.2.2.name) := q2.trans ok3.1.1.2.1.2.1
    obtain ⟨nm, hnm⟩ : ∃ s, s = x.2.2.2.2.name := ⟨_, rfl⟩
    obtain ⟨fb, hfb⟩ : ∃ b, b = fewB x.2.2.2.2 := ⟨_, rfl⟩
    obtain ⟨cs, hcs⟩ : ∃ c, c = x.2.2.1.1 := ⟨_, rfl⟩
    obtain ⟨kd, hkd⟩ : ∃ c, c = x.1 := ⟨_, rfl⟩
    rw [← hnm] at q2
    rw [← hfb, ← hcs] at CF
    rw [← hcs] at LB
    rw [← hkd] at k0
    have HX := Lib.hid (And.intro L3 (And.intro n0_ (And.intro hok (And.intro hnm (And.intro hfb (And.intro hcs (And.intro hkd hA)))))))
    have HA4 : Hid ((∀ g ∈ S, g < A) ∧ wp < A ∧ N < A ∧ ∀ D ∈ Ds, D < A) := by
      obtain ⟨rb, hrb⟩ := L.res
      rw [hA]
      exact ⟨fun g hg => (L.wat.st.prot g hg).2.1, (Array.getElem?_eq_some_iff.1 L.wat.blk).1, (Array.getElem?_eq_some_iff.1 hrb).1, fun D hD => (Array.getElem?_eq_some_iff.1 (L.mks D hD).2.2.2).1⟩
    clear L A1 hn1 hx hok LD0 hNw hX hXs th n0_ b3 hw3 hA L3 ok3 ra ro hfit hnm hfb hcs hkd HR
    go_upto_region 9 with (first | (refine wpList_load_by (by kernel_rfl) StpT _ rfl (.pointer (some ⟨b, off + j * 50, none⟩)) (.agg X) (by rfl) LD.out ?_) | (refine wpList_store_mid rfl _ _ _ rfl wr.heap.size 0 X (by rfl) (by rfl) TH.out IN.out ON.out ?_; rw [HW3.out.1, HW3.out.2]))
    go_wp2_with (refine wpList_load_by (by kernel_rfl) OT _ rfl (.pointer (some ⟨A, 2, none⟩)) (.agg cs) (by kernel_rfl) LB.out ?_)
    refine CF.out.mono ?_
    rintro e w4 ⟨rfl, g4⟩
    have q4 : w4.cell? ⟨A, 3, none⟩ = some (.string nm) := g4.cell q2
    have k4 : w4.cell? ⟨A, 0, none⟩ = some (.int .i64 kd) := g4.cell k0
    have HG4 := Lib.hid g4
    clear g4 q2 k0 LD TH IN ON HW3 LB CF
    cases fb with
    | false =>
      obtain ⟨rb, hrb⟩ := (HX.out.1.gr HG4.out.below).res
      have rc : w4.cell? ⟨N, 0, none⟩ = some (.bool rb) := cell_of_block hrb 0
      have rf : w4.frozen? ⟨N, 0, none⟩ = false := unfrozen_of_block hrb 0
      obtain ⟨wz, hwz⟩ : ∃ x, x = w4.setCell ⟨N, 0, none⟩ (.bool true) := ⟨_, rfl⟩
      have hwz' := hwz.symm
      have FIN : Hid (wz.heap[N]? = some (.cells #[.bool true] 4 (0, 0)) ∧ Below W.heap.size W wz ∧ Ds.Pairwise (· ≠ ·) ∧ ∀ D ∈ Ds, N < D ∧ wz.heap[D]? = some (.deferred (some []))) := by
        have L4 := HX.out.1.gr HG4.out.below
        refine ⟨by rw [hwz, block_setCell hrb]; rfl, ?_, L4.ap, fun D hD => ?_⟩
        · rw [hwz, HWR.out.2]
          exact L4.low.setCell (Nat.le_refl _) _
        · obtain ⟨h1, _, _, h4⟩ := L4.mks D hD
          exact ⟨h1, by rw [hwz, Below.heap_setCell _ _ _ _ (by show D ≠ N; omega)]; exact h4⟩
      clear hrb hwz
      go_wp2_with fail
      refine leaves_marks (F := Fence.wide) (n := 6) (P := Tryz.prog) (fn := Tryz.f4) Ds wz FIN.out.2.2.1 (fun D hD => (FIN.out.2.2.2 D hD).2) (fun w'' c'' => ?_)
      exact ⟨_, results_cellB rfl _ w'' N rfl ((c''.block N (Array.getElem?_eq_some_iff.1 FIN.out.1).1 (fun hm => by have := (FIN.out.2.2.2 N hm).1; omega)).trans FIN.out.1), rfl, FIN.out.2.1.trans (c''.below (fun g hg => by have := (FIN.out.2.2.2 g hg).1; rw [HWR.out.2]; omega) FIN.out.2.1.size)⟩
    | true =>
    by_cases hlong : 100 < nm.size
    · have t0 : decide (100 < (nm.size : Int)) = true := decide_eq_true (by omega)
      clear hlong
      obtain ⟨rb, hrb⟩ := (HX.out.1.gr HG4.out.below).res
      have rc : w4.cell? ⟨N, 0, none⟩ = some (.bool rb) := cell_of_block hrb 0
      have rf : w4.frozen? ⟨N, 0, none⟩ = false := unfrozen_of_block hrb 0
      obtain ⟨wz, hwz⟩ : ∃ x, x = w4.setCell ⟨N, 0, none⟩ (.bool true) := ⟨_, rfl⟩
      have hwz' := hwz.symm
      have FIN : Hid (wz.heap[N]? = some (.cells #[.bool true] 4 (0, 0)) ∧ Below W.heap.size W wz ∧ Ds.Pairwise (· ≠ ·) ∧ ∀ D ∈ Ds, N < D ∧ wz.heap[D]? = some (.deferred (some []))) := by
        have L4 := HX.out.1.gr HG4.out.below
        refine ⟨by rw [hwz, block_setCell hrb]; rfl, ?_, L4.ap, fun D hD => ?_⟩
        · rw [hwz, HWR.out.2]
          exact L4.low.setCell (Nat.le_refl _) _
        · obtain ⟨h1, _, _, h4⟩ := L4.mks D hD
          exact ⟨h1, by rw [hwz, Below.heap_setCell _ _ _ _ (by show D ≠ N; omega)]; exact h4⟩
      clear hrb hwz
      go_wp2_with fail
      refine leaves_marks (F := Fence.wide) (n := 6) (P := Tryz.prog) (fn := Tryz.f4) Ds wz FIN.out.2.2.1 (fun D hD => (FIN.out.2.2.2 D hD).2) (fun w'' c'' => ?_)
      exact ⟨_, results_cellB rfl _ w'' N rfl ((c''.block N (Array.getElem?_eq_some_iff.1 FIN.out.1).1 (fun hm => by have := (FIN.out.2.2.2 N hm).1; omega)).trans FIN.out.1), rfl, FIN.out.2.1.trans (c''.below (fun g hg => by have := (FIN.out.2.2.2 g hg).1; rw [HWR.out.2]; omega) FIN.out.2.1.size)⟩
    have t0 : decide (100 < (nm.size : Int)) = false := decide_eq_false (by omega)
    clear hlong
    go_upto_region 13 with fail
    have H4 : Hid (LedAt N sp wp f W w4 S l hist j pl Ds ∧ w4.heap[A]? = some (.cells (cellsSt x) StpT (0, 0)) ∧ okS W x ∧ fewB x.2.2.2.2 = true ∧ kd = x.1 ∧ (∀ g ∈ S, g < A) ∧ wp < A ∧ N < A ∧ ∀ D ∈ Ds, D < A) := by
      obtain ⟨L3, n0_, hok, hnm, hfb, hcs, hkd, hA⟩ := HX.out
      have g4 := HG4.out
      refine ⟨L3.gr g4.below, (g4.heap (Array.getElem?_eq_some_iff.1 n0_).1).trans n0_, hok, hfb.symm, hkd, HA4.out⟩
    clear HX HG4 q4 t0
    by_cases hk1 : kd = 1
    · have t1 : (kd == 1) = true := by rw [hk1]; rfl
      obtain ⟨L4, -, -, -, -, hSA⟩ := H4.out
      obtain ⟨d, hd⟩ : ∃ d, d = hist.drop pl := ⟨_, rfl⟩
      have CN := Lib.hid (next_any N w4 S sp wp 50 f pl l hist L4.wat L4.kd (by have := L4.few.1; omega) L4.pl_)
      rw [← hd] at CN
      obtain ⟨v, hv⟩ : ∃ v, v = hist.length := ⟨_, rfl⟩
      obtain ⟨m, hm⟩ : ∃ m, m = (d.filter (keeps f)).length := ⟨_, rfl⟩
      rw [← hm, ← hv] at CN
      have hbN : N ≤ w4.heap.size := L4.low.size |> fun h => by have := HWR.out.2; omega
      have H5 := Lib.hid (And.intro L4 (And.intro hd (And.intro hv (And.intro hm hbN))))
      clear L4 hd hv hm hbN hk1 hSA H4 k4
      go_wp2_with fail
      refine CN.out.mono ?_
      rintro e w5 ⟨⟨q2, c2, rfl, own5⟩, C5, k5⟩
      obtain ⟨L4, hd, hv, hm, hbN⟩ := H5.out
      have L5 := L4.turn C5 (p := v) k5 (by omega)
      have CS := Lib.hid (since_any N w5 S sp 50 l hist pl L5.wat.st (by have := L4.few.1; omega) L4.pl_ (by have := L4.few.1; omega))
      rw [← hd] at CS
      obtain ⟨n3, hn3⟩ : ∃ n, n = d.length := ⟨_, rfl⟩
      rw [← hn3] at CS
      have H6 := Lib.hid (And.intro L5 (And.intro own5 (And.intro hd (And.intro hv (And.intro hm (And.intro hn3 L4.kd))))))
      clear L4 L5 own5 C5 k5 hd hv hm hn3 hbN CN
      go_wp2_with fail
      refine CS.out.mono ?_
      rintro e w6 ⟨⟨u6, rfl, own6⟩, b6⟩
      obtain ⟨q3, c3, rfl⟩ := own_slice own6
      obtain ⟨L5, own5, hd, hv, hm, hn3, hkd⟩ := H6.out
      have L6 := L5.gr b6
      have CNw := Lib.hid (now_any N w6 S sp 50 l hist L6.wat.st)
      rw [← hv] at CNw
      have E3 : Evs w6 q3 d := evs_own (by rw [← hn3]; exact own6)
      have E2 : Evs w6 q2 (d.filter (keeps f)) := evs_own (by rw [← hm]; exact own_block own5 (fun g hg => b6.block g (World.ownsRow.lt own5 g hg).2))
      have hkd' : ∀ e ∈ d, KdOk e := fun e he => hkd e (by rw [hd] at he; exact List.mem_of_mem_drop he)
      have hd60 : d.length ≤ 60 := by rw [hd, List.length_drop]; have := L5.few.1; omega
      have hmn : m ≤ n3 := by rw [hm, hn3]; exact List.length_filter_le _ _
      have H7 := Lib.hid (And.intro L6 (And.intro E3 (And.intro E2 (And.intro hkd' (And.intro hm (And.intro hn3 (And.intro hd60 hmn)))))))
      have hn60 : n3 ≤ 60 := by omega
      clear L5 L6 own5 own6 b6 hd hv hm hn3 hkd E3 E2 hkd' hd60 hmn CS H6 H5
      go_wp2_with fail
      refine CNw.out.mono ?_
      rintro e w' ⟨rfl, hw'⟩
      have hw2 := hw'.symm
      subst hw2
      clear hw' CNw
      go_wp2_with fail
      go_loopg [89, 17] n3 (fun gg vi vk wr => ∃ i k : Nat, vi = .int .i64 (i : Int) ∧ vk = .int .i64 (k : Int) ∧ i ≤ n3 ∧ n3 - i ≤ gg ∧ Hid (k = ((d.take i).filter (keeps f)).length ∧ Below w6.heap.size w6 wr))
      case atStart => exact ⟨0, 0, rfl, rfl, by omega, by omega, rfl, Below.refl _ _⟩
      case round =>
        obtain ⟨i, k, rfl, rfl, hi1, hi2, HI2⟩ := hrel
        by_cases hi : i < n3
        · obtain ⟨L6, E3, E2, hkd', hm, hn3, hd60, hmn⟩ := H7.out
          obtain ⟨hk, bw⟩ := HI2.out
          obtain ⟨e, he⟩ : ∃ e, d[i]? = some e := ⟨d[i]'(by omega), List.getElem?_eq_getElem (by omega)⟩
          have Er := E3.below bw
          obtain ⟨g3, rfl, hg3, hc3⟩ := Er i e he
          obtain ⟨kn, hkn, hk5⟩ := hkd' e (List.mem_of_getElem? he)
          obtain ⟨y, hy⟩ : ∃ y, y = keeps f e := ⟨_, rfl⟩
          obtain ⟨wa, ek, ne, ve⟩ := e
          simp only at hkn
          subst hkn
          have k0 := hc3 0 _ rfl
          have k1 := hc3 1 _ rfl
          have k2 := hc3 2 _ rfl
          have k3 := hc3 3 _ rfl
          rw [Nat.add_zero] at k0
          obtain ⟨B, hB⟩ : ∃ B, B = wr.heap.size := ⟨_, rfl⟩
          obtain ⟨wb, hwb⟩ : ∃ x, x = wr.alloc (.cells #[.int .i64 wa, .int .i64 (kn : Int), .string ne, .int .u64 (ve : Int)] ET) := ⟨_, rfl⟩
          have Gb : Gr wr wb := hwb ▸ (Gr.refl wr).alloc _
          have e0 : wb.heap[B]? = some (.cells #[.int .i64 wa, .int .i64 (kn : Int), .string ne, .int .u64 (ve : Int)] ET (0, 0)) := by rw [hwb, hB]; exact heap_alloc_new _ _
          have d1 := cell_of_block e0 1
          have bwb : Below w6.heap.size w6 wb := bw.trans (Gb.below.mono bw.size)
          have CI : Hid (Calls Tryz.prog 17 #[.slice q0 n0 c0, .int .i64 (kn : Int)] wb fun e w' => e = .returned (.bool y) ∧ w' = wb) := by
            obtain ⟨K0, -, hn0, -, hf, -⟩ := HH.out
            have hyk : y = sees ks (kn : Int) := by rw [hy, hf]; rfl
            rw [hn0, hyk]
            exact in_any wb q0 c0 ks (K0.below ((L6.gr bwb).low |> fun h => by rw [HWR.out.2]; exact h)) _
          have HWB : Hid (wr.alloc (.cells #[.int .i64 wa, .int .i64 (kn : Int), .string ne, .int .u64 (ve : Int)] ET) = wb ∧ wr.heap.size = B) := ⟨hwb.symm, hB.symm⟩
          have ef := filter_next (keeps f) he
          have HE := Lib.hid (And.intro hk (And.intro bwb (And.intro he (And.intro hy (And.intro ef (And.intro e0 (E2.below bwb)))))))
          clear L6 E3 E2 hkd' hm hn3 hd60 hmn hk bw he Er hg3 hc3 hy hB hwb Gb e0 bwb ef HI2
          go_upto_region 21 with fail
          rw [HWB.out.1, HWB.out.2]
          go_wp2_with fail
          refine CI.out.mono ?_
          rintro e w' ⟨rfl, hw'⟩
          have hw2 := hw'.symm
          subst hw2
          cases y with
          | false =>
            have NX : Hid (k = ((d.take (i + 1)).filter (keeps f)).length ∧ Below w6.heap.size w6 wb) := by
              obtain ⟨hk, bwb, he, hy, ef, _⟩ := HE.out
              rw [ef, ← hy]
              exact ⟨by rw [hk]; simp, bwb⟩
            clear HE CI
            go_wp2_with fail
            go_roundg (n3 - (i + 1))
            case measure => omega
            case rel => exact ⟨i + 1, k, by push_cast; rfl, rfl, by omega, by omega, NX.out⟩
          | true =>
            obtain ⟨hk, bwb, he, hy, ef, e0, E2⟩ := HE.out
            obtain ⟨-, -, -, -, hm, hn3, hd60, hmn⟩ := H7.out
            have hfk : (d.filter (keeps f))[k]? = some ⟨wa, (kn : Int), ne, ve⟩ := by rw [hk]; exact filter_at (keeps f) he hy.symm
            have hkm : k < m := by rw [hm]; exact (List.getElem?_eq_some_iff.1 hfk).1
            obtain ⟨g2, rfl, hg2, hc2⟩ := E2 k _ hfk
            have tk : decide ((m : Int) ≤ (k : Int)) = false := decide_eq_false (by omega)
            have NX : Hid (k + 1 = ((d.take (i + 1)).filter (keeps f)).length ∧ Below w6.heap.size w6 wb.drew) := by
              rw [ef, ← hy, if_pos rfl, List.length_append, ← hk]
              exact ⟨rfl, bwb.trans (((Gr.refl wb).drewN 1).below.mono bwb.size)⟩
            have KG : Hid (∀ ws : World, Below wb.heap.size wb ws → ws.rangeAt g2 (k * 4) [.int .i64 wa, .int .i64 (kn : Int), .string ne, .int .u64 (ve : Int)]) := fun ws b t u hu => (World.cell?_of_block (b.block g2 hg2)).trans (hc2 t u hu)
            have KA : Hid (∀ ws : World, Below wb.heap.size wb ws → ws.rangeAt B 0 [.int .i64 wa, .int .i64 (kn : Int), .string ne, .int .u64 (ve : Int)]) := fun ws b => rangeAt_block (cs := #[.int .i64 wa, .int .i64 (kn : Int), .string ne, .int .u64 (ve : Int)]) ((b.block B (Array.getElem?_eq_some_iff.1 e0).1).trans e0)
            have KN : Hid (∀ ws : World, Below wb.heap.size wb ws → (binOp .neq ET (.agg #[.int .i64 wa, .int .i64 (kn : Int), .string ne, .int .u64 (ve : Int)]) (.agg #[.int .i64 wa, .int .i64 (kn : Int), .string ne, .int .u64 (ve : Int)])).run Tryz.prog ws = .ok (.bool false) ws) := fun ws b => neq_ev ⟨wa, (kn : Int), ne, ve⟩ ws
            have KM : Hid (∀ ws : World, Below wb.heap.size wb ws → k < m ∧ m ≤ 1000000) := fun ws b => ⟨hkm, by omega⟩
            have hET : (Tryz.prog.info? ET).map (·.size) = some ([.int .i64 wa, .int .i64 (kn : Int), .string ne, .int .u64 (ve : Int)] : List Value).length := by kernel_rfl
            have uET := Tryz.underlying65
            have GD : Hid (Below wb.heap.size wb wb.drew) := ((Gr.refl wb).drewN 1).below
            have hkb : k < 60 := by omega
            clear hk bwb he hy ef e0 E2 hm hn3 hd60 hmn hfk hkm hg2 hc2 HE CI
            go_upto_region 22 with fail
            refine wp_calm ?_
            refine wp_region_held_drew (S := fun ws => Below wb.heap.size wb ws) mixed GD.out (fun hS => ?_)
            refine wpAnyH_takeD (i := 0) (d := 98) (v := .int .i64 (k : Int)) _ rfl rfl (by kernel_rfl) (by kernel_rfl) (by kernel_rfl) (fun _ _ _ h => h) (Or.inl ⟨by kernel_rfl, fun ws hSw => by first | (go_simp; done) | (go_simp; with_reducible rfl) | (go_simp; rfl)⟩) hS ?_
            simp only [Act.put, List.setIfInBounds_toArray, List.set_cons_zero, List.set_cons_succ]
            refine wpAnyH_takeD (i := 1) (d := 99) (v := .slice (some ⟨g2, 0, none⟩) m c2) _ rfl rfl (by kernel_rfl) (by kernel_rfl) (by kernel_rfl) (fun _ _ _ h => h) (Or.inl ⟨by kernel_rfl, fun ws hSw => by first | (go_simp; done) | (go_simp; with_reducible rfl) | (go_simp; rfl)⟩) hS ?_
            simp only [Act.put, List.setIfInBounds_toArray, List.set_cons_zero, List.set_cons_succ]
            refine wpAnyH_takeD (i := 2) (d := 100) (v := .int .i64 (m : Int)) _ rfl rfl (by kernel_rfl) (by kernel_rfl) (by kernel_rfl) (fun _ _ _ h => h) (Or.inl ⟨by kernel_rfl, fun ws hSw => by first | (go_simp; done) | (go_simp; with_reducible rfl) | (go_simp; rfl)⟩) hS ?_
            simp only [Act.put, List.setIfInBounds_toArray, List.set_cons_zero, List.set_cons_succ]
            refine wpAnyH_takeD (i := 3) (d := 101) (v := .bool false) _ rfl rfl (by kernel_rfl) (by kernel_rfl) (by kernel_rfl) (fun _ _ _ h => h) (Or.inl ⟨by kernel_rfl, fun ws hSw => by have q := KM.out ws hSw; first | (go_simp; done) | (go_simp; with_reducible rfl) | (go_simp; rfl) | (go_simp; intro hlt; exfalso; omega) | (go_simp; omega)⟩) hS ?_
            simp only [Act.put, List.setIfInBounds_toArray, List.set_cons_zero, List.set_cons_succ]
            refine wpAnyH_takeD (i := 4) (d := 102) (v := .bool false) _ rfl rfl (by kernel_rfl) (by kernel_rfl) (by kernel_rfl) (fun _ _ _ h => h) (Or.inl ⟨by kernel_rfl, fun ws hSw => by first | (go_simp; done) | (go_simp; with_reducible rfl) | (go_simp; rfl)⟩) hS ?_
            simp only [Act.put, List.setIfInBounds_toArray, List.set_cons_zero, List.set_cons_succ]
            refine wpAnyH_takeD (i := 5) (d := 103) (v := .slice (some ⟨g2, 0, none⟩) m c2) _ rfl rfl (by kernel_rfl) (by kernel_rfl) (by kernel_rfl) (fun _ _ _ h => h) (Or.inl ⟨by kernel_rfl, fun ws hSw => by first | (go_simp; done) | (go_simp; with_reducible rfl) | (go_simp; rfl)⟩) hS ?_
            simp only [Act.put, List.setIfInBounds_toArray, List.set_cons_zero, List.set_cons_succ]
            refine wpAnyH_takeD (i := 6) (d := 104) (v := .int .i64 (k : Int)) _ rfl rfl (by kernel_rfl) (by kernel_rfl) (by kernel_rfl) (fun _ _ _ h => h) (Or.inl ⟨by kernel_rfl, fun ws hSw => by first | (go_simp; done) | (go_simp; with_reducible rfl) | (go_simp; rfl)⟩) hS ?_
            simp only [Act.put, List.setIfInBounds_toArray, List.set_cons_zero, List.set_cons_succ]
            refine wpAnyH_takeD (i := 7) (d := 105) (v := .pointer (some ⟨g2, k * 4, none⟩)) _ rfl rfl (by kernel_rfl) (by kernel_rfl) (by kernel_rfl) (fun _ _ _ h => h) (Or.inl ⟨by kernel_rfl, fun ws hSw => by have q := KM.out ws hSw; first | (go_simp; done) | (go_simp; with_reducible rfl) | (go_simp; rfl) | (go_simp; intro hlt; exfalso; omega) | (go_simp; omega)⟩) hS ?_
            simp only [Act.put, List.setIfInBounds_toArray, List.set_cons_zero, List.set_cons_succ]
            refine wpAnyH_takeD (i := 8) (d := 106) (v := .agg #[.int .i64 wa, .int .i64 (kn : Int), .string ne, .int .u64 (ve : Int)]) _ rfl rfl (by kernel_rfl) (by kernel_rfl) (by kernel_rfl) (fun _ _ _ h => h) (yieldsIf_load_mid (by kernel_rfl) _ _ rfl g2 (k * 4) (by kernel_rfl) [.int .i64 wa, .int .i64 (kn : Int), .string ne, .int .u64 (ve : Int)] _ (fun ws hSw => KG.out ws hSw) uET rfl hET) hS ?_
            simp only [Act.put, List.setIfInBounds_toArray, List.set_cons_zero, List.set_cons_succ]
            refine wpAnyH_takeD (i := 9) (d := 107) (v := .agg #[.int .i64 wa, .int .i64 (kn : Int), .string ne, .int .u64 (ve : Int)]) _ rfl rfl (by kernel_rfl) (by kernel_rfl) (by kernel_rfl) (fun _ _ _ h => h) (yieldsIf_load_mid (by kernel_rfl) _ _ rfl B 0 (by kernel_rfl) [.int .i64 wa, .int .i64 (kn : Int), .string ne, .int .u64 (ve : Int)] _ (fun ws hSw => KA.out ws hSw) uET rfl hET) hS ?_
            simp only [Act.put, List.setIfInBounds_toArray, List.set_cons_zero, List.set_cons_succ]
            refine wpAnyH_takeD (i := 10) (d := 108) (v := .bool false) _ rfl rfl (by kernel_rfl) (by kernel_rfl) (by kernel_rfl) (fun _ _ _ h => h) (Or.inl ⟨by kernel_rfl, fun ws hSw => by have q := KN.out ws hSw; first | (go_simp; done) | (go_simp; with_reducible rfl) | (go_simp; rfl)⟩) hS ?_
            simp only [Act.put, List.setIfInBounds_toArray, List.set_cons_zero, List.set_cons_succ]
            refine wpAnyH_takeD (i := 11) (d := 109) (v := .bool false) _ rfl rfl (by kernel_rfl) (by kernel_rfl) (by kernel_rfl) (fun _ _ _ h => h) (Or.inl ⟨by kernel_rfl, fun ws hSw => by first | (go_simp; done) | (go_simp; with_reducible rfl) | (go_simp; rfl)⟩) hS ?_
            simp only [Act.put, List.setIfInBounds_toArray, List.set_cons_zero, List.set_cons_succ]
            refine wpAnyH_done (by kernel_rfl) ?_ _
            clear KG KA KN KM hET uET GD hS
            go_wp2_with fail
            go_roundg (n3 - (i + 1))
            case measure => omega
            case rel => exact ⟨i + 1, k + 1, by push_cast; rfl, by push_cast; rfl, by omega, by omega, NX.out⟩
        · obtain ⟨L6, -, -, -, hm, hn3, -, -⟩ := H7.out
          obtain ⟨hk, bw⟩ := HI2.out
          have hkm : k = m := by rw [hk, hm, List.take_of_length_le (by omega)]
          subst hkm
          have L7 := (L6.gr bw).up
          have CP := Lib.hid (place_any wr wp sp f v L7.wat.blk)
          have HL5 : Hid (∃ S l hist, LedAt N sp wp f W wr S l hist (j + 1) v Ds) := ⟨_, _, _, L7⟩
          have tm : ((k : Int) != (k : Int)) = false := bne_self_eq_false _
          clear L6 hm hn3 hk bw L7 H7 HI2
          have tn : ((v : Int) != (v : Int)) = false := bne_self_eq_false _
          go_wp2_with fail
          refine CP.out.mono ?_
          rintro e w' ⟨rfl, rfl⟩
          go_wp2_with fail
          refine Handed.intro (n1 - (j + 1)) (by omega) (hJ _ _ _ ?_)
          rw [HI.out]
          refine ⟨j + 1, v, Ds, ?_⟩
          repeat apply Exists.intro
          exact ⟨rfl, by omega, by omega, HL5.out⟩
    · by_cases hk2 : kd = 2
      · have t1 : (kd == 1) = false := beq_false_of_ne hk1
        have t2 : (kd == 2) = true := by rw [hk2]; rfl
        obtain ⟨L4, -, -, -, -, hSA⟩ := H4.out
        obtain ⟨v, hv⟩ : ∃ v, v = hist.length := ⟨_, rfl⟩
        have CNw := Lib.hid (now_any N w4 S sp 50 l hist L4.wat.st)
        have CA := Lib.hid (again_any N w4 S sp wp 50 f pl l hist L4.wat (by have := L4.few.2; omega))
        rw [← hv] at CNw CA
        have hA4 : A < w4.heap.size := by
          have := (Array.getElem?_eq_some_iff.1 L4.wat.blk).1
          exact (Array.getElem?_eq_some_iff.1 H4.out.2.1).1
        have hjb := hj
        have H5 := Lib.hid (And.intro L4 (And.intro hv (And.intro hA4 hSA)))
        clear L4 hv hA4 hSA hk1 hk2 H4 k4
        go_wp2_with fail
        refine CNw.out.mono ?_
        rintro e w' ⟨rfl, hw'⟩
        have hw2 := hw'.symm
        subst hw2
        clear hw' CNw
        go_wp2_with fail
        refine CA.out.mono ?_
        rintro e w5 ⟨⟨q2, c2, cl, rfl, hcl, own5⟩, C5, k5⟩
        obtain ⟨L4, hv, hA4, hSA⟩ := H5.out
        have L5 := L4.turn C5 (p := v) k5 (by omega)
        obtain ⟨m, hm⟩ : ∃ m, m = cl.length := ⟨_, rfl⟩
        rw [← hm]
        obtain ⟨Gc, hGc⟩ : ∃ x, x = w5.heap.size := ⟨_, rfl⟩
        obtain ⟨Kc, hKc⟩ : ∃ x, x = Gc + 1 := ⟨_, rfl⟩
        obtain ⟨w6, hw6⟩ : ∃ x, x = (w5.alloc (.cells #[.slice q2 m c2] SlO)).alloc (.cells #[.int .i64 0] 3) := ⟨_, rfl⟩
        have Ga : Gr (w5.alloc (.cells #[.slice q2 m c2] SlO)) w6 := hw6 ▸ (Gr.refl _).alloc _
        have G6 : Gr w5 w6 := hw6 ▸ ((Gr.refl w5).alloc _).alloc _
        have za : (w5.alloc (.cells #[.slice q2 m c2] SlO)).heap.size = Gc + 1 := by rw [hGc]; simp
        have z6 : w6.heap.size = Gc + 2 := by rw [hw6, hGc]; simp
        have g6 : w6.heap[Gc]? = some (.cells #[.slice q2 m c2] SlO (0, 0)) := by
          rw [Ga.heap (by rw [za]; omega), hGc]
          exact heap_alloc_new _ _
        have k6 : w6.heap[Kc]? = some (.cells #[.int .i64 0] 3 (0, 0)) := by rw [hw6, hKc, ← za]; exact heap_alloc_new _ _
        have L6 := L5.gr G6.below
        have own6 := own5.gr G6.below
        have HW6 : Hid ((w5.alloc (.cells #[.slice q2 m c2] SlO)).alloc (.cells #[.int .i64 0] 3) = w6 ∧ w5.heap.size = Gc ∧ Gc + 1 = Kc) := ⟨hw6.symm, hGc.symm, hKc.symm⟩
        have BD : Hid ((∀ g ∈ S, g < Gc) ∧ wp < Gc ∧ N < Gc ∧ (∀ D ∈ Ds, D < Gc) ∧ w4.heap.size ≤ Gc) := by
          obtain ⟨h1, h2, h3, h4⟩ := hSA
          have := C5.size
          exact ⟨fun g hg => by have := h1 g hg; omega, by omega, by omega, fun D hD => by have := h4 D hD; omega, by omega⟩
        have H6 := Lib.hid (And.intro L6 (And.intro own6 (And.intro g6 (And.intro k6 (And.intro z6 (And.intro hcl (And.intro hm (And.intro hv L4.few)))))))) 
        have hmb : m ≤ 1000 := by
          have h1 := congrArg List.length hcl
          rw [List.length_map] at h1
          have h2 := aga_len f l 5
          have h3 := L4.few.2
          omega
        clear L4 L5 L6 own5 own6 C5 k5 hcl hm hGc hKc hw6 Ga G6 za z6 g6 k6 hv hA4 hSA CA H5
        go_upto_region 32 with fail
        rw [HW6.out.1, HW6.out.2.1, HW6.out.2.2]
        go_wp2_with fail
        obtain ⟨I2, hI2⟩ : ∃ I : Nat → Act → World → Prop, I = fun gg a' w' => ∃ (kj : Nat) (Es : List Nat) (u12 u13 u14 u15 u16 u17 u19 u22 u23 u50 u51 u52 u53 u54 u55 u56 u57 u58 u59 u60 u61 u62 u63 u64 u65 u66 u67 u68 u69 u70 u71 u72 u73 u74 u75 u76 u77 u78 u79 u80 u81 u82 u83 u84 u85 u86 u87 u88 u89 u90 u91 u92 u93 u94 u95 u96 u97 u98 u99 u100 u101 u102 u103 u104 u105 u106 u107 u108 u109 u110 u111 u112 u113 u114 u115 u116 u117 u118 u119 u120 u121 u122 u123 u124 u125 u126 u127 u128 u129 u130 u132 u133 u134 u135 u136 u137 u138 u139 u140 u141 u142 u143 u144 u145 u146 u147 u148 u149 u150 u151 u152 u153 u154 u155 u156 u157 u158 u159 u160 u161 u162 u163 u164 u165 u166 : Value), a' = { tmps := List.toArray (Value.slice q0 n0 c0 :: Value.slice (some ⟨b, off, none⟩) n1 c1 :: Value.int .u64 (from_ : Int) :: undef :: undef :: undef :: Value.pointer (some ⟨N, 0, none⟩) :: Value.pointer (some ⟨sp, 0, none⟩) :: Value.int .i64 0 :: Value.pointer (some ⟨wp, 0, none⟩) :: Value.int .u64 (v : Int) :: undef :: u12 :: u13 :: u14 :: u15 :: u16 :: u17 :: undef :: u19 :: Value.pointer (some ⟨Gc, 0, none⟩) :: Value.pointer (some ⟨Kc, 0, none⟩) :: u22 :: u23 :: undef :: undef :: undef :: Value.bool true :: Value.bool false :: Value.bool false :: Value.slice (some ⟨b, off, none⟩) n1 c1 :: Value.int .i64 (n1 : Int) :: Value.bool false :: Value.bool false :: Value.bool false :: Value.slice q0 n0 c0 :: Value.int .i64 (n0 : Int) :: Value.bool false :: Value.bool false :: undef :: Value.tuple #[.pointer (some ⟨sp, 0, none⟩), .int .i64 0] :: Value.tuple #[.pointer (some ⟨sp, 0, none⟩), .int .i64 0] :: Value.pointer (some ⟨sp, 0, none⟩) :: Value.int .i64 0 :: Value.pointer (some ⟨sp, 0, none⟩) :: Value.slice q0 n0 c0 :: Value.pointer (some ⟨wp, 0, none⟩) :: Value.slice (some ⟨b, off, none⟩) n1 c1 :: Value.int .i64 (n1 : Int) :: Value.int .i64 (j : Int) :: u50 :: u51 :: u52 :: u53 :: u54 :: u55 :: u56 :: u57 :: u58 :: u59 :: u60 :: u61 :: u62 :: u63 :: u64 :: u65 :: u66 :: u67 :: u68 :: u69 :: u70 :: u71 :: u72 :: u73 :: u74 :: u75 :: u76 :: u77 :: u78 :: u79 :: u80 :: u81 :: u82 :: u83 :: u84 :: u85 :: u86 :: u87 :: u88 :: u89 :: u90 :: u91 :: u92 :: u93 :: u94 :: u95 :: u96 :: u97 :: u98 :: u99 :: u100 :: u101 :: u102 :: u103 :: u104 :: u105 :: u106 :: u107 :: u108 :: u109 :: u110 :: u111 :: u112 :: u113 :: u114 :: u115 :: u116 :: u117 :: u118 :: u119 :: u120 :: u121 :: u122 :: u123 :: u124 :: u125 :: u126 :: u127 :: u128 :: u129 :: u130 :: Value.int .i64 (kj : Int) :: u132 :: u133 :: u134 :: u135 :: u136 :: u137 :: u138 :: u139 :: u140 :: u141 :: u142 :: u143 :: u144 :: u145 :: u146 :: u147 :: u148 :: u149 :: u150 :: u151 :: u152 :: u153 :: u154 :: u155 :: u156 :: u157 :: u158 :: u159 :: u160 :: u161 :: u162 :: u163 :: u164 :: u165 :: u166 :: undef :: undef :: undef :: undef :: undef :: undef :: undef :: undef :: undef :: undef :: undef :: undef :: undef :: undef :: undef :: undef :: undef :: undef :: undef :: undef :: undef :: undef :: undef :: undef :: undef :: undef :: undef :: undef :: undef :: []), defers := Es.map mark } ∧ kj ≤ 5 ∧ 5 - kj ≤ gg ∧ Hid (KindI N sp wp f W S l hist j v Es w6 Kc (aga f l kj).length [] [] w') := ⟨_, rfl⟩
        refine wp_loop_ghost_k I2 5 ?_ ?_
        · rw [hI2]
          refine ⟨0, Ds, ?_⟩
          repeat apply Exists.intro
          refine ⟨rfl, by omega, by omega, ?_⟩
          obtain ⟨L6, own6, g6, k6, z6, hcl, hm, hv, hfw⟩ := H6.out
          exact ⟨Chg.refl _ _, k6, L6, rfl⟩
        have HI2 := Lib.hid hI2
        intro gk2 a2 w7 hrel J2 K2 hJ2 hK2
        rw [hI2] at hrel
        clear hI2
        obtain ⟨kj, Es, hrel⟩ := hrel
        obtain ⟨u12, hrel⟩ := hrel
        obtain ⟨u13, hrel⟩ := hrel
        obtain ⟨u14, hrel⟩ := hrel
        obtain ⟨u15, hrel⟩ := hrel
        obtain ⟨u16, hrel⟩ := hrel
        obtain ⟨u17, hrel⟩ := hrel
        obtain ⟨u19, hrel⟩ := hrel
        obtain ⟨u22, hrel⟩ := hrel
        obtain ⟨u23, hrel⟩ := hrel
        obtain ⟨u50, hrel⟩ := hrel
        obtain ⟨u51, hrel⟩ := hrel
        obtain ⟨u52, hrel⟩ := hrel
        obtain ⟨u53, hrel⟩ := hrel
        obtain ⟨u54, hrel⟩ := hrel
        obtain ⟨u55, hrel⟩ := hrel
        obtain ⟨u56, hrel⟩ := hrel
        obtain ⟨u57, hrel⟩ := hrel
        obtain ⟨u58, hrel⟩ := hrel
        obtain ⟨u59, hrel⟩ := hrel
        obtain ⟨u60, hrel⟩ := hrel
        obtain ⟨u61, hrel⟩ := hrel
        obtain ⟨u62, hrel⟩ := hrel
        obtain ⟨u63, hrel⟩ := hrel
        obtain ⟨u64, hrel⟩ := hrel
        obtain ⟨u65, hrel⟩ := hrel
        obtain ⟨u66, hrel⟩ := hrel
        obtain ⟨u67, hrel⟩ := hrel
        obtain ⟨u68, hrel⟩ := hrel
        obtain ⟨u69, hrel⟩ := hrel
        obtain ⟨u70, hrel⟩ := hrel
        obtain ⟨u71, hrel⟩ := hrel
        obtain ⟨u72, hrel⟩ := hrel
        obtain ⟨u73, hrel⟩ := hrel
        obtain ⟨u74, hrel⟩ := hrel
        obtain ⟨u75, hrel⟩ := hrel
        obtain ⟨u76, hrel⟩ := hrel
        obtain ⟨u77, hrel⟩ := hrel
        obtain ⟨u78, hrel⟩ := hrel
        obtain ⟨u79, hrel⟩ := hrel
        obtain ⟨u80, hrel⟩ := hrel
        obtain ⟨u81, hrel⟩ := hrel
        obtain ⟨u82, hrel⟩ := hrel
        obtain ⟨u83, hrel⟩ := hrel
        obtain ⟨u84, hrel⟩ := hrel
        obtain ⟨u85, hrel⟩ := hrel
        obtain ⟨u86, hrel⟩ := hrel
        obtain ⟨u87, hrel⟩ := hrel
        obtain ⟨u88, hrel⟩ := hrel
        obtain ⟨u89, hrel⟩ := hrel
        obtain ⟨u90, hrel⟩ := hrel
        obtain ⟨u91, hrel⟩ := hrel
        obtain ⟨u92, hrel⟩ := hrel
        obtain ⟨u93, hrel⟩ := hrel
        obtain ⟨u94, hrel⟩ := hrel
        obtain ⟨u95, hrel⟩ := hrel
        obtain ⟨u96, hrel⟩ := hrel
        obtain ⟨u97, hrel⟩ := hrel
        obtain ⟨u98, hrel⟩ := hrel
        obtain ⟨u99, hrel⟩ := hrel
        obtain ⟨u100, hrel⟩ := hrel
        obtain ⟨u101, hrel⟩ := hrel
        obtain ⟨u102, hrel⟩ := hrel
        obtain ⟨u103, hrel⟩ := hrel
        obtain ⟨u104, hrel⟩ := hrel
        obtain ⟨u105, hrel⟩ := hrel
        obtain ⟨u106, hrel⟩ := hrel
        obtain ⟨u107, hrel⟩ := hrel
        obtain ⟨u108, hrel⟩ := hrel
        obtain ⟨u109, hrel⟩ := hrel
        obtain ⟨u110, hrel⟩ := hrel
        obtain ⟨u111, hrel⟩ := hrel
        obtain ⟨u112, hrel⟩ := hrel
        obtain ⟨u113, hrel⟩ := hrel
        obtain ⟨u114, hrel⟩ := hrel
        obtain ⟨u115, hrel⟩ := hrel
        obtain ⟨u116, hrel⟩ := hrel
        obtain ⟨u117, hrel⟩ := hrel
        obtain ⟨u118, hrel⟩ := hrel
        obtain ⟨u119, hrel⟩ := hrel
        obtain ⟨u120, hrel⟩ := hrel
        obtain ⟨u121, hrel⟩ := hrel
        obtain ⟨u122, hrel⟩ := hrel
        obtain ⟨u123, hrel⟩ := hrel
        obtain ⟨u124, hrel⟩ := hrel
        obtain ⟨u125, hrel⟩ := hrel
        obtain ⟨u126, hrel⟩ := hrel
        obtain ⟨u127, hrel⟩ := hrel
        obtain ⟨u128, hrel⟩ := hrel
        obtain ⟨u129, hrel⟩ := hrel
        obtain ⟨u130, hrel⟩ := hrel
        obtain ⟨u132, hrel⟩ := hrel
        obtain ⟨u133, hrel⟩ := hrel
        obtain ⟨u134, hrel⟩ := hrel
        obtain ⟨u135, hrel⟩ := hrel
        obtain ⟨u136, hrel⟩ := hrel
        obtain ⟨u137, hrel⟩ := hrel
        obtain ⟨u138, hrel⟩ := hrel
        obtain ⟨u139, hrel⟩ := hrel
        obtain ⟨u140, hrel⟩ := hrel
        obtain ⟨u141, hrel⟩ := hrel
        obtain ⟨u142, hrel⟩ := hrel
        obtain ⟨u143, hrel⟩ := hrel
        obtain ⟨u144, hrel⟩ := hrel
        obtain ⟨u145, hrel⟩ := hrel
        obtain ⟨u146, hrel⟩ := hrel
        obtain ⟨u147, hrel⟩ := hrel
        obtain ⟨u148, hrel⟩ := hrel
        obtain ⟨u149, hrel⟩ := hrel
        obtain ⟨u150, hrel⟩ := hrel
        obtain ⟨u151, hrel⟩ := hrel
        obtain ⟨u152, hrel⟩ := hrel
        obtain ⟨u153, hrel⟩ := hrel
        obtain ⟨u154, hrel⟩ := hrel
        obtain ⟨u155, hrel⟩ := hrel
        obtain ⟨u156, hrel⟩ := hrel
        obtain ⟨u157, hrel⟩ := hrel
        obtain ⟨u158, hrel⟩ := hrel
        obtain ⟨u159, hrel⟩ := hrel
        obtain ⟨u160, hrel⟩ := hrel
        obtain ⟨u161, hrel⟩ := hrel
        obtain ⟨u162, hrel⟩ := hrel
        obtain ⟨u163, hrel⟩ := hrel
        obtain ⟨u164, hrel⟩ := hrel
        obtain ⟨u165, hrel⟩ := hrel
        obtain ⟨u166, hrel⟩ := hrel
        obtain ⟨rfl, hkj1, hkj2, HR2⟩ := hrel
        by_cases hkj : kj < 5
        · obtain ⟨KC, KN, L7, -⟩ := HR2.out
          obtain ⟨L6, own6, g6, k6, z6, hcl, hm, hv, hfw⟩ := H6.out
          obtain ⟨n, hn⟩ : ∃ n, n = (aga f l kj).length := ⟨_, rfl⟩
          obtain ⟨y, hy⟩ : ∃ y, y = f kj := ⟨_, rfl⟩
          have CI : Hid (Calls Tryz.prog 17 #[.slice q0 n0 c0, .int .i64 (kj : Int)] w7 fun e w' => e = .returned (.bool y) ∧ w' = w7) := by
            obtain ⟨K0, -, hn0, -, hf, -⟩ := HH.out
            have hyk : y = sees ks (kj : Int) := by rw [hy, hf]
            rw [hn0, hyk]
            exact in_any w7 q0 c0 ks (K0.below (L7.low |> fun h => by rw [HWR.out.2]; exact h)) _
          have HY := Lib.hid hy
          clear KC KN L7 L6 own6 g6 k6 z6 hcl hm hv hfw hn hy
          go_wp2_with fail
          refine CI.out.mono ?_
          rintro e w' ⟨rfl, hw'⟩
          have hw2 := hw'.symm
          subst hw2
          clear hw' CI
          cases y with
          | false =>
            have NX : Hid (KindI N sp wp f W S l hist j v Es w6 Kc (aga f l (kj + 1)).length [] [] w7) := by
              rw [show aga f l (kj + 1) = aga f l kj by rw [aga, ← HY.out]; simp]
              exact HR2.out
            clear HR2
            go_wp2_with fail
            refine Handed.intro (5 - (kj + 1)) (by omega) (hJ2 _ _ _ ?_)
            rw [HI2.out]
            refine ⟨kj + 1, Es, ?_⟩
            repeat apply Exists.intro
            exact ⟨rfl, by omega, by omega, NX.out⟩
          | true =>
            obtain ⟨KC, KN, L7, -⟩ := HR2.out
            obtain ⟨L6, own6, g6, k6, z6, hcl, hm, hv, hfw⟩ := H6.out
            rw [show (([] : List Co).length) = 0 from rfl, Nat.add_zero] at KN
            have CL := Lib.hid (list_any w7 (.pointer (some ⟨sp, 0, none⟩)) (kj : Int) ⟨_, rfl⟩)
            obtain ⟨bb, hbb⟩ : ∃ b, b = w7.heap.size := ⟨_, rfl⟩
            obtain ⟨w8, hw8⟩ : ∃ x, x = (w7.alloc (.cells #[.pointer (some ⟨sp, 0, none⟩)] 26)).alloc (.cells #[.int .i64 (kj : Int)] 3) := ⟨_, rfl⟩
            have gb : Gr (w7.alloc (.cells #[.pointer (some ⟨sp, 0, none⟩)] 26)) w8 := hw8 ▸ (Gr.refl _).alloc _
            have g8 : Gr w7 w8 := hw8 ▸ ((Gr.refl w7).alloc _).alloc _
            have zb : (w7.alloc (.cells #[.pointer (some ⟨sp, 0, none⟩)] 26)).heap.size = bb + 1 := by rw [hbb]; simp
            have z8 : w8.heap.size = bb + 2 := by rw [hw8, hbb]; simp
            have c1' : w8.cell? ⟨bb, 0, none⟩ = some (.pointer (some ⟨sp, 0, none⟩)) := by
              have := cell_of_block (heap_alloc_new w7 (.cells #[.pointer (some ⟨sp, 0, none⟩)] 26)) 0
              rw [← hbb] at this
              exact (World.cell?_of_block (gb.heap (i := bb) (by rw [zb]; omega))).trans this
            have c2' : w8.cell? ⟨bb + 1, 0, none⟩ = some (.int .i64 (kj : Int)) := by
              have := cell_of_block (heap_alloc_new (w7.alloc (.cells #[.pointer (some ⟨sp, 0, none⟩)] 26)) (.cells #[.int .i64 (kj : Int)] 3)) 0
              rw [zb, ← hw8] at this
              exact this
            have L8 := L7.gr g8.below
            have TN := list_tells (6 - 1) N w8 S sp bb 50 (kj : Int) l hist L8.wat.st c1' c2' (by omega) (by have := L7.few.2; omega)
            have hGK : Kc = Gc + 1 := HW6.out.2.2.symm
            have sz67 : Gc + 2 ≤ bb := by rw [hbb]; have := KC.size; omega
            have I0 : Hid (KindI N sp wp f W S l hist j v Es w6 Kc (aga f l kj).length (listed (kj : Int) l) [] w8) :=
              ⟨KC.trans (Chg.ofBelow g8.below []) (by simp), (g8.heap (Array.getElem?_eq_some_iff.1 KN).1).trans KN, L8, by simp⟩
            have BDE : Hid ((∀ g ∈ S, g < bb) ∧ wp < bb ∧ N < bb ∧ (∀ D ∈ Es, D < bb) ∧ w6.heap.size ≤ bb ∧ Kc < bb ∧ w8.heap.size = bb + 2) := by
              obtain ⟨h1, h2, h3, h4, h5⟩ := BD.out
              exact ⟨fun g hg => by have := h1 g hg; omega, by omega, by omega, fun D hD => by rw [hbb]; exact (Array.getElem?_eq_some_iff.1 (L7.mks D hD).2.2.2).1, by omega, by omega, z8⟩
            have HTN := Lib.hid TN
            have HW8 : Hid ((w7.alloc (.cells #[.pointer (some ⟨sp, 0, none⟩)] 26)).alloc (.cells #[.int .i64 (kj : Int)] 3) = w8 ∧ w7.heap.size = bb) := ⟨hw8.symm, hbb.symm⟩
            have hNw8 : Hid (N ≤ w8.heap.size) := by have := BD.out.2.2.1; show N ≤ _; omega
            clear KC KN L7 L6 own6 g6 k6 z6 hcl hm hv hfw hbb hw8 gb g8 zb z8 c1' c2' L8 TN hGK sz67 HR2
            go_wp2_with fail
            refine CL.out.mono ?_
            rintro e w' ⟨rfl, rfl⟩
            rw [HW8.out.1, HW8.out.2]
            clear CL HW8
            go_wp2_with fail
            refine (wpIn_wide (n := 6)).1 ?_
            refine wpIn_told (α := Co) (n := 6) (by decide) (gf := 40) (lb := #[.pointer (some ⟨bb, 0, none⟩), .pointer (some ⟨bb + 1, 0, none⟩)]) rfl (enters_of Tryz.func40 (by kernel_rfl) rfl) HTN.out (Below.refl _ _) (fun _ => rfl) hNw8.out (fun pre x A A' h f => ⟨h.1, h.2.fx f⟩)
              (KindI N sp wp f W S l hist j v Es w6 Kc (aga f l kj).length (listed (kj : Int) l)) (fun _ _ _ => False) ?_ (fun c s A A' T h _ _ => h.elim) I0.out ?_ ?_ (fun _ _ _ _ _ _ h _ => h.elim)
            · obtain ⟨h1, h2, h3, h4, h5, h6, h7⟩ := BDE.out
              exact kind_bears (by omega) (fun g hg => by have := h1 g hg; omega) (by omega) (by omega) (fun D hD => by have := h4 D hD; omega) (by omega)
            · intro l' pre xo WW hi hgv hlB hlW
              rw [zip_one]
              obtain ⟨D, hD⟩ : ∃ D, D = xo.1.1.1 := ⟨_, rfl⟩
              have hkx := hgv.2
              rw [← hD] at hkx ⊢
              have z0 : (WW.alloc (.cells zerC OT)).heap[WW.heap.size]? = some (.cells zerC OT (0, 0)) := heap_alloc_new WW _
              obtain ⟨th, n0', fx1, c1'⟩ := store_ob (base := WW.heap.size) z0 rfl hkx.obj.1 (Nat.le_refl _)
              obtain ⟨w9, hw9⟩ : ∃ W', W' = (WW.alloc (.cells zerC OT)).setCells WW.heap.size 0 D.toList := ⟨_, rfl⟩
              obtain ⟨O, hO⟩ : ∃ A, A = WW.heap.size := ⟨_, rfl⟩
              rw [← hw9] at n0' c1'
              have b3 : Below WW.heap.size WW w9 := by
                have g : Gr WW (WW.alloc (.cells zerC OT)) := (Gr.refl WW).alloc _
                exact ((Xb.ofGr g WW.heap.size).trans ⟨c1'.os, c1'.tape, c1'.output, c1'.size, fun k hk hne => c1'.block k hk (by simpa using hne)⟩).below (Nat.le_refl _) (Nat.le_refl _)
              rw [← hO] at n0'
              have TH := Lib.hid th
              have IN : Hid ((Tryz.prog.info? OT).map (·.size) = some D.size) := by show _ = _; rw [hkx.obj.1]; exact info_ob47
              have ON := Lib.hid (objV_one hkx.obj)
              have HW9 : Hid ((WW.alloc (.cells zerC OT)).setCells WW.heap.size 0 D.toList = w9 ∧ WW.heap.size = O) := ⟨hw9.symm, hO.symm⟩
              have H9 := Lib.hid (And.intro n0' (And.intro b3 (And.intro hi (And.intro hgv hD))))
              have HLW : Hid (w8.heap.size ≤ l' ∧ l' < O) := ⟨hlB, by rw [hO]; exact hlW⟩
              clear hkx z0 th n0' fx1 c1' hw9 hO b3 hi hgv hD hlB hlW
              refine region_round (by rfl) (fun ⟨a, w, h⟩ => h) ?_
              go_wp2_with (refine wpList_store_mid rfl _ _ _ rfl WW.heap.size 0 D (by rfl) (by rfl) TH.out IN.out ON.out ?_; rw [HW9.out.1, HW9.out.2])
              refine ⟨Stays.ofBelow H9.out.2.1, fun W2 cc2 f2 => ?_⟩
              obtain ⟨n0', b3, hi, ⟨gv1, gv2⟩, hD⟩ := H9.out
              obtain ⟨L6, own6, g6, k6, z6, hcl, hm, hv, hfw⟩ := H6.out
              obtain ⟨h1, h2, h3, h4, h5, h6, h7⟩ := BDE.out
              have hO : WW.heap.size = O := HW9.out.2
              have hGK : Kc = Gc + 1 := HW6.out.2.2.symm
              have hNG := BD.out.2.2.1
              obtain ⟨hl1, hl2⟩ := HLW.out
              rw [← hD] at gv2
              have out : ∀ g, g < w9.heap.size → g ≠ l' → W2.heap[g]? = w9.heap[g]? := fun g h1 h2 => cc2.block g h1 (by simpa using h2)
              have hi2 : KindI N sp wp f W S l hist j v Es w6 Kc (aga f l kj).length (listed (kj : Int) l) pre W2 := by
                refine ⟨(hi.chg.trans (Chg.ofBelow b3 []) (by simp)).trans cc2 (fun g hg => .inr (by rw [List.mem_singleton] at hg; omega)), ?_, (hi.led.gr b3).stay cc2 f2 (fun g hg => ?_), hi.pre_⟩
                · have hk := (Array.getElem?_eq_some_iff.1 hi.cnt).1
                  exact (out Kc (by have := b3.size; omega) (by omega)).trans ((b3.block Kc hk).trans hi.cnt)
                · rw [List.mem_singleton] at hg
                  subst hg
                  exact ⟨fun hm => by have := h1 _ hm; omega, by omega, by omega, fun hm => by have := h4 _ hm; omega, by omega⟩
              have o2 : W2.heap[O]? = some (.cells D OT (0, 0)) := (out O (Array.getElem?_eq_some_iff.1 n0').1 (by omega)).trans n0'
              have kD : Kept N W2 D xo.1.2 := (gv2.fx (Fx.ofBelow b3)).fx f2
              obtain ⟨cc, hcc⟩ : ∃ c, c = (aga f l kj).length + pre.length := ⟨_, rfl⟩
              have hag := aga_at f l hkj HY.out.symm gv1
              rw [← hcc, ← hcl, List.getElem?_map] at hag
              obtain ⟨z, hz, hzx⟩ : ∃ z, cl[cc]? = some z ∧ z.1.2 = xo.1.2 := by
                cases e : cl[cc]? with
                | none => rw [e] at hag; cases hag
                | some z => rw [e] at hag; injection hag with hag; exact ⟨z, rfl, hag⟩
              have hcm : cc < m := by rw [hm]; exact (List.getElem?_eq_some_iff.1 hz).1
              have nk := own_ne own6.own k6 (by decide)
              have fx6 : Fx N w6 W2 := hi2.chg.fx (fun g hg _ => by
                rw [List.mem_singleton] at hg
                subst hg
                exact (cells_prot k6 (by omega) rfl).2.2)
              have own2 : OwnO N w4.heap.size W2 q2 c2 cl := ⟨own_block own6.own (fun g hg => hi2.chg.block g (World.ownsRow.lt own6.own g hg).2 (by rw [List.mem_singleton]; intro e; subst e; exact nk hg)), fun x hx => (own6.kept x hx).fx fx6⟩
              obtain ⟨g, rfl⟩ : ∃ g : Nat, q2 = some ⟨g, 0, none⟩ := by
                rcases own_nilO own2.own with ⟨_, _, h0⟩ | h
                · omega
                · exact h
              have kz : Kept N W2 z.1.1.1 xo.1.2 := by have := own2.kept z (List.mem_of_getElem? hz); rwa [hzx] at this
              have rm : W2.rangeAt g (cc * 47) z.1.1.1.toList := fun t u hu => by
                have ht : t < 47 := by
                  have := (List.getElem?_eq_some_iff.1 hu).1
                  rw [Array.length_toList, z.1.1.2.1] at this
                  exact this
                have := own2.own.cells (g := g) rfl (cc * 47 + t) u (by rw [flat_at lenO cl cc t z hz ht]; exact hu)
                rwa [add_none', Nat.zero_add] at this
              have g2 : W2.heap[Gc]? = some (.cells #[.slice (some ⟨g, 0, none⟩) m c2] SlO (0, 0)) := (hi2.chg.block Gc (Array.getElem?_eq_some_iff.1 g6).1 (by simp; omega)).trans g6
              have k2 : W2.heap[Kc]? = some (.cells #[.int .i64 (cc : Int)] 3 (0, 0)) := by rw [hcc]; exact hi2.cnt
              have cell6 : ∀ {a : Addr} {v : Value}, W2.cell? a = some v → ∀ n os, (grow (W2.drewN n) os).cell? a = some v := fun h n os => cell_grown (World.block_lt_of_cell? _ _ h) h n os
              have fk := cell6 (cell_of_block k2 0 : W2.cell? ⟨Kc, 0, none⟩ = some (.int .i64 (cc : Int)))
              have fg := cell6 (cell_of_block g2 0 : W2.cell? ⟨Gc, 0, none⟩ = some (.slice (some ⟨g, 0, none⟩) m c2))
              have gr2 : ∀ n os, Below W2.heap.size W2 (grow (W2.drewN n) os) := fun n os => (Gr.put W2 n os).below
              obtain ⟨Z, hZ⟩ : ∃ Z, Z = z.1.1.1 := ⟨_, rfl⟩
              have LM : Hid (∀ n os, (Instr.loadAt OT (.pointer (some ⟨g, cc * 47, none⟩))).run Tryz.prog (grow (W2.drewN n) os) = .ok (.agg Z) (grow (W2.drewN n) os)) := fun n os => by
                rw [hZ]
                exact load_at47 (c := z.1.1) (fun t u hu => cell6 (rm t u hu) n os)
              have LO : Hid (∀ n os, (Instr.loadAt OT (.pointer (some ⟨O, 0, none⟩))).run Tryz.prog (grow (W2.drewN n) os) = .ok (.agg D) (grow (W2.drewN n) os)) := fun n os => load_ob (((gr2 n os).block O (Array.getElem?_eq_some_iff.1 o2).1).trans o2) kD.obj.1
              have C1 : Hid (∀ n os, Calls Tryz.prog 20 #[.agg Z, .agg D] (grow (W2.drewN n) os) fun e w' => e = .returned (.bool true) ∧ Gr (grow (W2.drewN n) os) w') := fun n os => by
                rw [hZ]
                exact same_any _ z.1.1.1 D xo.1.2 (kz.held _ (Fx.ofBelow (gr2 n os))) (kD.held _ (Fx.ofBelow (gr2 n os))) kz.fits kz.small
              have HB2 := Lib.hid (And.intro hi2 (And.intro k2 (And.intro hcc (And.intro gv1 (And.intro hcm hGK)))))
              have hcb : cc < 1000 := by omega
              have tN : decide (m ≤ cc) = false := decide_eq_false (by omega)
              have tZ : decide ((m : Int) ≤ (cc : Int)) = false := decide_eq_false (by omega)
              have hcm2 : cc < m := hcm
              clear n0' b3 hi gv1 gv2 hD L6 own6 g6 k6 z6 hcl hm hv hfw h1 h2 h3 h4 h5 h6 h7 hO hGK hl1 hl2 hNG out hi2 o2 kD hcc hag hz hzx nk fx6 own2 kz rm g2 k2 cell6 gr2 hZ cc2 f2 TH IN ON HW9 H9
              gi_upto_region 38 with fail
              refine region_round_grown mixed (by rfl) (fun ⟨a, w, h⟩ => h) (by kernel_rfl) ?_
              iterate 8 (quiet_step (fail))
              refine wpQuiet_load (by kernel_rfl) OT _ rfl (.pointer (some ⟨g, cc * 47, none⟩)) (.agg Z) (by kernel_rfl) (fun w' h => by obtain ⟨g, rfl⟩ := h; exact LM.out _ _) ?_
              simp only [Act.put, List.setIfInBounds_toArray, List.set_cons_zero, List.set_cons_succ]
              refine wpQuiet_load (by kernel_rfl) OT _ rfl (.pointer (some ⟨O, 0, none⟩)) (.agg D) (by kernel_rfl) (fun w' h => by obtain ⟨g, rfl⟩ := h; exact LO.out _ _) ?_
              simp only [Act.put, List.setIfInBounds_toArray, List.set_cons_zero, List.set_cons_succ]
              quiet_step (first | (go_at_call 20; refine gr_of (C1.out _ _)))
              repeat (quiet_step (fail))
              refine wpQuiet_nil ?_
              intro _ hw'
              obtain ⟨⟨nq, osq⟩, hw''⟩ := hw'
              subst hw''
              obtain ⟨w10, hw10⟩ : ∃ x, x = grow (W2.drewN nq) osq := ⟨_, rfl⟩
              have G10 : Gr W2 (grow (W2.drewN nq) osq) := Gr.put _ _ _
              rw [← hw10] at G10 ⊢
              obtain ⟨hi2, k2, hcc, gv1, hcm, hGK⟩ := HB2.out
              obtain ⟨h1, h2, h3, h4, h5, h6, h7⟩ := BDE.out
              have k10 : w10.heap[Kc]? = some (.cells #[.int .i64 (cc : Int)] 3 (0, 0)) := (G10.heap (Array.getElem?_eq_some_iff.1 k2).1).trans k2
              have ck : w10.cell? ⟨Kc, 0, none⟩ = some (.int .i64 (cc : Int)) := cell_of_block k10 0
              have ckf : w10.frozen? ⟨Kc, 0, none⟩ = false := unfrozen_of_block k10 0
              obtain ⟨w11, hw11⟩ : ∃ x, x = w10.setCell ⟨Kc, 0, none⟩ (.int .i64 ((cc : Int) + 1)) := ⟨_, rfl⟩
              have k11 : w11.heap[Kc]? = some (.cells #[.int .i64 ((cc : Int) + 1)] 3 (0, 0)) := by rw [hw11, block_setCell k10]; rfl
              have C11 : Chg [Kc] W2 w11 := by
                rw [hw11]
                exact (Chg.ofBelow G10.below [Kc]).setCell 0 _ (.inl (by simp))
              have hNG := BD.out.2.2.1
              have hSG := BD.out.1
              have hwG := BD.out.2.1
              have np := (cells_prot (base := N) k2 (by omega) rfl).2.2
              have FIN : Hid (Stays N w8.heap.size W2 w11 ∧ KindI N sp wp f W S l hist j v Es w6 Kc (aga f l kj).length (listed (kj : Int) l) (pre ++ [xo]) w11) := by
                refine ⟨Stays.ofChg C11 (fun g hg => ?_), hi2.chg.trans C11 (fun g hg => .inl hg), ?_, hi2.led.chg C11 (fun g hg => ?_), ?_⟩
                · rw [List.mem_singleton] at hg
                  subst hg
                  exact ⟨by omega, fun _ => np⟩
                · rw [k11, List.length_append, hcc]
                  simp only [List.length_singleton]
                  congr 4
                · rw [List.mem_singleton] at hg
                  subst hg
                  have nE : g ∉ Es := fun hm => by
                    obtain ⟨_, _, _, h8⟩ := hi2.led.mks _ hm
                    rw [k2] at h8
                    cases h8
                  exact ⟨fun hm => by have := hSG _ hm; omega, by omega, by omega, nE, by omega, fun _ => np⟩
                · have := take_nextO (L := listed (kj : Int) l) (pre := pre) (x := xo) hi2.pre_ gv1
                  rw [this, List.length_append]
                  rfl
              have hw11' := hw11.symm
              clear hw10 G10 hi2 k2 hcc gv1 hcm hGK h1 h2 h3 h4 h5 h6 h7 k10 hw11 k11 C11 hNG hSG hwG np fk fg LM LO C1 HB2
              gi_upto_region 40 with fail
              refine region_round (by rfl) (fun ⟨a, w, h⟩ => h) ?_
              go_wp2_with fail
              exact FIN.out
            · intro Dm xs WW hD hS ⟨q1_, q2_, q3_, q4_⟩ hdef
              have hlen : xs.length = (listed (kj : Int) l).length := by rw [← hS, List.length_map]
              have NX : Hid (KindI N sp wp f W S l hist j v (Dm :: Es) w6 Kc (aga f l (kj + 1)).length [] [] WW) := by
                obtain ⟨h1, h2, h3, h4, h5, h6, h7⟩ := BDE.out
                refine ⟨q1_, ?_, q3_.mark (B := bb) h1 h2 h3 h4 (by omega) hdef, rfl⟩
                rw [q2_, aga, ← HY.out, hlen]
                simp
              clear q1_ q2_ q3_ q4_ hdef hD hS hlen HTN I0 BDE hNw8
              go_wp2_with fail
              refine Handed.intro (5 - (kj + 1)) (by omega) (hJ2 _ _ _ ?_)
              rw [HI2.out]
              refine ⟨kj + 1, Dm :: Es, ?_⟩
              repeat apply Exists.intro
              exact ⟨rfl, by omega, by omega, NX.out⟩
        · obtain ⟨KC, KN, L7, -⟩ := HR2.out
          obtain ⟨L6, own6, g6, k6, z6, hcl, hm, hv, hfw⟩ := H6.out
          have hk5 : kj = 5 := by omega
          subst hk5
          have hagm : (aga f l 5).length = m := by rw [← hcl, List.length_map, hm]
          have KN' : w7.heap[Kc]? = some (.cells #[.int .i64 (m : Int)] 3 (0, 0)) := by rw [KN, hagm]; rfl
          have ck : w7.cell? ⟨Kc, 0, none⟩ = some (.int .i64 (m : Int)) := cell_of_block KN' 0
          have cg : w7.cell? ⟨Gc, 0, none⟩ = some (.slice q2 m c2) := cell_of_block ((KC.block Gc (Array.getElem?_eq_some_iff.1 g6).1 (by have := HW6.out.2.2; simp; omega)).trans g6) 0
          have CP := Lib.hid (place_any w7 wp sp f v L7.wat.blk)
          have HL5 : Hid (∃ S l hist, LedAt N sp wp f W w7 S l hist (j + 1) v Es) := ⟨_, _, _, L7.up⟩
          have tm : ((m : Int) != (m : Int)) = false := bne_self_eq_false _
          clear KC KN L7 L6 own6 g6 k6 z6 hcl hm hv hfw hagm KN' HR2 H6
          have tn : ((v : Int) != (v : Int)) = false := bne_self_eq_false _
          go_wp2_with fail
          refine CP.out.mono ?_
          rintro e w' ⟨rfl, rfl⟩
          go_wp2_with fail
          refine Handed.intro (n1 - (j + 1)) (by omega) (hJ _ _ _ ?_)
          rw [HI.out]
          refine ⟨j + 1, v, Es, ?_⟩
          repeat apply Exists.intro
          exact ⟨rfl, by omega, by omega, HL5.out⟩
      · have t1 : (kd == 1) = false := beq_false_of_ne hk1
        have t2 : (kd == 2) = false := beq_false_of_ne hk2
        obtain ⟨L4, n4, hok, hfb, hkd, _⟩ := H4.out
        have LA := Lib.hid (load_act (stp_facts n4).2.1)
        have CA := Lib.hid (L4.act HWR.out.2 (by omega) x hok hfb)
        obtain ⟨aC, haC⟩ : ∃ c, c = cellsA x.2 := ⟨_, rfl⟩
        rw [← haC] at LA CA
        clear L4 n4 hok hfb hkd hk1 hk2 haC
        go_upto_region 12 with fail
        go_wp2_with (refine wpList_load_by (by kernel_rfl) AcT _ rfl (.pointer (some ⟨A, 1, none⟩)) (.agg aC) (by kernel_rfl) LA.out ?_)
        refine CA.out.mono ?_
        rintro e w5 ⟨rfl, S5, l5, hist5, L5⟩
        have CP := Lib.hid (place_any w5 wp sp f pl L5.wat.blk)
        have HL5 : Hid (∃ S l hist, LedAt N sp wp f W w5 S l hist (j + 1) pl Ds) := ⟨_, _, _, L5⟩
        clear L5 LA CA k4 H4
        have tn : ((pl : Int) != (pl : Int)) = false := bne_self_eq_false _
        go_wp2_with fail
        refine CP.out.mono ?_
        rintro e w' ⟨rfl, rfl⟩
        go_wp2_with fail
        refine Handed.intro (n1 - (j + 1)) (by omega) (hJ _ _ _ ?_)
        rw [HI.out]
        refine ⟨j + 1, pl, Ds, ?_⟩
        repeat apply Exists.intro
        exact ⟨rfl, by omega, by omega, HL5.out⟩
  · obtain ⟨S, l, hist, L⟩ := HR.out
    have hjn : j = n1 := by omega
    have CF := Lib.hid (from_any wr sp from_ none 0 [] (Ints.nil wr none))
    obtain ⟨y, hy⟩ : ∃ y, y = wr.heap.size := ⟨_, rfl⟩
    rw [← hy] at CF
    have hfr : from_ < 18446744073709551616 := HH.out.2.2.2.2.2.2.2
    have HYY : Hid (wp < y ∧ N < y ∧ ∀ D ∈ Ds, D < y) := by
      obtain ⟨rb, hrb⟩ := L.res
      rw [hy]
      exact ⟨(Array.getElem?_eq_some_iff.1 L.wat.blk).1, (Array.getElem?_eq_some_iff.1 hrb).1, fun D hD => (Array.getElem?_eq_some_iff.1 (L.mks D hD).2.2.2).1⟩
    have HL := Lib.hid (And.intro L (And.intro hy hjn))
    clear L hy hj HR
    subst hjn
    go_wp2_with fail
    refine CF.out.mono ?_
    rintro e w2 ⟨rfl, k2, b2⟩
    obtain ⟨L, hy, -⟩ := HL.out
    have L2 := L.gr (by rw [← hy]; exact b2)
    have W2 : Wat N w2 S sp y 50 (fun i : Nat => sees [] (i : Int)) from_ l hist := ⟨L2.wat.st, k2, fun hm => by have := (L.wat.st.prot y hm).2.1; omega, by have := L.low.size; have := HWR.out.2; omega⟩
    obtain ⟨v, hv⟩ : ∃ v, v = hist.length := ⟨_, rfl⟩
    have hv60 : v ≤ 60 := by rw [hv]; have := L.few.1; omega
    by_cases hab : from_ ≤ v
    · have CN := Lib.hid (next_any N w2 S sp y 50 (fun i : Nat => sees [] (i : Int)) from_ l hist W2 L.kd (by omega) (by omega))
      obtain ⟨m, hm⟩ : ∃ m, m = ((hist.drop from_).filter (keeps (fun i : Nat => sees [] (i : Int)))).length := ⟨_, rfl⟩
      rw [← hm, ← hv] at CN
      have H2 := Lib.hid (And.intro L2 (And.intro W2 (And.intro hv hy)))
      have t0 : decide (v < from_) = false := decide_eq_false (by omega)
      clear L hy L2 W2 hv hab hm k2 b2 HL CF
      go_wp2_with fail
      refine CN.out.mono ?_
      rintro e w3 ⟨⟨q, c, rfl, own3⟩, C3, k3⟩
      obtain ⟨L2, W2, hv, hy⟩ := H2.out
      have hyN : y ∉ S ∧ y ≠ wp ∧ y ≠ N ∧ y ∉ Ds ∧ N ≤ y := by
        refine ⟨W2.nm, fun e => ?_, fun e => ?_, fun hm => ?_, W2.lo⟩
        · have := HYY.out.1; omega
        · have := HYY.out.2.1; omega
        · have := HYY.out.2.2 y hm; omega
      have L3 := L2.chg C3 (fun g hg => by
        rw [List.mem_singleton] at hg
        subst hg
        exact ⟨hyN.1, hyN.2.1, hyN.2.2.1, hyN.2.2.2.1, hyN.2.2.2.2, fun _ => (cells_prot W2.blk W2.lo rfl).2.2⟩)
      have CNw := Lib.hid (now_any N w3 S sp 50 l hist L3.wat.st)
      rw [← hv] at CNw
      have CP := Lib.hid (place_any w3 y sp (fun i : Nat => sees [] (i : Int)) v k3)
      obtain ⟨rb, hrb⟩ := L3.res
      have rc : w3.cell? ⟨N, 0, none⟩ = some (.bool rb) := cell_of_block hrb 0
      have rf : w3.frozen? ⟨N, 0, none⟩ = false := unfrozen_of_block hrb 0
      obtain ⟨wz, hwz⟩ : ∃ x, x = w3.setCell ⟨N, 0, none⟩ (.bool true) := ⟨_, rfl⟩
      have hwz' := hwz.symm
      have FIN : Hid (wz.heap[N]? = some (.cells #[.bool true] 4 (0, 0)) ∧ Below W.heap.size W wz ∧ Ds.Pairwise (· ≠ ·) ∧ ∀ D ∈ Ds, N < D ∧ wz.heap[D]? = some (.deferred (some []))) := by
        have L4 := L3
        refine ⟨by rw [hwz, block_setCell hrb]; rfl, ?_, L4.ap, fun D hD => ?_⟩
        · rw [hwz, HWR.out.2]
          exact L4.low.setCell (Nat.le_refl _) _
        · obtain ⟨h1, _, _, h4⟩ := L4.mks D hD
          exact ⟨h1, by rw [hwz, Below.heap_setCell _ _ _ _ (by show D ≠ N; omega)]; exact h4⟩
      clear hrb hwz L3
      clear L2 W2 hv hy hyN own3 C3 k3 CN H2
      have tv : ((v : Int) == (v : Int)) = true := beq_self_eq_true _
      go_wp2_with fail
      refine CNw.out.mono ?_
      rintro e w' ⟨rfl, hw'⟩
      have hw2 := hw'.symm
      subst hw2
      clear hw'
      go_wp2_with fail
      refine CP.out.mono ?_
      rintro e w' ⟨rfl, hw'⟩
      have hw2 := hw'.symm
      subst hw2
      clear hw'
      go_wp2_with fail
      refine CNw.out.mono ?_
      rintro e w' ⟨rfl, hw'⟩
      have hw2 := hw'.symm
      subst hw2
      clear hw'
      go_wp2_with fail
      refine leaves_marks (F := Fence.wide) (n := 6) (P := Tryz.prog) (fn := Tryz.f4) Ds wz FIN.out.2.2.1 (fun D hD => (FIN.out.2.2.2 D hD).2) (fun w'' c'' => ?_)
      exact ⟨_, results_cellB rfl _ w'' N rfl ((c''.block N (Array.getElem?_eq_some_iff.1 FIN.out.1).1 (fun hm => by have := (FIN.out.2.2.2 N hm).1; omega)).trans FIN.out.1), rfl, FIN.out.2.1.trans (c''.below (fun g hg => by have := (FIN.out.2.2.2 g hg).1; rw [HWR.out.2]; omega) FIN.out.2.1.size)⟩
    · have CN := Lib.hid (next_above N w2 S sp y 50 (fun i : Nat => sees [] (i : Int)) from_ l hist W2 (by omega) (by omega))
      have H2 := Lib.hid (And.intro L2 (And.intro W2 (And.intro hv hy)))
      have t0 : decide (v < from_) = true := decide_eq_true (by omega)
      clear L hy L2 W2 hv hab k2 b2 HL CF
      go_wp2_with fail
      refine CN.out.mono ?_
      rintro e w3 ⟨rfl, b3⟩
      obtain ⟨L2, W2, hv, hy⟩ := H2.out
      have L3 := L2.gr b3
      have CNw := Lib.hid (now_any N w3 S sp 50 l hist L3.wat.st)
      rw [← hv] at CNw
      have CP := Lib.hid (place_any w3 y sp (fun i : Nat => sees [] (i : Int)) from_ (W2.gr b3).blk)
      obtain ⟨rb, hrb⟩ := L3.res
      have rc : w3.cell? ⟨N, 0, none⟩ = some (.bool rb) := cell_of_block hrb 0
      have rf : w3.frozen? ⟨N, 0, none⟩ = false := unfrozen_of_block hrb 0
      obtain ⟨wz, hwz⟩ : ∃ x, x = w3.setCell ⟨N, 0, none⟩ (.bool true) := ⟨_, rfl⟩
      have hwz' := hwz.symm
      have FIN : Hid (wz.heap[N]? = some (.cells #[.bool true] 4 (0, 0)) ∧ Below W.heap.size W wz ∧ Ds.Pairwise (· ≠ ·) ∧ ∀ D ∈ Ds, N < D ∧ wz.heap[D]? = some (.deferred (some []))) := by
        have L4 := L3
        refine ⟨by rw [hwz, block_setCell hrb]; rfl, ?_, L4.ap, fun D hD => ?_⟩
        · rw [hwz, HWR.out.2]
          exact L4.low.setCell (Nat.le_refl _) _
        · obtain ⟨h1, _, _, h4⟩ := L4.mks D hD
          exact ⟨h1, by rw [hwz, Below.heap_setCell _ _ _ _ (by show D ≠ N; omega)]; exact h4⟩
      clear hrb hwz L3
      clear L2 W2 hv hy b3 CN H2
      have tv : ((from_ : Int) == (from_ : Int)) = true := beq_self_eq_true _
      go_wp2_with fail
      refine CNw.out.mono ?_
      rintro e w' ⟨rfl, hw'⟩
      have hw2 := hw'.symm
      subst hw2
      clear hw'
      go_wp2_with fail
      refine CP.out.mono ?_
      rintro e w' ⟨rfl, hw'⟩
      have hw2 := hw'.symm
      subst hw2
      clear hw'
      go_wp2_with fail
      refine leaves_marks (F := Fence.wide) (n := 6) (P := Tryz.prog) (fn := Tryz.f4) Ds wz FIN.out.2.2.1 (fun D hD => (FIN.out.2.2.2 D hD).2) (fun w'' c'' => ?_)
      exact ⟨_, results_cellB rfl _ w'' N rfl ((c''.block N (Array.getElem?_eq_some_iff.1 FIN.out.1).1 (fun hm => by have := (FIN.out.2.2.2 N hm).1; omega)).trans FIN.out.1), rfl, FIN.out.2.1.trans (c''.below (fun g hg => by have := (FIN.out.2.2.2 g hg).1; rw [HWR.out.2]; omega) FIN.out.2.1.size)⟩

theorem walk {H : Type} {enc : TypeId × Value → H} {base : Nat} (W : World) (v0 : Value) (d0 : DataW H) (p0 : List MemPlace) (o0 : Value.okWide Tryz.prog W .any base 67 v0) (h0 : DataW.Trod enc Tryz.prog W 0 (fun _ => true) true 67 v0 d0 p0)
    (v1 : Value) (d1 : DataW H) (p1 : List MemPlace) (o1 : Value.okWide Tryz.prog W .any base 68 v1) (h1 : DataW.Trod enc Tryz.prog W 0 (fun _ => true) true 68 v1 d1 p1)
    (v2 : Value) (d2 : DataW H) (p2 : List MemPlace) (o2 : Value.okWide Tryz.prog W .any base 23 v2) (h2 : DataW.Trod enc Tryz.prog W 0 (fun _ => true) true 23 v2 d2 p2) (wt0 : Wt 67 d0) (wt1 : Wt 68 d1) (wt2 : Wt 23 d2) :
    Calls Tryz.prog 4 #[v0, v1, v2] W fun e W' => e = .returned (.bool true) ∧ Below W.heap.size W W' := by
  obtain ⟨q0, c0, ks, rfl, K0⟩ := open_ints o0 h0 wt0
  obtain ⟨q1, c1, sl, rfl, r1, k1, l1⟩ := open_steps o1 h1 wt1
  obtain ⟨m, rfl, rfl, rfl, hm⟩ := open_int Tryz.underlying23 o2 h2
  obtain ⟨n, rfl⟩ : ∃ n : Nat, m = (n : Int) := ⟨m.toNat, by
    simp [Lit.wf, IntKind.min, IntKind.max, IntKind.signed, IntKind.bits] at hm
    omega⟩
  exact walk_at W q0 c0 ks K0 q1 c1 sl ⟨r1, k1, l1⟩ n (by
    simp [Lit.wf, IntKind.min, IntKind.max, IntKind.signed, IntKind.bits] at hm
    omega)

/-! ### THE ROW's STEP -/
set_option maxRecDepth 100000 in
theorem lifted (os : Os) (started : os.Started) (H : Type) (enc : TypeId × Value → H) :
    ReturnsInHanded {} Tryz.checked os 4 .any (Rows.watchTellsSpec.pre6 enc Tryz.prog Tryz.f4 Rows.watchTellsRow.domain false) (Rows.watchTellsSpec.post enc Tryz.prog Tryz.f4 false true false false) := by
  refine returnsInHanded_of_change_sized (C := Tryz.checked) own started (by kernel_rfl) Tryz.func4
    (ChangeSpec.witness6 (enc := enc) (C := Tryz.checked) false ⟨#[], #[.slice none 0 0, .slice none 0 0, .int .u64 0], []⟩ 8 (by kernel_rfl) (by kernel_rfl) (by kernel_rfl) (by kernel_rfl)) ?_
  intro W base args ds gs before hval0 hW hcnd hsz0 _
  have hval : ∀ (j : Nat) t v, Tryz.f4.params[j]? = some t → args[j]? = some v → Value.okWide Tryz.prog W .any base t v := hval0
  have hW' := hW
  obtain ⟨p, q, hA0, hV, rfl, hfz, hnd⟩ := hW
  have hA : DataW.TrodAll enc Tryz.prog W 0 (fun _ => true) true Tryz.f4.params.toList args.toList ds p := hA0
  have hlt : ∀ x ∈ p, x.block < W.heap.size := fun x hx => hW'.lt x (List.mem_append_left _ hx)
  rw [Tryz.params4] at hA hval
  have hread : ∀ t ∈ [67, 68, 23], Tryz.prog.readableRec t = true ∧ t < Tryz.prog.types.size := by
    intro t ht
    simp only [List.mem_cons, List.not_mem_nil, or_false] at ht
    rcases ht with rfl | rfl | rfl <;> exact ⟨by kernel_rfl, of_decide_eq_true (by kernel_rfl)⟩
  have again : ∀ (W' : World), Below W.heap.size W W' → ∀ sp : Nat → Bool, (∀ x ∈ p, sp x.block = true) → DataW.TrodAll enc Tryz.prog W' 0 sp true [67, 68, 23] args.toList ds p :=
    fun W' hb sp hsp => all_again (by kernel_rfl) hb [67, 68, 23] args.toList ds p hread hA hlt hsp
  obtain ⟨v0, v1, v2, d0, d1, d2, p0, p1, p2, rfl, rfl, rfl, h0, h1, h2⟩ := trodAll_three hA
  obtain ⟨rfl, rfl⟩ := trodVars_none hV
  have wt0 : Wt 67 d0 := fun n hn => by
    have := List.all_eq_true.1 hsz0 n (DataW.weights_mem_each (j := 0) (t := 67) (d := d0) (by kernel_rfl) rfl n hn)
    simpa using this
  have wt1 : Wt 68 d1 := fun n hn => by
    have := List.all_eq_true.1 hsz0 n (DataW.weights_mem_each (j := 1) (t := 68) (d := d1) (by kernel_rfl) rfl n hn)
    simpa using this
  have wt2 : Wt 23 d2 := fun n hn => by
    have := List.all_eq_true.1 hsz0 n (DataW.weights_mem_each (j := 2) (t := 23) (d := d2) (by kernel_rfl) rfl n hn)
    simpa using this
  clear hA0 hval0
  simp only [List.append_nil] at hW'
  refine (walk W v0 d0 p0 (hval 0 67 v0 rfl rfl) h0 v1 d1 p1 (hval 1 68 v1 rfl rfl) h1 v2 d2 p2 (hval 2 23 v2 rfl rfl) h2 wt0 wt1 wt2).mono fun e W' ⟨he, hg⟩ => ?_
  subst he
  exact ⟨_, rfl, post_below hW' hg (fun _ _ _ => trodAll_mk1 (shut_bool Tryz.underlying4 _)) (fun sp hsp => again W' hg sp hsp) (fun _ => rfl) (ok_one (by kernel_rfl) rfl (okWide_bool_mk Tryz.underlying4 _))⟩

theorem over : Rows.watchTellsRow.holds Tryz.pinned (OpenSpec.ofChange Rows.watchTellsSpec) :=
  OpenClaim.holds_of_wide 4 Tryz.f4 rfl rfl rfl rfl rfl rfl rfl ⟨rfl, rfl, rfl, rfl, rfl⟩ rfl rfl rfl rfl rfl (by kernel_rfl) Tryz.func4 (by kernel_rfl)
    (of_decide_eq_true (by kernel_rfl)) (by unfold Func.isWrapper; first | (rw [if_pos (by decide +kernel)]; kernel_rfl) | (rw [if_neg (by decide +kernel)]; exact ⟨rfl, rfl⟩))
    (fun os started H enc _ => lifted os started H enc)

/-- The statement. -/
theorem proved : Rows.WatchTellsSaid :=
  over
#print axioms proved
end Go.Proofs.YtbagicilmmkdhaaGreat.watchTells
