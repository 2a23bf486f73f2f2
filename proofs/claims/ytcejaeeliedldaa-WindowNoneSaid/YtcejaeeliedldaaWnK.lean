/- Layer 21 (window): Note of any memory, tick and number. -/
import Derived.Test.YtcejaeeliedldaaWnF
import Derived.Test.YtcejaeeliedldaaWnJ
namespace Go.Proofs.Ytcejaeeliedldaa.Wn
open Go.RowKit Go.Shelf Go.Lib Go.Sort Go.Deep
open Go.Joins (cell_of_block unfrozen_of_block block_setCell)
open Go.Proofs.Ytcejaeeliedldaa.Ow
set_option linter.unusedVariables false
set_option linter.unusedSimpArgs false
set_option maxRecDepth 20000

/-- One more proposal at a tick. -/
def upT (x : Tk) (n : Int) : Tk := ⟨x.tm, min x.lo n, max x.hi n⟩
/-- Can't it be noted at all? -/
def badN (a n : Int) : Prop := a < 0 ∨ 4611686018427387904 < a ∨ n < 0
/-- A memory's ticks, behind one more proposal that is taken. -/
def noteL (l : List Tk) (a n : Int) : List Tk :=
  if lastT l < a then l.filter (kp a) ++ [⟨a, n, n⟩] else match l.getLast? with | none => [] | some x => l.dropLast ++ [upT x n]
theorem last_ge {l : List Tk} (h : Ris l) {x : Tk} (hx : x ∈ l) : x.tm ≤ lastT l := by
  rcases List.eq_nil_or_concat l with rfl | ⟨l1, y, rfl⟩
  · cases hx
  · rw [List.concat_eq_append] at h hx ⊢
    have e : lastT (l1 ++ [y]) = y.tm := by unfold lastT; simp
    rw [e]
    rcases List.mem_append.1 hx with hx | hx
    · exact Int.le_of_lt ((List.pairwise_append.1 h.1).2.2 x hx y (by simp))
    · rw [List.mem_singleton] at hx; rw [hx]; exact Int.le_refl _
/-- Two cells of a tick of a row of own are written anew. -/
theorem own_two {N g c p n : Nat} {w : World} {l : List Tk} {x : Tk} {lo hi : Int} (h : w.ownsRow N TT 3 (.slice (some ⟨g, 0, none⟩) n c) n (flat encS l)) (hn : n = l.length) (hx : l[p]? = some x) :
    ((w.setCell ⟨g, p * 3 + 1, none⟩ (.int .i64 lo)).setCell ⟨g, p * 3 + 2, none⟩ (.int .i64 hi)).ownsRow N TT 3 (.slice (some ⟨g, 0, none⟩) n c) n (flat encS (l.set p ⟨x.tm, lo, hi⟩)) := by
  subst hn
  have hp := (List.getElem?_eq_some_iff.1 hx).1
  obtain ⟨g', c', e, _, _, ow, _⟩ := set_own lenS h hp (⟨x.tm, lo, hi⟩ : Tk)
  simp only [Value.slice.injEq, Option.some.injEq, Addr.mk.injEq, true_and, and_true] at e
  obtain ⟨rfl, rfl⟩ := e
  refine own_block ow (fun k hk => ?_)
  cases hk
  obtain ⟨g2, e2, _, _, hr⟩ := own_el lenS h rfl hx
  cases e2
  obtain ⟨r0, _, _⟩ := range3 hr
  rcases h.2 with ⟨e, _⟩ | ⟨g3, cap, cur, e3, _, hb, _⟩
  · cases e
  · simp only [Value.slice.injEq, Option.some.injEq, Addr.mk.injEq, true_and, and_true] at e3
    obtain ⟨rfl, rfl⟩ := e3
    have es : cur.setIfInBounds (p * 3) (.int .i64 x.tm) = cur := by
      rw [cell_of_block hb] at r0
      apply Array.ext_getElem?
      intro i
      rw [Array.getElem?_setIfInBounds]
      split
      · rename_i e; subst e
        split
        · exact r0.symm
        · rename_i e; rw [Array.getElem?_eq_none (by omega)]
      · rfl
    have b1 : (w.setCell ⟨g, p * 3, none⟩ (.int .i64 x.tm)).heap[g]? = w.heap[g]? := by rw [block_setCell hb, es, hb]
    have b1' : (w.setCell ⟨g, p * 3, none⟩ (.int .i64 x.tm)).heap[g]? = some (.cells cur TT (0, 0)) := b1.trans hb
    show _ = (((w.setCell ⟨g, p * 3, none⟩ (.int .i64 x.tm)).setCell ⟨g, p * 3 + 1, none⟩ (.int .i64 lo)).setCell ⟨g, p * 3 + 1 + 1, none⟩ (.int .i64 hi)).heap[g]?
    rw [block_setCell (block_setCell b1' _), block_setCell (block_setCell hb _)]

set_option maxHeartbeats 2000000 in
theorem note_bad (w : World) (mb : Nat) (a n : Int) (h : badN a n) :
    Calls Try.prog 10 #[.pointer (some ⟨mb, 0, none⟩), .int .i64 a, .int .i64 n] w fun e w' => e = .returned (.int .i64 1) ∧ w = w' := by
  unfold badN at h
  by_cases h1 : a < 0
  · clear h
    go_enter Try.func10, Try.ntmps10
    go_wp2
    go_ret
    exact ⟨rfl, rfl⟩
  · by_cases h2 : 4611686018427387904 < a
    · have d1 : decide (a < 0) = false := decide_eq_false h1
      have d2 : decide (a > 4611686018427387904) = true := decide_eq_true h2
      clear h h1 h2
      go_enter Try.func10, Try.ntmps10
      go_wp2
      go_ret
      exact ⟨rfl, rfl⟩
    · have h3 : n < 0 := by omega
      have d1 : decide (a < 0) = false := decide_eq_false h1
      have d2 : decide (a > 4611686018427387904) = false := decide_eq_false h2
      have d3 : decide (n < 0) = true := decide_eq_true h3
      clear h h1 h2 h3
      go_enter Try.func10, Try.ntmps10
      go_wp2
      go_ret
      exact ⟨rfl, rfl⟩
set_option maxHeartbeats 2000000 in
theorem note_stale (N : Nat) (w : World) (mb : Nat) (v : Value) (l : List Tk) (h : Mem N w mb v l) (hl : l.length ≤ 900000) (a n : Int) (hb : ¬ badN a n) (hs : a < lastT l) :
    Calls Try.prog 10 #[.pointer (some ⟨mb, 0, none⟩), .int .i64 a, .int .i64 n] w fun e w' => e = .returned (.int .i64 13) ∧ Gr w w' := by
  have C := Lib.hid (last_any N w mb v l h (by omega))
  unfold badN at hb
  have d1 : decide (a < 0) = false := decide_eq_false (by omega)
  have d2 : decide (a > 4611686018427387904) = false := decide_eq_false (by omega)
  have d3 : decide (n < 0) = false := decide_eq_false (by omega)
  generalize lastT l = L at C hs
  clear h hl hb
  go_enter Try.func10, Try.ntmps10
  go_wp2_with fail
  refine C.out.mono ?_
  rintro e w1 ⟨rfl, g1⟩
  have d4 : decide (a < L) = true := decide_eq_true hs
  go_wp2
  go_ret
  exact ⟨rfl, g1⟩
set_option maxHeartbeats 8000000 in
theorem note_ok (N : Nat) (w : World) (mb : Nat) (v : Value) (l : List Tk) (h : Mem N w mb v l) (hl : l.length ≤ 900000) (hr : Ris l) (a n : Int) (hb : ¬ badN a n) (hs : ¬ a < lastT l) :
    Calls Try.prog 10 #[.pointer (some ⟨mb, 0, none⟩), .int .i64 a, .int .i64 n] w fun e w' => e = .returned (.int .i64 0) ∧ (∃ v', Mem N w' mb v' (noteL l a n) ∧ ∀ g, v'.ownBlock = some g → v.ownBlock = some g ∨ w.heap.size ≤ g) ∧ Tch (Foot mb v) w w' := by
  have mixed : Try.prog.follows .mixedOrders = true := by kernel_rfl
  have C := Lib.hid (last_any N w mb v l h (by omega))
  unfold badN at hb
  have d1 : decide (a < 0) = false := decide_eq_false (by omega)
  have d2 : decide (a > 4611686018427387904) = false := decide_eq_false (by omega)
  have d3 : decide (n < 0) = false := decide_eq_false (by omega)
  have d4 : decide (a < lastT l) = false := decide_eq_false hs
  by_cases hgt : lastT l < a
  · have d5 : decide (a > lastT l) = true := decide_eq_true hgt
    have CB : Hid (∀ W, Gr w W → Calls Try.prog 18 #[.pointer (some ⟨mb, 0, none⟩), .int .i64 a, .int .i64 n] W fun e w' => e = .returned (.tuple #[]) ∧ (∃ v', Mem N w' mb v' (l.filter (kp a) ++ [⟨a, n, n⟩]) ∧ ∀ g, v'.ownBlock = some g → v.ownBlock = some g ∨ W.heap.size ≤ g) ∧ Tch (Foot mb v) W w') := fun W g => begin_any N W mb v l (h.below g.below) hl a n (fun x hx => ⟨(hr.2 x hx).1, by have := last_ge hr hx; omega, by omega⟩)
    have EN : Hid (∀ l1 x, l.filter (kp a) ++ [⟨a, n, n⟩] = l1 ++ [x] → l1 ++ [upT x n] = noteL l a n) := fun l1 x e => by
      have hx : x = ⟨a, n, n⟩ := by
        have := congrArg List.getLast? e
        simpa using this.symm
      subst hx
      unfold noteL
      rw [if_pos hgt]
      have e2 : upT ⟨a, n, n⟩ n = ⟨a, n, n⟩ := by unfold upT; simp
      rw [e2, e]
    have hfl : (l.filter (kp a) ++ [(⟨a, n, n⟩ : Tk)]).length ≤ 900001 := by rw [List.length_append]; have := List.length_filter_le (kp a) l; simp; omega
    have L1 := Lib.hid (And.intro h.lt hfl)
    generalize l.filter (kp a) = lf at CB EN L1
    generalize noteL l a n = NL at EN ⊢
    generalize lastT l = L at C d4 d5
    clear h hl hb hr hs hgt hfl
    go_enter Try.func10, Try.ntmps10
    go_wp2_with fail
    refine C.out.mono ?_
    rintro e w1 ⟨rfl, g1⟩
    have CC := Lib.hid (CB.out w1 g1)
    have G1 := Lib.hid g1
    clear g1 C CB
    go_wp2_with fail
    refine CC.out.mono ?_
    rintro e w2 ⟨rfl, ⟨vx, M, hv⟩, t2⟩
    have HX : Hid (Mem N w2 mb vx (lf ++ [⟨a, n, n⟩]) ∧ (∀ g, vx.ownBlock = some g → v.ownBlock = some g ∨ w.heap.size ≤ g) ∧ Tch (Foot mb v) w w2) := ⟨M, fun g hg => (hv g hg).imp id (fun h => Nat.le_trans G1.out.size h), (Tch.ofBelow G1.out.below (Foot mb v)).trans t2 (fun g hg => .inl hg)⟩
    obtain ⟨l1, x, hlx⟩ : ∃ l1 x, l1 ++ [x] = lf ++ [⟨a, n, n⟩] := ⟨_, _, rfl⟩
    have E := Lib.hid (EN.out l1 x hlx.symm)
    have LN : Hid (l1.length ≤ 900000) := by have := L1.out.2; rw [← hlx, List.length_append] at this; show _ ≤ _; simp at this; omega
    rw [← hlx] at HX
    clear CC M hv t2 EN L1 hlx G1 lf
    have hp : (l1 ++ [x])[l1.length]? = some x := by simp
    obtain ⟨g, c, rfl, hgo, hNg, hgl, hrr⟩ := HX.out.1.at hp
    obtain ⟨r0, r1, r2⟩ := range3 hrr
    obtain ⟨n0, hn0⟩ : ∃ n, n = (l1 ++ [x]).length := ⟨_, rfl⟩
    have hn1 : n0 = l1.length + 1 := by rw [hn0]; simp
    have c0 := HX.out.1.c0
    rw [← hn0] at c0
    obtain ⟨k, hk⟩ : ∃ k, k = l1.length := ⟨_, rfl⟩
    rw [← hk] at r1 r2 hn1
    have hk9 : k ≤ 900000 := by rw [hk]; exact LN.out
    have wn : IntKind.i64.wrap ((n0 : Int) - 1) = (k : Int) := by rw [IntKind.wrap_i64]; omega
    have i0 : (0 : Int) ≤ (k : Int) := by omega
    have i1 : (k : Int) < (n0 : Int) := by omega
    have ub := HX.out.1.own
    have KC : Hid (w2.cell? ⟨mb, 0, none⟩ = some (.slice (some ⟨g, 0, none⟩) n0 c) ∧ w2.cell? ⟨g, k * 3 + 1, none⟩ = some (.int .i64 x.lo) ∧ w2.cell? ⟨g, k * 3 + 2, none⟩ = some (.int .i64 x.hi)) := ⟨c0, r1, r2⟩
    have HK := Lib.hid (And.intro hk (And.intro hn0 hn1))
    clear hrr hp hgo hk hn0 hn1 hk9 r0 LN ub
    go_upto_region 8 with fail
    go_quiet (fail)
    have KD : Hid ((w2.drewN nq).cell? ⟨mb, 0, none⟩ = some (.slice (some ⟨g, 0, none⟩) n0 c) ∧ (w2.drewN nq).cell? ⟨g, k * 3 + 1, none⟩ = some (.int .i64 x.lo) ∧ (w2.drewN nq).cell? ⟨g, k * 3 + 2, none⟩ = some (.int .i64 x.hi)) := KC.out
    have HY : Hid (Mem N (w2.drewN nq) mb (.slice (some ⟨g, 0, none⟩) (l1 ++ [x]).length c) (l1 ++ [x]) ∧ (∀ g', (Value.slice (some ⟨g, 0, none⟩) (l1 ++ [x]).length c).ownBlock = some g' → v.ownBlock = some g' ∨ w.heap.size ≤ g') ∧ Tch (Foot mb v) w (w2.drewN nq)) := ⟨HX.out.1.drewN nq, HX.out.2.1, HX.out.2.2.drewN nq⟩
    generalize w2.drewN nq = w3 at KD HY ⊢
    clear c0 r1 r2 KC HX i0 i1 wn
    have KS : Hid (∀ ws : World, (ws.cell? ⟨g, k * 3 + 1, none⟩ = some (.int .i64 x.lo) ∧ ws.cell? ⟨g, k * 3 + 2, none⟩ = some (.int .i64 x.hi)) → ws.cell? ⟨g, k * 3 + 1, none⟩ = some (.int .i64 x.lo) ∧ ws.cell? ⟨g, k * 3 + 2, none⟩ = some (.int .i64 x.hi)) := fun ws h => h
    have S3 : Hid (w3.drew.cell? ⟨g, k * 3 + 1, none⟩ = some (.int .i64 x.lo) ∧ w3.drew.cell? ⟨g, k * 3 + 2, none⟩ = some (.int .i64 x.hi)) := KD.out.2
    obtain ⟨cur, hcur⟩ : ∃ cur, w3.heap[g]? = some (.cells cur TT (0, 0)) := by
      rcases HY.out.1.own.2 with ⟨e, _⟩ | ⟨g3, cap, cur, e3, _, hb, _⟩
      · cases e
      · simp only [Value.slice.injEq, Option.some.injEq, Addr.mk.injEq, true_and, and_true] at e3
        obtain ⟨rfl, _⟩ := e3
        exact ⟨cur, hb⟩
    obtain ⟨lo2, hlo⟩ : ∃ z, z = min x.lo n := ⟨_, rfl⟩
    obtain ⟨hi2, hhi⟩ : ∃ z, z = max x.hi n := ⟨_, rfl⟩
    obtain ⟨w4, hw4⟩ : ∃ w4, w4 = w3.drew.setCell ⟨g, k * 3 + 1, none⟩ (.int .i64 lo2) := ⟨_, rfl⟩
    obtain ⟨w5, hw5⟩ : ∃ w5, w5 = w4.setCell ⟨g, k * 3 + 2, none⟩ (.int .i64 hi2) := ⟨_, rfl⟩
    have cur' : w3.drew.heap[g]? = some (.cells cur TT (0, 0)) := hcur
    have c41 : w3.drew.cell? ⟨g, k * 3 + 1, none⟩ = some (.int .i64 x.lo) := KD.out.2.1
    have u41 : w3.drew.frozen? ⟨g, k * 3 + 1, none⟩ = false := unfrozen_of_block cur' _
    have cur4 : w4.heap[g]? = some (.cells (cur.setIfInBounds (k * 3 + 1) (.int .i64 lo2)) TT (0, 0)) := by rw [hw4, block_setCell cur']
    have c42 : w4.cell? ⟨g, k * 3 + 2, none⟩ = some (.int .i64 x.hi) := by
      have := KD.out.2.2
      rw [cell_of_block hcur] at this
      rw [cell_of_block cur4, Array.getElem?_setIfInBounds_ne (by omega)]
      exact this
    have u42 : w4.frozen? ⟨g, k * 3 + 2, none⟩ = false := unfrozen_of_block cur4 _
    have HW4 : Hid ((w3.setCell ⟨g, k * 3 + 1, none⟩ (.int .i64 lo2)).drew = w4) := by show _ = _; rw [hw4]; rfl
    have HW5 : Hid (w4.setCell ⟨g, k * 3 + 2, none⟩ (.int .i64 hi2) = w5) := hw5.symm
    have FIN : Hid (Mem N w5 mb (.slice (some ⟨g, 0, none⟩) (l1 ++ [x]).length c) NL ∧ (∀ g', (Value.slice (some ⟨g, 0, none⟩) (l1 ++ [x]).length c).ownBlock = some g' → v.ownBlock = some g' ∨ w.heap.size ≤ g') ∧ Tch (Foot mb v) w w5) := by
      obtain ⟨M3, hv3, t3⟩ := HY.out
      have e5 : w5 = (w3.drew.setCell ⟨g, k * 3 + 1, none⟩ (.int .i64 lo2)).setCell ⟨g, k * 3 + 2, none⟩ (.int .i64 hi2) := by rw [hw5, hw4]
      have gm : mb ≠ g := fun e => M3.ne (by rw [e]; rfl)
      have gS : g ∈ Foot mb v ∨ w.heap.size ≤ g := (hv3 g rfl).imp (fun h => List.mem_cons_of_mem _ (by simp [h])) id
      refine ⟨⟨?_, ?_, M3.bs⟩, hv3, ?_⟩
      · rw [e5, Below.heap_setCell _ _ _ _ (by show mb ≠ g; exact gm), Below.heap_setCell _ _ _ _ (by show mb ≠ g; exact gm)]
        exact M3.blk
      · have ow3 : w3.drew.ownsRow N TT 3 (.slice (some ⟨g, 0, none⟩) (l1 ++ [x]).length c) (l1 ++ [x]).length (flat encS (l1 ++ [x])) := own_block M3.own (fun _ _ => rfl)
        have := own_two (lo := lo2) (hi := hi2) ow3 rfl (show (l1 ++ [x])[k]? = some x by rw [HK.out.1]; simp)
        unfold OwnK
        rw [← E.out, e5]
        have e6 : (l1 ++ [x]).set k ⟨x.tm, lo2, hi2⟩ = l1 ++ [upT x n] := by
          rw [HK.out.1, hlo, hhi]
          unfold upT
          simp
        rw [e6] at this
        have e7 : (l1 ++ [upT x n]).length = (l1 ++ [x]).length := by simp
        rw [e7]
        exact this
      · rw [e5]
        exact ((t3.drewN 1).setCell _ _ gS).setCell _ _ gS
    rw [← HK.out.2.1] at FIN
    have hlo' := hlo.symm
    have hhi' := hhi.symm
    clear hcur hlo hhi hw4 hw5 cur' cur4 HY HK KD E
    go_upto_region 9 with fail
    refine wp_region_E (f := 16) (S := fun ws => ws.cell? ⟨g, k * 3 + 1, none⟩ = some (.int .i64 x.lo) ∧ ws.cell? ⟨g, k * 3 + 2, none⟩ = some (.int .i64 x.hi)) mixed S3.out (fun hS => ?_)
    refine wpAnyE_takeP (i := 0) (d := 46) (v := .pointer (some ⟨g, k * 3, none⟩)) _ rfl rfl (by kernel_rfl) (by kernel_rfl) (by kernel_rfl) (by kernel_rfl) (fun _ _ _ h => h) (Or.inl ⟨by kernel_rfl, fun ws => by first | (go_simp; done) | (go_simp; with_reducible rfl) | (go_simp; rfl)⟩) hS ?_
    simp only [Act.put, List.setIfInBounds_toArray, List.set_cons_zero, List.set_cons_succ]
    refine wpAnyE_takeP (i := 1) (d := 47) (v := .pointer (some ⟨g, k * 3, none⟩)) _ rfl rfl (by kernel_rfl) (by kernel_rfl) (by kernel_rfl) (by kernel_rfl) (fun _ _ _ h => h) (Or.inl ⟨by kernel_rfl, fun ws => by first | (go_simp; done) | (go_simp; with_reducible rfl) | (go_simp; rfl)⟩) hS ?_
    simp only [Act.put, List.setIfInBounds_toArray, List.set_cons_zero, List.set_cons_succ]
    refine wpAnyE_takeP (i := 2) (d := 48) (v := .pointer (some ⟨g, k * 3, none⟩)) _ rfl rfl (by kernel_rfl) (by kernel_rfl) (by kernel_rfl) (by kernel_rfl) (fun _ _ _ h => h) (Or.inl ⟨by kernel_rfl, fun ws => by first | (go_simp; done) | (go_simp; with_reducible rfl) | (go_simp; rfl)⟩) hS ?_
    simp only [Act.put, List.setIfInBounds_toArray, List.set_cons_zero, List.set_cons_succ]
    refine wpAnyE_takeP (i := 3) (d := 49) (v := .pointer (some ⟨g, k * 3, none⟩)) _ rfl rfl (by kernel_rfl) (by kernel_rfl) (by kernel_rfl) (by kernel_rfl) (fun _ _ _ h => h) (Or.inl ⟨by kernel_rfl, fun ws => by first | (go_simp; done) | (go_simp; with_reducible rfl) | (go_simp; rfl)⟩) hS ?_
    simp only [Act.put, List.setIfInBounds_toArray, List.set_cons_zero, List.set_cons_succ]
    refine wpAnyE_takeP (i := 4) (d := 50) (v := .pointer (some ⟨g, k * 3 + 1, none⟩)) _ rfl rfl (by kernel_rfl) (by kernel_rfl) (by kernel_rfl) (by kernel_rfl) (fun _ _ _ h => h) (Or.inl ⟨by kernel_rfl, fun ws => by first | (go_simp; done) | (go_simp; with_reducible rfl) | (go_simp; rfl)⟩) hS ?_
    simp only [Act.put, List.setIfInBounds_toArray, List.set_cons_zero, List.set_cons_succ]
    refine wpAnyE_takeD (i := 5) (d := 51) (v := .int .i64 x.lo) _ rfl rfl (by kernel_rfl) (by kernel_rfl) (by kernel_rfl) (by kernel_rfl) (fun _ _ _ h => h) (Or.inl ⟨by kernel_rfl, fun ws hSw => by have q := KS.out ws hSw; first | (go_simp; done) | (go_simp; with_reducible rfl) | (go_simp; rfl)⟩) hS ?_
    simp only [Act.put, List.setIfInBounds_toArray, List.set_cons_zero, List.set_cons_succ]
    refine wpAnyE_takeP (i := 6) (d := 52) (v := .int .i64 n) _ rfl rfl (by kernel_rfl) (by kernel_rfl) (by kernel_rfl) (by kernel_rfl) (fun _ _ _ h => h) (Or.inl ⟨by kernel_rfl, fun ws => by first | (go_simp; done) | (go_simp; with_reducible rfl) | (go_simp; rfl)⟩) hS ?_
    simp only [Act.put, List.setIfInBounds_toArray, List.set_cons_zero, List.set_cons_succ]
    refine wpAnyE_takeP (i := 7) (d := 53) (v := .int .i64 lo2) _ rfl rfl (by kernel_rfl) (by kernel_rfl) (by kernel_rfl) (by kernel_rfl) (fun _ _ _ h => h) (Or.inl ⟨by kernel_rfl, fun ws => by first | (go_simp; done) | (go_simp; with_reducible rfl) | (go_simp; rfl)⟩) hS ?_
    simp only [Act.put, List.setIfInBounds_toArray, List.set_cons_zero, List.set_cons_succ]
    refine wpAnyE_takeP (i := 8) (d := 54) (v := .pointer (some ⟨g, k * 3, none⟩)) _ rfl rfl (by kernel_rfl) (by kernel_rfl) (by kernel_rfl) (by kernel_rfl) (fun _ _ _ h => h) (Or.inl ⟨by kernel_rfl, fun ws => by first | (go_simp; done) | (go_simp; with_reducible rfl) | (go_simp; rfl)⟩) hS ?_
    simp only [Act.put, List.setIfInBounds_toArray, List.set_cons_zero, List.set_cons_succ]
    refine wpAnyE_takeP (i := 9) (d := 55) (v := .pointer (some ⟨g, k * 3, none⟩)) _ rfl rfl (by kernel_rfl) (by kernel_rfl) (by kernel_rfl) (by kernel_rfl) (fun _ _ _ h => h) (Or.inl ⟨by kernel_rfl, fun ws => by first | (go_simp; done) | (go_simp; with_reducible rfl) | (go_simp; rfl)⟩) hS ?_
    simp only [Act.put, List.setIfInBounds_toArray, List.set_cons_zero, List.set_cons_succ]
    refine wpAnyE_takeP (i := 10) (d := 56) (v := .pointer (some ⟨g, k * 3 + 2, none⟩)) _ rfl rfl (by kernel_rfl) (by kernel_rfl) (by kernel_rfl) (by kernel_rfl) (fun _ _ _ h => h) (Or.inl ⟨by kernel_rfl, fun ws => by first | (go_simp; done) | (go_simp; with_reducible rfl) | (go_simp; rfl)⟩) hS ?_
    simp only [Act.put, List.setIfInBounds_toArray, List.set_cons_zero, List.set_cons_succ]
    refine wpAnyE_takeD (i := 11) (d := 57) (v := .int .i64 x.hi) _ rfl rfl (by kernel_rfl) (by kernel_rfl) (by kernel_rfl) (by kernel_rfl) (fun _ _ _ h => h) (Or.inl ⟨by kernel_rfl, fun ws hSw => by have q := KS.out ws hSw; first | (go_simp; done) | (go_simp; with_reducible rfl) | (go_simp; rfl)⟩) hS ?_
    simp only [Act.put, List.setIfInBounds_toArray, List.set_cons_zero, List.set_cons_succ]
    refine wpAnyE_takeP (i := 12) (d := 58) (v := .int .i64 n) _ rfl rfl (by kernel_rfl) (by kernel_rfl) (by kernel_rfl) (by kernel_rfl) (fun _ _ _ h => h) (Or.inl ⟨by kernel_rfl, fun ws => by first | (go_simp; done) | (go_simp; with_reducible rfl) | (go_simp; rfl)⟩) hS ?_
    simp only [Act.put, List.setIfInBounds_toArray, List.set_cons_zero, List.set_cons_succ]
    refine wpAnyE_takeP (i := 13) (d := 59) (v := .int .i64 hi2) _ rfl rfl (by kernel_rfl) (by kernel_rfl) (by kernel_rfl) (by kernel_rfl) (fun _ _ _ h => h) (Or.inl ⟨by kernel_rfl, fun ws => by first | (go_simp; done) | (go_simp; with_reducible rfl) | (go_simp; rfl)⟩) hS ?_
    simp only [Act.put, List.setIfInBounds_toArray, List.set_cons_zero, List.set_cons_succ]
    refine wpAnyE_takeP (i := 14) (d := 60) (v := .pointer (some ⟨g, k * 3, none⟩)) _ rfl rfl (by kernel_rfl) (by kernel_rfl) (by kernel_rfl) (by kernel_rfl) (fun _ _ _ h => h) (Or.inl ⟨by kernel_rfl, fun ws => by first | (go_simp; done) | (go_simp; with_reducible rfl) | (go_simp; rfl)⟩) hS ?_
    simp only [Act.put, List.setIfInBounds_toArray, List.set_cons_zero, List.set_cons_succ]
    refine wpAnyE_takeP (i := 15) (d := 61) (v := .pointer (some ⟨g, k * 3 + 1, none⟩)) _ rfl rfl (by kernel_rfl) (by kernel_rfl) (by kernel_rfl) (by kernel_rfl) (fun _ _ _ h => h) (Or.inl ⟨by kernel_rfl, fun ws => by first | (go_simp; done) | (go_simp; with_reducible rfl) | (go_simp; rfl)⟩) hS ?_
    simp only [Act.put, List.setIfInBounds_toArray, List.set_cons_zero, List.set_cons_succ]
    refine wpAnyE_write rfl (by kernel_rfl) (fun K hK => ?_)
    go_simp
    rw [HW4.out]
    refine hK _ _ ?_
    clear c41 u41 HW4 hS
    try simp only [Act.put, List.setIfInBounds_toArray, List.set_cons_zero, List.set_cons_succ]
    refine wpAny_one (i := 17) rfl (by kernel_rfl) (fun K hK => ?_)
    go_simp
    refine hK _ _ ?_
    try simp only [Act.put, List.setIfInBounds_toArray, List.set_cons_zero, List.set_cons_succ]
    refine wpAny_one (i := 18) rfl (by kernel_rfl) (fun K hK => ?_)
    go_simp
    refine hK _ _ ?_
    try simp only [Act.put, List.setIfInBounds_toArray, List.set_cons_zero, List.set_cons_succ]
    refine wpAny_one (i := 19) rfl (by kernel_rfl) (fun K hK => ?_)
    go_simp
    rw [HW5.out]
    refine hK _ _ ?_
    try simp only [Act.put, List.setIfInBounds_toArray, List.set_cons_zero, List.set_cons_succ]
    refine wpAny_end (by kernel_rfl) ?_
    clear c42 u42 HW5
    go_wp2
    go_ret
    exact ⟨rfl, ⟨_, FIN.out.1, FIN.out.2.1⟩, FIN.out.2.2⟩
  · have d5 : decide (a > lastT l) = false := decide_eq_false hgt
    rcases List.eq_nil_or_concat l with e0 | ⟨l1, x, e0⟩
    · exfalso
      subst e0
      have : lastT [] = -1 := rfl
      omega
    · rw [List.concat_eq_append] at e0
      have E : Hid (l1 ++ [upT x n] = noteL l a n) := by
        show _ = _
        unfold noteL
        rw [if_neg hgt, e0]
        simp
      have LN : Hid (l1.length ≤ 900000) := by show _ ≤ _; rw [e0, List.length_append] at hl; simp at hl; omega
      generalize noteL l a n = NL at E ⊢
      generalize lastT l = L at C d4 d5
      have HV : Hid (∀ w2, Gr w w2 → ∃ vx, Mem N w2 mb vx (l1 ++ [x]) ∧ (∀ g, vx.ownBlock = some g → v.ownBlock = some g ∨ w.heap.size ≤ g) ∧ Tch (Foot mb v) w w2) := fun w2 g => ⟨v, by rw [← e0]; exact h.below g.below, fun g hg => .inl hg, Tch.ofBelow g.below _⟩
      clear h hl hb hr hs hgt e0
      go_enter Try.func10, Try.ntmps10
      go_wp2_with fail
      refine C.out.mono ?_
      rintro e w2 ⟨rfl, g1⟩
      obtain ⟨vx, HX0⟩ := HV.out w2 g1
      have HX := Lib.hid HX0
      clear g1 C HV HX0
      have hp : (l1 ++ [x])[l1.length]? = some x := by simp
      obtain ⟨g, c, rfl, hgo, hNg, hgl, hrr⟩ := HX.out.1.at hp
      obtain ⟨r0, r1, r2⟩ := range3 hrr
      obtain ⟨n0, hn0⟩ : ∃ n, n = (l1 ++ [x]).length := ⟨_, rfl⟩
      have hn1 : n0 = l1.length + 1 := by rw [hn0]; simp
      have c0 := HX.out.1.c0
      rw [← hn0] at c0
      obtain ⟨k, hk⟩ : ∃ k, k = l1.length := ⟨_, rfl⟩
      rw [← hk] at r1 r2 hn1
      have hk9 : k ≤ 900000 := by rw [hk]; exact LN.out
      have wn : IntKind.i64.wrap ((n0 : Int) - 1) = (k : Int) := by rw [IntKind.wrap_i64]; omega
      have i0 : (0 : Int) ≤ (k : Int) := by omega
      have i1 : (k : Int) < (n0 : Int) := by omega
      have ub := HX.out.1.own
      have KC : Hid (w2.cell? ⟨mb, 0, none⟩ = some (.slice (some ⟨g, 0, none⟩) n0 c) ∧ w2.cell? ⟨g, k * 3 + 1, none⟩ = some (.int .i64 x.lo) ∧ w2.cell? ⟨g, k * 3 + 2, none⟩ = some (.int .i64 x.hi)) := ⟨c0, r1, r2⟩
      have HK := Lib.hid (And.intro hk (And.intro hn0 hn1))
      clear hrr hp hgo hk hn0 hn1 hk9 r0 LN ub
      go_upto_region 8 with fail
      go_quiet (fail)
      have KD : Hid ((w2.drewN nq).cell? ⟨mb, 0, none⟩ = some (.slice (some ⟨g, 0, none⟩) n0 c) ∧ (w2.drewN nq).cell? ⟨g, k * 3 + 1, none⟩ = some (.int .i64 x.lo) ∧ (w2.drewN nq).cell? ⟨g, k * 3 + 2, none⟩ = some (.int .i64 x.hi)) := KC.out
      have HY : Hid (Mem N (w2.drewN nq) mb (.slice (some ⟨g, 0, none⟩) (l1 ++ [x]).length c) (l1 ++ [x]) ∧ (∀ g', (Value.slice (some ⟨g, 0, none⟩) (l1 ++ [x]).length c).ownBlock = some g' → v.ownBlock = some g' ∨ w.heap.size ≤ g') ∧ Tch (Foot mb v) w (w2.drewN nq)) := ⟨HX.out.1.drewN nq, HX.out.2.1, HX.out.2.2.drewN nq⟩
      generalize w2.drewN nq = w3 at KD HY ⊢
      clear c0 r1 r2 KC HX i0 i1 wn
      have KS : Hid (∀ ws : World, (ws.cell? ⟨g, k * 3 + 1, none⟩ = some (.int .i64 x.lo) ∧ ws.cell? ⟨g, k * 3 + 2, none⟩ = some (.int .i64 x.hi)) → ws.cell? ⟨g, k * 3 + 1, none⟩ = some (.int .i64 x.lo) ∧ ws.cell? ⟨g, k * 3 + 2, none⟩ = some (.int .i64 x.hi)) := fun ws h => h
      have S3 : Hid (w3.drew.cell? ⟨g, k * 3 + 1, none⟩ = some (.int .i64 x.lo) ∧ w3.drew.cell? ⟨g, k * 3 + 2, none⟩ = some (.int .i64 x.hi)) := KD.out.2
      obtain ⟨cur, hcur⟩ : ∃ cur, w3.heap[g]? = some (.cells cur TT (0, 0)) := by
        rcases HY.out.1.own.2 with ⟨e, _⟩ | ⟨g3, cap, cur, e3, _, hb, _⟩
        · cases e
        · simp only [Value.slice.injEq, Option.some.injEq, Addr.mk.injEq, true_and, and_true] at e3
          obtain ⟨rfl, _⟩ := e3
          exact ⟨cur, hb⟩
      obtain ⟨lo2, hlo⟩ : ∃ z, z = min x.lo n := ⟨_, rfl⟩
      obtain ⟨hi2, hhi⟩ : ∃ z, z = max x.hi n := ⟨_, rfl⟩
      obtain ⟨w4, hw4⟩ : ∃ w4, w4 = w3.drew.setCell ⟨g, k * 3 + 1, none⟩ (.int .i64 lo2) := ⟨_, rfl⟩
      obtain ⟨w5, hw5⟩ : ∃ w5, w5 = w4.setCell ⟨g, k * 3 + 2, none⟩ (.int .i64 hi2) := ⟨_, rfl⟩
      have cur' : w3.drew.heap[g]? = some (.cells cur TT (0, 0)) := hcur
      have c41 : w3.drew.cell? ⟨g, k * 3 + 1, none⟩ = some (.int .i64 x.lo) := KD.out.2.1
      have u41 : w3.drew.frozen? ⟨g, k * 3 + 1, none⟩ = false := unfrozen_of_block cur' _
      have cur4 : w4.heap[g]? = some (.cells (cur.setIfInBounds (k * 3 + 1) (.int .i64 lo2)) TT (0, 0)) := by rw [hw4, block_setCell cur']
      have c42 : w4.cell? ⟨g, k * 3 + 2, none⟩ = some (.int .i64 x.hi) := by
        have := KD.out.2.2
        rw [cell_of_block hcur] at this
        rw [cell_of_block cur4, Array.getElem?_setIfInBounds_ne (by omega)]
        exact this
      have u42 : w4.frozen? ⟨g, k * 3 + 2, none⟩ = false := unfrozen_of_block cur4 _
      have HW4 : Hid ((w3.setCell ⟨g, k * 3 + 1, none⟩ (.int .i64 lo2)).drew = w4) := by show _ = _; rw [hw4]; rfl
      have HW5 : Hid (w4.setCell ⟨g, k * 3 + 2, none⟩ (.int .i64 hi2) = w5) := hw5.symm
      have FIN : Hid (Mem N w5 mb (.slice (some ⟨g, 0, none⟩) (l1 ++ [x]).length c) NL ∧ (∀ g', (Value.slice (some ⟨g, 0, none⟩) (l1 ++ [x]).length c).ownBlock = some g' → v.ownBlock = some g' ∨ w.heap.size ≤ g') ∧ Tch (Foot mb v) w w5) := by
        obtain ⟨M3, hv3, t3⟩ := HY.out
        have e5 : w5 = (w3.drew.setCell ⟨g, k * 3 + 1, none⟩ (.int .i64 lo2)).setCell ⟨g, k * 3 + 2, none⟩ (.int .i64 hi2) := by rw [hw5, hw4]
        have gm : mb ≠ g := fun e => M3.ne (by rw [e]; rfl)
        have gS : g ∈ Foot mb v ∨ w.heap.size ≤ g := (hv3 g rfl).imp (fun h => List.mem_cons_of_mem _ (by simp [h])) id
        refine ⟨⟨?_, ?_, M3.bs⟩, hv3, ?_⟩
        · rw [e5, Below.heap_setCell _ _ _ _ (by show mb ≠ g; exact gm), Below.heap_setCell _ _ _ _ (by show mb ≠ g; exact gm)]
          exact M3.blk
        · have ow3 : w3.drew.ownsRow N TT 3 (.slice (some ⟨g, 0, none⟩) (l1 ++ [x]).length c) (l1 ++ [x]).length (flat encS (l1 ++ [x])) := own_block M3.own (fun _ _ => rfl)
          have := own_two (lo := lo2) (hi := hi2) ow3 rfl (show (l1 ++ [x])[k]? = some x by rw [HK.out.1]; simp)
          unfold OwnK
          rw [← E.out, e5]
          have e6 : (l1 ++ [x]).set k ⟨x.tm, lo2, hi2⟩ = l1 ++ [upT x n] := by
            rw [HK.out.1, hlo, hhi]
            unfold upT
            simp
          rw [e6] at this
          have e7 : (l1 ++ [upT x n]).length = (l1 ++ [x]).length := by simp
          rw [e7]
          exact this
        · rw [e5]
          exact ((t3.drewN 1).setCell _ _ gS).setCell _ _ gS
      rw [← HK.out.2.1] at FIN
      have hlo' := hlo.symm
      have hhi' := hhi.symm
      clear hcur hlo hhi hw4 hw5 cur' cur4 HY HK KD E
      go_upto_region 9 with fail
      refine wp_region_E (f := 16) (S := fun ws => ws.cell? ⟨g, k * 3 + 1, none⟩ = some (.int .i64 x.lo) ∧ ws.cell? ⟨g, k * 3 + 2, none⟩ = some (.int .i64 x.hi)) mixed S3.out (fun hS => ?_)
      refine wpAnyE_takeP (i := 0) (d := 46) (v := .pointer (some ⟨g, k * 3, none⟩)) _ rfl rfl (by kernel_rfl) (by kernel_rfl) (by kernel_rfl) (by kernel_rfl) (fun _ _ _ h => h) (Or.inl ⟨by kernel_rfl, fun ws => by first | (go_simp; done) | (go_simp; with_reducible rfl) | (go_simp; rfl)⟩) hS ?_
      simp only [Act.put, List.setIfInBounds_toArray, List.set_cons_zero, List.set_cons_succ]
      refine wpAnyE_takeP (i := 1) (d := 47) (v := .pointer (some ⟨g, k * 3, none⟩)) _ rfl rfl (by kernel_rfl) (by kernel_rfl) (by kernel_rfl) (by kernel_rfl) (fun _ _ _ h => h) (Or.inl ⟨by kernel_rfl, fun ws => by first | (go_simp; done) | (go_simp; with_reducible rfl) | (go_simp; rfl)⟩) hS ?_
      simp only [Act.put, List.setIfInBounds_toArray, List.set_cons_zero, List.set_cons_succ]
      refine wpAnyE_takeP (i := 2) (d := 48) (v := .pointer (some ⟨g, k * 3, none⟩)) _ rfl rfl (by kernel_rfl) (by kernel_rfl) (by kernel_rfl) (by kernel_rfl) (fun _ _ _ h => h) (Or.inl ⟨by kernel_rfl, fun ws => by first | (go_simp; done) | (go_simp; with_reducible rfl) | (go_simp; rfl)⟩) hS ?_
      simp only [Act.put, List.setIfInBounds_toArray, List.set_cons_zero, List.set_cons_succ]
      refine wpAnyE_takeP (i := 3) (d := 49) (v := .pointer (some ⟨g, k * 3, none⟩)) _ rfl rfl (by kernel_rfl) (by kernel_rfl) (by kernel_rfl) (by kernel_rfl) (fun _ _ _ h => h) (Or.inl ⟨by kernel_rfl, fun ws => by first | (go_simp; done) | (go_simp; with_reducible rfl) | (go_simp; rfl)⟩) hS ?_
      simp only [Act.put, List.setIfInBounds_toArray, List.set_cons_zero, List.set_cons_succ]
      refine wpAnyE_takeP (i := 4) (d := 50) (v := .pointer (some ⟨g, k * 3 + 1, none⟩)) _ rfl rfl (by kernel_rfl) (by kernel_rfl) (by kernel_rfl) (by kernel_rfl) (fun _ _ _ h => h) (Or.inl ⟨by kernel_rfl, fun ws => by first | (go_simp; done) | (go_simp; with_reducible rfl) | (go_simp; rfl)⟩) hS ?_
      simp only [Act.put, List.setIfInBounds_toArray, List.set_cons_zero, List.set_cons_succ]
      refine wpAnyE_takeD (i := 5) (d := 51) (v := .int .i64 x.lo) _ rfl rfl (by kernel_rfl) (by kernel_rfl) (by kernel_rfl) (by kernel_rfl) (fun _ _ _ h => h) (Or.inl ⟨by kernel_rfl, fun ws hSw => by have q := KS.out ws hSw; first | (go_simp; done) | (go_simp; with_reducible rfl) | (go_simp; rfl)⟩) hS ?_
      simp only [Act.put, List.setIfInBounds_toArray, List.set_cons_zero, List.set_cons_succ]
      refine wpAnyE_takeP (i := 6) (d := 52) (v := .int .i64 n) _ rfl rfl (by kernel_rfl) (by kernel_rfl) (by kernel_rfl) (by kernel_rfl) (fun _ _ _ h => h) (Or.inl ⟨by kernel_rfl, fun ws => by first | (go_simp; done) | (go_simp; with_reducible rfl) | (go_simp; rfl)⟩) hS ?_
      simp only [Act.put, List.setIfInBounds_toArray, List.set_cons_zero, List.set_cons_succ]
      refine wpAnyE_takeP (i := 7) (d := 53) (v := .int .i64 lo2) _ rfl rfl (by kernel_rfl) (by kernel_rfl) (by kernel_rfl) (by kernel_rfl) (fun _ _ _ h => h) (Or.inl ⟨by kernel_rfl, fun ws => by first | (go_simp; done) | (go_simp; with_reducible rfl) | (go_simp; rfl)⟩) hS ?_
      simp only [Act.put, List.setIfInBounds_toArray, List.set_cons_zero, List.set_cons_succ]
      refine wpAnyE_takeP (i := 8) (d := 54) (v := .pointer (some ⟨g, k * 3, none⟩)) _ rfl rfl (by kernel_rfl) (by kernel_rfl) (by kernel_rfl) (by kernel_rfl) (fun _ _ _ h => h) (Or.inl ⟨by kernel_rfl, fun ws => by first | (go_simp; done) | (go_simp; with_reducible rfl) | (go_simp; rfl)⟩) hS ?_
      simp only [Act.put, List.setIfInBounds_toArray, List.set_cons_zero, List.set_cons_succ]
      refine wpAnyE_takeP (i := 9) (d := 55) (v := .pointer (some ⟨g, k * 3, none⟩)) _ rfl rfl (by kernel_rfl) (by kernel_rfl) (by kernel_rfl) (by kernel_rfl) (fun _ _ _ h => h) (Or.inl ⟨by kernel_rfl, fun ws => by first | (go_simp; done) | (go_simp; with_reducible rfl) | (go_simp; rfl)⟩) hS ?_
      simp only [Act.put, List.setIfInBounds_toArray, List.set_cons_zero, List.set_cons_succ]
      refine wpAnyE_takeP (i := 10) (d := 56) (v := .pointer (some ⟨g, k * 3 + 2, none⟩)) _ rfl rfl (by kernel_rfl) (by kernel_rfl) (by kernel_rfl) (by kernel_rfl) (fun _ _ _ h => h) (Or.inl ⟨by kernel_rfl, fun ws => by first | (go_simp; done) | (go_simp; with_reducible rfl) | (go_simp; rfl)⟩) hS ?_
      simp only [Act.put, List.setIfInBounds_toArray, List.set_cons_zero, List.set_cons_succ]
      refine wpAnyE_takeD (i := 11) (d := 57) (v := .int .i64 x.hi) _ rfl rfl (by kernel_rfl) (by kernel_rfl) (by kernel_rfl) (by kernel_rfl) (fun _ _ _ h => h) (Or.inl ⟨by kernel_rfl, fun ws hSw => by have q := KS.out ws hSw; first | (go_simp; done) | (go_simp; with_reducible rfl) | (go_simp; rfl)⟩) hS ?_
      simp only [Act.put, List.setIfInBounds_toArray, List.set_cons_zero, List.set_cons_succ]
      refine wpAnyE_takeP (i := 12) (d := 58) (v := .int .i64 n) _ rfl rfl (by kernel_rfl) (by kernel_rfl) (by kernel_rfl) (by kernel_rfl) (fun _ _ _ h => h) (Or.inl ⟨by kernel_rfl, fun ws => by first | (go_simp; done) | (go_simp; with_reducible rfl) | (go_simp; rfl)⟩) hS ?_
      simp only [Act.put, List.setIfInBounds_toArray, List.set_cons_zero, List.set_cons_succ]
      refine wpAnyE_takeP (i := 13) (d := 59) (v := .int .i64 hi2) _ rfl rfl (by kernel_rfl) (by kernel_rfl) (by kernel_rfl) (by kernel_rfl) (fun _ _ _ h => h) (Or.inl ⟨by kernel_rfl, fun ws => by first | (go_simp; done) | (go_simp; with_reducible rfl) | (go_simp; rfl)⟩) hS ?_
      simp only [Act.put, List.setIfInBounds_toArray, List.set_cons_zero, List.set_cons_succ]
      refine wpAnyE_takeP (i := 14) (d := 60) (v := .pointer (some ⟨g, k * 3, none⟩)) _ rfl rfl (by kernel_rfl) (by kernel_rfl) (by kernel_rfl) (by kernel_rfl) (fun _ _ _ h => h) (Or.inl ⟨by kernel_rfl, fun ws => by first | (go_simp; done) | (go_simp; with_reducible rfl) | (go_simp; rfl)⟩) hS ?_
      simp only [Act.put, List.setIfInBounds_toArray, List.set_cons_zero, List.set_cons_succ]
      refine wpAnyE_takeP (i := 15) (d := 61) (v := .pointer (some ⟨g, k * 3 + 1, none⟩)) _ rfl rfl (by kernel_rfl) (by kernel_rfl) (by kernel_rfl) (by kernel_rfl) (fun _ _ _ h => h) (Or.inl ⟨by kernel_rfl, fun ws => by first | (go_simp; done) | (go_simp; with_reducible rfl) | (go_simp; rfl)⟩) hS ?_
      simp only [Act.put, List.setIfInBounds_toArray, List.set_cons_zero, List.set_cons_succ]
      refine wpAnyE_write rfl (by kernel_rfl) (fun K hK => ?_)
      go_simp
      rw [HW4.out]
      refine hK _ _ ?_
      clear c41 u41 HW4 hS
      try simp only [Act.put, List.setIfInBounds_toArray, List.set_cons_zero, List.set_cons_succ]
      refine wpAny_one (i := 17) rfl (by kernel_rfl) (fun K hK => ?_)
      go_simp
      refine hK _ _ ?_
      try simp only [Act.put, List.setIfInBounds_toArray, List.set_cons_zero, List.set_cons_succ]
      refine wpAny_one (i := 18) rfl (by kernel_rfl) (fun K hK => ?_)
      go_simp
      refine hK _ _ ?_
      try simp only [Act.put, List.setIfInBounds_toArray, List.set_cons_zero, List.set_cons_succ]
      refine wpAny_one (i := 19) rfl (by kernel_rfl) (fun K hK => ?_)
      go_simp
      rw [HW5.out]
      refine hK _ _ ?_
      try simp only [Act.put, List.setIfInBounds_toArray, List.set_cons_zero, List.set_cons_succ]
      refine wpAny_end (by kernel_rfl) ?_
      clear c42 u42 HW5
      go_wp2
      go_ret
      exact ⟨rfl, ⟨_, FIN.out.1, FIN.out.2.1⟩, FIN.out.2.2⟩
end Go.Proofs.Ytcejaeeliedldaa.Wn
