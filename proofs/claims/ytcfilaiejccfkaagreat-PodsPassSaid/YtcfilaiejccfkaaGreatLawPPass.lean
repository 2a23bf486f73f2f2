/- Proved here: the law PodsPass of layer 14 holds for every input: a pass lets all pods get on, each by itself, and changes nothing else; a pass behind it changes nothing. No conditions. -/
import Derived.Test.YtcfilaiejccfkaaGreatPoP
import Derived.Test.YtcfilaiejccfkaaGreatVLawBase
import Derived.Test.YtcfilaiejccfkaaGreatPost
import Derived.Test.YtcfilaiejccfkaaGreatArgs
namespace Go.Proofs.YtcfilaiejccfkaaGreat.podsPass
open Go.ChangeShapes Go.WideShapes Go.ChangeAt Go.RowKit Go.Lib Go.Shelf Go.Sort Go.Deep
open Go.Joins (cell_of_block unfrozen_of_block block_setCell)
open Go.Proofs.YtcfilaiejccfkaaGreat.Lc Go.Proofs.YtcfilaiejccfkaaGreat.Po
set_option linter.unusedVariables false
set_option linter.unusedSimpArgs false
set_option maxRecDepth 20000

/-! ### what is read behind a pass -/
theorem set_back (x : Pd) (now : Int) (there : Bool) : setPh (nxt x now there) x.ph x.since = x := by
  unfold nxt
  split
  · rfl
  · split
    · rfl
    · split <;> rfl
/-- An object whose version, phase and tick were put anew. -/
def re (z : Ob) (a b : Int) (v : Nat) : Ob := { z with ver := v, p := setPh z.p a b }
theorem re_obj {w : World} {L : Array Value} {z : Ob} (hv : ObjV w L z) (a b : Int) {v : Nat} (h64 : v < 18446744073709551616) :
    ObjV w (((L.setIfInBounds 12 (.int .i64 a)).setIfInBounds 13 (.int .i64 b)).setIfInBounds 2 (.int .u64 (v : Int))) (re z a b v) := by
  obtain ⟨hsz, ⟨c0, c1, c2, hver⟩, hW, hP, hN, hG, hH⟩ := hv
  obtain ⟨c3, c4, c5, c6, c7, c8, c9⟩ := hW
  obtain ⟨c10, c11, c12, c13, c14, c15, c16, c17, c18, c19⟩ := hP
  obtain ⟨c20, c21, c22, c23, c24, c25, c26⟩ := hN
  obtain ⟨c27, c28, c29, c30, c31, c32, c33, c34⟩ := hG
  obtain ⟨c35, c36, c37, c38, c39, c40, c41, c42, c43, c44, c45, c46⟩ := hH
  obtain ⟨X, hX⟩ : ∃ X, X = ((L.setIfInBounds 12 (.int .i64 a)).setIfInBounds 13 (.int .i64 b)).setIfInBounds 2 (.int .u64 (v : Int)) := ⟨_, rfl⟩
  have ne : ∀ i, 2 ≠ i → 12 ≠ i → 13 ≠ i → X[i]? = L[i]? := fun i h1 h2 h3 => by
    rw [hX, Array.getElem?_setIfInBounds_ne h1, Array.getElem?_setIfInBounds_ne h3, Array.getElem?_setIfInBounds_ne h2]
  have e2 : X[2]? = some (.int .u64 (v : Int)) := by
    rw [hX]
    exact Array.getElem?_setIfInBounds_self_of_lt (by simp; omega)
  have e12 : X[12]? = some (.int .i64 a) := by
    rw [hX, Array.getElem?_setIfInBounds_ne (by decide), Array.getElem?_setIfInBounds_ne (by decide)]
    exact Array.getElem?_setIfInBounds_self_of_lt (by omega)
  have e13 : X[13]? = some (.int .i64 b) := by
    rw [hX, Array.getElem?_setIfInBounds_ne (by decide)]
    exact Array.getElem?_setIfInBounds_self_of_lt (by simp; omega)
  have hs : X.size = 47 := by rw [hX]; simp [hsz]
  rw [← hX]
  have n : ∀ {i : Nat} {u : Option Value}, L[i]? = u → 2 ≠ i → 12 ≠ i → 13 ≠ i → X[i]? = u := fun h h1 h2 h3 => (ne _ h1 h2 h3).trans h
  have nL : ∀ {α : Type} {k i : Nat} {e : α → List Value} {l : List α}, SlR k e w L[i]? l → 2 ≠ i → 12 ≠ i → 13 ≠ i → SlR k e w X[i]? l := fun h h1 h2 h3 => by rw [ne _ h1 h2 h3]; exact h
  exact ⟨hs, ⟨n c0 (by decide) (by decide) (by decide), n c1 (by decide) (by decide) (by decide), e2, h64⟩, ⟨n c3 (by decide) (by decide) (by decide), n c4 (by decide) (by decide) (by decide), n c5 (by decide) (by decide) (by decide), nL c6 (by decide) (by decide) (by decide), nL c7 (by decide) (by decide) (by decide), nL c8 (by decide) (by decide) (by decide), n c9 (by decide) (by decide) (by decide)⟩, ⟨n c10 (by decide) (by decide) (by decide), n c11 (by decide) (by decide) (by decide), e12, e13, n c14 (by decide) (by decide) (by decide), n c15 (by decide) (by decide) (by decide), nL c16 (by decide) (by decide) (by decide), nL c17 (by decide) (by decide) (by decide), nL c18 (by decide) (by decide) (by decide), n c19 (by decide) (by decide) (by decide)⟩, ⟨n c20 (by decide) (by decide) (by decide), n c21 (by decide) (by decide) (by decide), n c22 (by decide) (by decide) (by decide), nL c23 (by decide) (by decide) (by decide), nL c24 (by decide) (by decide) (by decide), n c25 (by decide) (by decide) (by decide), n c26 (by decide) (by decide) (by decide)⟩, ⟨n c27 (by decide) (by decide) (by decide), n c28 (by decide) (by decide) (by decide), n c29 (by decide) (by decide) (by decide), n c30 (by decide) (by decide) (by decide), n c31 (by decide) (by decide) (by decide), nL c32 (by decide) (by decide) (by decide), nL c33 (by decide) (by decide) (by decide), n c34 (by decide) (by decide) (by decide)⟩, ⟨n c35 (by decide) (by decide) (by decide), n c36 (by decide) (by decide) (by decide), n c37 (by decide) (by decide) (by decide), nL c38 (by decide) (by decide) (by decide), n c39 (by decide) (by decide) (by decide), n c40 (by decide) (by decide) (by decide), n c41 (by decide) (by decide) (by decide), nL c42 (by decide) (by decide) (by decide), n c43 (by decide) (by decide) (by decide), n c44 (by decide) (by decide) (by decide), nL c45 (by decide) (by decide) (by decide), nL c46 (by decide) (by decide) (by decide)⟩⟩
theorem re_back {l : List Ob} {now : Int} {o z : Ob} (h : z = o ∨ ∃ v, z = setV (gets l now o) v) : re z o.p.ph o.p.since o.ver = o := by
  rcases h with rfl | ⟨v, rfl⟩
  · rfl
  · show { o with p := setPh (nxt o.p now (l.any (hit 2 o.p.node))) o.p.ph o.p.since } = o
    rw [set_back]
/-- What is found behind a pass by an object's name. -/
theorem pas_find {l0 l1 : List Ob} {now : Int} {n0 : Nat} {hist : List Ev} (h : Pas l0 now n0 (listed 1 l0) l1 hist) (ap0 : l0.Pairwise (fun a b => Key a ≠ Key b)) (ap : l1.Pairwise (fun a b => Key a ≠ Key b)) {o : Ob} (ho : o ∈ l0) :
    ∃ z, l1.any (hit o.kind o.name) = true ∧ l1.find? (hit o.kind o.name) = some z ∧ ((z = o ∧ (o.kind = 1 → mv l0 now o = false)) ∨ (o.kind = 1 ∧ mv l0 now o = true ∧ ∃ v, z = setV (gets l0 now o) v)) := by
  have ha : l1.any (hit o.kind o.name) = true := by rw [h.any]; exact List.any_eq_true.2 ⟨o, ho, hit_self o⟩
  cases hf : l1.find? (hit o.kind o.name) with
  | none =>
    obtain ⟨x, hx, hh⟩ := List.any_eq_true.1 ha
    have := List.find?_eq_none.1 hf x hx
    rw [hh] at this
    exact absurd rfl this
  | some z =>
    refine ⟨z, ha, rfl, ?_⟩
    have hz := List.mem_of_find?_eq_some hf
    obtain ⟨q1, q2⟩ := hit_iff.1 (List.find?_some hf)
    obtain ⟨o', ho', hk, hc⟩ := h.back ap hz
    have e : o' = o := key_same ap0 ho' ho (by rw [hk]; unfold Key; rw [q1, q2])
    subst e
    rcases hc with ⟨rfl, hc⟩ | ⟨hd, hm, hv⟩
    · refine .inl ⟨rfl, fun h1 => ?_⟩
      rcases hc with hc | hc
      · exact absurd (listed_mem.2 ⟨ho, h1⟩) hc
      · exact hc
    · exact .inr ⟨(listed_mem.1 hd).2, hm, hv⟩
/-- How many have got on, of the kinds below; of those gone through. -/
def cntM (l : List Ob) (now : Int) (k : Nat) : Nat := if 1 < k then ((listed 1 l).filter (mv l now)).length else 0
def cntP (l : List Ob) (now : Int) (k : Nat) (pre : List Co) : Nat := if k = 1 then ((pre.map (·.1.2)).filter (mv l now)).length else 0
theorem cntM_next (l : List Ob) (now : Int) (k : Nat) (xs : List Co) (h : xs.map (·.1.2) = listed (k : Int) l) : cntM l now k + cntP l now k xs = cntM l now (k + 1) := by
  unfold cntM cntP
  by_cases h1 : k = 1
  · subst h1
    rw [if_pos rfl, if_neg (by decide), if_pos (by decide), h]
    simp
  · rw [if_neg h1]
    by_cases h2 : 1 < k
    · rw [if_pos h2, if_pos (by omega)]
      rfl
    · rw [if_neg h2, if_neg (by omega)]
theorem cntM_le (l : List Ob) (now : Int) (k : Nat) : cntM l now k ≤ l.length := by
  unfold cntM
  split
  · have h1 := List.length_filter_le (mv l now) (listed 1 l)
    have h2 := listed_len (l := l) 1
    omega
  · omega
theorem cntP_other {l : List Ob} {now : Int} {k : Nat} {pre : List Co} {x : Co} (h : k ≠ 1 ∨ mv l now x.1.2 = false) : cntP l now k (pre ++ [x]) = cntP l now k pre := by
  unfold cntP
  split
  · rename_i h1
    rcases h with h | h
    · exact absurd h1 h
    · rw [List.map_append, List.filter_append]
      simp [h]
  · rfl
theorem cntP_one {l : List Ob} {now : Int} {pre : List Co} {x : Co} (h : mv l now x.1.2 = true) : cntP l now 1 (pre ++ [x]) = cntP l now 1 pre + 1 := by
  unfold cntP
  rw [if_pos rfl, if_pos rfl, List.map_append, List.filter_append]
  simp [h]
theorem cntP_le {l : List Ob} {now : Int} {k : Nat} {pre : List Co} : cntP l now k pre ≤ pre.length := by
  unfold cntP
  split
  · have := List.length_filter_le (mv l now) (pre.map (·.1.2))
    rwa [List.length_map] at this
  · omega

set_option maxHeartbeats 40000000 in
theorem walk_at (W : World) (q : Option Addr) (c : Nat) (l0 : List Obv) (now : Int) (hr : RowR 47 encOb W q l0) (hok : ∀ x ∈ l0, okOb W x) (hlen : l0.length ≤ 140737488351232) :
    Calls Tryz.prog 3 #[.slice q l0.length c, .int .i64 now] W fun e W' => e = .returned (.bool true) ∧ Below W.heap.size W W' := by
  have mixed : Tryz.prog.follows .mixedOrders = true := by kernel_rfl
  have V := Lib.hid plives_any
  obtain ⟨base, hbase⟩ : ∃ b, b = W.heap.size := ⟨_, rfl⟩
  obtain ⟨w1, hw1⟩ : ∃ x, x = (W.alloc (.cells #[.int .i64 now] 2)).alloc (.cells #[.bool false] 4) := ⟨_, rfl⟩
  have G1 : Gr W w1 := hw1 ▸ ((Gr.refl W).alloc _).alloc _
  have z1 : w1.heap.size = base + 2 := by rw [hw1, hbase]; simp
  have a0 : w1.heap[base]? = some (.cells #[.int .i64 now] 2 (0, 0)) := by
    rw [hw1, hbase, ((Gr.refl (W.alloc (.cells #[.int .i64 now] 2))).alloc _).heap (by simp)]
    exact heap_alloc_new W _
  have a1 : w1.heap[base + 1]? = some (.cells #[.bool false] 4 (0, 0)) := by
    rw [hw1, hbase]
    have := heap_alloc_new (W.alloc (.cells #[.int .i64 now] 2)) (.cells #[.bool false] 4)
    simpa using this
  have CS := Lib.hid (stocked_any base W w1 hbase.symm G1.below q c l0 hr hok hlen)
  have HW1 : Hid ((W.alloc (.cells #[.int .i64 now] 2)).alloc (.cells #[.bool false] 4) = w1 ∧ W.heap.size = base) := ⟨hw1.symm, hbase.symm⟩
  obtain ⟨n0, hn0⟩ : ∃ n, n = l0.length := ⟨_, rfl⟩
  rw [← hn0] at CS ⊢
  have H1 := Lib.hid (And.intro G1.below (And.intro z1 (And.intro a0 a1)))
  clear hr hok hlen hbase hw1 G1 z1 a0 a1 hn0
  refine (callsIn_wide (n := 6)).1 ?_
  refine callsIn_of_wp_marks Tryz.func3 rfl trivial ?_ rfl
  simp only [Tryz.ntmps3, List.size_toArray, List.length_cons, List.length_nil, Nat.reduceAdd, Nat.reduceSub, Array.replicate_succ, Array.replicate_zero, List.push_toArray, List.append_toArray, List.nil_append, List.cons_append]
  refine wpIn_wide.2 ?_
  go_upto_region 1 with fail
  rw [HW1.out.1, HW1.out.2]
  go_wp2_with fail
  refine CS.out.mono ?_
  rintro e w2 ⟨hres, b2⟩
  have B2 : Hid (Below W.heap.size W w2 ∧ w2.heap[base]? = some (.cells #[.int .i64 now] 2 (0, 0)) ∧ w2.heap[base + 1]? = some (.cells #[.bool false] 4 (0, 0)) ∧ base + 2 ≤ w2.heap.size) := by
    obtain ⟨h1, z1, a0, a1⟩ := H1.out
    exact ⟨h1.trans (b2.mono h1.size), (b2.block _ (by omega)).trans a0, (b2.block _ (by omega)).trans a1, by have := b2.size; omega⟩
  rcases hres with rfl | ⟨sp, S, l, hist, rfl, st, hS, hl60, hh60⟩
  · clear b2 CS
    go_wp2_with fail
    obtain ⟨wz, hwz⟩ : ∃ x, x = w2.alloc (.cells #[.pointer none] 23) := ⟨_, rfl⟩
    rw [← hwz]
    have Bz : Hid (Below W.heap.size W wz ∧ wz.heap[base + 1]? = some (.cells #[.bool false] 4 (0, 0)) ∧ base + 2 ≤ wz.heap.size ∧ wz.heap[w2.heap.size]? = some (.cells #[.pointer none] 23 (0, 0))) := by
      obtain ⟨h1, a0, a1, z⟩ := B2.out
      have g : Gr w2 wz := hwz ▸ (Gr.refl w2).alloc _
      exact ⟨h1.trans (g.below.mono h1.size), (g.heap (by omega)).trans a1, by have := g.size; omega, by rw [hwz]; exact heap_alloc_new w2 _⟩
    clear hwz
    refine (V.out _).mono ?_
    rintro e w3 ⟨rfl, v3⟩
    have B3 : Hid (Below W.heap.size W w3 ∧ w3.heap[base + 1]? = some (.cells #[.bool false] 4 (0, 0))) := ⟨Bz.out.1.trans (v3.mono Bz.out.1.size), (v3.block _ (by have := Bz.out.2.2.1; omega)).trans Bz.out.2.1⟩
    have k5 : w3.cell? ⟨w2.heap.size, 0, none⟩ = some (.pointer none) := cell_of_block ((v3.block _ (Array.getElem?_eq_some_iff.1 Bz.out.2.2.2).1).trans Bz.out.2.2.2) 0
    clear v3
    go_wp2_with fail
    refine (V.out _).mono ?_
    rintro e w4 ⟨rfl, v4⟩
    have r2 : w4.heap[base + 1]? = some (.cells #[.bool false] 4 (0, 0)) := (v4.block _ (Array.getElem?_eq_some_iff.1 B3.out.2).1).trans B3.out.2
    have rc : w4.cell? ⟨base + 1, 0, none⟩ = some (.bool false) := cell_of_block r2 0
    have rf : w4.frozen? ⟨base + 1, 0, none⟩ = false := unfrozen_of_block r2 0
    obtain ⟨wy, hwy⟩ : ∃ x, x = w4.setCell ⟨base + 1, 0, none⟩ (.bool true) := ⟨_, rfl⟩
    have FIN : Hid (wy.heap[base + 1]? = some (.cells #[.bool true] 4 (0, 0)) ∧ Below W.heap.size W wy) := by
      refine ⟨by rw [hwy, block_setCell r2]; rfl, ?_⟩
      rw [hwy]
      exact (B3.out.1.trans (v4.mono B3.out.1.size)).setCell (by show W.heap.size ≤ base + 1; rw [HW1.out.2]; omega) _
    have hwy' := hwy.symm
    clear v4 r2 hwy k5
    go_wp2_with fail
    refine leaves_marks (F := Fence.wide) (n := 6) (P := Tryz.prog) (fn := Tryz.f3) [] wy List.Pairwise.nil (fun D hD => by cases hD) (fun w'' c'' => ?_)
    exact ⟨_, results_cellB rfl _ w'' (base + 1) rfl ((c''.block _ (Array.getElem?_eq_some_iff.1 FIN.out.1).1 (by simp)).trans FIN.out.1), rfl, FIN.out.2.trans (c''.below (fun g hg => by cases hg) FIN.out.2.size)⟩
  · have H2 := Lib.hid (And.intro st (And.intro hS (And.intro hl60 (And.intro hh60 b2))))
    obtain ⟨w3, hw3⟩ : ∃ x, x = w2.alloc (.cells #[.pointer (some ⟨sp, 0, none⟩)] 23) := ⟨_, rfl⟩
    obtain ⟨Bs, hBs⟩ : ∃ b, b = w2.heap.size := ⟨_, rfl⟩
    have HW3 : Hid (w2.alloc (.cells #[.pointer (some ⟨sp, 0, none⟩)] 23) = w3 ∧ w2.heap.size = Bs) := ⟨hw3.symm, hBs.symm⟩
    have B3 : Hid (Below w2.heap.size w2 w3 ∧ w3.heap[Bs]? = some (.cells #[.pointer (some ⟨sp, 0, none⟩)] 23 (0, 0))) := ⟨hw3 ▸ ((Gr.refl w2).alloc _).below, by rw [hw3, hBs]; exact heap_alloc_new w2 _⟩
    clear st hS hl60 hh60 b2 CS hw3 hBs
    go_wp2_with fail
    rw [HW3.out.1, HW3.out.2]
    refine (V.out _).mono ?_
    rintro e w4 ⟨rfl, v4⟩
    have B4 : Hid (Below w2.heap.size w2 w4 ∧ w4.heap[Bs]? = some (.cells #[.pointer (some ⟨sp, 0, none⟩)] 23 (0, 0))) := ⟨B3.out.1.trans (v4.mono B3.out.1.size), (v4.block _ (Array.getElem?_eq_some_iff.1 B3.out.2).1).trans B3.out.2⟩
    have k4 : w4.cell? ⟨Bs, 0, none⟩ = some (.pointer (some ⟨sp, 0, none⟩)) := cell_of_block B4.out.2 0
    have CC := Lib.hid (copy_any base w4 S sp 200 l hist (H2.out.1.gr B4.out.1) (by have := H2.out.2.2.2.1; omega))
    clear v4 B3
    go_wp2_with fail
    refine CC.out.mono ?_
    rintro e w5 ⟨⟨cp, S', rfl, st', hS'⟩, b5⟩
    obtain ⟨w6, hw6⟩ : ∃ x, x = w5.alloc (.cells #[.pointer (some ⟨cp, 0, none⟩)] 23) := ⟨_, rfl⟩
    obtain ⟨Bc, hBc⟩ : ∃ b, b = w5.heap.size := ⟨_, rfl⟩
    have HW6 : Hid (w5.alloc (.cells #[.pointer (some ⟨cp, 0, none⟩)] 23) = w6 ∧ w5.heap.size = Bc) := ⟨hw6.symm, hBc.symm⟩
    have g6 : Below w5.heap.size w5 w6 := hw6 ▸ ((Gr.refl w5).alloc _).below
    have b46 : Below w4.heap.size w4 w6 := b5.trans (g6.mono b5.size)
    have b26 : Below w2.heap.size w2 w6 := B4.out.1.trans (b46.mono B4.out.1.size)
    obtain ⟨nh, hnh⟩ : ∃ n, n = hist.length := ⟨_, rfl⟩
    have st6 : StIs base w6 S sp 200 l hist := H2.out.1.gr b26
    have B6 : Hid (True ∧ w6.heap[base]? = some (.cells #[.int .i64 now] 2 (0, 0)) ∧ w6.heap[base + 1]? = some (.cells #[.bool false] 4 (0, 0)) ∧ w6.heap[Bs]? = some (.cells #[.pointer (some ⟨sp, 0, none⟩)] 23 (0, 0)) ∧ w6.heap[Bc]? = some (.cells #[.pointer (some ⟨cp, 0, none⟩)] 23 (0, 0)) ∧ Below W.heap.size W w6 ∧ True ∧ StIs base w6 S' cp 200 l hist ∧ (∀ g ∈ S, base + 2 ≤ g ∧ g < Bs) ∧ (∀ g ∈ S', Bs < g ∧ g < Bc) ∧ base + 2 ≤ Bs ∧ Bs < Bc ∧ w6.heap.size = Bc + 1) := by
      obtain ⟨h1, a0, a1, z⟩ := B2.out
      obtain ⟨_, z1, _, _⟩ := H1.out
      obtain ⟨st, hS, _⟩ := H2.out
      have e1 := HW3.out.2
      have e2 := (Array.getElem?_eq_some_iff.1 B4.out.2).1
      have e3 := b5.size
      refine ⟨trivial, (b26.block _ (by omega)).trans a0, (b26.block _ (by omega)).trans a1, (b46.block _ e2).trans B4.out.2, by rw [hw6, hBc]; exact heap_alloc_new w5 _, h1.trans (b26.mono h1.size), trivial, st'.gr g6, fun g hg => ⟨by have := hS g hg; omega, by have := (st.prot g hg).2.1; omega⟩, fun g hg => ⟨by have := hS' g hg; omega, by rw [hBc]; exact (st'.prot g hg).2.1⟩, by omega, by rw [hBc]; omega, by rw [hw6, hBc]; simp⟩
    have CN := Lib.hid (now_any base w6 S sp 200 l hist st6)
    rw [← hnh] at CN
    have HNH := Lib.hid hnh
    have ST6 := Lib.hid (And.intro b26 st6)
    have k5 : w6.cell? ⟨Bs, 0, none⟩ = some (.pointer (some ⟨sp, 0, none⟩)) := cell_of_block B6.out.2.2.2.1 0
    have k3 : w6.cell? ⟨base, 0, none⟩ = some (.int .i64 now) := cell_of_block B6.out.2.1 0
    clear st' hS' b5 hw6 hBc g6 b46 b26 st6 hnh CC k4 B4
    go_upto_region 5 with fail
    rw [HW6.out.1, HW6.out.2]
    go_wp2_with fail
    refine CN.out.mono ?_
    rintro e w' ⟨rfl, hw'⟩
    rw [hw']
    clear hw' CN
    by_cases hb : now < 0 ∨ 4611686018427387904 < now
    · have CP := Lib.hid (pass_bad w6 sp now hb)
      obtain ⟨d1, hd1⟩ : ∃ d, decide (now < 0) = d := ⟨_, rfl⟩
      obtain ⟨d2, hd2⟩ : ∃ d, decide (4611686018427387904 < now) = d := ⟨_, rfl⟩
      have hd : (d1 || d2) = true := by
        rw [← hd1, ← hd2]
        simpa using hb
      clear hb
      go_wp2_with fail
      refine CP.out.mono ?_
      rintro e w7 ⟨rfl, b7⟩
      have B7 : Hid (Below W.heap.size W w7 ∧ w7.heap[base + 1]? = some (.cells #[.bool false] 4 (0, 0)) ∧ StIs base w7 S sp 200 l hist) := by
        obtain ⟨-, a0, a1, a2, a3, low, -⟩ := B6.out
        exact ⟨low.trans (b7.mono low.size), (b7.block _ (Array.getElem?_eq_some_iff.1 a1).1).trans a1, ST6.out.2.gr b7⟩
      have m3 : w7.cell? ⟨base, 0, none⟩ = some (.int .i64 now) := (World.cell?_of_block (b7.block base (World.block_lt_of_cell? _ _ k3))).trans k3
      have m5 : w7.cell? ⟨Bs, 0, none⟩ = some (.pointer (some ⟨sp, 0, none⟩)) := (World.cell?_of_block (b7.block Bs (World.block_lt_of_cell? _ _ k5))).trans k5
      have CN := Lib.hid (now_any base w7 S sp 200 l hist B7.out.2.2)
      rw [← HNH.out] at CN
      have r2 := B7.out.2.1
      have rc : w7.cell? ⟨base + 1, 0, none⟩ = some (.bool false) := cell_of_block r2 0
      have rf : w7.frozen? ⟨base + 1, 0, none⟩ = false := unfrozen_of_block r2 0
      obtain ⟨wy, hwy⟩ : ∃ x, x = w7.setCell ⟨base + 1, 0, none⟩ (.bool true) := ⟨_, rfl⟩
      have FIN : Hid (wy.heap[base + 1]? = some (.cells #[.bool true] 4 (0, 0)) ∧ Below W.heap.size W wy) := by
        refine ⟨by rw [hwy, block_setCell r2]; rfl, ?_⟩
        rw [hwy]
        exact B7.out.1.setCell (by show W.heap.size ≤ base + 1; rw [HW1.out.2]; omega) _
      have hwy' := hwy.symm
      clear b7 r2 hwy k3 k5 CP
      cases d1 with
      | true =>
        clear hd hd2
        go_wp2_with fail
        refine CN.out.mono ?_
        rintro e w' ⟨rfl, hw'⟩
        rw [hw']
        clear hw' CN
        go_wp2_with fail
        refine leaves_marks (F := Fence.wide) (n := 6) (P := Tryz.prog) (fn := Tryz.f3) [] wy List.Pairwise.nil (fun D hD => by cases hD) (fun w'' c'' => ?_)
        exact ⟨_, results_cellB rfl _ w'' (base + 1) rfl ((c''.block _ (Array.getElem?_eq_some_iff.1 FIN.out.1).1 (by simp)).trans FIN.out.1), rfl, FIN.out.2.trans (c''.below (fun g hg => by cases hg) FIN.out.2.size)⟩
      | false =>
        have hd2t : d2 = true := by simpa using hd
        subst hd2t
        clear hd
        go_wp2_with fail
        refine CN.out.mono ?_
        rintro e w' ⟨rfl, hw'⟩
        rw [hw']
        clear hw' CN
        go_wp2_with fail
        refine leaves_marks (F := Fence.wide) (n := 6) (P := Tryz.prog) (fn := Tryz.f3) [] wy List.Pairwise.nil (fun D hD => by cases hD) (fun w'' c'' => ?_)
        exact ⟨_, results_cellB rfl _ w'' (base + 1) rfl ((c''.block _ (Array.getElem?_eq_some_iff.1 FIN.out.1).1 (by simp)).trans FIN.out.1), rfl, FIN.out.2.trans (c''.below (fun g hg => by cases hg) FIN.out.2.size)⟩
    · have hb0 : 0 ≤ now := by omega
      have hb1 : now ≤ 4611686018427387904 := by omega
      have CP := Lib.hid (pass_any base w6 S sp 200 l hist now ST6.out.2 (by have := H2.out.2.2.1; omega) (by have := H2.out.2.2.1; have := H2.out.2.2.2.1; omega) hb0 hb1)
      have HB := Lib.hid (And.intro hb0 hb1)
      have t1 : decide (now < 0) = false := decide_eq_false (by omega)
      have t2 : decide (4611686018427387904 < now) = false := decide_eq_false (by omega)
      rw [← HNH.out] at CP
      clear hb hb0 hb1
      go_wp2_with fail
      refine CP.out.mono ?_
      rintro e w7 ⟨q1, c1, l1, h1, rfl, pas, S1, st1, ch1, hS1⟩
      obtain ⟨m1, hm1⟩ : ∃ m, m = h1.length - nh := ⟨_, rfl⟩
      rw [← hm1]
      obtain ⟨w8, hw8⟩ : ∃ x, x = w7.alloc (.cells #[.int .i64 0] 3) := ⟨_, rfl⟩
      obtain ⟨Bn, hBn⟩ : ∃ b, b = w7.heap.size := ⟨_, rfl⟩
      have HW8 : Hid (w7.alloc (.cells #[.int .i64 0] 3) = w8 ∧ w7.heap.size = Bn) := ⟨hw8.symm, hBn.symm⟩
      have g8 : Below w7.heap.size w7 w8 := hw8 ▸ ((Gr.refl w7).alloc _).below
      have n8 : w8.heap[Bn]? = some (.cells #[.int .i64 0] 3 (0, 0)) := by rw [hw8, hBn]; exact heap_alloc_new w7 _
      have z8 : w8.heap.size = Bn + 1 := by rw [hw8, hBn]; simp
      obtain ⟨-, a0, a1, a2, a3, low6, -, stc, hSr, hSc, e1, e2, e3⟩ := B6.out
      have z7 := ch1.size
      have L8 : Hid (w8.heap[Bn]? = some (.cells #[.int .i64 0] 3 (0, 0)) ∧ w8.heap.size = Bn + 1 ∧ base + 2 ≤ Bs ∧ Bs < Bc ∧ Bc < Bn) := ⟨n8, z8, e1, e2, by omega⟩
      have FX : Hid (∀ A, Chg [Bn] w8 A → A.heap[base]? = some (.cells #[.int .i64 now] 2 (0, 0)) ∧ A.heap[base + 1]? = some (.cells #[.bool false] 4 (0, 0)) ∧ A.heap[Bs]? = some (.cells #[.pointer (some ⟨sp, 0, none⟩)] 23 (0, 0)) ∧ A.heap[Bc]? = some (.cells #[.pointer (some ⟨cp, 0, none⟩)] 23 (0, 0)) ∧ StIs base A S1 sp 200 l1 h1 ∧ StIs base A S' cp 200 l hist ∧ Fx base w8 A ∧ Below W.heap.size W A) := fun A c => by
        have np : ∀ g ∈ [Bn], g < w8.heap.size → ¬ Prot base w8 g := fun g hg _ => by rw [List.mem_singleton] at hg; rw [hg]; exact (cells_prot n8 (by omega) rfl).2.2
        have fix : ∀ g o, w6.heap[g]? = some o → g ∉ S → A.heap[g]? = some o := fun g o hg hn => by
          have hl := (Array.getElem?_eq_some_iff.1 hg).1
          exact (c.block g (by omega) (by simp; omega)).trans ((g8.block g (by omega)).trans ((ch1.block g hl hn).trans hg))
        refine ⟨fix _ _ a0 (fun h => by have := hSr _ h; omega), fix _ _ a1 (fun h => by have := hSr _ h; omega), fix _ _ a2 (fun h => by have := hSr _ h; omega), fix _ _ a3 (fun h => by have := hSr _ h; omega), (st1.gr g8).chg c (fun g hg hm => by rw [List.mem_singleton] at hm; have := (st1.prot g hg).2.1; omega) np, ((stc.chg ch1 (fun g hg hm => by have h1 := hSc g hg; have h2 := hSr g hm; omega) (fun g hg _ => (ST6.out.2.prot g hg).2.2)).gr g8).chg c (fun g hg hm => by rw [List.mem_singleton] at hm; have := hSc g hg; omega) np, c.fx np, ?_⟩
        have hWb := HW1.out.2
        exact (low6.trans (ch1.below (fun g hg => by have := hSr g hg; omega) (by omega))).trans ((g8.mono (by omega)).trans (c.below (fun g hg => by rw [List.mem_singleton] at hg; omega) (by omega)))
      have HP : Hid (Pas l now nh (listed 1 l) l1 h1 ∧ l.Pairwise (fun a b => Key a ≠ Key b) ∧ l1.Pairwise (fun a b => Key a ≠ Key b) ∧ (∀ o ∈ l, OkK o) ∧ l.length ≤ 60 ∧ nh ≤ 60 ∧ m1 = h1.length - nh ∧ h1.length < 1000000) := by
        have h2 := pas.cnt
        have h3 := List.length_filter_le (mv l now) (listed 1 l)
        have h4 := listed_len (l := l) 1
        have h5 := H2.out.2.2.1
        have h6 := H2.out.2.2.2.1
        have h7 := HNH.out
        exact ⟨pas, (stIs_fine stc).2.1, (stIs_fine st1).2.1, (stIs_fine stc).2.2, h5, by omega, hm1, by omega⟩
      have HS1 : Hid (∀ g ∈ S1, (base + 2 ≤ g ∧ g < Bs) ∨ (Bc < g ∧ g < Bn)) := fun g hg => by
        have h1 := (st1.prot g hg).2.1
        have h2 := HW8.out.2
        rcases hS1 g hg with h | h
        · exact .inl (hSr g h)
        · exact .inr (by omega)
      have HSc := Lib.hid hSc
      have HWb := Lib.hid HW1.out.2
      have m3 : w7.cell? ⟨base, 0, none⟩ = some (.int .i64 now) := cell_of_block ((ch1.block base (Array.getElem?_eq_some_iff.1 a0).1 (fun h => by have := hSr _ h; omega)).trans a0) 0
      clear pas st1 ch1 hS1 hm1 hw8 hBn g8 n8 z8 a0 a1 a2 a3 low6 stc hSr hSc e1 e2 e3 z7 k3 k5 CP B6 ST6 H2 HW1 HW3 HW6 H1 B2
      go_upto_region 10 with fail
      rw [HW8.out.1, HW8.out.2]
      go_wp2_with fail
      obtain ⟨I, hI⟩ : ∃ I : Nat → Act → World → Prop, I = fun gg a' w' => ∃ (k : Nat) (Ds : List Nat) (u11 u62 u63 u64 u65 u66 u144 : Value), a' = { tmps := List.toArray (Value.slice q n0 c :: Value.int .i64 now :: undef :: Value.pointer (some ⟨base, 0, none⟩) :: Value.pointer (some ⟨base + 1, 0, none⟩) :: Value.pointer (some ⟨Bs, 0, none⟩) :: Value.pointer (some ⟨Bc, 0, none⟩) :: Value.int .u64 (nh : Int) :: Value.slice q1 m1 c1 :: Value.int .i64 0 :: Value.pointer (some ⟨Bn, 0, none⟩) :: u11 :: undef :: undef :: undef :: undef :: undef :: undef :: undef :: undef :: undef :: undef :: undef :: Value.slice q n0 c :: Value.pointer (some ⟨sp, 0, none⟩) :: Value.bool true :: Value.bool false :: Value.bool false :: Value.pointer (some ⟨sp, 0, none⟩) :: Value.bool false :: Value.bool false :: undef :: Value.pointer (some ⟨sp, 0, none⟩) :: Value.pointer (some ⟨cp, 0, none⟩) :: Value.pointer (some ⟨sp, 0, none⟩) :: Value.int .u64 (nh : Int) :: Value.tuple #[Value.slice q1 m1 c1, Value.int .i64 0] :: Value.pointer (some ⟨sp, 0, none⟩) :: Value.int .i64 now :: Value.tuple #[Value.slice q1 m1 c1, Value.int .i64 0] :: Value.slice q1 m1 c1 :: Value.int .i64 0 :: Value.int .i64 now :: Value.bool false :: Value.bool false :: Value.int .i64 now :: Value.bool false :: Value.bool false :: undef :: undef :: undef :: undef :: undef :: undef :: undef :: undef :: undef :: undef :: undef :: undef :: undef :: Value.int .i64 (k : Int) :: u62 :: u63 :: u64 :: u65 :: u66 :: undef :: undef :: undef :: undef :: undef :: undef :: undef :: undef :: undef :: undef :: undef :: undef :: undef :: undef :: undef :: undef :: undef :: undef :: undef :: undef :: undef :: undef :: undef :: undef :: undef :: undef :: undef :: undef :: undef :: undef :: undef :: undef :: undef :: undef :: undef :: undef :: undef :: undef :: undef :: undef :: undef :: undef :: undef :: undef :: undef :: undef :: undef :: undef :: undef :: undef :: undef :: undef :: undef :: undef :: undef :: undef :: undef :: undef :: undef :: undef :: undef :: undef :: undef :: undef :: undef :: undef :: undef :: undef :: undef :: undef :: undef :: undef :: undef :: undef :: undef :: undef :: undef :: u144 :: undef :: undef :: undef :: undef :: undef :: undef :: undef :: undef :: undef :: undef :: undef :: undef :: undef :: undef :: undef :: undef :: undef :: undef :: undef :: undef :: undef :: undef :: undef :: undef :: undef :: undef :: undef :: undef :: undef :: undef :: undef :: undef :: undef :: undef :: undef :: undef :: undef :: undef :: undef :: []), defers := Ds.map mark } ∧ k ≤ 5 ∧ 5 - k ≤ gg ∧ Hid (Chg [Bn] w8 w' ∧ w'.heap[Bn]? = some (.cells #[.int .i64 ((cntM l now k : Nat) : Int)] 3 (0, 0)) ∧ Ds.Pairwise (· ≠ ·) ∧ ∀ D ∈ Ds, Bn < D ∧ w'.heap[D]? = some (.deferred (some []))) := ⟨_, rfl⟩
      refine wp_loop_ghost_k I 5 ?_ ?_
      · rw [hI]
        refine ⟨0, [], ?_⟩
        repeat apply Exists.intro
        refine ⟨rfl, ?_⟩
        exact ⟨by omega, by omega, Chg.refl _ _, L8.out.1, List.Pairwise.nil, fun D hD => by cases hD⟩
      have HI := Lib.hid hI
      intro gk a' wr hrel J K hJ hK
      rw [hI] at hrel
      clear hI
      obtain ⟨k, Ds, hrel⟩ := hrel
      obtain ⟨u11, hrel⟩ := hrel
      obtain ⟨u62, hrel⟩ := hrel
      obtain ⟨u63, hrel⟩ := hrel
      obtain ⟨u64, hrel⟩ := hrel
      obtain ⟨u65, hrel⟩ := hrel
      obtain ⟨u66, hrel⟩ := hrel
      obtain ⟨u144, hrel⟩ := hrel
      obtain ⟨rfl, hk5, hgk, HX⟩ := hrel
      by_cases hlt : k < 5
      · have hlt' : ((k : Int) < 5) := by omega
        obtain ⟨Kb, hKb⟩ : ∃ b, b = wr.heap.size := ⟨_, rfl⟩
        obtain ⟨wa, hwa⟩ : ∃ x, x = wr.alloc (.cells #[.int .i64 (k : Int)] 3) := ⟨_, rfl⟩
        obtain ⟨wb, hwb⟩ : ∃ x, x = (wa.alloc (.cells #[.pointer (some ⟨cp, 0, none⟩)] 23)).alloc (.cells #[.int .i64 (k : Int)] 3) := ⟨_, rfl⟩
        have ga : Gr wr wa := hwa ▸ (Gr.refl wr).alloc _
        have gb : Gr wa wb := hwb ▸ ((Gr.refl wa).alloc _).alloc _
        have za : wa.heap.size = Kb + 1 := by rw [hwa, hKb]; simp
        have zb : wb.heap.size = Kb + 3 := by rw [hwb]; simp [za]
        have ka : wa.heap[Kb]? = some (.cells #[.int .i64 (k : Int)] 3 (0, 0)) := by rw [hwa, hKb]; exact heap_alloc_new wr _
        have kb : wb.heap[Kb]? = some (.cells #[.int .i64 (k : Int)] 3 (0, 0)) := (gb.heap (by omega)).trans ka
        have e1 : wb.heap[Kb + 1]? = some (.cells #[.pointer (some ⟨cp, 0, none⟩)] 23 (0, 0)) := by
          rw [hwb, ← za, ((Gr.refl (wa.alloc (.cells #[.pointer (some ⟨cp, 0, none⟩)] 23))).alloc _).heap (by simp)]
          exact heap_alloc_new wa _
        have e2 : wb.heap[Kb + 2]? = some (.cells #[.int .i64 (k : Int)] 3 (0, 0)) := by
          rw [hwb]
          have := heap_alloc_new (wa.alloc (.cells #[.pointer (some ⟨cp, 0, none⟩)] 23)) (.cells #[.int .i64 (k : Int)] 3)
          rw [World.size_alloc, za] at this
          exact this
        obtain ⟨ch, hbn, hdp, hdm⟩ := HX.out
        have chB : Chg [Bn] w8 wb := ch.trans (Chg.ofBelow (ga.trans gb).below []) (by simp)
        have chA : Chg [Bn] w8 wa := ch.trans (Chg.ofBelow ga.below []) (by simp)
        have FA := FX.out wa chA
        have FB := FX.out wb chB
        have d0 : wa.cell? ⟨Bc, 0, none⟩ = some (.pointer (some ⟨cp, 0, none⟩)) := cell_of_block FA.2.2.2.1 0
        have d1 : wa.cell? ⟨Kb, 0, none⟩ = some (.int .i64 (k : Int)) := cell_of_block ka 0
        have TN := list_tells (6 - 1) base wb S' cp (Kb + 1) 200 (k : Int) l hist FB.2.2.2.2.2.1 (cell_of_block e1 0) (cell_of_block e2 0) (by omega) (by have := HP.out.2.2.2.2.1; omega)
        have CL := Lib.hid (list_any wa (.pointer (some ⟨cp, 0, none⟩)) (k : Int) ⟨_, rfl⟩)
        have bnB : wb.heap[Bn]? = some (.cells #[.int .i64 ((cntM l now k : Nat) : Int)] 3 (0, 0)) := ((ga.trans gb).heap (Array.getElem?_eq_some_iff.1 hbn).1).trans hbn
        have szr : Bn + 1 ≤ Kb := by rw [hKb]; exact (Array.getElem?_eq_some_iff.1 hbn).1
        have HK := Lib.hid (And.intro zb (And.intro szr (And.intro (stIs_fine FB.2.2.2.2.1).1 hdp)))
        have dmB : Hid (∀ D ∈ Ds, Bn < D ∧ D < Kb ∧ wb.heap[D]? = some (.deferred (some []))) := fun D hD => by
          obtain ⟨q1, q2⟩ := hdm D hD
          have hl := (Array.getElem?_eq_some_iff.1 q2).1
          exact ⟨q1, by omega, ((ga.trans gb).heap hl).trans q2⟩
        have I0 : Hid (Chg [Bn] w8 wb ∧ wb.heap[Bn]? = some (.cells #[.int .i64 ((cntM l now k + cntP l now k [] : Nat) : Int)] 3 (0, 0)) ∧ wb.heap[Kb]? = some (.cells #[.int .i64 (k : Int)] 3 (0, 0)) ∧ (∀ D ∈ Ds, wb.heap[D]? = some (.deferred (some []))) ∧ ([] : List Co).map (·.1.2) = (listed (k : Int) l).take ([] : List Co).length) := by
          refine ⟨chB, ?_, kb, fun D hD => (dmB.out D hD).2.2, by simp⟩
          have e : cntP l now k [] = 0 := by unfold cntP; simp
          rw [e]
          exact bnB
        have HTN := Lib.hid TN
        have HWA : Hid (wr.alloc (.cells #[.int .i64 (k : Int)] 3) = wa ∧ wr.heap.size = Kb ∧ wa.heap.size = Kb + 1) := ⟨hwa.symm, hKb.symm, za⟩
        have HWB : Hid ((wa.alloc (.cells #[.pointer (some ⟨cp, 0, none⟩)] 23)).alloc (.cells #[.int .i64 (k : Int)] 3) = wb) := hwb.symm
        clear hwa hwb hKb ga gb za zb ka kb e1 e2 ch hbn hdp hdm chB chA FA FB TN bnB szr HX
        go_upto_region 13 with fail
        rw [HWA.out.1, HWA.out.2.1]
        go_wp2_with fail
        refine CL.out.mono ?_
        rintro e w' ⟨rfl, hw'⟩
        rw [HWA.out.2.2, hw', HWB.out]
        clear hw' CL d0 d1
        go_wp2_with fail
        refine (wpIn_wide (n := 6)).1 ?_
        refine wpIn_told (α := Co) (n := 6) (by decide) (gf := 22) (lb := #[.pointer (some ⟨Kb + 1, 0, none⟩), .pointer (some ⟨Kb + 1 + 1, 0, none⟩)]) rfl (enters_of Tryz.func22 (by kernel_rfl) rfl) HTN.out (Below.refl _ _) (fun _ => rfl) HK.out.2.2.1 (fun pre x A A' h f => ⟨h.1, h.2.fx f⟩)
          (fun pre A => Chg [Bn] w8 A ∧ A.heap[Bn]? = some (.cells #[.int .i64 ((cntM l now k + cntP l now k pre : Nat) : Int)] 3 (0, 0)) ∧ A.heap[Kb]? = some (.cells #[.int .i64 (k : Int)] 3 (0, 0)) ∧ (∀ D ∈ Ds, A.heap[D]? = some (.deferred (some []))) ∧ pre.map (·.1.2) = (listed (k : Int) l).take pre.length)
          (fun _ _ _ => False) ?_ (fun c s A A' T h _ _ => h.elim) I0.out ?_ ?_ (fun _ _ _ _ _ _ h _ => h.elim)
        · obtain ⟨zb, szr, _, _⟩ := HK.out
          have z8 := L8.out.2.1
          rintro pre A A' T ⟨i1, i2, i3, i4, i5⟩ c hT
          have off : ∀ g o, g < Kb + 3 → A.heap[g]? = some o → A'.heap[g]? = some o := fun g o hl hg => (c.block g (Array.getElem?_eq_some_iff.1 hg).1 (fun hm => by have := (hT g hm).1; omega)).trans hg
          exact ⟨i1.trans c (fun g hg => .inr (by have := (hT g hg).1; omega)), off _ _ (by omega) i2, off _ _ (by omega) i3, fun D hD => off _ _ (by have := (dmB.out D hD).2.1; omega) (i4 D hD), i5⟩
        · intro l' pre xo WW hi hgv hlB hlW
          rw [zip_one]
          obtain ⟨D, hD⟩ : ∃ D, D = xo.1.1.1 := ⟨_, rfl⟩
          obtain ⟨o, ho⟩ : ∃ o, o = xo.1.2 := ⟨_, rfl⟩
          have hkx := hgv.2
          rw [← hD] at hkx ⊢
          rw [← ho] at hkx
          have z0 : (WW.alloc (.cells zerC OT)).heap[WW.heap.size]? = some (.cells zerC OT (0, 0)) := heap_alloc_new WW _
          obtain ⟨th, n0', fx1, c1'⟩ := store_ob (base := WW.heap.size) z0 rfl hkx.obj.1 (Nat.le_refl _)
          obtain ⟨w3, hw3⟩ : ∃ W', W' = (WW.alloc (.cells zerC OT)).setCells WW.heap.size 0 D.toList := ⟨_, rfl⟩
          obtain ⟨O, hO⟩ : ∃ A, A = WW.heap.size := ⟨_, rfl⟩
          rw [← hw3] at n0' c1'
          have b3 : Below WW.heap.size WW w3 := by
            have g : Gr WW (WW.alloc (.cells zerC OT)) := (Gr.refl WW).alloc _
            exact ((Xb.ofGr g WW.heap.size).trans ⟨c1'.os, c1'.tape, c1'.output, c1'.size, fun k hk hne => c1'.block k hk (by simpa using hne)⟩).below (Nat.le_refl _) (Nat.le_refl _)
          rw [← hO] at n0'
          have TH := Lib.hid th
          have IN : Hid ((Tryz.prog.info? OT).map (·.size) = some D.size) := by show _ = _; rw [hkx.obj.1]; exact info_ob47
          have ON := Lib.hid (objV_one hkx.obj)
          have HW3 : Hid ((WW.alloc (.cells zerC OT)).setCells WW.heap.size 0 D.toList = w3 ∧ WW.heap.size = O) := ⟨hw3.symm, hO.symm⟩
          have H3 := Lib.hid (And.intro n0' (And.intro b3 (And.intro hi (And.intro hgv.1 (And.intro hkx ho)))))
          clear hkx z0 th n0' fx1 c1' hw3 hO b3 hi hgv hD ho
          refine region_round (by rfl) (fun ⟨a, w, h⟩ => h) ?_
          go_wp2_with (refine wpList_store_mid rfl _ _ _ rfl WW.heap.size 0 D (by rfl) (by rfl) TH.out IN.out ON.out ?_; rw [HW3.out.1, HW3.out.2])
          refine ⟨Stays.ofBelow H3.out.2.1, fun W2 c2 f2 => ?_⟩
          obtain ⟨n3, b3, ⟨i1, i2, i3, i4, i5⟩, gv1, gv2, ho⟩ := H3.out
          obtain ⟨zb, szr, hbase, hdp⟩ := HK.out
          obtain ⟨n8, z8, eBs, eBc, eBn⟩ := L8.out
          have hO : WW.heap.size = O := HW3.out.2
          rw [← ho] at gv1
          have chW : Chg [Bn] w8 W2 := (i1.trans (Chg.ofBelow b3 []) (by simp)).trans c2 (fun g hg => .inr (by rw [List.mem_singleton] at hg; omega))
          have keep : ∀ g x, WW.heap[g]? = some x → g < Kb + 3 → W2.heap[g]? = some x := fun g x hg hl => by
            have hs := (Array.getElem?_eq_some_iff.1 hg).1
            have := b3.size
            exact (c2.block g (by omega) (by simp; omega)).trans ((b3.block g hs).trans hg)
          have n2 := keep Bn _ i2 (by omega)
          have k2 := keep Kb _ i3 (by omega)
          have d2 : ∀ D ∈ Ds, W2.heap[D]? = some (.deferred (some [])) := fun D hD => keep D _ (i4 D hD) (by have := (dmB.out D hD).2.1; omega)
          have o2 : W2.heap[O]? = some (.cells D OT (0, 0)) := (c2.block O (Array.getElem?_eq_some_iff.1 n3).1 (by simp; omega)).trans n3
          have kD : Kept base W2 D o := (gv2.fx (Fx.ofBelow b3)).fx f2
          obtain ⟨f0, f1, f2', f3, s1, s2, f6, f7⟩ := FX.out W2 chW
          obtain ⟨pas, ap0, ap1, ok0, hl60, hnh, hm1, hh1⟩ := HP.out
          have hol : o ∈ l ∧ o.kind = (k : Int) := listed_mem.1 (List.mem_of_getElem? gv1)
          have hok := ok0 o hol.1
          obtain ⟨z, hany, hfind, hz⟩ := pas_find pas ap0 ap1 hol.1
          obtain ⟨nm, hnm⟩ : ∃ s, s = o.name := ⟨_, rfl⟩
          rw [hol.2, ← hnm] at hany hfind
          have CG := Lib.hid (get_any base W2 S1 sp 200 l1 h1 (k : Int) nm s1 (by unfold I64; omega) (by rw [hnm]; exact hok.2))
          rw [hany] at CG
          obtain ⟨cc, hcc⟩ : ∃ c : Nat, c = cntM l now k + cntP l now k pre := ⟨_, rfl⟩
          rw [← hcc] at n2
          have hcl : cc < 4000000 := by
            have h1 := cntM_le l now k
            have h2 := cntP_le (l := l) (now := now) (k := k) (pre := pre)
            have h3 := congrArg List.length i5
            rw [List.length_map, List.length_take] at h3
            have h4 := listed_len (l := l) (k : Int)
            omega
          have g0 : W2.cell? ⟨Bs, 0, none⟩ = some (.pointer (some ⟨sp, 0, none⟩)) := cell_of_block f2' 0
          have g1 : W2.cell? ⟨Kb, 0, none⟩ = some (.int .i64 (k : Int)) := cell_of_block k2 0
          have g2 : W2.cell? ⟨O, 1, none⟩ = some (.string nm) := (cell_of_block o2 1).trans (by rw [hnm]; exact kD.obj.2.1.2.1)
          have FIN : Hid (∀ wf, Chg [Bn] W2 wf → wf.heap[Bn]? = some (.cells #[.int .i64 ((cntM l now k + cntP l now k (pre ++ [xo]) : Nat) : Int)] 3 (0, 0)) → Stays base wb.heap.size W2 wf ∧ (Chg [Bn] w8 wf ∧ wf.heap[Bn]? = some (.cells #[.int .i64 ((cntM l now k + cntP l now k (pre ++ [xo]) : Nat) : Int)] 3 (0, 0)) ∧ wf.heap[Kb]? = some (.cells #[.int .i64 (k : Int)] 3 (0, 0)) ∧ (∀ D ∈ Ds, wf.heap[D]? = some (.deferred (some []))) ∧ (pre ++ [xo]).map (·.1.2) = (listed (k : Int) l).take (pre ++ [xo]).length)) := fun wf c hb => by
            have np : ∀ g ∈ [Bn], g < wb.heap.size ∧ (g < W2.heap.size → ¬ Prot base W2 g) := fun g hg => by
              rw [List.mem_singleton] at hg
              rw [hg]
              exact ⟨by omega, fun _ => (cells_prot n2 (by have := HWb.out; omega) rfl).2.2⟩
            refine ⟨Stays.ofChg c np, chW.trans c (fun g hg => .inl hg), hb, (c.block Kb (Array.getElem?_eq_some_iff.1 k2).1 (by simp; omega)).trans k2, fun D hD => (c.block D (Array.getElem?_eq_some_iff.1 (d2 D hD)).1 (by have := (dmB.out D hD).1; simp; omega)).trans (d2 D hD), ?_⟩
            have := take_nextO (L := listed (k : Int) l) (pre := pre) (x := xo) i5 (by rw [← ho]; exact gv1)
            rw [this, List.length_append]
            rfl
          have H4 := Lib.hid (And.intro chW (And.intro n2 (And.intro k2 (And.intro o2 (And.intro kD (And.intro hol (And.intro hok (And.intro hfind (And.intro hz (And.intro ho (And.intro hcc hcl)))))))))))
          have HLW : Hid (Bn < O) := by have := (Array.getElem?_eq_some_iff.1 i2).1; show _ < _; omega
          clear n3 b3 i1 i2 i3 i4 i5 gv1 gv2 ho zb szr hbase hdp n8 z8 eBs eBc eBn hO chW keep n2 k2 d2 o2 kD f0 f1 f2' f3 s1 s2 f6 f7 pas ap0 ap1 ok0 hl60 hnh hm1 hh1 hol hok hany hfind hz hnm hcc hcl c2 f2 TH IN ON HW3 H3 hlB hlW
          gi_upto_region 15 with fail
          refine region_round (by rfl) (fun ⟨a, w, h⟩ => h) ?_
          go_wp2_with fail
          refine CG.out.mono ?_
          rintro e w5 ⟨⟨V, rfl, hVs, hVo, hVk⟩, b5⟩
          have z0 : (w5.alloc (.cells zerC OT)).heap[w5.heap.size]? = some (.cells zerC OT (0, 0)) := heap_alloc_new w5 _
          obtain ⟨th, n0', fx1, c1'⟩ := store_ob (base := w5.heap.size) z0 rfl hVs (Nat.le_refl _)
          obtain ⟨w6, hw6⟩ : ∃ W', W' = (w5.alloc (.cells zerC OT)).setCells w5.heap.size 0 V.toList := ⟨_, rfl⟩
          obtain ⟨E, hE⟩ : ∃ A, A = w5.heap.size := ⟨_, rfl⟩
          rw [← hw6] at n0' c1'
          have b6 : Below w5.heap.size w5 w6 := by
            have g : Gr w5 (w5.alloc (.cells zerC OT)) := (Gr.refl w5).alloc _
            exact ((Xb.ofGr g w5.heap.size).trans ⟨c1'.os, c1'.tape, c1'.output, c1'.size, fun k hk hne => c1'.block k hk (by simpa using hne)⟩).below (Nat.le_refl _) (Nat.le_refl _)
          rw [← hE] at n0'
          have TH := Lib.hid th
          have IN : Hid ((Tryz.prog.info? OT).map (·.size) = some V.size) := by show _ = _; rw [hVs]; exact info_ob47
          have ON : Hid (V.all (·.oneCell') = true) := hVo
          have HW6 : Hid ((w5.alloc (.cells zerC OT)).setCells w5.heap.size 0 V.toList = w6 ∧ w5.heap.size = E) := ⟨hw6.symm, hE.symm⟩
          obtain ⟨chW, n2, k2, o2, kD, hol, hok, hfind, hz, ho, hcc, hcl⟩ := H4.out
          have kV : Kept base w6 V z := (hVk z hfind).fx (Fx.ofBelow b6)
          have B26 : Below W2.heap.size W2 w6 := b5.trans (b6.mono b5.size)
          have o6 : w6.heap[O]? = some (.cells D OT (0, 0)) := (B26.block O (Array.getElem?_eq_some_iff.1 o2).1).trans o2
          have g3 : w6.cell? ⟨Kb, 0, none⟩ = some (.int .i64 (k : Int)) := cell_of_block ((B26.block Kb (Array.getElem?_eq_some_iff.1 k2).1).trans k2) 0
          have kD6 : Kept base w6 D o := kD.fx (Fx.ofBelow B26)
          have hOE : O < E := by have h1 := (Array.getElem?_eq_some_iff.1 o2).1; have h2 := b5.size; omega
          have HEW : Hid (W2.heap.size ≤ E) := by show _ ≤ _; have h2 := b5.size; omega
          have H6 := Lib.hid (And.intro n0' (And.intro kV (And.intro B26 (And.intro o6 (And.intro kD6 (And.intro hOE ((B26.block Bn (Array.getElem?_eq_some_iff.1 n2).1).trans n2)))))))
          clear z0 th n0' fx1 c1' hw6 hE b6 hVs hVo hVk kV B26 b5 o6 kD6 hOE chW n2 k2 o2 kD hol hok hfind hz ho hcc hcl CG g0 g1 g2
          go_wp2_with (refine wpList_store_mid rfl _ _ _ rfl w5.heap.size 0 V (by rfl) (by rfl) TH.out IN.out ON.out ?_; rw [HW6.out.1, HW6.out.2])
          clear TH IN ON HW6
          by_cases hk1 : k = 1
          · have t1 : ((k : Int) == 1) = true := by rw [hk1]; rfl
            -- K1 begins
            obtain ⟨e6, kV, B26, o6, kD6, hOE, n6⟩ := H6.out
            obtain ⟨chW, n2, k2, o2, kD, hol, hok, hfind, hz, ho, hcc, hcl⟩ := H4.out
            have ch6 : Chg [Bn] w8 w6 := chW.trans (Chg.ofBelow B26 []) (by simp)
            obtain ⟨f0, f1, f2, f3, s1, s2, f6, f7⟩ := FX.out w6 ch6
            obtain ⟨nd, hnd⟩ : ∃ s, s = o.p.node := ⟨_, rfl⟩
            obtain ⟨th, hth⟩ : ∃ b, b = l.any (hit 2 nd) := ⟨_, rfl⟩
            have ok1 : o.kind = 1 := by rw [hol.2, hk1]; rfl
            have CG2 := Lib.hid (get_any base w6 S' cp 200 l hist 2 nd s2 (by unfold I64; decide) (by rw [hnd]; have := ftT_iff.1 kD6.fits.p_node; unfold maxLen; omega))
            rw [← hth] at CG2
            have gB : w6.cell? ⟨Bc, 0, none⟩ = some (.pointer (some ⟨cp, 0, none⟩)) := cell_of_block f3 0
            have gN : w6.cell? ⟨O, 11, none⟩ = some (.string nd) := (cell_of_block o6 11).trans (by rw [hnd]; exact kD6.obj.2.2.2.1.2.1)
            obtain ⟨y, hy⟩ : ∃ y, y = nxt o.p now th := ⟨_, rfl⟩
            have zp : z.p = y := by
              rcases hz with ⟨h, hm⟩ | ⟨_, _, v, h⟩
              · have hm := hm ok1
                have h2 : (nxt o.p now (l.any (hit 2 o.p.node))).ph = o.p.ph := by
                  unfold mv at hm
                  simpa using hm
                rw [h, hy, hth, hnd, nxt_same h2]
              · rw [h, hy, hth, hnd]
                rfl
            have H7 := Lib.hid (And.intro ch6 (And.intro f0 (And.intro ok1 (And.intro hnd (And.intro hth (And.intro hy zp))))))
            clear e6 kV B26 o6 kD6 hOE n6 chW n2 k2 o2 kD hol hok hfind hz ho hcc hcl ch6 f0 f1 f2 f3 s1 s2 f6 f7 hnd hth ok1 hy zp hk1
            gi_upto_region 16 with fail
            refine region_round (by rfl) (fun ⟨a, w, h⟩ => h) ?_
            go_wp2_with fail
            gi_upto_region 18 with fail
            refine region_round (by rfl) (fun ⟨a, w, h⟩ => h) ?_
            go_wp2_with fail
            gi_upto_region 19 with fail
            refine region_round (by rfl) (fun ⟨a, w, h⟩ => h) ?_
            go_wp2_with fail
            refine CG2.out.mono ?_
            rintro e w9 ⟨⟨V2, rfl, hVs, hVo, -⟩, b9⟩
            have z0 : (w9.alloc (.cells zerC OT)).heap[w9.heap.size]? = some (.cells zerC OT (0, 0)) := heap_alloc_new w9 _
            obtain ⟨th', n0', fx1, c1'⟩ := store_ob (base := w9.heap.size) z0 rfl hVs (Nat.le_refl _)
            obtain ⟨wv, hwv⟩ : ∃ W', W' = (w9.alloc (.cells zerC OT)).setCells w9.heap.size 0 V2.toList := ⟨_, rfl⟩
            obtain ⟨G, hG⟩ : ∃ A, A = w9.heap.size := ⟨_, rfl⟩
            rw [← hwv] at n0' c1'
            have b10 : Below w9.heap.size w9 wv := by
              have g : Gr w9 (w9.alloc (.cells zerC OT)) := (Gr.refl w9).alloc _
              exact ((Xb.ofGr g w9.heap.size).trans ⟨c1'.os, c1'.tape, c1'.output, c1'.size, fun k hk hne => c1'.block k hk (by simpa using hne)⟩).below (Nat.le_refl _) (Nat.le_refl _)
            have TH := Lib.hid th'
            have IN : Hid ((Tryz.prog.info? OT).map (·.size) = some V2.size) := by show _ = _; rw [hVs]; exact info_ob47
            have ON : Hid (V2.all (·.oneCell') = true) := hVo
            have HWV : Hid ((w9.alloc (.cells zerC OT)).setCells w9.heap.size 0 V2.toList = wv ∧ w9.heap.size = G) := ⟨hwv.symm, hG.symm⟩
            have B6v : Below w6.heap.size w6 wv := b9.trans (b10.mono b9.size)
            obtain ⟨e6, kV, B26, o6, kD6, hOE, n6⟩ := H6.out
            obtain ⟨ch6, f0, ok1, hnd, hth, hy, zp⟩ := H7.out
            have eV : wv.heap[E]? = some (.cells V OT (0, 0)) := (B6v.block E (Array.getElem?_eq_some_iff.1 e6).1).trans e6
            have oV : wv.heap[O]? = some (.cells D OT (0, 0)) := (B6v.block O (Array.getElem?_eq_some_iff.1 o6).1).trans o6
            have nV : wv.heap[Bn]? = some (.cells #[.int .i64 (cc : Int)] 3 (0, 0)) := (B6v.block Bn (Array.getElem?_eq_some_iff.1 n6).1).trans n6
            have kVv : Kept base wv V z := kV.fx (Fx.ofBelow B6v)
            have kDv : Kept base wv D o := kD6.fx (Fx.ofBelow B6v)
            have LP := Lib.hid (load_in oV kDv.obj.1)
            obtain ⟨PD, hPD⟩ : ∃ P, P = D.extract 10 20 := ⟨_, rfl⟩
            have CX := Lib.hid (lnext_any wv PD o.p now th (by rw [hPD]; exact ext_pd kDv.obj) (tk_pod (H4.out.2.2.2.2.2.2.1).3 ok1))
            rw [← hPD] at LP
            rw [← hy] at CX
            have cT : wv.cell? ⟨base, 0, none⟩ = some (.int .i64 now) := cell_of_block ((B6v.block base (Array.getElem?_eq_some_iff.1 f0).1).trans f0) 0
            have H9 := Lib.hid (And.intro eV (And.intro oV (And.intro nV (And.intro kVv (And.intro kDv (And.intro (B26.trans (B6v.mono B26.size)) hOE))))))
            clear z0 th' n0' fx1 c1' hwv hG b10 hVs hVo b9 B6v e6 kV B26 o6 kD6 hOE n6 ch6 f0 ok1 hnd hth hy zp eV oV nV kVv kDv hPD CG2 gB gN g3
            go_wp2_with (refine wpList_store_mid rfl _ _ _ rfl w9.heap.size 0 V2 (by rfl) (by rfl) TH.out IN.out ON.out ?_; rw [HWV.out.1, HWV.out.2])
            clear TH IN ON HWV
            gi_upto_region 20 with fail
            refine region_round (by rfl) (fun ⟨a, w, h⟩ => h) ?_
            go_wp2_with (refine wpList_load_by (by kernel_rfl) PT _ rfl (.pointer (some ⟨O, 10, none⟩)) (.agg PD) (by kernel_rfl) LP.out ?_)
            refine CX.out.mono ?_
            rintro e wg ⟨rfl, gg⟩
            obtain ⟨eV, oV, nV, kVv, kDv, B2v, hOE⟩ := H9.out
            obtain ⟨ch6, f0, ok1, hnd, hth, hy, zp⟩ := H7.out
            have eG : wg.heap[E]? = some (.cells V OT (0, 0)) := (gg.heap (Array.getElem?_eq_some_iff.1 eV).1).trans eV
            have oG : wg.heap[O]? = some (.cells D OT (0, 0)) := (gg.heap (Array.getElem?_eq_some_iff.1 oV).1).trans oV
            have nG : wg.heap[Bn]? = some (.cells #[.int .i64 (cc : Int)] 3 (0, 0)) := (gg.heap (Array.getElem?_eq_some_iff.1 nV).1).trans nV
            have kVg : Kept base wg V z := kVv.fx (Fx.ofBelow gg.below)
            have kDg : Kept base wg D o := kDv.fx (Fx.ofBelow gg.below)
            have B2g : Below W2.heap.size W2 wg := B2v.trans (gg.below.mono B2v.size)
            obtain ⟨pn, hpn⟩ : ∃ p, p = y.ph := ⟨_, rfl⟩
            obtain ⟨sn, hsn⟩ : ∃ p, p = y.since := ⟨_, rfl⟩
            obtain ⟨po, hpo⟩ : ∃ p, p = o.p.ph := ⟨_, rfl⟩
            obtain ⟨so, hso⟩ : ∃ p, p = o.p.since := ⟨_, rfl⟩
            obtain ⟨vo, hvo⟩ : ∃ p, p = o.ver := ⟨_, rfl⟩
            rw [← hpn, ← hsn]
            have x12 : wg.cell? ⟨E, 12, none⟩ = some (.int .i64 pn) := (cell_of_block eG 12).trans (by rw [hpn, ← zp]; exact kVg.obj.2.2.2.1.2.2.1)
            have x13 : wg.cell? ⟨E, 13, none⟩ = some (.int .i64 sn) := (cell_of_block eG 13).trans (by rw [hsn, ← zp]; exact kVg.obj.2.2.2.1.2.2.2.1)
            have y12 : wg.cell? ⟨O, 12, none⟩ = some (.int .i64 po) := (cell_of_block oG 12).trans (by rw [hpo]; exact kDg.obj.2.2.2.1.2.2.1)
            have y13 : wg.cell? ⟨O, 13, none⟩ = some (.int .i64 so) := (cell_of_block oG 13).trans (by rw [hso]; exact kDg.obj.2.2.2.1.2.2.2.1)
            have y2 : wg.cell? ⟨O, 2, none⟩ = some (.int .u64 (vo : Int)) := (cell_of_block oG 2).trans (by rw [hvo]; exact kDg.obj.2.1.2.2.1)
            have tp : (pn != pn) = false := by simp
            have ts : (sn != sn) = false := by simp
            have HG := Lib.hid (And.intro eG (And.intro oG (And.intro nG (And.intro kVg (And.intro kDg (And.intro B2g (And.intro hOE (And.intro hpo (And.intro hso hvo)))))))))
            obtain ⟨chW, n2, k2, o2, kD, hol, hok, hfind, hz, ho, hcc, hcl⟩ := H4.out
            have hk1 : k = 1 := by have := hol.2; rw [ok1] at this; omega
            cases hm : mv l now o with
            | false =>
              have hzo : z = o := by
                rcases hz with ⟨h, _⟩ | ⟨_, h, _⟩
                · exact h
                · rw [hm] at h; cases h
              have hyo : y = o.p := by rw [← zp, hzo]
              have ep : pn = po := by rw [hpn, hpo, hyo]
              have es : sn = so := by rw [hsn, hso, hyo]
              have x2 : wg.cell? ⟨E, 2, none⟩ = some (.int .u64 (vo : Int)) := (cell_of_block eG 2).trans (by rw [hvo, ← hzo]; exact kVg.obj.2.1.2.2.1)
              have tv : ((vo : Int) != (vo : Int)) = false := by simp
              have ep' := ep.symm
              have es' := es.symm
              subst ep' es'
              have tq : (po == po) = true := by simp
              have tr : (so == so) = true := by simp
              have CNT : Hid ((cc : Int) = ((cntM l now k + cntP l now k (pre ++ [xo]) : Nat) : Int)) := by
                show _ = _
                rw [cntP_other (.inr (by rw [← ho]; exact hm)), ← hcc]
              have HV := Lib.hid (And.intro hz kDg)
              clear eV oV nV kVv kDv B2v hOE ch6 f0 ok1 hnd hth hy zp eG oG nG kVg kDg B2g hpn hsn hpo hso hvo chW n2 k2 o2 kD hol hok hfind hz ho hcc hcl hk1 hzo hyo ep es gg LP CX cT hm
              go_wp2_with fail
              gi_upto_region 21 with fail
              refine region_round (by rfl) (fun ⟨a, w, h⟩ => h) ?_
              go_wp2_with fail
              gi_upto_region 23 with fail
              refine region_round (by rfl) (fun ⟨a, w, h⟩ => h) ?_
              go_wp2_with fail
              gi_upto_region 24 with fail
              refine region_round (by rfl) (fun ⟨a, w, h⟩ => h) ?_
              go_wp2_with fail
              obtain ⟨wt, hwt⟩ : ∃ x, x = wg := ⟨_, rfl⟩
              have HT : Hid (wt.heap[Bn]? = some (.cells #[.int .i64 (cc : Int)] 3 (0, 0)) ∧ Chg [Bn] wg wt) := ⟨by rw [hwt]; exact HG.out.2.2.1, by rw [hwt]; exact Chg.refl _ _⟩
              rw [← hwt]
              clear x12 x13 y12 y13 y2 x2 tp ts tv tq tr hwt
              obtain ⟨eG, oG, nG, kVg, kDg, B2g, hOE, hpo, hso, hvo⟩ := HG.out
              obtain ⟨nT, cT⟩ := HT.out
              have hBO := HLW.out
              have z8 := L8.out.2.1
              have hbs := HK.out.2.2.1
              have eT : wt.heap[E]? = some (.cells V OT (0, 0)) := (cT.block E (Array.getElem?_eq_some_iff.1 eG).1 (by simp; omega)).trans eG
              have oT : wt.heap[O]? = some (.cells D OT (0, 0)) := (cT.block O (Array.getElem?_eq_some_iff.1 oG).1 (by simp; omega)).trans oG
              have npB : ∀ g ∈ [Bn], g < wg.heap.size → ¬ Prot base wg g := fun g hg _ => by rw [List.mem_singleton] at hg; rw [hg]; exact (cells_prot nG (by have := L8.out; have := HWb.out; omega) rfl).2.2
              have kVt : Kept base wt V z := kVg.fx (cT.fx npB)
              have kDt : Kept base wt D o := kDg.fx (cT.fx npB)
              obtain ⟨wd, hwd⟩ : ∃ x, x = wt.drew := ⟨_, rfl⟩
              have Gd : Gr wt wd := hwd ▸ (Gr.refl wt).drew
              have eD : wd.heap[E]? = some (.cells V OT (0, 0)) := (Gd.heap (Array.getElem?_eq_some_iff.1 eT).1).trans eT
              obtain ⟨wx1, hx1⟩ : ∃ x, x = wd.setCell ⟨E, 12, none⟩ (.int .i64 po) := ⟨_, rfl⟩
              have eX1 : wx1.heap[E]? = some (.cells (V.setIfInBounds 12 (.int .i64 po)) OT (0, 0)) := by rw [hx1]; exact block_setCell eD _
              obtain ⟨wx2, hx2⟩ : ∃ x, x = wx1.setCell ⟨E, 13, none⟩ (.int .i64 so) := ⟨_, rfl⟩
              have eX2 : wx2.heap[E]? = some (.cells ((V.setIfInBounds 12 (.int .i64 po)).setIfInBounds 13 (.int .i64 so)) OT (0, 0)) := by rw [hx2]; exact block_setCell eX1 _
              obtain ⟨wx3, hx3⟩ : ∃ x, x = wx2.setCell ⟨E, 2, none⟩ (.int .u64 (vo : Int)) := ⟨_, rfl⟩
              have eX3 : wx3.heap[E]? = some (.cells (((V.setIfInBounds 12 (.int .i64 po)).setIfInBounds 13 (.int .i64 so)).setIfInBounds 2 (.int .u64 (vo : Int))) OT (0, 0)) := by rw [hx3]; exact block_setCell eX2 _
              have C0 : Chg [E] wt wd := Chg.ofGr Gd _
              have C1 : Chg [E] wt wx1 := by rw [hx1]; exact C0.setCell 12 _ (.inl (by simp))
              have C2 : Chg [E] wt wx2 := by rw [hx2]; exact C1.setCell 13 _ (.inl (by simp))
              have C3 : Chg [E] wt wx3 := by rw [hx3]; exact C2.setCell 2 _ (.inl (by simp))
              have hbE : base ≤ E := by have := L8.out; have := HWb.out; omega
              have npE : ∀ g ∈ [E], g < wt.heap.size → ¬ Prot base wt g := fun g hg _ => by rw [List.mem_singleton] at hg; rw [hg]; exact (cells_prot eT hbE rfl).2.2
              have F3 : Fx base wt wx3 := C3.fx npE
              have K12 : Hid (∀ ws, Chg [E] wt ws → ws.cell? ⟨O, 12, none⟩ = some (.int .i64 po)) := fun ws c => (cell_of_block ((c.block O (Array.getElem?_eq_some_iff.1 oT).1 (by simp; omega)).trans oT) 12).trans (by rw [hpo]; exact kDt.obj.2.2.2.1.2.2.1)
              have K13 : Hid (∀ ws, Chg [E] wt ws → ws.cell? ⟨O, 13, none⟩ = some (.int .i64 so)) := fun ws c => (cell_of_block ((c.block O (Array.getElem?_eq_some_iff.1 oT).1 (by simp; omega)).trans oT) 13).trans (by rw [hso]; exact kDt.obj.2.2.2.1.2.2.2.1)
              have K2 : Hid (∀ ws, Chg [E] wt ws → ws.cell? ⟨O, 2, none⟩ = some (.int .u64 (vo : Int))) := fun ws c => (cell_of_block ((c.block O (Array.getElem?_eq_some_iff.1 oT).1 (by simp; omega)).trans oT) 2).trans (by rw [hvo]; exact kDt.obj.2.1.2.2.1)
              have r12 : wd.cell? ⟨E, 12, none⟩ = some (.int .i64 z.p.ph) := (cell_of_block eD 12).trans kVt.obj.2.2.2.1.2.2.1
              have u12 : wd.frozen? ⟨E, 12, none⟩ = false := unfrozen_of_block eD 12
              have r13 : wx1.cell? ⟨E, 13, none⟩ = some (.int .i64 z.p.since) := (cell_of_block eX1 13).trans (by rw [Array.getElem?_setIfInBounds_ne (by decide)]; exact kVt.obj.2.2.2.1.2.2.2.1)
              have u13 : wx1.frozen? ⟨E, 13, none⟩ = false := unfrozen_of_block eX1 13
              have r2 : wx2.cell? ⟨E, 2, none⟩ = some (.int .u64 (z.ver : Int)) := (cell_of_block eX2 2).trans (by rw [Array.getElem?_setIfInBounds_ne (by decide), Array.getElem?_setIfInBounds_ne (by decide)]; exact kVt.obj.2.1.2.2.1)
              have u2 : wx2.frozen? ⟨E, 2, none⟩ = false := unfrozen_of_block eX2 2
              obtain ⟨V3, hV3⟩ : ∃ X, X = ((V.setIfInBounds 12 (.int .i64 po)).setIfInBounds 13 (.int .i64 so)).setIfInBounds 2 (.int .u64 (vo : Int)) := ⟨_, rfl⟩
              have ov : ObjV wx3 V3 o := by
                have h := re_obj (kVt.held wx3 F3) o.p.ph o.p.since (v := o.ver) kDt.obj.2.1.2.2.2
                have hzz : z = o ∨ ∃ v, z = setV (gets l now o) v := by
                  rcases HV.out.1 with ⟨h, _⟩ | ⟨_, _, v, h⟩
                  · exact .inl h
                  · exact .inr ⟨v, h⟩
                rw [re_back hzz] at h
                rw [hV3, hpo, hso, hvo]
                exact h
              rw [← hV3] at eX3
              have oX3 : wx3.heap[O]? = some (.cells D OT (0, 0)) := (C3.block O (Array.getElem?_eq_some_iff.1 oT).1 (by simp; omega)).trans oT
              have LE := Lib.hid (load_ob eX3 ov.1)
              have LO := Lib.hid (load_ob oX3 kDt.obj.1)
              have CM := Lib.hid (same_any wx3 V3 D o ov (kDt.fx F3).obj kDt.fits kDt.small)
              have FF : Hid (∀ wf, Gr wx3 wf → Stays base wb.heap.size W2 wf ∧ (Chg [Bn] w8 wf ∧ wf.heap[Bn]? = some (.cells #[.int .i64 ((cntM l now k + cntP l now k (pre ++ [xo]) : Nat) : Int)] 3 (0, 0)) ∧ wf.heap[Kb]? = some (.cells #[.int .i64 (k : Int)] 3 (0, 0)) ∧ (∀ D ∈ Ds, wf.heap[D]? = some (.deferred (some []))) ∧ (pre ++ [xo]).map (·.1.2) = (listed (k : Int) l).take (pre ++ [xo]).length)) := fun wf g => by
                have hE2 : W2.heap.size ≤ E := by
                  exact HEW.out
                have cc1 : Chg [Bn] W2 wf := (((Chg.ofBelow B2g [Bn]).trans cT (fun g hg => .inl hg)).trans C3 (fun g hg => .inr (by rw [List.mem_singleton] at hg; omega))).trans (Chg.ofGr g []) (by simp)
                refine FIN.out wf cc1 ?_
                rw [← CNT.out]
                have h3 : wx3.heap[Bn]? = wt.heap[Bn]? := C3.block Bn (Array.getElem?_eq_some_iff.1 nT).1 (by simp; omega)
                exact (g.heap (by have := (Array.getElem?_eq_some_iff.1 nT).1; have := C3.size; omega)).trans (h3.trans nT)
              have HX1 : Hid (wt.drew = wd ∧ wd.setCell ⟨E, 12, none⟩ (.int .i64 po) = wx1 ∧ wx1.setCell ⟨E, 13, none⟩ (.int .i64 so) = wx2 ∧ wx2.setCell ⟨E, 2, none⟩ (.int .u64 (vo : Int)) = wx3) := ⟨hwd.symm, hx1.symm, hx2.symm, hx3.symm⟩
              have HC0 := Lib.hid C0
              have HC1 := Lib.hid C1
              have HC2 := Lib.hid C2
              have HC3 := Lib.hid C3
              clear eG oG nG kVg kDg B2g hOE hpo hso hvo nT cT hBO z8 hbs eT oT npB kVt kDt hwd Gd eD hx1 eX1 hx2 eX2 hx3 eX3 C0 C1 C2 C3 hbE npE F3 hV3 ov oX3 HT HG HV CNT
              gi_upto_region 27 with fail
              refine region_round_held (S := fun ws => Chg [E] wt ws) mixed (by rfl) (fun ⟨a, w, h⟩ => h) (by rw [HX1.out.1]; exact HC0.out) (fun hS => ?_)
              rw [HX1.out.1] at hS ⊢
              refine wpAnyH_takeD (i := 0) (d := 127) (v := .pointer (some ⟨O, 10, none⟩)) _ rfl rfl (by kernel_rfl) (by kernel_rfl) (by kernel_rfl) (fun _ _ _ h => h) (Or.inl ⟨by kernel_rfl, fun ws hSw => by first | (go_simp; done) | (go_simp; with_reducible rfl) | (go_simp; rfl)⟩) hS ?_
              simp only [Act.put, List.setIfInBounds_toArray, List.set_cons_zero, List.set_cons_succ]
              refine wpAnyH_takeD (i := 1) (d := 128) (v := .pointer (some ⟨O, 12, none⟩)) _ rfl rfl (by kernel_rfl) (by kernel_rfl) (by kernel_rfl) (fun _ _ _ h => h) (Or.inl ⟨by kernel_rfl, fun ws hSw => by first | (go_simp; done) | (go_simp; with_reducible rfl) | (go_simp; rfl)⟩) hS ?_
              simp only [Act.put, List.setIfInBounds_toArray, List.set_cons_zero, List.set_cons_succ]
              refine wpAnyH_takeD (i := 2) (d := 129) (v := .int .i64 po) _ rfl rfl (by kernel_rfl) (by kernel_rfl) (by kernel_rfl) (fun _ _ _ h => h) (Or.inl ⟨by kernel_rfl, fun ws hSw => by have q := K12.out ws hSw; first | (go_simp; done) | (go_simp; with_reducible rfl) | (go_simp; rfl)⟩) hS ?_
              simp only [Act.put, List.setIfInBounds_toArray, List.set_cons_zero, List.set_cons_succ]
              refine wpAnyH_takeD (i := 3) (d := 130) (v := .pointer (some ⟨O, 10, none⟩)) _ rfl rfl (by kernel_rfl) (by kernel_rfl) (by kernel_rfl) (fun _ _ _ h => h) (Or.inl ⟨by kernel_rfl, fun ws hSw => by first | (go_simp; done) | (go_simp; with_reducible rfl) | (go_simp; rfl)⟩) hS ?_
              simp only [Act.put, List.setIfInBounds_toArray, List.set_cons_zero, List.set_cons_succ]
              refine wpAnyH_takeD (i := 4) (d := 131) (v := .pointer (some ⟨O, 13, none⟩)) _ rfl rfl (by kernel_rfl) (by kernel_rfl) (by kernel_rfl) (fun _ _ _ h => h) (Or.inl ⟨by kernel_rfl, fun ws hSw => by first | (go_simp; done) | (go_simp; with_reducible rfl) | (go_simp; rfl)⟩) hS ?_
              simp only [Act.put, List.setIfInBounds_toArray, List.set_cons_zero, List.set_cons_succ]
              refine wpAnyH_takeD (i := 5) (d := 132) (v := .int .i64 so) _ rfl rfl (by kernel_rfl) (by kernel_rfl) (by kernel_rfl) (fun _ _ _ h => h) (Or.inl ⟨by kernel_rfl, fun ws hSw => by have q := K13.out ws hSw; first | (go_simp; done) | (go_simp; with_reducible rfl) | (go_simp; rfl)⟩) hS ?_
              simp only [Act.put, List.setIfInBounds_toArray, List.set_cons_zero, List.set_cons_succ]
              refine wpAnyH_takeD (i := 6) (d := 133) (v := .pointer (some ⟨O, 2, none⟩)) _ rfl rfl (by kernel_rfl) (by kernel_rfl) (by kernel_rfl) (fun _ _ _ h => h) (Or.inl ⟨by kernel_rfl, fun ws hSw => by first | (go_simp; done) | (go_simp; with_reducible rfl) | (go_simp; rfl)⟩) hS ?_
              simp only [Act.put, List.setIfInBounds_toArray, List.set_cons_zero, List.set_cons_succ]
              refine wpAnyH_takeD (i := 7) (d := 134) (v := .int .u64 (vo : Int)) _ rfl rfl (by kernel_rfl) (by kernel_rfl) (by kernel_rfl) (fun _ _ _ h => h) (Or.inl ⟨by kernel_rfl, fun ws hSw => by have q := K2.out ws hSw; first | (go_simp; done) | (go_simp; with_reducible rfl) | (go_simp; rfl)⟩) hS ?_
              simp only [Act.put, List.setIfInBounds_toArray, List.set_cons_zero, List.set_cons_succ]
              refine wpAnyH_takeD (i := 8) (d := 135) (v := .pointer (some ⟨E, 10, none⟩)) _ rfl rfl (by kernel_rfl) (by kernel_rfl) (by kernel_rfl) (fun _ _ _ h => h) (Or.inl ⟨by kernel_rfl, fun ws hSw => by first | (go_simp; done) | (go_simp; with_reducible rfl) | (go_simp; rfl)⟩) hS ?_
              simp only [Act.put, List.setIfInBounds_toArray, List.set_cons_zero, List.set_cons_succ]
              refine wpAnyH_takeD (i := 9) (d := 136) (v := .pointer (some ⟨E, 12, none⟩)) _ rfl rfl (by kernel_rfl) (by kernel_rfl) (by kernel_rfl) (fun _ _ _ h => h) (Or.inl ⟨by kernel_rfl, fun ws hSw => by first | (go_simp; done) | (go_simp; with_reducible rfl) | (go_simp; rfl)⟩) hS ?_
              simp only [Act.put, List.setIfInBounds_toArray, List.set_cons_zero, List.set_cons_succ]
              refine wpAnyH_ready (rs := [10]) (by kernel_rfl) (by simp) ?_
              refine AllReadyH.cons rfl (fun K hK => ?_) AllReadyH.nil
              go_simp
              rw [HX1.out.2.1]
              refine hK _ _ HC1.out (fun hS => ?_)
              try simp only [Act.put, List.setIfInBounds_toArray, List.set_cons_zero, List.set_cons_succ]
              refine wpAnyH_takeD (i := 11) (d := 137) (v := .pointer (some ⟨E, 10, none⟩)) _ rfl rfl (by kernel_rfl) (by kernel_rfl) (by kernel_rfl) (fun _ _ _ h => h) (Or.inl ⟨by kernel_rfl, fun ws hSw => by first | (go_simp; done) | (go_simp; with_reducible rfl) | (go_simp; rfl)⟩) hS ?_
              simp only [Act.put, List.setIfInBounds_toArray, List.set_cons_zero, List.set_cons_succ]
              refine wpAnyH_takeD (i := 12) (d := 138) (v := .pointer (some ⟨E, 13, none⟩)) _ rfl rfl (by kernel_rfl) (by kernel_rfl) (by kernel_rfl) (fun _ _ _ h => h) (Or.inl ⟨by kernel_rfl, fun ws hSw => by first | (go_simp; done) | (go_simp; with_reducible rfl) | (go_simp; rfl)⟩) hS ?_
              simp only [Act.put, List.setIfInBounds_toArray, List.set_cons_zero, List.set_cons_succ]
              refine wpAnyH_ready (rs := [13]) (by kernel_rfl) (by simp) ?_
              refine AllReadyH.cons rfl (fun K hK => ?_) AllReadyH.nil
              go_simp
              rw [HX1.out.2.2.1]
              refine hK _ _ HC2.out (fun hS => ?_)
              try simp only [Act.put, List.setIfInBounds_toArray, List.set_cons_zero, List.set_cons_succ]
              refine wpAnyH_takeD (i := 14) (d := 139) (v := .pointer (some ⟨E, 2, none⟩)) _ rfl rfl (by kernel_rfl) (by kernel_rfl) (by kernel_rfl) (fun _ _ _ h => h) (Or.inl ⟨by kernel_rfl, fun ws hSw => by first | (go_simp; done) | (go_simp; with_reducible rfl) | (go_simp; rfl)⟩) hS ?_
              simp only [Act.put, List.setIfInBounds_toArray, List.set_cons_zero, List.set_cons_succ]
              refine wpAnyH_ready (rs := [15]) (by kernel_rfl) (by simp) ?_
              refine AllReadyH.cons rfl (fun K hK => ?_) AllReadyH.nil
              go_simp
              rw [HX1.out.2.2.2]
              refine hK _ _ HC3.out (fun hS => ?_)
              try simp only [Act.put, List.setIfInBounds_toArray, List.set_cons_zero, List.set_cons_succ]
              refine wpAnyH_done (by kernel_rfl) ?_ _
              clear r12 u12 r13 u13 r2 u2 K12 K13 K2 HC0 HC1 HC2 HC3 HX1 hS
              gi_upto_region 28 with fail
              refine region_round (by rfl) (fun ⟨a, w, h⟩ => h) ?_
              go_wp2_with (first | (refine wpList_load_by (by kernel_rfl) OT _ rfl (.pointer (some ⟨E, 0, none⟩)) (.agg V3) (by rfl) LE.out ?_) | (refine wpList_load_by (by kernel_rfl) OT _ rfl (.pointer (some ⟨O, 0, none⟩)) (.agg D) (by rfl) LO.out ?_))
              refine CM.out.mono ?_
              rintro e w7' ⟨rfl, g7⟩
              have GG := Lib.hid (FF.out w7' g7)
              clear g7 FF CM LE LO
              go_wp2_with fail
              gi_wp2
              exact GG.out
            | true =>
              have tq : (pn == po) = false := by
                have h2 : ¬ (nxt o.p now (l.any (hit 2 o.p.node))).ph = o.p.ph := by
                  unfold mv at hm
                  simpa using hm
                rw [hpn, hpo, hy, hth, hnd, beq_eq_false_iff_ne]
                exact h2
              have cB : wg.cell? ⟨Bn, 0, none⟩ = some (.int .i64 (cc : Int)) := cell_of_block nG 0
              have fB : wg.frozen? ⟨Bn, 0, none⟩ = false := unfrozen_of_block nG 0
              have CNT : Hid ((cc : Int) + 1 = ((cntM l now k + cntP l now k (pre ++ [xo]) : Nat) : Int)) := by
                show _ = _
                rw [hk1] at hcc ⊢
                rw [cntP_one (by rw [← ho]; exact hm)]
                omega
              obtain ⟨wt, hwt⟩ : ∃ x, x = wg.setCell ⟨Bn, 0, none⟩ (.int .i64 ((cc : Int) + 1)) := ⟨_, rfl⟩
              have HT : Hid (wt.heap[Bn]? = some (.cells #[.int .i64 ((cc : Int) + 1)] 3 (0, 0)) ∧ Chg [Bn] wg wt) := ⟨by rw [hwt, block_setCell nG]; rfl, by rw [hwt]; exact (Chg.refl [Bn] wg).setCell 0 _ (.inl (by simp))⟩
              have HV := Lib.hid (And.intro hz kDg)
              have hcl' := hcl
              have hwt' := hwt.symm
              clear eV oV nV kVv kDv B2v hOE ch6 f0 ok1 hnd hth hy zp eG oG nG kVg kDg B2g hpn hsn hpo hso hvo chW n2 k2 o2 kD hol hok hfind hz ho hcc hcl hk1 gg LP CX cT hwt hm
              go_wp2_with fail
              gi_upto_region 21 with fail
              refine region_round (by rfl) (fun ⟨a, w, h⟩ => h) ?_
              go_wp2_with fail
              gi_upto_region 23 with fail
              refine region_round (by rfl) (fun ⟨a, w, h⟩ => h) ?_
              go_wp2_with fail
              gi_upto_region 26 with fail
              refine region_round (by rfl) (fun ⟨a, w, h⟩ => h) ?_
              go_wp2_with fail
              (try rw [hwt'])
              clear x12 x13 y12 y13 y2 tp ts tq cB fB hcl' hwt'
              obtain ⟨eG, oG, nG, kVg, kDg, B2g, hOE, hpo, hso, hvo⟩ := HG.out
              obtain ⟨nT, cT⟩ := HT.out
              have hBO := HLW.out
              have z8 := L8.out.2.1
              have hbs := HK.out.2.2.1
              have eT : wt.heap[E]? = some (.cells V OT (0, 0)) := (cT.block E (Array.getElem?_eq_some_iff.1 eG).1 (by simp; omega)).trans eG
              have oT : wt.heap[O]? = some (.cells D OT (0, 0)) := (cT.block O (Array.getElem?_eq_some_iff.1 oG).1 (by simp; omega)).trans oG
              have npB : ∀ g ∈ [Bn], g < wg.heap.size → ¬ Prot base wg g := fun g hg _ => by rw [List.mem_singleton] at hg; rw [hg]; exact (cells_prot nG (by have := L8.out; have := HWb.out; omega) rfl).2.2
              have kVt : Kept base wt V z := kVg.fx (cT.fx npB)
              have kDt : Kept base wt D o := kDg.fx (cT.fx npB)
              obtain ⟨wd, hwd⟩ : ∃ x, x = wt.drew := ⟨_, rfl⟩
              have Gd : Gr wt wd := hwd ▸ (Gr.refl wt).drew
              have eD : wd.heap[E]? = some (.cells V OT (0, 0)) := (Gd.heap (Array.getElem?_eq_some_iff.1 eT).1).trans eT
              obtain ⟨wx1, hx1⟩ : ∃ x, x = wd.setCell ⟨E, 12, none⟩ (.int .i64 po) := ⟨_, rfl⟩
              have eX1 : wx1.heap[E]? = some (.cells (V.setIfInBounds 12 (.int .i64 po)) OT (0, 0)) := by rw [hx1]; exact block_setCell eD _
              obtain ⟨wx2, hx2⟩ : ∃ x, x = wx1.setCell ⟨E, 13, none⟩ (.int .i64 so) := ⟨_, rfl⟩
              have eX2 : wx2.heap[E]? = some (.cells ((V.setIfInBounds 12 (.int .i64 po)).setIfInBounds 13 (.int .i64 so)) OT (0, 0)) := by rw [hx2]; exact block_setCell eX1 _
              obtain ⟨wx3, hx3⟩ : ∃ x, x = wx2.setCell ⟨E, 2, none⟩ (.int .u64 (vo : Int)) := ⟨_, rfl⟩
              have eX3 : wx3.heap[E]? = some (.cells (((V.setIfInBounds 12 (.int .i64 po)).setIfInBounds 13 (.int .i64 so)).setIfInBounds 2 (.int .u64 (vo : Int))) OT (0, 0)) := by rw [hx3]; exact block_setCell eX2 _
              have C0 : Chg [E] wt wd := Chg.ofGr Gd _
              have C1 : Chg [E] wt wx1 := by rw [hx1]; exact C0.setCell 12 _ (.inl (by simp))
              have C2 : Chg [E] wt wx2 := by rw [hx2]; exact C1.setCell 13 _ (.inl (by simp))
              have C3 : Chg [E] wt wx3 := by rw [hx3]; exact C2.setCell 2 _ (.inl (by simp))
              have hbE : base ≤ E := by have := L8.out; have := HWb.out; omega
              have npE : ∀ g ∈ [E], g < wt.heap.size → ¬ Prot base wt g := fun g hg _ => by rw [List.mem_singleton] at hg; rw [hg]; exact (cells_prot eT hbE rfl).2.2
              have F3 : Fx base wt wx3 := C3.fx npE
              have K12 : Hid (∀ ws, Chg [E] wt ws → ws.cell? ⟨O, 12, none⟩ = some (.int .i64 po)) := fun ws c => (cell_of_block ((c.block O (Array.getElem?_eq_some_iff.1 oT).1 (by simp; omega)).trans oT) 12).trans (by rw [hpo]; exact kDt.obj.2.2.2.1.2.2.1)
              have K13 : Hid (∀ ws, Chg [E] wt ws → ws.cell? ⟨O, 13, none⟩ = some (.int .i64 so)) := fun ws c => (cell_of_block ((c.block O (Array.getElem?_eq_some_iff.1 oT).1 (by simp; omega)).trans oT) 13).trans (by rw [hso]; exact kDt.obj.2.2.2.1.2.2.2.1)
              have K2 : Hid (∀ ws, Chg [E] wt ws → ws.cell? ⟨O, 2, none⟩ = some (.int .u64 (vo : Int))) := fun ws c => (cell_of_block ((c.block O (Array.getElem?_eq_some_iff.1 oT).1 (by simp; omega)).trans oT) 2).trans (by rw [hvo]; exact kDt.obj.2.1.2.2.1)
              have r12 : wd.cell? ⟨E, 12, none⟩ = some (.int .i64 z.p.ph) := (cell_of_block eD 12).trans kVt.obj.2.2.2.1.2.2.1
              have u12 : wd.frozen? ⟨E, 12, none⟩ = false := unfrozen_of_block eD 12
              have r13 : wx1.cell? ⟨E, 13, none⟩ = some (.int .i64 z.p.since) := (cell_of_block eX1 13).trans (by rw [Array.getElem?_setIfInBounds_ne (by decide)]; exact kVt.obj.2.2.2.1.2.2.2.1)
              have u13 : wx1.frozen? ⟨E, 13, none⟩ = false := unfrozen_of_block eX1 13
              have r2 : wx2.cell? ⟨E, 2, none⟩ = some (.int .u64 (z.ver : Int)) := (cell_of_block eX2 2).trans (by rw [Array.getElem?_setIfInBounds_ne (by decide), Array.getElem?_setIfInBounds_ne (by decide)]; exact kVt.obj.2.1.2.2.1)
              have u2 : wx2.frozen? ⟨E, 2, none⟩ = false := unfrozen_of_block eX2 2
              obtain ⟨V3, hV3⟩ : ∃ X, X = ((V.setIfInBounds 12 (.int .i64 po)).setIfInBounds 13 (.int .i64 so)).setIfInBounds 2 (.int .u64 (vo : Int)) := ⟨_, rfl⟩
              have ov : ObjV wx3 V3 o := by
                have h := re_obj (kVt.held wx3 F3) o.p.ph o.p.since (v := o.ver) kDt.obj.2.1.2.2.2
                have hzz : z = o ∨ ∃ v, z = setV (gets l now o) v := by
                  rcases HV.out.1 with ⟨h, _⟩ | ⟨_, _, v, h⟩
                  · exact .inl h
                  · exact .inr ⟨v, h⟩
                rw [re_back hzz] at h
                rw [hV3, hpo, hso, hvo]
                exact h
              rw [← hV3] at eX3
              have oX3 : wx3.heap[O]? = some (.cells D OT (0, 0)) := (C3.block O (Array.getElem?_eq_some_iff.1 oT).1 (by simp; omega)).trans oT
              have LE := Lib.hid (load_ob eX3 ov.1)
              have LO := Lib.hid (load_ob oX3 kDt.obj.1)
              have CM := Lib.hid (same_any wx3 V3 D o ov (kDt.fx F3).obj kDt.fits kDt.small)
              have FF : Hid (∀ wf, Gr wx3 wf → Stays base wb.heap.size W2 wf ∧ (Chg [Bn] w8 wf ∧ wf.heap[Bn]? = some (.cells #[.int .i64 ((cntM l now k + cntP l now k (pre ++ [xo]) : Nat) : Int)] 3 (0, 0)) ∧ wf.heap[Kb]? = some (.cells #[.int .i64 (k : Int)] 3 (0, 0)) ∧ (∀ D ∈ Ds, wf.heap[D]? = some (.deferred (some []))) ∧ (pre ++ [xo]).map (·.1.2) = (listed (k : Int) l).take (pre ++ [xo]).length)) := fun wf g => by
                have hE2 : W2.heap.size ≤ E := by
                  exact HEW.out
                have cc1 : Chg [Bn] W2 wf := (((Chg.ofBelow B2g [Bn]).trans cT (fun g hg => .inl hg)).trans C3 (fun g hg => .inr (by rw [List.mem_singleton] at hg; omega))).trans (Chg.ofGr g []) (by simp)
                refine FIN.out wf cc1 ?_
                rw [← CNT.out]
                have h3 : wx3.heap[Bn]? = wt.heap[Bn]? := C3.block Bn (Array.getElem?_eq_some_iff.1 nT).1 (by simp; omega)
                exact (g.heap (by have := (Array.getElem?_eq_some_iff.1 nT).1; have := C3.size; omega)).trans (h3.trans nT)
              have HX1 : Hid (wt.drew = wd ∧ wd.setCell ⟨E, 12, none⟩ (.int .i64 po) = wx1 ∧ wx1.setCell ⟨E, 13, none⟩ (.int .i64 so) = wx2 ∧ wx2.setCell ⟨E, 2, none⟩ (.int .u64 (vo : Int)) = wx3) := ⟨hwd.symm, hx1.symm, hx2.symm, hx3.symm⟩
              have HC0 := Lib.hid C0
              have HC1 := Lib.hid C1
              have HC2 := Lib.hid C2
              have HC3 := Lib.hid C3
              clear eG oG nG kVg kDg B2g hOE hpo hso hvo nT cT hBO z8 hbs eT oT npB kVt kDt hwd Gd eD hx1 eX1 hx2 eX2 hx3 eX3 C0 C1 C2 C3 hbE npE F3 hV3 ov oX3 HT HG HV CNT
              gi_upto_region 27 with fail
              refine region_round_held (S := fun ws => Chg [E] wt ws) mixed (by rfl) (fun ⟨a, w, h⟩ => h) (by rw [HX1.out.1]; exact HC0.out) (fun hS => ?_)
              rw [HX1.out.1] at hS ⊢
              refine wpAnyH_takeD (i := 0) (d := 127) (v := .pointer (some ⟨O, 10, none⟩)) _ rfl rfl (by kernel_rfl) (by kernel_rfl) (by kernel_rfl) (fun _ _ _ h => h) (Or.inl ⟨by kernel_rfl, fun ws hSw => by first | (go_simp; done) | (go_simp; with_reducible rfl) | (go_simp; rfl)⟩) hS ?_
              simp only [Act.put, List.setIfInBounds_toArray, List.set_cons_zero, List.set_cons_succ]
              refine wpAnyH_takeD (i := 1) (d := 128) (v := .pointer (some ⟨O, 12, none⟩)) _ rfl rfl (by kernel_rfl) (by kernel_rfl) (by kernel_rfl) (fun _ _ _ h => h) (Or.inl ⟨by kernel_rfl, fun ws hSw => by first | (go_simp; done) | (go_simp; with_reducible rfl) | (go_simp; rfl)⟩) hS ?_
              simp only [Act.put, List.setIfInBounds_toArray, List.set_cons_zero, List.set_cons_succ]
              refine wpAnyH_takeD (i := 2) (d := 129) (v := .int .i64 po) _ rfl rfl (by kernel_rfl) (by kernel_rfl) (by kernel_rfl) (fun _ _ _ h => h) (Or.inl ⟨by kernel_rfl, fun ws hSw => by have q := K12.out ws hSw; first | (go_simp; done) | (go_simp; with_reducible rfl) | (go_simp; rfl)⟩) hS ?_
              simp only [Act.put, List.setIfInBounds_toArray, List.set_cons_zero, List.set_cons_succ]
              refine wpAnyH_takeD (i := 3) (d := 130) (v := .pointer (some ⟨O, 10, none⟩)) _ rfl rfl (by kernel_rfl) (by kernel_rfl) (by kernel_rfl) (fun _ _ _ h => h) (Or.inl ⟨by kernel_rfl, fun ws hSw => by first | (go_simp; done) | (go_simp; with_reducible rfl) | (go_simp; rfl)⟩) hS ?_
              simp only [Act.put, List.setIfInBounds_toArray, List.set_cons_zero, List.set_cons_succ]
              refine wpAnyH_takeD (i := 4) (d := 131) (v := .pointer (some ⟨O, 13, none⟩)) _ rfl rfl (by kernel_rfl) (by kernel_rfl) (by kernel_rfl) (fun _ _ _ h => h) (Or.inl ⟨by kernel_rfl, fun ws hSw => by first | (go_simp; done) | (go_simp; with_reducible rfl) | (go_simp; rfl)⟩) hS ?_
              simp only [Act.put, List.setIfInBounds_toArray, List.set_cons_zero, List.set_cons_succ]
              refine wpAnyH_takeD (i := 5) (d := 132) (v := .int .i64 so) _ rfl rfl (by kernel_rfl) (by kernel_rfl) (by kernel_rfl) (fun _ _ _ h => h) (Or.inl ⟨by kernel_rfl, fun ws hSw => by have q := K13.out ws hSw; first | (go_simp; done) | (go_simp; with_reducible rfl) | (go_simp; rfl)⟩) hS ?_
              simp only [Act.put, List.setIfInBounds_toArray, List.set_cons_zero, List.set_cons_succ]
              refine wpAnyH_takeD (i := 6) (d := 133) (v := .pointer (some ⟨O, 2, none⟩)) _ rfl rfl (by kernel_rfl) (by kernel_rfl) (by kernel_rfl) (fun _ _ _ h => h) (Or.inl ⟨by kernel_rfl, fun ws hSw => by first | (go_simp; done) | (go_simp; with_reducible rfl) | (go_simp; rfl)⟩) hS ?_
              simp only [Act.put, List.setIfInBounds_toArray, List.set_cons_zero, List.set_cons_succ]
              refine wpAnyH_takeD (i := 7) (d := 134) (v := .int .u64 (vo : Int)) _ rfl rfl (by kernel_rfl) (by kernel_rfl) (by kernel_rfl) (fun _ _ _ h => h) (Or.inl ⟨by kernel_rfl, fun ws hSw => by have q := K2.out ws hSw; first | (go_simp; done) | (go_simp; with_reducible rfl) | (go_simp; rfl)⟩) hS ?_
              simp only [Act.put, List.setIfInBounds_toArray, List.set_cons_zero, List.set_cons_succ]
              refine wpAnyH_takeD (i := 8) (d := 135) (v := .pointer (some ⟨E, 10, none⟩)) _ rfl rfl (by kernel_rfl) (by kernel_rfl) (by kernel_rfl) (fun _ _ _ h => h) (Or.inl ⟨by kernel_rfl, fun ws hSw => by first | (go_simp; done) | (go_simp; with_reducible rfl) | (go_simp; rfl)⟩) hS ?_
              simp only [Act.put, List.setIfInBounds_toArray, List.set_cons_zero, List.set_cons_succ]
              refine wpAnyH_takeD (i := 9) (d := 136) (v := .pointer (some ⟨E, 12, none⟩)) _ rfl rfl (by kernel_rfl) (by kernel_rfl) (by kernel_rfl) (fun _ _ _ h => h) (Or.inl ⟨by kernel_rfl, fun ws hSw => by first | (go_simp; done) | (go_simp; with_reducible rfl) | (go_simp; rfl)⟩) hS ?_
              simp only [Act.put, List.setIfInBounds_toArray, List.set_cons_zero, List.set_cons_succ]
              refine wpAnyH_ready (rs := [10]) (by kernel_rfl) (by simp) ?_
              refine AllReadyH.cons rfl (fun K hK => ?_) AllReadyH.nil
              go_simp
              rw [HX1.out.2.1]
              refine hK _ _ HC1.out (fun hS => ?_)
              try simp only [Act.put, List.setIfInBounds_toArray, List.set_cons_zero, List.set_cons_succ]
              refine wpAnyH_takeD (i := 11) (d := 137) (v := .pointer (some ⟨E, 10, none⟩)) _ rfl rfl (by kernel_rfl) (by kernel_rfl) (by kernel_rfl) (fun _ _ _ h => h) (Or.inl ⟨by kernel_rfl, fun ws hSw => by first | (go_simp; done) | (go_simp; with_reducible rfl) | (go_simp; rfl)⟩) hS ?_
              simp only [Act.put, List.setIfInBounds_toArray, List.set_cons_zero, List.set_cons_succ]
              refine wpAnyH_takeD (i := 12) (d := 138) (v := .pointer (some ⟨E, 13, none⟩)) _ rfl rfl (by kernel_rfl) (by kernel_rfl) (by kernel_rfl) (fun _ _ _ h => h) (Or.inl ⟨by kernel_rfl, fun ws hSw => by first | (go_simp; done) | (go_simp; with_reducible rfl) | (go_simp; rfl)⟩) hS ?_
              simp only [Act.put, List.setIfInBounds_toArray, List.set_cons_zero, List.set_cons_succ]
              refine wpAnyH_ready (rs := [13]) (by kernel_rfl) (by simp) ?_
              refine AllReadyH.cons rfl (fun K hK => ?_) AllReadyH.nil
              go_simp
              rw [HX1.out.2.2.1]
              refine hK _ _ HC2.out (fun hS => ?_)
              try simp only [Act.put, List.setIfInBounds_toArray, List.set_cons_zero, List.set_cons_succ]
              refine wpAnyH_takeD (i := 14) (d := 139) (v := .pointer (some ⟨E, 2, none⟩)) _ rfl rfl (by kernel_rfl) (by kernel_rfl) (by kernel_rfl) (fun _ _ _ h => h) (Or.inl ⟨by kernel_rfl, fun ws hSw => by first | (go_simp; done) | (go_simp; with_reducible rfl) | (go_simp; rfl)⟩) hS ?_
              simp only [Act.put, List.setIfInBounds_toArray, List.set_cons_zero, List.set_cons_succ]
              refine wpAnyH_ready (rs := [15]) (by kernel_rfl) (by simp) ?_
              refine AllReadyH.cons rfl (fun K hK => ?_) AllReadyH.nil
              go_simp
              rw [HX1.out.2.2.2]
              refine hK _ _ HC3.out (fun hS => ?_)
              try simp only [Act.put, List.setIfInBounds_toArray, List.set_cons_zero, List.set_cons_succ]
              refine wpAnyH_done (by kernel_rfl) ?_ _
              clear r12 u12 r13 u13 r2 u2 K12 K13 K2 HC0 HC1 HC2 HC3 HX1 hS
              gi_upto_region 28 with fail
              refine region_round (by rfl) (fun ⟨a, w, h⟩ => h) ?_
              go_wp2_with (first | (refine wpList_load_by (by kernel_rfl) OT _ rfl (.pointer (some ⟨E, 0, none⟩)) (.agg V3) (by rfl) LE.out ?_) | (refine wpList_load_by (by kernel_rfl) OT _ rfl (.pointer (some ⟨O, 0, none⟩)) (.agg D) (by rfl) LO.out ?_))
              refine CM.out.mono ?_
              rintro e w7' ⟨rfl, g7⟩
              have GG := Lib.hid (FF.out w7' g7)
              clear g7 FF CM LE LO
              go_wp2_with fail
              gi_wp2
              exact GG.out
            -- K1 ends
          · have t1 : ((k : Int) == 1) = false := by
              rw [beq_eq_false_iff_ne]
              omega
            obtain ⟨e6, kV, B26, o6, kD6, hOE, n6⟩ := H6.out
            obtain ⟨chW, n2, k2, o2, kD, hol, hok, hfind, hz, ho, hcc, hcl⟩ := H4.out
            have hzo : z = o := by
              rcases hz with ⟨h, _⟩ | ⟨h, _⟩
              · exact h
              · rw [hol.2] at h; omega
            rw [hzo] at kV
            have LE := Lib.hid (load_ob e6 kV.obj.1)
            have LO := Lib.hid (load_ob o6 kD6.obj.1)
            have CM := Lib.hid (same_any w6 V D o kV.obj kD6.obj kD6.fits kD6.small)
            have FF : Hid (∀ wf, Gr w6 wf → Stays base wb.heap.size W2 wf ∧ (Chg [Bn] w8 wf ∧ wf.heap[Bn]? = some (.cells #[.int .i64 ((cntM l now k + cntP l now k (pre ++ [xo]) : Nat) : Int)] 3 (0, 0)) ∧ wf.heap[Kb]? = some (.cells #[.int .i64 (k : Int)] 3 (0, 0)) ∧ (∀ D ∈ Ds, wf.heap[D]? = some (.deferred (some []))) ∧ (pre ++ [xo]).map (·.1.2) = (listed (k : Int) l).take (pre ++ [xo]).length)) := fun wf g => by
              have b := B26.trans (g.below.mono B26.size)
              refine FIN.out wf (Chg.ofBelow b _) ?_
              rw [cntP_other (.inl hk1), ← hcc]
              exact (b.block Bn (Array.getElem?_eq_some_iff.1 n2).1).trans n2
            clear e6 kV B26 o6 kD6 hOE n6 chW n2 k2 o2 kD hol hok hfind hz ho hcc hcl hzo hk1 H6 H4 FIN
            gi_upto_region 16 with fail
            refine region_round (by rfl) (fun ⟨a, w, h⟩ => h) ?_
            go_wp2_with fail
            gi_upto_region 18 with fail
            refine region_round (by rfl) (fun ⟨a, w, h⟩ => h) ?_
            go_wp2_with fail
            gi_upto_region 28 with fail
            refine region_round (by rfl) (fun ⟨a, w, h⟩ => h) ?_
            go_wp2_with (first | (refine wpList_load_by (by kernel_rfl) OT _ rfl (.pointer (some ⟨E, 0, none⟩)) (.agg V) (by rfl) LE.out ?_) | (refine wpList_load_by (by kernel_rfl) OT _ rfl (.pointer (some ⟨O, 0, none⟩)) (.agg D) (by rfl) LO.out ?_))
            refine CM.out.mono ?_
            rintro e w7' ⟨rfl, g7⟩
            have GG := Lib.hid (FF.out w7' g7)
            clear g7 FF CM LE LO g3
            go_wp2_with fail
            gi_wp2
            exact GG.out
        · intro Dm xs WW hD hS ⟨q1_, q2_, q3_, q4_, q5_⟩ hdef
          have NX : Hid (Chg [Bn] w8 WW ∧ WW.heap[Bn]? = some (.cells #[.int .i64 ((cntM l now (k + 1) : Nat) : Int)] 3 (0, 0)) ∧ (Dm :: Ds).Pairwise (· ≠ ·) ∧ ∀ D ∈ Dm :: Ds, Bn < D ∧ WW.heap[D]? = some (.deferred (some []))) := by
            obtain ⟨zb, szr, _, hdp⟩ := HK.out
            refine ⟨q1_, by rw [← cntM_next l now k xs hS]; exact q2_, List.pairwise_cons.2 ⟨fun D hD' e => ?_, hdp⟩, fun D hD' => ?_⟩
            · have := (dmB.out D hD').2.1
              omega
            · rcases List.mem_cons.1 hD' with rfl | hD'
              · exact ⟨by omega, hdef⟩
              · exact ⟨(dmB.out D hD').1, q4_ D hD'⟩
          clear q1_ q2_ q3_ q4_ q5_ hdef hD hS HTN I0
          go_wp2_with fail
          refine Handed.intro (5 - (k + 1)) (by omega) (hJ _ _ _ ?_)
          rw [HI.out]
          refine ⟨k + 1, Dm :: Ds, ?_⟩
          repeat apply Exists.intro
          exact ⟨rfl, by omega, by omega, NX.out⟩
      · have hlt' : ¬ ((k : Int) < 5) := by omega
        obtain ⟨ch, hbn, hdp, hdm⟩ := HX.out
        obtain ⟨f0, f1, f2, f3, s1, s2, f6, f7⟩ := FX.out wr ch
        obtain ⟨pas, ap0, ap1, ok0, hl60, hnh, hm1, hh1⟩ := HP.out
        obtain ⟨n8, z8, e1, e2, e3⟩ := L8.out
        have cm : cntM l now k = m1 := by
          have := pas.cnt
          unfold cntM
          rw [if_pos (by omega)]
          omega
        rw [cm] at hbn
        have hcnt : h1.length ≤ 120 := by
          have h2 := pas.cnt
          have h3 := List.length_filter_le (mv l now) (listed 1 l)
          have h4 := listed_len (l := l) 1
          omega
        have CP2 := Lib.hid (pass_any base wr S1 sp 200 l1 h1 now s1 (by have := pas.len; omega) (by have := pas.len; omega) HB.out.1 HB.out.2)
        have k3 : wr.cell? ⟨base, 0, none⟩ = some (.int .i64 now) := cell_of_block f0 0
        have k5 : wr.cell? ⟨Bs, 0, none⟩ = some (.pointer (some ⟨sp, 0, none⟩)) := cell_of_block f2 0
        have BE := Lib.hid (And.intro f0 (And.intro f1 (And.intro f2 (And.intro f3 (And.intro s1 (And.intro s2 (And.intro f7 (And.intro hbn (And.intro hdp hdm)))))))))
        have HPS := Lib.hid (And.intro pas ap1)
        have ES := Lib.hid (And.intro e1 (And.intro e2 e3))
        clear ch hbn hdp hdm f0 f1 f2 f3 s1 s2 f6 f7 pas ap0 ap1 ok0 hl60 hnh hm1 hh1 n8 z8 e1 e2 e3 cm hcnt HX FX
        go_wp2_with fail
        refine CP2.out.mono ?_
        rintro e w9 ⟨q2, c2, l2, h2, rfl, pas2, S2, st2, ch2, hS2⟩
        have hc2 : h2.length - h1.length = 0 := by
          have h3 := pas2.cnt
          rw [HPS.out.1.calm HPS.out.2] at h3
          simp at h3
          omega
        rw [hc2]
        have CPN := Lib.hid (pass_nil w9 now)
        obtain ⟨e1, e2, e3⟩ := ES.out
        obtain ⟨f0, f1, f2, f3, s1, s2, f7, hbn, hdp, hdm⟩ := BE.out
        have fix : ∀ g o, wr.heap[g]? = some o → g ∉ S1 → w9.heap[g]? = some o := fun g o hg hn => (ch2.block g (Array.getElem?_eq_some_iff.1 hg).1 hn).trans hg
        have sc := s2.chg ch2 (fun g hg hm => by have h1 := HSc.out g hg; have h2 := HS1.out g hm; omega) (fun g hg _ => (s1.prot g hg).2.2)
        have m3 : w9.cell? ⟨base, 0, none⟩ = some (.int .i64 now) := cell_of_block (fix _ _ f0 (fun h => by have := HS1.out _ h; omega)) 0
        have BE2 := Lib.hid (And.intro (fix _ _ f1 (fun h => by have := HS1.out _ h; omega)) (And.intro (fix _ _ f2 (fun h => by have := HS1.out _ h; omega)) (And.intro (fix _ _ f3 (fun h => by have := HS1.out _ h; omega)) (And.intro st2 (And.intro sc (And.intro (f7.trans (ch2.below (fun g hg => by have := HS1.out g hg; have := HWb.out; omega) f7.size)) (And.intro (fix _ _ hbn (fun h => by have := HS1.out _ h; omega)) (And.intro hdp (And.intro (fun D (hD : D ∈ Ds) => And.intro (hdm D hD).1 (fix _ _ (hdm D hD).2 (fun h => by have := HS1.out _ h; have := (hdm D hD).1; omega))) (show l2.length = l.length by rw [pas2.len, HPS.out.1.len]))))))))))
        clear pas2 st2 ch2 hS2 hc2 e1 e2 e3 f0 f1 f2 f3 s1 s2 f7 hbn hdp hdm fix sc BE HPS CP2 k3 k5
        go_wp2_with fail
        refine CPN.out.mono ?_
        rintro e wr' ⟨rfl, b10⟩
        obtain ⟨e1, e2, e3⟩ := ES.out
        obtain ⟨g1, g2, g3, st2, sc, low9, gn, hdp, hdm, lens⟩ := BE2.out
        have fix : ∀ g o, w9.heap[g]? = some o → wr'.heap[g]? = some o := fun g o hg => (b10.block g (Array.getElem?_eq_some_iff.1 hg).1).trans hg
        have gr := fix _ _ g1
        have gs := fix _ _ g2
        have gc := fix _ _ g3
        have gb := fix _ _ gn
        have st3 := st2.gr b10
        have sc3 := sc.gr b10
        have low := low9.trans (b10.mono low9.size)
        have hdm' : ∀ D ∈ Ds, Bn < D ∧ wr'.heap[D]? = some (.deferred (some [])) := fun D hD => ⟨(hdm D hD).1, fix _ _ (hdm D hD).2⟩
        obtain ⟨L, hL⟩ : ∃ L, L = l.length := ⟨_, rfl⟩
        have CLs : Hid (∀ ws : World, (∃ n, ws = wr'.drewN n) → Calls Tryz.prog 13 #[.pointer (some ⟨sp, 0, none⟩)] ws fun e w' => e = .returned (.int .i64 (L : Int)) ∧ w' = ws) := fun ws ⟨n, h⟩ => by
          rw [hL, ← lens, h]
          exact len_any base _ S2 sp 200 l2 h2 (st3.gr ((Gr.refl wr').drewN n).below)
        have CLc : Hid (∀ ws : World, (∃ n, ws = wr'.drewN n) → Calls Tryz.prog 13 #[.pointer (some ⟨cp, 0, none⟩)] ws fun e w' => e = .returned (.int .i64 (L : Int)) ∧ w' = ws) := fun ws ⟨n, h⟩ => by
          rw [hL, h]
          exact len_any base _ S' cp 200 l hist (sc3.gr ((Gr.refl wr').drewN n).below)
        have FB : Hid (∀ ws : World, (∃ n, ws = wr'.drewN n) → ws.cell? ⟨Bn, 0, none⟩ = some (.int .i64 (m1 : Int))) := fun ws ⟨n, h⟩ => by rw [h]; exact cell_of_block (w := wr'.drewN n) gb 0
        have FS : Hid (∀ ws : World, (∃ n, ws = wr'.drewN n) → ws.cell? ⟨Bs, 0, none⟩ = some (.pointer (some ⟨sp, 0, none⟩))) := fun ws ⟨n, h⟩ => by rw [h]; exact cell_of_block (w := wr'.drewN n) gs 0
        have FC : Hid (∀ ws : World, (∃ n, ws = wr'.drewN n) → ws.cell? ⟨Bc, 0, none⟩ = some (.pointer (some ⟨cp, 0, none⟩))) := fun ws ⟨n, h⟩ => by rw [h]; exact cell_of_block (w := wr'.drewN n) gc 0
        obtain ⟨wz, hwz⟩ : ∃ x, x = wr'.drew.setCell ⟨base + 1, 0, none⟩ (.bool true) := ⟨_, rfl⟩
        have cbr : wr'.drew.cell? ⟨base + 1, 0, none⟩ = some (.bool false) := cell_of_block (w := wr'.drew) gr 0
        have fbr : wr'.drew.frozen? ⟨base + 1, 0, none⟩ = false := unfrozen_of_block (w := wr'.drew) gr 0
        have bz : wz.heap[base + 1]? = some (.cells #[.bool true] 4 (0, 0)) := by rw [hwz, block_setCell (w := wr'.drew) gr]; rfl
        have Cz : Chg [base + 1] wr' wz := by
          rw [hwz]
          exact (Chg.ofBelow ((Gr.refl wr').drewN 1).below [base + 1]).setCell 0 _ (.inl (by simp))
        have FIN : Hid (wz.heap[base + 1]? = some (.cells #[.bool true] 4 (0, 0)) ∧ Below W.heap.size W wz ∧ Ds.Pairwise (· ≠ ·) ∧ ∀ D ∈ Ds, base + 1 < D ∧ wz.heap[D]? = some (.deferred (some []))) := by
          have hWb := HWb.out
          refine ⟨bz, low.trans (Cz.below (fun g hg => by simp at hg; omega) low.size), hdp, fun D hD => ⟨by have := (hdm' D hD).1; omega, (Cz.block D (Array.getElem?_eq_some_iff.1 (hdm' D hD).2).1 (by have := (hdm' D hD).1; simp; omega)).trans (hdm' D hD).2⟩⟩
        have HWZ : Hid ((wr'.setCell ⟨base + 1, 0, none⟩ (.bool true)).drew = wz) := by show _ = _; rw [hwz]; rfl
        have S0 : Hid (∃ n, wr'.drew = wr'.drewN n) := ⟨1, rfl⟩
        clear b10 e1 e2 e3 g1 g2 g3 st2 sc low9 gn hdp hdm lens fix gr gs gc gb st3 sc3 low hdm' hL hwz bz Cz BE2 CPN m3
        go_upto_region 33 with fail
        refine Code.wp_mono (Q := Exit.then (fun a' w' => a'.tmps[4]? = some (.pointer (some ⟨base + 1, 0, none⟩)) ∧ a'.defers = Ds.map mark ∧ w' = wz) (fun _ _ _ => False)) (fun e a' w' q => ?_) ?_
        · cases e with
          | normal =>
            obtain ⟨h4, hd, rfl⟩ := q
            obtain ⟨tm, ds⟩ := a'
            simp only at h4 hd
            subst hd
            clear FB FS FC CLs CLc
            go_wp2_with fail
            obtain ⟨bz, low, hp, hd⟩ := FIN.out
            refine leaves_marks (F := Fence.wide) (n := 6) (P := Tryz.prog) (fn := Tryz.f3) (tmps := tm) Ds w' hp (fun D hD => (hd D hD).2) (fun w'' c => ?_)
            have bz' : w''.heap[base + 1]? = some (.cells #[.bool true] 4 (0, 0)) := (c.block (base + 1) (Array.getElem?_eq_some_iff.1 bz).1 (fun hm => by have := (hd _ hm).1; omega)).trans bz
            have low' : Below W.heap.size W w'' := low.trans (c.below (fun g hg => by have := (hd g hg).1; have := HWb.out; omega) low.size)
            exact ⟨_, results_cellB rfl tm w'' (base + 1) h4 bz', rfl, low'⟩
          | _ => exact q.elim
        refine wp_region_G (f := 28) (S := fun ws => ∃ n, ws = wr'.drewN n) mixed S0.out (fun hS => ?_)
        refine wpAnyG_takeD (i := 0) (d := 156) (v := .int .i64 0) _ rfl rfl (by kernel_rfl) (by kernel_rfl) (by kernel_rfl) (by kernel_rfl) (fun _ _ _ h => h) (Or.inl ⟨by kernel_rfl, fun ws hSw => by first | (go_simp; done) | (go_simp; with_reducible rfl) | (go_simp; rfl)⟩) hS ?_
        simp only [Act.put, List.setIfInBounds_toArray, List.set_cons_zero, List.set_cons_succ]
        refine wpAnyG_takeD (i := 1) (d := 157) (v := .bool true) _ rfl rfl (by kernel_rfl) (by kernel_rfl) (by kernel_rfl) (by kernel_rfl) (fun _ _ _ h => h) (Or.inl ⟨by kernel_rfl, fun ws hSw => by first | (go_simp; done) | (go_simp; with_reducible rfl) | (go_simp; rfl)⟩) hS ?_
        simp only [Act.put, List.setIfInBounds_toArray, List.set_cons_zero, List.set_cons_succ]
        refine wpAnyG_takeD (i := 2) (d := 158) (v := .bool true) _ rfl rfl (by kernel_rfl) (by kernel_rfl) (by kernel_rfl) (by kernel_rfl) (fun _ _ _ h => h) (Or.inl ⟨by kernel_rfl, fun ws hSw => by first | (go_simp; done) | (go_simp; with_reducible rfl) | (go_simp; rfl)⟩) hS ?_
        simp only [Act.put, List.setIfInBounds_toArray, List.set_cons_zero, List.set_cons_succ]
        refine wpAnyG_takeD (i := 3) (d := 159) (v := .int .i64 0) _ rfl rfl (by kernel_rfl) (by kernel_rfl) (by kernel_rfl) (by kernel_rfl) (fun _ _ _ h => h) (Or.inl ⟨by kernel_rfl, fun ws hSw => by first | (go_simp; done) | (go_simp; with_reducible rfl) | (go_simp; rfl)⟩) hS ?_
        simp only [Act.put, List.setIfInBounds_toArray, List.set_cons_zero, List.set_cons_succ]
        refine wpAnyG_takeD (i := 4) (d := 160) (v := .bool true) _ rfl rfl (by kernel_rfl) (by kernel_rfl) (by kernel_rfl) (by kernel_rfl) (fun _ _ _ h => h) (Or.inl ⟨by kernel_rfl, fun ws hSw => by first | (go_simp; done) | (go_simp; with_reducible rfl) | (go_simp; rfl)⟩) hS ?_
        simp only [Act.put, List.setIfInBounds_toArray, List.set_cons_zero, List.set_cons_succ]
        refine wpAnyG_takeD (i := 5) (d := 161) (v := .bool true) _ rfl rfl (by kernel_rfl) (by kernel_rfl) (by kernel_rfl) (by kernel_rfl) (fun _ _ _ h => h) (Or.inl ⟨by kernel_rfl, fun ws hSw => by first | (go_simp; done) | (go_simp; with_reducible rfl) | (go_simp; rfl)⟩) hS ?_
        simp only [Act.put, List.setIfInBounds_toArray, List.set_cons_zero, List.set_cons_succ]
        refine wpAnyG_takeD (i := 6) (d := 162) (v := .bool true) _ rfl rfl (by kernel_rfl) (by kernel_rfl) (by kernel_rfl) (by kernel_rfl) (fun _ _ _ h => h) (Or.inl ⟨by kernel_rfl, fun ws hSw => by first | (go_simp; done) | (go_simp; with_reducible rfl) | (go_simp; rfl)⟩) hS ?_
        simp only [Act.put, List.setIfInBounds_toArray, List.set_cons_zero, List.set_cons_succ]
        refine wpAnyG_takeD (i := 7) (d := 163) (v := .int .i64 1) _ rfl rfl (by kernel_rfl) (by kernel_rfl) (by kernel_rfl) (by kernel_rfl) (fun _ _ _ h => h) (Or.inl ⟨by kernel_rfl, fun ws hSw => by first | (go_simp; done) | (go_simp; with_reducible rfl) | (go_simp; rfl)⟩) hS ?_
        simp only [Act.put, List.setIfInBounds_toArray, List.set_cons_zero, List.set_cons_succ]
        refine wpAnyG_takeD (i := 8) (d := 164) (v := .bool true) _ rfl rfl (by kernel_rfl) (by kernel_rfl) (by kernel_rfl) (by kernel_rfl) (fun _ _ _ h => h) (Or.inl ⟨by kernel_rfl, fun ws hSw => by first | (go_simp; done) | (go_simp; with_reducible rfl) | (go_simp; rfl)⟩) hS ?_
        simp only [Act.put, List.setIfInBounds_toArray, List.set_cons_zero, List.set_cons_succ]
        refine wpAnyG_takeD (i := 9) (d := 165) (v := .bool true) _ rfl rfl (by kernel_rfl) (by kernel_rfl) (by kernel_rfl) (by kernel_rfl) (fun _ _ _ h => h) (Or.inl ⟨by kernel_rfl, fun ws hSw => by first | (go_simp; done) | (go_simp; with_reducible rfl) | (go_simp; rfl)⟩) hS ?_
        simp only [Act.put, List.setIfInBounds_toArray, List.set_cons_zero, List.set_cons_succ]
        refine wpAnyG_takeD (i := 10) (d := 166) (v := .bool true) _ rfl rfl (by kernel_rfl) (by kernel_rfl) (by kernel_rfl) (by kernel_rfl) (fun _ _ _ h => h) (Or.inl ⟨by kernel_rfl, fun ws hSw => by first | (go_simp; done) | (go_simp; with_reducible rfl) | (go_simp; rfl)⟩) hS ?_
        simp only [Act.put, List.setIfInBounds_toArray, List.set_cons_zero, List.set_cons_succ]
        refine wpAnyG_takeD (i := 11) (d := 167) (v := .slice q1 m1 c1) _ rfl rfl (by kernel_rfl) (by kernel_rfl) (by kernel_rfl) (by kernel_rfl) (fun _ _ _ h => h) (Or.inl ⟨by kernel_rfl, fun ws hSw => by first | (go_simp; done) | (go_simp; with_reducible rfl) | (go_simp; rfl)⟩) hS ?_
        simp only [Act.put, List.setIfInBounds_toArray, List.set_cons_zero, List.set_cons_succ]
        refine wpAnyG_takeD (i := 12) (d := 168) (v := .int .i64 (m1 : Int)) _ rfl rfl (by kernel_rfl) (by kernel_rfl) (by kernel_rfl) (by kernel_rfl) (fun _ _ _ h => h) (Or.inl ⟨by kernel_rfl, fun ws hSw => by first | (go_simp; done) | (go_simp; with_reducible rfl) | (go_simp; rfl)⟩) hS ?_
        simp only [Act.put, List.setIfInBounds_toArray, List.set_cons_zero, List.set_cons_succ]
        refine wpAnyG_takeD (i := 13) (d := 169) (v := .int .i64 (m1 : Int)) _ rfl rfl (by kernel_rfl) (by kernel_rfl) (by kernel_rfl) (by kernel_rfl) (fun _ _ _ h => h) (Or.inl ⟨by kernel_rfl, fun ws hSw => by have q := FB.out ws hSw; first | (go_simp; done) | (go_simp; with_reducible rfl) | (go_simp; rfl)⟩) hS ?_
        simp only [Act.put, List.setIfInBounds_toArray, List.set_cons_zero, List.set_cons_succ]
        refine wpAnyG_takeD (i := 14) (d := 170) (v := .bool true) _ rfl rfl (by kernel_rfl) (by kernel_rfl) (by kernel_rfl) (by kernel_rfl) (fun _ _ _ h => h) (Or.inl ⟨by kernel_rfl, fun ws hSw => by first | (go_simp; done) | (go_simp; with_reducible rfl) | (go_simp; rfl)⟩) hS ?_
        simp only [Act.put, List.setIfInBounds_toArray, List.set_cons_zero, List.set_cons_succ]
        refine wpAnyG_takeD (i := 15) (d := 171) (v := .bool true) _ rfl rfl (by kernel_rfl) (by kernel_rfl) (by kernel_rfl) (by kernel_rfl) (fun _ _ _ h => h) (Or.inl ⟨by kernel_rfl, fun ws hSw => by first | (go_simp; done) | (go_simp; with_reducible rfl) | (go_simp; rfl)⟩) hS ?_
        simp only [Act.put, List.setIfInBounds_toArray, List.set_cons_zero, List.set_cons_succ]
        refine wpAnyG_takeD (i := 16) (d := 172) (v := .bool true) _ rfl rfl (by kernel_rfl) (by kernel_rfl) (by kernel_rfl) (by kernel_rfl) (fun _ _ _ h => h) (Or.inl ⟨by kernel_rfl, fun ws hSw => by first | (go_simp; done) | (go_simp; with_reducible rfl) | (go_simp; rfl)⟩) hS ?_
        simp only [Act.put, List.setIfInBounds_toArray, List.set_cons_zero, List.set_cons_succ]
        refine wpAnyG_takeD (i := 17) (d := 173) (v := .slice q2 0 c2) _ rfl rfl (by kernel_rfl) (by kernel_rfl) (by kernel_rfl) (by kernel_rfl) (fun _ _ _ h => h) (Or.inl ⟨by kernel_rfl, fun ws hSw => by first | (go_simp; done) | (go_simp; with_reducible rfl) | (go_simp; rfl)⟩) hS ?_
        simp only [Act.put, List.setIfInBounds_toArray, List.set_cons_zero, List.set_cons_succ]
        refine wpAnyG_takeD (i := 18) (d := 174) (v := .int .i64 0) _ rfl rfl (by kernel_rfl) (by kernel_rfl) (by kernel_rfl) (by kernel_rfl) (fun _ _ _ h => h) (Or.inl ⟨by kernel_rfl, fun ws hSw => by first | (go_simp; done) | (go_simp; with_reducible rfl) | (go_simp; rfl)⟩) hS ?_
        simp only [Act.put, List.setIfInBounds_toArray, List.set_cons_zero, List.set_cons_succ]
        refine wpAnyG_takeD (i := 19) (d := 175) (v := .bool true) _ rfl rfl (by kernel_rfl) (by kernel_rfl) (by kernel_rfl) (by kernel_rfl) (fun _ _ _ h => h) (Or.inl ⟨by kernel_rfl, fun ws hSw => by first | (go_simp; done) | (go_simp; with_reducible rfl) | (go_simp; rfl)⟩) hS ?_
        simp only [Act.put, List.setIfInBounds_toArray, List.set_cons_zero, List.set_cons_succ]
        refine wpAnyG_takeD (i := 20) (d := 176) (v := .bool true) _ rfl rfl (by kernel_rfl) (by kernel_rfl) (by kernel_rfl) (by kernel_rfl) (fun _ _ _ h => h) (Or.inl ⟨by kernel_rfl, fun ws hSw => by first | (go_simp; done) | (go_simp; with_reducible rfl) | (go_simp; rfl)⟩) hS ?_
        simp only [Act.put, List.setIfInBounds_toArray, List.set_cons_zero, List.set_cons_succ]
        refine wpAnyG_takeD (i := 21) (d := 177) (v := .bool true) _ rfl rfl (by kernel_rfl) (by kernel_rfl) (by kernel_rfl) (by kernel_rfl) (fun _ _ _ h => h) (Or.inl ⟨by kernel_rfl, fun ws hSw => by first | (go_simp; done) | (go_simp; with_reducible rfl) | (go_simp; rfl)⟩) hS ?_
        simp only [Act.put, List.setIfInBounds_toArray, List.set_cons_zero, List.set_cons_succ]
        refine wpAnyG_takeD (i := 22) (d := 178) (v := .pointer (some ⟨sp, 0, none⟩)) _ rfl rfl (by kernel_rfl) (by kernel_rfl) (by kernel_rfl) (by kernel_rfl) (fun _ _ _ h => h) (Or.inl ⟨by kernel_rfl, fun ws hSw => by have q := FS.out ws hSw; first | (go_simp; done) | (go_simp; with_reducible rfl) | (go_simp; rfl)⟩) hS ?_
        simp only [Act.put, List.setIfInBounds_toArray, List.set_cons_zero, List.set_cons_succ]
        refine wpAnyG_takeD (i := 24) (d := 180) (v := .pointer (some ⟨cp, 0, none⟩)) _ rfl rfl (by kernel_rfl) (by kernel_rfl) (by kernel_rfl) (by kernel_rfl) (fun _ _ _ h => h) (Or.inl ⟨by kernel_rfl, fun ws hSw => by have q := FC.out ws hSw; first | (go_simp; done) | (go_simp; with_reducible rfl) | (go_simp; rfl)⟩) hS ?_
        simp only [Act.put, List.setIfInBounds_toArray, List.set_cons_zero, List.set_cons_succ]
        refine wpAnyG_ready (rs := [23]) (by kernel_rfl) (by simp) ?_
        refine AllReadyG.cons rfl (fun K hK => ?_) AllReadyG.nil
        go_simp
        refine (CLs.out _ hS).mono ?_
        rintro e w' ⟨rfl, rfl⟩
        refine hK _ _ hS (fun hS => ?_)
        try simp only [Act.put, List.setIfInBounds_toArray, List.set_cons_zero, List.set_cons_succ]
        refine wpAnyG_ready (rs := [25]) (by kernel_rfl) (by simp) ?_
        refine AllReadyG.cons rfl (fun K hK => ?_) AllReadyG.nil
        go_simp
        refine (CLc.out _ hS).mono ?_
        rintro e w' ⟨rfl, rfl⟩
        refine hK _ _ hS (fun hS => ?_)
        try simp only [Act.put, List.setIfInBounds_toArray, List.set_cons_zero, List.set_cons_succ]
        refine wpAnyG_takeD (i := 26) (d := 182) (v := .bool true) _ rfl rfl (by kernel_rfl) (by kernel_rfl) (by kernel_rfl) (by kernel_rfl) (fun _ _ _ h => h) (Or.inl ⟨by kernel_rfl, fun ws hSw => by first | (go_simp; done) | (go_simp; with_reducible rfl) | (go_simp; rfl)⟩) hS ?_
        simp only [Act.put, List.setIfInBounds_toArray, List.set_cons_zero, List.set_cons_succ]
        refine wpAnyG_takeD (i := 27) (d := 183) (v := .bool true) _ rfl rfl (by kernel_rfl) (by kernel_rfl) (by kernel_rfl) (by kernel_rfl) (fun _ _ _ h => h) (Or.inl ⟨by kernel_rfl, fun ws hSw => by first | (go_simp; done) | (go_simp; with_reducible rfl) | (go_simp; rfl)⟩) hS ?_
        simp only [Act.put, List.setIfInBounds_toArray, List.set_cons_zero, List.set_cons_succ]
        refine wpAnyG_ready (rs := [28]) (by kernel_rfl) (by simp) ?_
        refine AllReadyG.last rfl rfl (fun K hK => ?_)
        go_simp
        rw [HWZ.out]
        refine hK _ _ ?_
        try simp only [Act.put, List.setIfInBounds_toArray, List.set_cons_zero, List.set_cons_succ]
        refine wpAnyG_done (by kernel_rfl) ?_
        exact ⟨rfl, rfl, rfl⟩

theorem walk {H : Type} {enc : TypeId × Value → H} {base : Nat} (W : World) (v0 : Value) (d0 : DataW H) (p0 : List MemPlace) (o0 : Value.okWide Tryz.prog W .any base 22 v0) (h0 : DataW.Trod enc Tryz.prog W 0 (fun _ => true) true 22 v0 d0 p0)
    (v1 : Value) (d1 : DataW H) (p1 : List MemPlace) (o1 : Value.okWide Tryz.prog W .any base 2 v1) (h1 : DataW.Trod enc Tryz.prog W 0 (fun _ => true) true 2 v1 d1 p1) (wt : Wt 22 d0) (_ : Wt 2 d1) :
    Calls Tryz.prog 3 #[v0, v1] W fun e W' => e = .returned (.bool true) ∧ Below W.heap.size W W' := by
  obtain ⟨q, c, l, rfl, hr, hok, hlen⟩ := open_objs o0 h0 wt
  obtain ⟨n, rfl, rfl, rfl, _⟩ := open_int Tryz.underlying2 o1 h1
  exact walk_at W q c l n hr hok hlen

/-! ### THE ROW's STEP -/
set_option maxRecDepth 100000 in
theorem lifted (os : Os) (started : os.Started) (H : Type) (enc : TypeId × Value → H) :
    ReturnsInHanded {} Tryz.checked os 3 .any (Rows.podsPassSpec.pre6 enc Tryz.prog Tryz.f3 Rows.podsPassRow.domain false) (Rows.podsPassSpec.post enc Tryz.prog Tryz.f3 false true false false) := by
  refine returnsInHanded_of_change_sized (C := Tryz.checked) own started (by kernel_rfl) Tryz.func3
    (ChangeSpec.witness6 (enc := enc) (C := Tryz.checked) false ⟨#[], #[.slice none 0 0, .int .i64 0], []⟩ 8 (by kernel_rfl) (by kernel_rfl) (by kernel_rfl) (by kernel_rfl)) ?_
  intro W base args ds gs before hval0 hW hcnd hsz0 _
  have hval : ∀ (j : Nat) t v, Tryz.f3.params[j]? = some t → args[j]? = some v → Value.okWide Tryz.prog W .any base t v := hval0
  have hW' := hW
  obtain ⟨p, q, hA0, hV, rfl, hfz, hnd⟩ := hW
  have hA : DataW.TrodAll enc Tryz.prog W 0 (fun _ => true) true Tryz.f3.params.toList args.toList ds p := hA0
  have hlt : ∀ x ∈ p, x.block < W.heap.size := fun x hx => hW'.lt x (List.mem_append_left _ hx)
  rw [Tryz.params3] at hA hval
  have hread : ∀ t ∈ [22, 2], Tryz.prog.readableRec t = true ∧ t < Tryz.prog.types.size := by
    intro t ht
    simp only [List.mem_cons, List.not_mem_nil, or_false] at ht
    rcases ht with rfl | rfl <;> exact ⟨by kernel_rfl, of_decide_eq_true (by kernel_rfl)⟩
  have again : ∀ (W' : World), Below W.heap.size W W' → ∀ sp : Nat → Bool, (∀ x ∈ p, sp x.block = true) → DataW.TrodAll enc Tryz.prog W' 0 sp true [22, 2] args.toList ds p :=
    fun W' hb sp hsp => all_again (by kernel_rfl) hb [22, 2] args.toList ds p hread hA hlt hsp
  obtain ⟨v0, v1, d0, d1, p0, p1, rfl, rfl, rfl, h0, h1⟩ := trodAll_two hA
  obtain ⟨rfl, rfl⟩ := trodVars_none hV
  have wt0 : Wt 22 d0 := fun n hn => by
    have := List.all_eq_true.1 hsz0 n (DataW.weights_mem_each (j := 0) (t := 22) (d := d0) (by kernel_rfl) rfl n hn)
    simpa using this
  have wt1 : Wt 2 d1 := fun n hn => by
    have := List.all_eq_true.1 hsz0 n (DataW.weights_mem_each (j := 1) (t := 2) (d := d1) (by kernel_rfl) rfl n hn)
    simpa using this
  clear hA0 hval0
  simp only [List.append_nil] at hW' again
  refine (walk W v0 d0 p0 (hval 0 22 v0 rfl rfl) h0 v1 d1 p1 (hval 1 2 v1 rfl rfl) h1 wt0 wt1).mono fun e W' ⟨he, hg⟩ => ?_
  subst he
  exact ⟨_, rfl, post_below hW' hg (fun _ _ _ => trodAll_mk1 (shut_bool Tryz.underlying4 _)) (fun sp hsp => again W' hg sp hsp) (fun _ => rfl) (ok_one (by kernel_rfl) rfl (okWide_bool_mk Tryz.underlying4 _))⟩

theorem over : Rows.podsPassRow.holds Tryz.pinned (OpenSpec.ofChange Rows.podsPassSpec) :=
  OpenClaim.holds_of_wide 3 Tryz.f3 rfl rfl rfl rfl rfl rfl rfl ⟨rfl, rfl, rfl, rfl, rfl⟩ rfl rfl rfl rfl rfl (by kernel_rfl) Tryz.func3 (by kernel_rfl)
    (of_decide_eq_true (by kernel_rfl)) (by unfold Func.isWrapper; first | (rw [if_pos (by decide +kernel)]; kernel_rfl) | (rw [if_neg (by decide +kernel)]; exact ⟨rfl, rfl⟩))
    (fun os started H enc _ => lifted os started H enc)

/-- The statement. -/
theorem proved : Rows.PodsPassSaid :=
  over
#print axioms proved
end Go.Proofs.YtcfilaiejccfkaaGreat.podsPass


