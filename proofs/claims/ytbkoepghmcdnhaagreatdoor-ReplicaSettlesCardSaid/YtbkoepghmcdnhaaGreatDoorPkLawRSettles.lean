/- Proved here: the law ReplicaSettles of layer 16 holds for every input, wherever the library's tables are as the program's text lays them: behind eight passes there are as many pods as there should be of each workload, and no others; a pass then changes nothing. Written by gen_rsettles.py: edit rsettles_main.txt. -/
import Derived.Test.YtbkoepghmcdnhaaGreatDoorPk1
import Derived.Test.YtbkoepghmcdnhaaGreatDoorCards
import Derived.Test.YtbkoepghmcdnhaaGreatDoorTie
import Derived.Test.YtbkoepghmcdnhaaGreatDoorPkRqR
import Derived.Test.YtbkoepghmcdnhaaGreatDoorPk2
import Derived.SevenTiedAt
import Derived.BigQuiet
import Derived.Sort.LoopGhostIn
namespace Go.Proofs.YtbkoepghmcdnhaaGreatDoor.replicaSettles
open Go.ChangeShapes Go.WideShapes Go.ChangeAt Go.RowKit Go.Lib Go.Shelf Go.Sort Go.Deep
open Go.Joins (cell_of_block unfrozen_of_block block_setCell)
open Go.Proofs.YtbkoepghmcdnhaaGreatDoor.Lc Go.Proofs.YtbkoepghmcdnhaaGreatDoor.Rp
open Go.Proofs.YtbkoepghmcdnhaaGreatDoor.Vi (isPod isOf isLive isFailed)
set_option linter.unusedVariables false
set_option linter.unusedSimpArgs false
set_option maxRecDepth 20000

abbrev bF : Obj := .cells #[.bool false] 4 (0, 0)
abbrev bT : Obj := .cells #[.bool true] 4 (0, 0)
def sumN (l : List Ob) : Nat := (l.map repN).sum
theorem sumN_app (l : List Ob) (x : Ob) : sumN (l ++ [x]) = sumN l + repN x := by simp [sumN]
theorem sumN_le {l : List Ob} (h : ∀ o ∈ l, repN o ≤ 20) : sumN l ≤ 20 * l.length := by
  induction l with
  | nil => simp [sumN]
  | cons x l ih =>
    have h1 := ih (fun o ho => h o (List.mem_cons_of_mem _ ho))
    have h2 := h x List.mem_cons_self
    unfold sumN at h1 ⊢
    rw [List.map_cons, List.sum_cons, List.length_cons]
    omega
theorem lack_le (L WS : List Ob) : lack L WS ≤ sumN WS := by
  unfold lack sumN
  induction WS with
  | nil => exact Nat.le_refl _
  | cons x l ih => rw [List.map_cons, List.sum_cons, List.map_cons, List.sum_cons]; omega
theorem rep_nat {o : Ob} (h : OkK o) (hk : o.kind = 0) : o.w.rep = (repN o : Int) := by
  have hcw := (chk_wl h.3 hk).2
  unfold c_w wlC withinB at hcw
  simp only [Bool.and_eq_true, decide_eq_true_eq] at hcw
  unfold repN
  omega
/-- While what is wanted is summed up. -/
structure WI (Bw : Nat) (w5 : World) (L : List Ob) (pre : List Co) (W' : World) : Prop where
  chg : Chg [Bw] w5 W'
  cw : W'.heap[Bw]? = some (.cells #[.int .i64 ((sumN (pre.map (·.1.2)) : Nat) : Int)] 3 (0, 0))
  prx : pre.map (·.1.2) = (listed 0 L).take pre.length
  ok : ∀ x ∈ pre, repN x.1.2 ≤ 20 ∧ x.1.2.name.size ≤ 27
theorem cells_loops {V V' : World} {T : List Nat} (ch : Chg T V V') (hT : ∀ g ∈ T, ∃ r : Loop, V.heap[g]? = some (.loop r)) {g : Nat} {cs : Array Value} {T' : TypeId} {fz : Nat × Nat} (hg : V.heap[g]? = some (Obj.cells cs T' fz)) : V'.heap[g]? = some (Obj.cells cs T' fz) :=
  (ch.block g (Array.getElem?_eq_some_iff.1 hg).1 (fun hm => loop_cells (hT g hm) hg)).trans hg
theorem wi_bears (Bw : Nat) (w5 : World) (L : List Ob) (G : Nat) (hw : w5.heap.size ≤ G) : BearsL G (WI Bw w5 L) := by
  intro pre V V' T h ch hT
  exact ⟨h.chg.trans ch (fun g hg => .inr (by have := (hT g hg).1; omega)), cells_loops ch (fun g hg => (hT g hg).2) h.cw, h.prx, h.ok⟩
/-- The answer is there. -/
def WX (base : Nat) (B : List Nat) (w5 : World) (c : Code) (_ : List Co) (W' : World) : Prop := c = .ret ∧ Chg B w5 W' ∧ W'.heap[base]? = some bT
theorem wx_bears (base : Nat) (B : List Nat) (w5 : World) (c : Code) (G : Nat) (hw : w5.heap.size ≤ G) : BearsL G (WX base B w5 c) := by
  rintro pre V V' T ⟨hc, h1, h2⟩ ch hT
  exact ⟨hc, h1.trans ch (fun g hg => .inr (by have := (hT g hg).1; omega)), cells_loops ch (fun g hg => (hT g hg).2) h2⟩

/-- So many passes have been, in a store. -/
structure Gd (base sp : Nat) (S : List Nat) (w8 : World) (l : List Ob) (wr : World) (S' : List Nat) (L' : List Ob) (hist' : List Ev) (i : Nat) : Prop where
  st : StIs base wr S' sp 200 L' hist'
  chg : Chg S w8 wr
  news : ∀ g ∈ S', g ∈ S ∨ w8.heap.size ≤ g
  rests : Rests L' i
  wls : listed 0 L' = listed 0 l
  pot : L'.length + lack L' (listed 0 l) ≤ 190
  ev : hist'.length + L'.length + 2 * lack L' (listed 0 l) ≤ 1000
theorem Gd.pass {base sp : Nat} {S : List Nat} {w8 : World} {l : List Ob} {wr : World} {S' : List Nat} {L' : List Ob} {hist' : List Ev} {i : Nat} (h : Gd base sp S w8 l wr S' L' hist' i) (W0 : World) (hb0 : W0.heap.size = base) (low : Below base W0 wr) (hT : Tab W0) (hwl : ∀ o ∈ listed 0 l, o.name.size ≤ 27) (now : Int) (h0 : 0 ≤ now) (h1 : now ≤ 4611686018427387904) :
    Calls Tryz.prog 8 #[.pointer (some ⟨sp, 0, none⟩), .int .i64 now] wr fun e w' => ∃ q m c S2 L2 hist2, e = .returned (.tuple #[.slice q m c, .int .i64 0]) ∧ Gd base sp S w8 l w' S2 L2 hist2 (i + 1) ∧ (4 ≤ i → m = 0) := by
  refine (rPass_any base W0 wr hb0 low hT S' sp L' hist' now h.st (by rw [h.wls]; exact hwl) (by rw [h.wls]; exact h.pot) (by rw [h.wls]; exact h.ev) h0 h1).mono ?_
  rintro e w' ⟨q, c, L2, hist2, rfl, ⟨S2, a1, a2, a3⟩, ov⟩
  have hp := ov.pot
  have he := ov.evs
  rw [h.wls] at hp he
  have h2 := h.pot
  have h3 := h.ev
  refine ⟨q, _, c, S2, L2, hist2, rfl, ⟨a1, h.chg.trans a2 h.news, fun g hg => ?_, h.rests.next ov, ov.listed.trans h.wls, by omega, by omega⟩, fun hi => by rw [h.rests.calm hi ov]; omega⟩
  rcases a3 g hg with h4 | h4
  · exact h.news g h4
  · have := h.chg.size
    exact .inr (by omega)
theorem range_below {w0 w : World} {g o : Nat} {vs : List Value} (h : w0.rangeAt g o vs) (b : Below w0.heap.size w0 w) (hg : g < w0.heap.size) : w.rangeAt g o vs := fun t u hu => (b.cell (p := ⟨g, o + t, none⟩) hg).trans (h t u hu)
theorem cnt_next {s : ByteArray} {L : List Ob} {j : Nat} {x : Ob} (h : L[j]? = some x) : ((L.take (j + 1)).filter (isLive s)).length = ((L.take j).filter (isLive s)).length + (if isLive s x = true then 1 else 0) := by
  rw [List.take_add_one, h, List.filter_append, List.length_append]
  cases hx : isLive s x <;> simp [hx]
theorem cnt_all (s : ByteArray) (L : List Ob) : ((listed 1 L).filter (isLive s)).length = liveN s L := by
  unfold liveN
  rw [((listed_perm 1 L).filter (isLive s)).length_eq, List.filter_filter]
  refine congrArg List.length (List.filter_congr fun x _ => ?_)
  cases h : isLive s x with
  | false => rfl
  | true =>
    have := (isLive_of h).2.1
    unfold isPod at this
    rw [this]
    rfl
/-- Just there. -/
def AtIs (A : Act) (W : World) (a' : Act) (w' : World) : Prop := a' = A ∧ w' = W
/-- A region that comes to these slots, and to this world. -/
theorem wp_puts {P : Program} {c : Code} {Q : Exit → Act → World → Prop} {a : Act} {w w8 : World} (l : List (Tmp × Value)) (h : c.wp P (Exit.then (AtIs (l.foldl (fun a p => a.put (some p.1) p.2) a) w8) (fun _ _ _ => False)) a w)
    (k : Q .normal (l.foldl (fun a p => a.put (some p.1) p.2) a) w8) : c.wp P Q a w := by
  refine Code.wp_mono (fun e a' w' q => ?_) h
  cases e with
  | exit _ => exact q.elim
  | goto _ => exact q.elim
  | ret => exact q.elim
  | panic _ => exact q.elim
  | outgrown => exact q.elim
  | normal =>
    obtain ⟨ha, hw⟩ := q
    rw [ha, hw]
    exact k
set_option maxHeartbeats 40000000 in
theorem walk_at (W : World) (hL : Tab W) (q : Option Addr) (c : Nat) (l0 : List Po.Obv) (now : Int) (hr : RowR 47 Po.encOb W q l0) (hok : ∀ x ∈ l0, Po.okOb W x) (hlen : l0.length ≤ 140737488351232) :
    Calls Tryz.prog 3 #[.slice q l0.length c, .int .i64 now] W fun e W' => e = .returned (.bool true) ∧ Below W.heap.size W W' := by
  have mixed : Tryz.prog.follows .mixedOrders = true := by kernel_rfl
  have V := Lib.hid rlives
  obtain ⟨base, hbase⟩ : ∃ b, b = W.heap.size := ⟨_, rfl⟩
  obtain ⟨w1, hw1⟩ : ∃ x, x = W.alloc (.cells #[.bool false] 4) := ⟨_, rfl⟩
  have G1 : Gr W w1 := hw1 ▸ (Gr.refl W).alloc _
  have z1 : w1.heap.size = base + 1 := by rw [hw1, hbase]; simp
  have a1 : w1.heap[base]? = some bF := by rw [hw1, hbase]; exact heap_alloc_new W _
  have CS := Lib.hid (Po.stocked_any base W w1 hbase.symm G1.below q c l0 hr hok hlen)
  have HW1 : Hid (W.alloc (.cells #[.bool false] 4) = w1 ∧ W.heap.size = base) := ⟨hw1.symm, hbase.symm⟩
  obtain ⟨n0, hn0⟩ : ∃ n, n = l0.length := ⟨_, rfl⟩
  rw [← hn0] at CS ⊢
  have H1 := Lib.hid (And.intro G1.below (And.intro z1 (And.intro a1 hL)))
  have HWb : Hid (W.heap.size = base) := hbase.symm
  clear hL hr hok hlen hbase hw1 G1 z1 a1 hn0
  refine (callsIn_wide (n := 6)).1 ?_
  refine callsIn_of_wp_marks Tryz.func3 rfl trivial ?_ rfl
  simp only [Tryz.ntmps3, List.size_toArray, List.length_cons, List.length_nil, Nat.reduceAdd, Nat.reduceSub, Array.replicate_succ, Array.replicate_zero, List.push_toArray, List.append_toArray, List.nil_append, List.cons_append]
  refine wpIn_wide.2 ?_
  go_upto_region 1 with fail
  rw [HW1.out.1, HW1.out.2]
  go_wp2_with fail
  refine CS.out.mono ?_
  rintro e w2 ⟨hres, b2⟩
  have B2 : Hid (Below W.heap.size W w2 ∧ w2.heap[base]? = some bF ∧ base + 1 ≤ w2.heap.size) := by
    obtain ⟨h1, z1, a1, _⟩ := H1.out
    exact ⟨h1.trans (b2.mono h1.size), (b2.block _ (by omega)).trans a1, by have := b2.size; omega⟩
  -- the answer, where nothing was asked
  have RET : Hid (∀ w4 : World, Below W.heap.size W w4 → w4.heap[base]? = some bF → ∃ wy, w4.setCell ⟨base, 0, none⟩ (.bool true) = wy ∧ wy.heap[base]? = some bT ∧ Below W.heap.size W wy) := fun w4 h1 h2 =>
    ⟨_, rfl, by rw [block_setCell h2]; rfl, h1.setCell (by show W.heap.size ≤ base; rw [HWb.out]; exact Nat.le_refl _) _⟩
  rcases hres with rfl | ⟨sp, S, l, hist, rfl, st, hS, hl60, hh60⟩
  · clear b2 CS
    go_wp2_with fail
    obtain ⟨wz, hwz⟩ : ∃ x, x = w2.alloc (.cells #[.pointer none] 23) := ⟨_, rfl⟩
    rw [← hwz]
    have Bz : Hid (Below W.heap.size W wz ∧ wz.heap[base]? = some bF ∧ wz.heap[w2.heap.size]? = some (.cells #[.pointer none] 23 (0, 0))) := by
      obtain ⟨h1, a1, z⟩ := B2.out
      have g : Gr w2 wz := hwz ▸ (Gr.refl w2).alloc _
      exact ⟨h1.trans (g.below.mono h1.size), (g.heap (by omega)).trans a1, by rw [hwz]; exact heap_alloc_new w2 _⟩
    clear hwz
    refine (V.out _ (H1.out.2.2.2.below Bz.out.1)).mono ?_
    rintro e w3 ⟨rfl, v3⟩
    have B3 : Hid (Below W.heap.size W w3 ∧ w3.heap[base]? = some bF) := ⟨Bz.out.1.trans (v3.mono Bz.out.1.size), (v3.block _ (Array.getElem?_eq_some_iff.1 Bz.out.2.1).1).trans Bz.out.2.1⟩
    have k5 : w3.cell? ⟨w2.heap.size, 0, none⟩ = some (.pointer none) := cell_of_block ((v3.block _ (Array.getElem?_eq_some_iff.1 Bz.out.2.2).1).trans Bz.out.2.2) 0
    clear v3
    go_wp2_with fail
    refine (V.out _ (H1.out.2.2.2.below B3.out.1)).mono ?_
    rintro e w4 ⟨rfl, v4⟩
    have r2 : w4.heap[base]? = some bF := (v4.block _ (Array.getElem?_eq_some_iff.1 B3.out.2).1).trans B3.out.2
    have rc : w4.cell? ⟨base, 0, none⟩ = some (.bool false) := cell_of_block r2 0
    have rf : w4.frozen? ⟨base, 0, none⟩ = false := unfrozen_of_block r2 0
    obtain ⟨wy, hwy', f1, f2⟩ := RET.out w4 (B3.out.1.trans (v4.mono B3.out.1.size)) r2
    have FIN := Lib.hid (And.intro f1 f2)
    clear v4 r2 k5 f1 f2
    go_wp2_with fail
    (try rw [hwy'])
    refine leaves_marks (F := Fence.wide) (n := 6) (P := Tryz.prog) (fn := Tryz.f3) [] wy List.Pairwise.nil (fun D hD => by cases hD) (fun w'' c'' => ?_)
    exact ⟨_, results_cellB rfl _ w'' base rfl ((c''.block _ (Array.getElem?_eq_some_iff.1 FIN.out.1).1 (by simp)).trans FIN.out.1), rfl, FIN.out.2.trans (c''.below (fun g hg => by cases hg) FIN.out.2.size)⟩
  · have H2 := Lib.hid (And.intro st (And.intro hS (And.intro hl60 (And.intro hh60 b2))))
    obtain ⟨w3, hw3⟩ : ∃ x, x = w2.alloc (.cells #[.pointer (some ⟨sp, 0, none⟩)] 23) := ⟨_, rfl⟩
    obtain ⟨Bs, hBs⟩ : ∃ b, b = w2.heap.size := ⟨_, rfl⟩
    have HW3 : Hid (w2.alloc (.cells #[.pointer (some ⟨sp, 0, none⟩)] 23) = w3 ∧ w2.heap.size = Bs) := ⟨hw3.symm, hBs.symm⟩
    have l3 : Below w2.heap.size w2 w3 := hw3 ▸ ((Gr.refl w2).alloc _).below
    have B3 : Hid (Below w2.heap.size w2 w3 ∧ w3.heap[Bs]? = some (.cells #[.pointer (some ⟨sp, 0, none⟩)] 23 (0, 0)) ∧ w3.heap[base]? = some bF ∧ Below W.heap.size W w3) :=
      ⟨l3, by rw [hw3, hBs]; exact heap_alloc_new w2 _, (l3.block base (by have := B2.out.2.2; omega)).trans B2.out.2.1, B2.out.1.trans (l3.mono B2.out.1.size)⟩
    clear st hS hl60 hh60 b2 CS hw3 hBs l3
    go_wp2_with fail
    rw [HW3.out.1, HW3.out.2]
    refine (V.out _ (H1.out.2.2.2.below B3.out.2.2.2)).mono ?_
    rintro e w4 ⟨rfl, v4⟩
    have B4 : Hid (Below w2.heap.size w2 w4 ∧ w4.heap[Bs]? = some (.cells #[.pointer (some ⟨sp, 0, none⟩)] 23 (0, 0)) ∧ w4.heap[base]? = some bF ∧ Below W.heap.size W w4) := by
      obtain ⟨h1, h2, h3, h4⟩ := B3.out
      exact ⟨h1.trans (v4.mono h1.size), (v4.block _ (Array.getElem?_eq_some_iff.1 h2).1).trans h2, (v4.block _ (Array.getElem?_eq_some_iff.1 h3).1).trans h3, h4.trans (v4.mono h4.size)⟩
    have k4 : w4.cell? ⟨Bs, 0, none⟩ = some (.pointer (some ⟨sp, 0, none⟩)) := cell_of_block B4.out.2.1 0
    clear v4 B3
    by_cases hb : now < 0 ∨ 4611686018427387904 < now
    · by_cases hb0 : now < 0
      · have t1 : decide (now < 0) = true := decide_eq_true hb0
        clear hb hb0
        go_wp2_with fail
        refine (V.out _ (H1.out.2.2.2.below B4.out.2.2.2)).mono ?_
        rintro e w5 ⟨rfl, v5⟩
        have r2 : w5.heap[base]? = some bF := (v5.block _ (Array.getElem?_eq_some_iff.1 B4.out.2.2.1).1).trans B4.out.2.2.1
        have rc : w5.cell? ⟨base, 0, none⟩ = some (.bool false) := cell_of_block r2 0
        have rf : w5.frozen? ⟨base, 0, none⟩ = false := unfrozen_of_block r2 0
        obtain ⟨wy, hwy', f1, f2⟩ := RET.out w5 (B4.out.2.2.2.trans (v5.mono B4.out.2.2.2.size)) r2
        have FIN := Lib.hid (And.intro f1 f2)
        clear v5 r2 f1 f2
        go_wp2_with fail
        (try rw [hwy'])
        refine leaves_marks (F := Fence.wide) (n := 6) (P := Tryz.prog) (fn := Tryz.f3) [] wy List.Pairwise.nil (fun D hD => by cases hD) (fun w'' c'' => ?_)
        exact ⟨_, results_cellB rfl _ w'' base rfl ((c''.block _ (Array.getElem?_eq_some_iff.1 FIN.out.1).1 (by simp)).trans FIN.out.1), rfl, FIN.out.2.trans (c''.below (fun g hg => by cases hg) FIN.out.2.size)⟩
      · have t1 : decide (now < 0) = false := decide_eq_false hb0
        have t2 : decide (4611686018427387904 < now) = true := decide_eq_true (by omega)
        clear hb hb0
        go_wp2_with fail
        refine (V.out _ (H1.out.2.2.2.below B4.out.2.2.2)).mono ?_
        rintro e w5 ⟨rfl, v5⟩
        have r2 : w5.heap[base]? = some bF := (v5.block _ (Array.getElem?_eq_some_iff.1 B4.out.2.2.1).1).trans B4.out.2.2.1
        have rc : w5.cell? ⟨base, 0, none⟩ = some (.bool false) := cell_of_block r2 0
        have rf : w5.frozen? ⟨base, 0, none⟩ = false := unfrozen_of_block r2 0
        obtain ⟨wy, hwy', f1, f2⟩ := RET.out w5 (B4.out.2.2.2.trans (v5.mono B4.out.2.2.2.size)) r2
        have FIN := Lib.hid (And.intro f1 f2)
        clear v5 r2 f1 f2
        go_wp2_with fail
        (try rw [hwy'])
        refine leaves_marks (F := Fence.wide) (n := 6) (P := Tryz.prog) (fn := Tryz.f3) [] wy List.Pairwise.nil (fun D hD => by cases hD) (fun w'' c'' => ?_)
        exact ⟨_, results_cellB rfl _ w'' base rfl ((c''.block _ (Array.getElem?_eq_some_iff.1 FIN.out.1).1 (by simp)).trans FIN.out.1), rfl, FIN.out.2.trans (c''.below (fun g hg => by cases hg) FIN.out.2.size)⟩
    · have t1 : decide (now < 0) = false := decide_eq_false (by omega)
      have t2 : decide (4611686018427387904 < now) = false := decide_eq_false (by omega)
      have HNW : Hid (0 ≤ now ∧ now ≤ 4611686018427387904) := ⟨by omega, by omega⟩
      obtain ⟨st, hS, hl60, hh60, b2⟩ := H2.out
      obtain ⟨b24, s4, a4, low4⟩ := B4.out
      obtain ⟨Bw, hBw⟩ : ∃ b, b = w4.heap.size := ⟨_, rfl⟩
      obtain ⟨w5, hw5⟩ : ∃ x, x = w4.alloc (.cells #[.int .i64 0] 3) := ⟨_, rfl⟩
      have G5 : Gr w4 w5 := hw5 ▸ (Gr.refl w4).alloc _
      have z5 : w5.heap.size = Bw + 1 := by rw [hw5, hBw]; simp
      have cw5 : w5.heap[Bw]? = some (.cells #[.int .i64 0] 3 (0, 0)) := by rw [hw5, hBw]; exact heap_alloc_new w4 _
      have lt4 : ∀ {g : Nat} {ob : Obj}, w4.heap[g]? = some ob → g < w4.heap.size := fun hg => (Array.getElem?_eq_some_iff.1 hg).1
      have s5 := (G5.heap (lt4 s4)).trans s4
      have a5 := (G5.heap (lt4 a4)).trans a4
      have st5 : StIs base w5 S sp 200 l hist := st.gr (b24.trans (G5.below.mono b24.size))
      obtain ⟨wt, hwt⟩ : ∃ x, x = (w5.alloc (.cells #[.pointer (some ⟨sp, 0, none⟩)] 23)).alloc (.cells #[.int .i64 0] 3) := ⟨_, rfl⟩
      have Gt : Gr w5 wt := hwt ▸ ((Gr.refl w5).alloc _).alloc _
      have zt : wt.heap.size = Bw + 3 := by rw [hwt]; simp [z5]
      have e1 : wt.heap[Bw + 1]? = some (.cells #[.pointer (some ⟨sp, 0, none⟩)] 23 (0, 0)) := by
        rw [hwt, ← z5, ((Gr.refl (w5.alloc (.cells #[.pointer (some ⟨sp, 0, none⟩)] 23))).alloc _).heap (by simp)]
        exact heap_alloc_new w5 _
      have e2 : wt.heap[Bw + 1 + 1]? = some (.cells #[.int .i64 0] 3 (0, 0)) := by
        rw [hwt]
        have := heap_alloc_new (w5.alloc (.cells #[.pointer (some ⟨sp, 0, none⟩)] 23)) (.cells #[.int .i64 0] 3)
        rw [World.size_alloc, z5] at this
        exact this
      have CL := Lib.hid (list_any w5 (.pointer (some ⟨sp, 0, none⟩)) 0 ⟨_, rfl⟩)
      have TN := list_tellsC (6 - 1) base wt S sp (Bw + 1) 200 0 l hist (st5.gr Gt.below) (cell_of_block e1 0) (cell_of_block e2 0) (by omega) (by omega)
      have HTN := Lib.hid TN
      have I0 : Hid (∀ C, wt.heap.size ≤ C → WI Bw w5 l [] wt) := fun C hC => ⟨Chg.ofBelow Gt.below [Bw], (Gt.heap (by omega)).trans cw5, by simp, fun x hx => by cases hx⟩
      have k5 : w5.cell? ⟨Bs, 0, none⟩ = some (.pointer (some ⟨sp, 0, none⟩)) := cell_of_block s5 0
      have HCW := Lib.hid cw5
      obtain ⟨bw, ap0, ok0⟩ := st_fine st5
      have HB : Hid (base < Bs ∧ Bs < Bw ∧ wt.heap.size = Bw + 3 ∧ w5.heap.size = Bw + 1) := ⟨by have := B2.out.2.2; have := HW3.out.2; omega, by rw [hBw]; exact lt4 s4, zt, z5⟩
      have hSB : ∀ g ∈ S, base + 1 ≤ g ∧ g < Bs := fun g hg => ⟨by have := hS g hg; have := H1.out.2.1; omega, by have := (st.prot g hg).2.1; have := HW3.out.2; omega⟩
      have H5 := Lib.hid (And.intro st5 (And.intro hSB (And.intro hl60 (And.intro hh60 (And.intro s5 (And.intro a5 (And.intro (low4.trans (G5.below.mono low4.size)) (And.intro ap0 (And.intro ok0 bw)))))))))
      have HW5 : Hid (w4.alloc (.cells #[.int .i64 0] 3) = w5 ∧ w4.heap.size = Bw ∧ w5.heap.size = Bw + 1) := ⟨hw5.symm, hBw.symm, z5⟩
      have HWT : Hid ((w5.alloc (.cells #[.pointer (some ⟨sp, 0, none⟩)] 23)).alloc (.cells #[.int .i64 0] 3) = wt) := hwt.symm
      clear hb st hS hl60 hh60 b2 b24 s4 a4 low4 hBw hw5 G5 z5 cw5 lt4 s5 a5 st5 hwt Gt zt e1 e2 TN bw ap0 ok0 hSB
      go_upto_region 5 with fail
      rw [HW5.out.1, HW5.out.2.1]
      go_wp2_with fail
      refine CL.out.mono ?_
      rintro e w' ⟨rfl, hw'⟩
      rw [HW5.out.2.2]
      rw [hw', HWT.out]
      clear hw' CL k4 k5
      go_wp2_with fail
      refine (wpIn_wide (n := 6)).1 ?_
      refine wpIn_toldC (α := Co) (n := 6) (by decide) (gf := 14) (lb := #[.pointer (some ⟨Bw + 1, 0, none⟩), .pointer (some ⟨Bw + 1 + 1, 0, none⟩)]) rfl (enters_of Tryz.func14 (by kernel_rfl) rfl) HTN.out (Below.refl _ _) (fun _ => rfl) (by have := HB.out; omega) (fun pre x A A' h f => ⟨h.1, h.2.fx f⟩)
        (fun _ => WI Bw w5 l) (fun c _ => WX base [base, Bw] w5 c) ?_ ?_ I0.out ?_ ?_ ?_
      · exact fun C => wi_bears Bw w5 l wt.heap.size (by have := HB.out; omega)
      · exact fun c C => wx_bears base [base, Bw] w5 c wt.heap.size (by have := HB.out; omega)
      · intro l' C pre x W6 hi hgv hlB hlC hCW
        rw [zip_one]
        obtain ⟨D, hD⟩ : ∃ D, D = x.1.1.1 := ⟨_, rfl⟩
        obtain ⟨o, ho⟩ : ∃ o, o = x.1.2 := ⟨_, rfl⟩
        have hkx := hgv.2
        rw [← hD] at hkx ⊢
        rw [← ho] at hkx
        have z0 : (W6.alloc (.cells zerC OT)).heap[W6.heap.size]? = some (.cells zerC OT (0, 0)) := heap_alloc_new W6 _
        obtain ⟨th, n0', fx1, c1'⟩ := store_ob (base := W6.heap.size) z0 rfl hkx.obj.1 (Nat.le_refl _)
        obtain ⟨wv, hwv⟩ : ∃ W', W' = (W6.alloc (.cells zerC OT)).setCells W6.heap.size 0 D.toList := ⟨_, rfl⟩
        obtain ⟨O, hO⟩ : ∃ A, A = W6.heap.size := ⟨_, rfl⟩
        rw [← hwv] at n0' c1'
        have b3 : Below W6.heap.size W6 wv := by
          have g : Gr W6 (W6.alloc (.cells zerC OT)) := (Gr.refl W6).alloc _
          exact ((Xb.ofGr g W6.heap.size).trans ⟨c1'.os, c1'.tape, c1'.output, c1'.size, fun k hk hne => c1'.block k hk (by simpa using hne)⟩).below (Nat.le_refl _) (Nat.le_refl _)
        rw [← hO] at n0'
        have TH := Lib.hid th
        have IN : Hid ((Tryz.prog.info? OT).map (·.size) = some D.size) := by show _ = _; rw [hkx.obj.1]; exact info_ob47
        have ON := Lib.hid (objV_one hkx.obj)
        have HWV : Hid ((W6.alloc (.cells zerC OT)).setCells W6.heap.size 0 D.toList = wv ∧ W6.heap.size = O) := ⟨hwv.symm, hO.symm⟩
        have H3 := Lib.hid (And.intro n0' (And.intro b3 (And.intro hi (And.intro hgv.1 (And.intro hkx ho)))))
        clear hkx z0 th n0' fx1 c1' hwv hO b3 hi hgv hD ho
        refine region_round (by rfl) (fun ⟨a, w, h⟩ => h) ?_
        go_wp2_with (refine wpList_store_mid rfl _ _ _ rfl W6.heap.size 0 D (by rfl) (by rfl) TH.out IN.out ON.out ?_; rw [HWV.out.1, HWV.out.2])
        refine ⟨StaysC.ofBelow H3.out.2.1, fun W2 c2 f2 => ?_⟩
        obtain ⟨n3, b3, hI, gv1, gv2, ho⟩ := H3.out
        obtain ⟨st5, hSB, hl60, hh60, s5, a5, low5, ap0, ok0, bw⟩ := H5.out
        obtain ⟨hB1, hB2, zt, z5⟩ := HB.out
        have hO : W6.heap.size = O := HWV.out.2
        rw [← ho] at gv1
        have z6 := hI.chg.size
        have ch2 : Chg [Bw] w5 W2 := (hI.chg.trans (Chg.ofBelow b3 []) (by simp)).trans c2 (fun g hg => .inr (by rw [List.mem_singleton] at hg; omega))
        have out : ∀ g, g < wv.heap.size → g ≠ l' → W2.heap[g]? = wv.heap[g]? := fun g h1 h2 => c2.block g h1 (by simpa using h2)
        have z3 := b3.size
        have o2 : W2.heap[O]? = some (.cells D OT (0, 0)) := (out O (Array.getElem?_eq_some_iff.1 n3).1 (by omega)).trans n3
        have kD : Kept base W2 D o := (gv2.fx (Fx.ofBelow b3)).fx f2
        have r2 : W2.heap[base]? = some bF := (ch2.block base (by omega) (by simp; omega)).trans a5
        have lW := (Array.getElem?_eq_some_iff.1 hI.cw).1
        have cw2 : W2.heap[Bw]? = some (.cells #[.int .i64 ((sumN (pre.map (·.1.2)) : Nat) : Int)] 3 (0, 0)) := (out Bw (by omega) (by omega)).trans ((b3.block Bw lW).trans hI.cw)
        have hol := listed_mem.1 (List.mem_of_getElem? gv1)
        have hrep := rep_nat (ok0 o hol.1) hol.2
        obtain ⟨r, hr⟩ : ∃ r, r = repN o := ⟨_, rfl⟩
        obtain ⟨nm, hnm⟩ : ∃ s, s = o.name := ⟨_, rfl⟩
        obtain ⟨sm, hsm⟩ : ∃ s, s = sumN (pre.map (·.1.2)) := ⟨_, rfl⟩
        rw [← hr] at hrep
        rw [← hsm] at cw2
        have d3 : W2.cell? ⟨O, 3, none⟩ = some (.int .i64 (r : Int)) := (cell_of_block o2 3).trans (by rw [← hrep]; exact kD.obj.2.2.1.1)
        have d1 : W2.cell? ⟨O, 1, none⟩ = some (.string nm) := (cell_of_block o2 1).trans (by rw [hnm]; exact kD.obj.2.1.2.1)
        have px : (pre ++ [x]).map (·.1.2) = (listed 0 l).take (pre ++ [x]).length := by
          have := take_nextO (L := listed 0 l) (pre := pre) (x := x) hI.prx (by rw [← ho]; exact gv1)
          rw [this, List.length_append]
          rfl
        have hsl : sm ≤ 1200 := by
          have h1 := sumN_le (l := pre.map (·.1.2)) (fun y hy => by
            obtain ⟨z, hz, rfl⟩ := List.mem_map.1 hy
            exact (hI.ok z hz).1)
          have h2 := congrArg List.length hI.prx
          rw [List.length_map, List.length_take] at h2
          rw [List.length_map] at h1
          have h3 := listed_len (l := l) 0
          omega
        have H4 := Lib.hid (And.intro ch2 (And.intro r2 (And.intro cw2 (And.intro px (And.intro hI.ok (And.intro hr (And.intro hnm (And.intro hsm (And.intro ho (And.intro (show W2.heap.size ≥ w5.heap.size from ch2.size) bw))))))))))
        have HLW : Hid (wt.heap.size ≤ C) := by show _ ≤ _; omega
        have rc : W2.cell? ⟨base, 0, none⟩ = some (.bool false) := cell_of_block r2 0
        have rf : W2.frozen? ⟨base, 0, none⟩ = false := unfrozen_of_block r2 0
        have wc : W2.cell? ⟨Bw, 0, none⟩ = some (.int .i64 (sm : Int)) := cell_of_block cw2 0
        have wf : W2.frozen? ⟨Bw, 0, none⟩ = false := unfrozen_of_block cw2 0
        clear n3 b3 hI gv1 gv2 ho st5 hSB hl60 hh60 s5 a5 low5 ap0 ok0 bw hB1 hB2 zt z5 hO z6 ch2 out z3 o2 kD r2 lW cw2 hol hrep hr hnm hsm px c2 f2 TH IN ON HWV H3 hlB hlC hCW
        -- no pass: too many, or too long a name
        have STOP : Hid (∃ wy, W2.setCell ⟨base, 0, none⟩ (.bool true) = wy ∧ StaysC base wt.heap.size C W2 wy ∧ WX base [base, Bw] w5 .ret (pre ++ [x]) wy) := by
          obtain ⟨ch2, r2, cw2, px, hok, hr, hnm, hsm, ho, hz, bw⟩ := H4.out
          have hBB := HB.out
          have hbs : base < w5.heap.size := by omega
          refine ⟨_, rfl, StaysC.ofChg ((Chg.refl [base] W2).setCell 0 _ (.inl (by simp))) (fun g hg => ?_), rfl, ?_, by rw [block_setCell r2]; rfl⟩
          · rw [List.mem_singleton] at hg
            subst hg
            exact ⟨.inl (by omega), fun _ => (cells_prot r2 (Nat.le_refl _) rfl).2.2⟩
          · exact (ch2.less (S' := [base, Bw]) (fun g hg => .inl (by simp at hg ⊢; omega))).setCell 0 _ (.inl (by simp))
        by_cases h20 : 20 < r
        · have t3 : decide ((20 : Int) < (r : Int)) = true := decide_eq_true (by omega)
          obtain ⟨wy, hwy, y1, y2⟩ := STOP.out
          have FIN := Lib.hid (And.intro y1 y2)
          clear h20 hsl STOP H4 y1 y2
          gi_upto_region 7 with fail
          refine region_round (by rfl) (fun ⟨a, w, h⟩ => h) ?_
          go_wp2_with fail
          gi_upto_region 8 with fail
          refine region_round (by rfl) (fun ⟨a, w, h⟩ => h) ?_
          go_wp2_with fail
          (try rw [hwy])
          gi_wp2
          exact FIN.out
        · have t3 : decide ((20 : Int) < (r : Int)) = false := decide_eq_false (by omega)
          by_cases h27 : 27 < nm.size
          · have t4 : decide ((27 : Int) < (nm.size : Int)) = true := decide_eq_true (by omega)
            obtain ⟨wy, hwy, y1, y2⟩ := STOP.out
            have FIN := Lib.hid (And.intro y1 y2)
            clear h20 h27 hsl STOP H4 y1 y2
            gi_upto_region 7 with fail
            refine region_round (by rfl) (fun ⟨a, w, h⟩ => h) ?_
            go_wp2_with fail
            gi_upto_region 8 with fail
            refine region_round (by rfl) (fun ⟨a, w, h⟩ => h) ?_
            go_wp2_with fail
            (try rw [hwy])
            gi_wp2
            exact FIN.out
          · have t4 : decide ((27 : Int) < (nm.size : Int)) = false := decide_eq_false (by omega)
            obtain ⟨s2, hs2⟩ : ∃ s, s = sm + r := ⟨_, rfl⟩
            have es : (sm : Int) + (r : Int) = (s2 : Int) := by omega
            have ew : IntKind.i64.wrap (s2 : Int) = (s2 : Int) := by rw [IntKind.wrap_i64]; omega
            obtain ⟨wz, hwz⟩ : ∃ x, W2.setCell ⟨Bw, 0, none⟩ (.int .i64 (s2 : Int)) = x := ⟨_, rfl⟩
            have FIN : Hid (StaysC base wt.heap.size C W2 wz ∧ WI Bw w5 l (pre ++ [x]) wz) := by
              obtain ⟨ch2, r2, cw2, px, hok, hr, hnm, hsm, ho, hz, bw⟩ := H4.out
              have hBB := HB.out
              have cz : Chg [Bw] W2 wz := hwz ▸ (Chg.refl [Bw] W2).setCell 0 _ (.inl (by simp))
              refine ⟨StaysC.ofChg cz (fun g hg => ?_), ch2.trans cz (fun g hg => .inl hg), ?_, px, fun y hy => ?_⟩
              · rw [List.mem_singleton] at hg
                subst hg
                exact ⟨.inl (by omega), fun _ => (cells_prot cw2 (by omega) rfl).2.2⟩
              · rw [List.map_append, List.map_cons, List.map_nil, sumN_app, ← ho, ← hsm, ← hr, ← hs2, ← hwz, block_setCell cw2]
                rfl
              · rcases List.mem_append.1 hy with hy | hy
                · exact hok y hy
                · rw [List.mem_singleton] at hy
                  rw [hy, ← ho, ← hr, ← hnm]
                  omega
            clear h20 h27 hsl hs2 STOP H4
            gi_upto_region 7 with fail
            refine region_round (by rfl) (fun ⟨a, w, h⟩ => h) ?_
            go_wp2_with fail
            gi_upto_region 9 with fail
            refine region_round (by rfl) (fun ⟨a, w, h⟩ => h) ?_
            go_wp2_with fail
            (try rw [hwz])
            gi_wp2
            exact FIN.out
      · intro D1 xs W7 hD hS7 ⟨C, hC, hI⟩ hdef
        obtain ⟨st5, hSB, hl60, hh60, s5, a5, low5, ap0, ok0, bw⟩ := H5.out
        obtain ⟨hB1, hB2, zt, z5⟩ := HB.out
        have lt5 : ∀ {g : Nat} {ob : Obj}, w5.heap[g]? = some ob → g < w5.heap.size := fun hg => (Array.getElem?_eq_some_iff.1 hg).1
        have st7 : StIs base W7 S sp 200 l hist := st5.chg hI.chg (fun g hg hm => by rw [List.mem_singleton] at hm; have := hSB g hg; omega) (fun g hg _ => by rw [List.mem_singleton] at hg; subst hg; exact (cells_prot HCW.out (by omega) rfl).2.2)
        have s7 := (hI.chg.block Bs (lt5 s5) (by simp; omega)).trans s5
        have a7 := (hI.chg.block base (lt5 a5) (by simp; omega)).trans a5
        have low7 : Below W.heap.size W W7 := low5.trans (hI.chg.below (fun g hg => by rw [List.mem_singleton] at hg; have := HWb.out; omega) low5.size)
        obtain ⟨wn, hwn⟩ : ∃ n, n = sumN (listed 0 l) := ⟨_, rfl⟩
        have c7 := hI.cw
        rw [hS7, ← hwn] at c7
        have hwl : ∀ o ∈ listed 0 l, repN o ≤ 20 ∧ o.name.size ≤ 27 := fun o ho => by
          rw [← hS7] at ho
          obtain ⟨z, hz, rfl⟩ := List.mem_map.1 ho
          exact hI.ok z hz
        have hwn2 : wn ≤ 1200 := by
          have h1 := sumN_le (fun o ho => (hwl o ho).1)
          have h2 := listed_len (l := l) 0
          omega
        obtain ⟨ll, hll⟩ : ∃ n, n = l.length := ⟨_, rfl⟩
        obtain ⟨tot, htot⟩ : ∃ n, n = ll + wn := ⟨_, rfl⟩
        have et : (ll : Int) + (wn : Int) = (tot : Int) := by omega
        have ew : IntKind.i64.wrap (tot : Int) = (tot : Int) := by rw [IntKind.wrap_i64]; omega
        obtain ⟨b, hb⟩ : ∃ b, decide ((190 : Int) < (tot : Int)) = b := ⟨_, rfl⟩
        have FS : Hid (∀ ws : World, (∃ n, ws = W7.drewN n) → ws.cell? ⟨Bs, 0, none⟩ = some (.pointer (some ⟨sp, 0, none⟩))) := fun ws ⟨n, h⟩ => by rw [h]; exact cell_of_block (w := W7.drewN n) s7 0
        have FW : Hid (∀ ws : World, (∃ n, ws = W7.drewN n) → ws.cell? ⟨Bw, 0, none⟩ = some (.int .i64 (wn : Int))) := fun ws ⟨n, h⟩ => by rw [h]; exact cell_of_block (w := W7.drewN n) c7 0
        have CLn : Hid (∀ ws : World, (∃ n, ws = W7.drewN n) → Calls Tryz.prog 7 #[.pointer (some ⟨sp, 0, none⟩)] ws fun e w' => e = .returned (.int .i64 (ll : Int)) ∧ w' = ws) := fun ws ⟨n, h⟩ => by
          rw [hll, h]
          exact len_any base _ S sp 200 l hist (st7.gr ((Gr.refl W7).drewN n).below)
        obtain ⟨w8, hw8⟩ : ∃ x, x = W7.drew := ⟨_, rfl⟩
        have b8 : Below W7.heap.size W7 w8 := hw8 ▸ ((Gr.refl W7).drewN 1).below
        have HWD : Hid (W7.drew = w8 ∧ ∃ n, w8 = W7.drewN n) := ⟨hw8.symm, 1, hw8⟩
        have lt7 : ∀ {g : Nat} {ob : Obj}, W7.heap[g]? = some ob → g < W7.heap.size := fun hg => (Array.getElem?_eq_some_iff.1 hg).1
        have H8 := Lib.hid (And.intro (st7.gr b8) (And.intro hSB (And.intro hl60 (And.intro hh60 (And.intro ((b8.block _ (lt7 s7)).trans s7) (And.intro ((b8.block _ (lt7 a7)).trans a7) (And.intro (low7.trans (b8.mono low7.size)) (And.intro ap0 (And.intro ok0 (And.intro bw (And.intro hwl (And.intro ((b8.block _ (lt7 hdef)).trans hdef) (And.intro (show Bw < D1 by omega) (And.intro hwn (And.intro hll htot)))))))))))))))
        clear st5 hSB hl60 hh60 s5 a5 low5 ap0 ok0 bw hB1 hB2 zt z5 lt5 st7 s7 a7 low7 hwn c7 hwl hll htot hw8 b8 lt7 hI hS7 hdef hD hC HTN I0
        go_upto_region 10 with fail
        refine wp_puts (w8 := w8) [(52, .pointer (some ⟨sp, 0, none⟩)), (54, .int .i64 (wn : Int)), (53, .int .i64 (ll : Int)), (55, .int .i64 (tot : Int)), (56, .bool b)] ?_ ?_
        · refine wp_region_held_drew (S := fun ws => ∃ n, ws = W7.drewN n) mixed ⟨1, rfl⟩ (fun hS => ?_)
          rw [HWD.out.1] at hS ⊢
          refine wpAnyH_takeD (i := 0) (d := 52) (v := .pointer (some ⟨sp, 0, none⟩)) _ rfl rfl (by kernel_rfl) (by kernel_rfl) (by kernel_rfl) (fun _ _ _ h => h) (Or.inl ⟨by kernel_rfl, fun ws hSw => by have q := FS.out ws hSw; first | (go_simp; done) | (go_simp; with_reducible rfl) | (go_simp; rfl)⟩) hS ?_
          simp only [Act.put, List.setIfInBounds_toArray, List.set_cons_zero, List.set_cons_succ]
          refine wpAnyH_takeD (i := 2) (d := 54) (v := .int .i64 (wn : Int)) _ rfl rfl (by kernel_rfl) (by kernel_rfl) (by kernel_rfl) (fun _ _ _ h => h) (Or.inl ⟨by kernel_rfl, fun ws hSw => by have q := FW.out ws hSw; first | (go_simp; done) | (go_simp; with_reducible rfl) | (go_simp; rfl)⟩) hS ?_
          simp only [Act.put, List.setIfInBounds_toArray, List.set_cons_zero, List.set_cons_succ]
          refine wpAnyH_ready (rs := [1]) (by kernel_rfl) (by simp) ?_
          refine AllReadyH.cons rfl (fun K hK => ?_) AllReadyH.nil
          go_simp
          refine (CLn.out _ hS).mono ?_
          rintro e w' ⟨rfl, hw'⟩
          rw [hw']
          clear hw'
          refine hK _ _ HWD.out.2 (fun hS => ?_)
          try simp only [Act.put, List.setIfInBounds_toArray, List.set_cons_zero, List.set_cons_succ]
          refine wpAnyH_takeD (i := 3) (d := 55) (v := .int .i64 (tot : Int)) _ rfl rfl (by kernel_rfl) (by kernel_rfl) (by kernel_rfl) (fun _ _ _ h => h) (Or.inl ⟨by kernel_rfl, fun ws hSw => by first | (go_simp; done) | (go_simp; with_reducible rfl) | (go_simp; rfl)⟩) hS ?_
          simp only [Act.put, List.setIfInBounds_toArray, List.set_cons_zero, List.set_cons_succ]
          refine wpAnyH_takeD (i := 4) (d := 56) (v := .bool b) _ rfl rfl (by kernel_rfl) (by kernel_rfl) (by kernel_rfl) (fun _ _ _ h => h) (Or.inl ⟨by kernel_rfl, fun ws hSw => by first | (go_simp; done) | (go_simp; with_reducible rfl) | (go_simp; rfl)⟩) hS ?_
          simp only [Act.put, List.setIfInBounds_toArray, List.set_cons_zero, List.set_cons_succ]
          refine wpAnyH_done (by kernel_rfl) ?_ _
          exact ⟨rfl, rfl⟩
        clear FS FW CLn ew et
        simp only [List.foldl_cons, List.foldl_nil, Act.put, List.setIfInBounds_toArray, List.set_cons_zero, List.set_cons_succ]
        cases b with
        | true =>
          obtain ⟨st8, hSB, hl60, hh60, s8, a8, low8, ap0, ok0, bw, hwl, d8, hD1, hwn, hll, htot⟩ := H8.out
          have rc : w8.cell? ⟨base, 0, none⟩ = some (.bool false) := cell_of_block a8 0
          have rf : w8.frozen? ⟨base, 0, none⟩ = false := unfrozen_of_block a8 0
          obtain ⟨wy, hwy', f1, f2⟩ := RET.out w8 low8 a8
          have cy : Chg [base] w8 wy := hwy' ▸ (Chg.refl [base] w8).setCell 0 _ (.inl (by simp))
          have hbD : base < D1 := by have := HB.out; omega
          have d9 : wy.heap[D1]? = some (.deferred (some [])) := (cy.block D1 (Array.getElem?_eq_some_iff.1 d8).1 (by simp; omega)).trans d8
          have FIN := Lib.hid (And.intro f1 (And.intro f2 (And.intro d9 hbD)))
          clear st8 hSB hl60 hh60 s8 a8 low8 ap0 ok0 bw hwl d8 hD1 hwn hll htot f1 f2 cy hbD d9 hb
          go_wp2_with fail
          (try rw [hwy'])
          refine leaves_marks (F := Fence.wide) (n := 6) (P := Tryz.prog) (fn := Tryz.f3) [D1] wy (by simp) (fun D hD => by rw [List.mem_singleton] at hD; rw [hD]; exact FIN.out.2.2.1) (fun w'' c'' => ?_)
          obtain ⟨f1, f2, d9, hbD⟩ := FIN.out
          exact ⟨_, results_cellB rfl _ w'' base rfl ((c''.block _ (Array.getElem?_eq_some_iff.1 f1).1 (by simp; omega)).trans f1), rfl, f2.trans (c''.below (fun g hg => by rw [List.mem_singleton] at hg; have := HWb.out; omega) f2.size)⟩
        | false =>
          have hgd0 : Gd base sp S w8 l w8 S l hist 0 := by
            obtain ⟨st8, hSB, hl60, hh60, s8, a8, low8, ap0, ok0, bw, hwl, d8, hD1, hwn, hll, htot⟩ := H8.out
            have h190 : tot ≤ 190 := by have := of_decide_eq_false hb; omega
            have h1 := lack_le l (listed 0 l)
            exact ⟨st8, Chg.refl _ _, fun g hg => .inl hg, Rests.start hl60 (fun o ho => (hwl o ho).1), rfl, by omega, by omega⟩
          have HG0 := Lib.hid hgd0
          have TELL : Hid (∀ (wr : World) S' L' hist' i, Gd base sp S w8 l wr S' L' hist' i → wr.heap[Bs]? = some (.cells #[.pointer (some ⟨sp, 0, none⟩)] 23 (0, 0)) ∧ wr.heap[base]? = some bF ∧ wr.heap[D1]? = some (.deferred (some [])) ∧ Below W.heap.size W wr ∧ w8.heap.size ≤ wr.heap.size) := fun wr S' L' hist' i g => by
            obtain ⟨st8, hSB, hl60, hh60, s8, a8, low8, ap0, ok0, bw, hwl, d8, hD1, hwn, hll, htot⟩ := H8.out
            have hBB := HB.out
            have lt8 : ∀ {g : Nat} {ob : Obj}, w8.heap[g]? = some ob → g < w8.heap.size := fun hg => (Array.getElem?_eq_some_iff.1 hg).1
            have off : ∀ x, (x = base ∨ Bs ≤ x) → x ∉ S := fun x hx hm => by have := hSB x hm; omega
            exact ⟨(g.chg.block _ (lt8 s8) (off _ (.inr (Nat.le_refl _)))).trans s8, (g.chg.block _ (lt8 a8) (off _ (.inl rfl))).trans a8, (g.chg.block _ (lt8 d8) (off _ (.inr (by omega)))).trans d8, low8.trans (g.chg.below (fun x hx => by have := hSB x hx; have := HWb.out; omega) low8.size), g.chg.size⟩
          have PASS : Hid (∀ (wr : World) S' L' hist' i, Gd base sp S w8 l wr S' L' hist' i → Calls Tryz.prog 8 #[.pointer (some ⟨sp, 0, none⟩), .int .i64 now] wr fun e w' => ∃ q m c S2 L2 hist2, e = .returned (.tuple #[.slice q m c, .int .i64 0]) ∧ Gd base sp S w8 l w' S2 L2 hist2 (i + 1) ∧ (4 ≤ i → m = 0)) := fun wr S' L' hist' i g => by
            obtain ⟨st8, hSB, hl60, hh60, s8, a8, low8, ap0, ok0, bw, hwl, d8, hD1, hwn, hll, htot⟩ := H8.out
            have hlow := (TELL.out wr S' L' hist' i g).2.2.2.1
            rw [HWb.out] at hlow
            exact g.pass W HWb.out hlow H1.out.2.2.2 (fun o ho => (hwl o ho).2) now HNW.out.1 HNW.out.2
          clear hgd0 hb
          go_wp2_with fail
          go_loopg [57] 8 (fun g vi wr => ∃ j : Nat, vi = .int .i64 (j : Int) ∧ j ≤ 8 ∧ 8 - j ≤ g ∧ Hid (∃ S' L' hist', Gd base sp S w8 l wr S' L' hist' j))
          case atStart => exact ⟨0, rfl, Nat.zero_le _, by omega, S, l, hist, HG0.out⟩
          case round =>
            obtain ⟨j, rfl, hj1, hj2, HP⟩ := hrel
            by_cases hlt : j < 8
            · have hlt' : ((j : Int) < 8) := by omega
              obtain ⟨S', L', hist', gd⟩ := HP.out
              have k5 : wr.cell? ⟨Bs, 0, none⟩ = some (.pointer (some ⟨sp, 0, none⟩)) := cell_of_block (TELL.out _ _ _ _ _ gd).1 0
              have CP := Lib.hid (PASS.out _ _ _ _ _ gd)
              clear gd HP
              go_wp2_with fail
              refine CP.out.mono ?_
              rintro e w9 ⟨q9, m9, c9, S2, L2, hist2, rfl, gd, -⟩
              have HN : Hid (∃ S' L' hist', Gd base sp S w8 l w9 S' L' hist' (j + 1)) := ⟨_, _, _, gd⟩
              clear gd CP k5
              go_wp2
              go_roundg (8 - (j + 1))
              case measure => omega
              case rel => exact ⟨j + 1, by go_num, hlt, Nat.le_refl _, HN.out⟩
            · have hlt' : ¬ ((j : Int) < 8) := by omega
              obtain rfl : j = 8 := by omega
              obtain ⟨S', L', hist', gd⟩ := HP.out
              have k5 : wr.cell? ⟨Bs, 0, none⟩ = some (.pointer (some ⟨sp, 0, none⟩)) := cell_of_block (TELL.out _ _ _ _ _ gd).1 0
              have CP := Lib.hid (PASS.out _ _ _ _ _ gd)
              clear gd HP hlt hj1 hj2
              go_wp2_with fail
              refine CP.out.mono ?_
              rintro e w9 ⟨q9, m9, c9, S9, L9, hist9, rfl, gd, h9⟩
              obtain rfl : m9 = 0 := h9 (by decide)
              obtain ⟨s9, a9, d9, low9, z89⟩ := TELL.out _ _ _ _ _ gd
              obtain ⟨bw9, ap9, ok9⟩ := st_fine gd.st
              obtain ⟨Bn, hBn⟩ : ∃ b, b = w9.heap.size := ⟨_, rfl⟩
              obtain ⟨w10, hw10⟩ : ∃ x, x = w9.alloc (.cells #[.int .i64 0] 3) := ⟨_, rfl⟩
              have G10 : Gr w9 w10 := hw10 ▸ (Gr.refl w9).alloc _
              have z10 : w10.heap.size = Bn + 1 := by rw [hw10, hBn]; simp
              have cn10 : w10.heap[Bn]? = some (.cells #[.int .i64 0] 3 (0, 0)) := by rw [hw10, hBn]; exact heap_alloc_new w9 _
              have lt9 : ∀ {g : Nat} {ob : Obj}, w9.heap[g]? = some ob → g < w9.heap.size := fun hg => (Array.getElem?_eq_some_iff.1 hg).1
              have s10 := (G10.heap (lt9 s9)).trans s9
              have a10 := (G10.heap (lt9 a9)).trans a9
              have d10 := (G10.heap (lt9 d9)).trans d9
              have st10 : StIs base w10 S9 sp 200 L9 hist9 := gd.st.gr G10.below
              have hS9 : ∀ g ∈ S9, g < Bn := fun g hg => by have := (gd.st.prot g hg).2.1; omega
              obtain ⟨wu, hwu⟩ : ∃ x, x = (w10.alloc (.cells #[.pointer (some ⟨sp, 0, none⟩)] 23)).alloc (.cells #[.int .i64 0] 3) := ⟨_, rfl⟩
              have Gu : Gr w10 wu := hwu ▸ ((Gr.refl w10).alloc _).alloc _
              have zu : wu.heap.size = Bn + 3 := by rw [hwu]; simp [z10]
              have e1 : wu.heap[Bn + 1]? = some (.cells #[.pointer (some ⟨sp, 0, none⟩)] 23 (0, 0)) := by
                rw [hwu, ← z10, ((Gr.refl (w10.alloc (.cells #[.pointer (some ⟨sp, 0, none⟩)] 23))).alloc _).heap (by simp)]
                exact heap_alloc_new w10 _
              have e2 : wu.heap[Bn + 1 + 1]? = some (.cells #[.int .i64 0] 3 (0, 0)) := by
                rw [hwu]
                have := heap_alloc_new (w10.alloc (.cells #[.pointer (some ⟨sp, 0, none⟩)] 23)) (.cells #[.int .i64 0] 3)
                rw [World.size_alloc, z10] at this
                exact this
              have CL := Lib.hid (list_any w10 (.pointer (some ⟨sp, 0, none⟩)) 0 ⟨_, rfl⟩)
              have hl9 : L9.length ≤ 190 := by have := gd.pot; omega
              have TN := list_tellsC (6 - 1) base wu S9 sp (Bn + 1) 200 0 L9 hist9 (st10.gr Gu.below) (cell_of_block e1 0) (cell_of_block e2 0) (by omega) (by omega)
              have HTN := Lib.hid TN
              have J0 : Hid (∀ C, wu.heap.size ≤ C → WI Bn w10 L9 [] wu) := fun C hC => ⟨Chg.ofBelow Gu.below [Bn], (Gu.heap (by omega)).trans cn10, by simp, fun x hx => by cases hx⟩
              have k6 : w10.cell? ⟨Bs, 0, none⟩ = some (.pointer (some ⟨sp, 0, none⟩)) := cell_of_block s10 0
              have hwl9 : ∀ o ∈ listed 0 L9, repN o ≤ 20 ∧ o.name.size ≤ 27 := by rw [gd.wls]; exact H8.out.2.2.2.2.2.2.2.2.2.2.1
              have HB9 : Hid (base < Bn ∧ Bs < Bn ∧ D1 < Bn ∧ wu.heap.size = Bn + 3 ∧ w10.heap.size = Bn + 1) := ⟨by rw [hBn]; exact lt9 a9, by rw [hBn]; exact lt9 s9, by rw [hBn]; exact lt9 d9, zu, z10⟩
              have H9 := Lib.hid (And.intro st10 (And.intro hS9 (And.intro s10 (And.intro a10 (And.intro d10 (And.intro (low9.trans (G10.below.mono low9.size)) (And.intro gd.rests (And.intro ap9 (And.intro ok9 (And.intro bw9 (And.intro hwl9 (And.intro hl9 cn10))))))))))))
              have HW10 : Hid (w9.alloc (.cells #[.int .i64 0] 3) = w10 ∧ w9.heap.size = Bn ∧ w10.heap.size = Bn + 1) := ⟨hw10.symm, hBn.symm, z10⟩
              have HWU : Hid ((w10.alloc (.cells #[.pointer (some ⟨sp, 0, none⟩)] 23)).alloc (.cells #[.int .i64 0] 3) = wu) := hwu.symm
              clear s9 a9 d9 low9 z89 bw9 ap9 ok9 hBn hw10 G10 z10 cn10 lt9 s10 a10 d10 st10 hS9 hwu Gu zu e1 e2 hl9 TN hwl9 gd h9 CP k5
              go_upto_region 20 with fail
              rw [HW10.out.1, HW10.out.2.1]
              go_wp2_with fail
              refine CL.out.mono ?_
              rintro e w' ⟨rfl, hw'⟩
              rw [HW10.out.2.2]
              rw [hw', HWU.out]
              clear hw' CL k6
              go_wp2_with fail
              refine (wpIn_wide (n := 6)).1 ?_
              refine wpIn_toldC (α := Co) (n := 6) (by decide) (gf := 14) (lb := #[.pointer (some ⟨Bn + 1, 0, none⟩), .pointer (some ⟨Bn + 1 + 1, 0, none⟩)]) rfl (enters_of Tryz.func14 (by kernel_rfl) rfl) HTN.out (Below.refl _ _) (fun _ => rfl) (by have := HB9.out; omega) (fun pre x A A' h f => ⟨h.1, h.2.fx f⟩)
                (fun _ => WI Bn w10 L9) (fun _ _ _ _ => False) ?_ (fun c C s A A' T h _ _ => h.elim) J0.out ?_ ?_ (fun _ _ _ _ _ _ h _ => h.elim (fun _ h => h.elim))
              · exact fun C => wi_bears Bn w10 L9 wu.heap.size (by have := HB9.out; omega)
              · intro l' C pre x W6 hi hgv hlB hlC hCW
                rw [zip_one]
                obtain ⟨D, hD⟩ : ∃ D, D = x.1.1.1 := ⟨_, rfl⟩
                obtain ⟨o, ho⟩ : ∃ o, o = x.1.2 := ⟨_, rfl⟩
                have hkx := hgv.2
                rw [← hD] at hkx ⊢
                rw [← ho] at hkx
                have z0 : (W6.alloc (.cells zerC OT)).heap[W6.heap.size]? = some (.cells zerC OT (0, 0)) := heap_alloc_new W6 _
                obtain ⟨th, n0', fx1, c1'⟩ := store_ob (base := W6.heap.size) z0 rfl hkx.obj.1 (Nat.le_refl _)
                obtain ⟨wv, hwv⟩ : ∃ W', W' = (W6.alloc (.cells zerC OT)).setCells W6.heap.size 0 D.toList := ⟨_, rfl⟩
                obtain ⟨O, hO⟩ : ∃ A, A = W6.heap.size := ⟨_, rfl⟩
                rw [← hwv] at n0' c1'
                have b3 : Below W6.heap.size W6 wv := by
                  have g : Gr W6 (W6.alloc (.cells zerC OT)) := (Gr.refl W6).alloc _
                  exact ((Xb.ofGr g W6.heap.size).trans ⟨c1'.os, c1'.tape, c1'.output, c1'.size, fun k hk hne => c1'.block k hk (by simpa using hne)⟩).below (Nat.le_refl _) (Nat.le_refl _)
                rw [← hO] at n0'
                have TH := Lib.hid th
                have IN : Hid ((Tryz.prog.info? OT).map (·.size) = some D.size) := by show _ = _; rw [hkx.obj.1]; exact info_ob47
                have ON := Lib.hid (objV_one hkx.obj)
                have HWV : Hid ((W6.alloc (.cells zerC OT)).setCells W6.heap.size 0 D.toList = wv ∧ W6.heap.size = O) := ⟨hwv.symm, hO.symm⟩
                have H3 := Lib.hid (And.intro n0' (And.intro b3 (And.intro hi (And.intro hgv.1 (And.intro hkx ho)))))
                clear hkx z0 th n0' fx1 c1' hwv hO b3 hi hgv hD ho
                refine region_round (by rfl) (fun ⟨a, w, h⟩ => h) ?_
                go_wp2_with (refine wpList_store_mid rfl _ _ _ rfl W6.heap.size 0 D (by rfl) (by rfl) TH.out IN.out ON.out ?_; rw [HWV.out.1, HWV.out.2])
                refine ⟨StaysC.ofBelow H3.out.2.1, fun W2 c2 f2 => ?_⟩
                obtain ⟨n3, b3, hI, gv1, gv2, ho⟩ := H3.out
                obtain ⟨st10, hS9, s10, a10, d10, low10, rs, ap9, ok9, bw9, hwl9, hl9, cn10⟩ := H9.out
                obtain ⟨hB1, hB2, hB3, zu, z10⟩ := HB9.out
                have hO : W6.heap.size = O := HWV.out.2
                rw [← ho] at gv1
                have z6 := hI.chg.size
                have ch2 : Chg [Bn] w10 W2 := (hI.chg.trans (Chg.ofBelow b3 []) (by simp)).trans c2 (fun g hg => .inr (by rw [List.mem_singleton] at hg; omega))
                have out : ∀ g, g < wv.heap.size → g ≠ l' → W2.heap[g]? = wv.heap[g]? := fun g h1 h2 => c2.block g h1 (by simpa using h2)
                have z3 := b3.size
                have o2 : W2.heap[O]? = some (.cells D OT (0, 0)) := (out O (Array.getElem?_eq_some_iff.1 n3).1 (by omega)).trans n3
                have kD : Kept base W2 D o := (gv2.fx (Fx.ofBelow b3)).fx f2
                have s2' : W2.heap[Bs]? = some (.cells #[.pointer (some ⟨sp, 0, none⟩)] 23 (0, 0)) := (ch2.block Bs (by omega) (by simp; omega)).trans s10
                have lW := (Array.getElem?_eq_some_iff.1 hI.cw).1
                have cw2 : W2.heap[Bn]? = some (.cells #[.int .i64 ((sumN (pre.map (·.1.2)) : Nat) : Int)] 3 (0, 0)) := (out Bn (by omega) (by omega)).trans ((b3.block Bn lW).trans hI.cw)
                have st2 : StIs base W2 S9 sp 200 L9 hist9 := st10.chg ch2 (fun g hg hm => by rw [List.mem_singleton] at hm; have := hS9 g hg; omega) (fun g hg _ => by rw [List.mem_singleton] at hg; subst hg; exact (cells_prot cn10 (by omega) rfl).2.2)
                have hol := listed_mem.1 (List.mem_of_getElem? gv1)
                have hrep := rep_nat (ok9 o hol.1) hol.2
                obtain ⟨r, hr⟩ : ∃ r, r = repN o := ⟨_, rfl⟩
                obtain ⟨nm, hnm⟩ : ∃ s, s = o.name := ⟨_, rfl⟩
                obtain ⟨sm, hsm⟩ : ∃ s, s = sumN (pre.map (·.1.2)) := ⟨_, rfl⟩
                rw [← hr] at hrep
                rw [← hsm] at cw2
                have hlr : liveN nm L9 = r := by rw [hnm, hr]; exact rs.live (by decide) (List.mem_of_getElem? gv1)
                have d3 : W2.cell? ⟨O, 3, none⟩ = some (.int .i64 (r : Int)) := (cell_of_block o2 3).trans (by rw [← hrep]; exact kD.obj.2.2.1.1)
                have d1 : W2.cell? ⟨O, 1, none⟩ = some (.string nm) := (cell_of_block o2 1).trans (by rw [hnm]; exact kD.obj.2.1.2.1)
                have px : (pre ++ [x]).map (·.1.2) = (listed 0 L9).take (pre ++ [x]).length := by
                  have := take_nextO (L := listed 0 L9) (pre := pre) (x := x) hI.prx (by rw [← ho]; exact gv1)
                  rw [this, List.length_append]
                  rfl
                have hsl : sm ≤ 4000 := by
                  have h1 := sumN_le (l := pre.map (·.1.2)) (fun y hy => by
                    obtain ⟨z, hz, rfl⟩ := List.mem_map.1 hy
                    exact (hI.ok z hz).1)
                  have h2 := congrArg List.length hI.prx
                  rw [List.length_map, List.length_take] at h2
                  rw [List.length_map] at h1
                  have h3 := listed_len (l := L9) 0
                  omega
                have CA := Lib.hid (lall_any base W2 S9 sp 200 L9 hist9 st2 (by omega))
                have k7 : W2.cell? ⟨Bs, 0, none⟩ = some (.pointer (some ⟨sp, 0, none⟩)) := cell_of_block s2' 0
                have hwx := hwl9 o (List.mem_of_getElem? gv1)
                have H4 := Lib.hid (And.intro ch2 (And.intro cw2 (And.intro px (And.intro hI.ok (And.intro hr (And.intro hnm (And.intro hsm (And.intro ho (And.intro o2 (And.intro hlr (And.intro d3 (And.intro d1 (And.intro hwx (And.intro hl9 bw9))))))))))))))
                have HLW : Hid (wu.heap.size ≤ C ∧ O < W2.heap.size ∧ Bn < W2.heap.size) := ⟨by omega, (Array.getElem?_eq_some_iff.1 o2).1, (Array.getElem?_eq_some_iff.1 cw2).1⟩
                have hr20 : r ≤ 20 := by omega
                clear n3 b3 hI gv1 gv2 ho st10 hS9 s10 a10 d10 low10 rs ap9 ok9 bw9 hwl9 hl9 cn10 hB1 hB2 hB3 zu z10 hO z6 ch2 out z3 o2 kD s2' lW cw2 st2 hol hrep hr hnm hsm hlr d3 d1 px hwx c2 f2 TH IN ON HWV H3 hlB hlC hCW
                gi_upto_region 22 with fail
                refine region_round (by rfl) (fun ⟨a, w, h⟩ => h) ?_
                go_wp2_with fail
                gi_upto_region 23 with fail
                refine region_round (by rfl) (fun ⟨a, w, h⟩ => h) ?_
                go_wp2_with fail
                refine CA.out.mono ?_
                rintro e wa ⟨⟨qa, ca, cla, rfl, hcl, own⟩, ba⟩
                obtain ⟨m, hm⟩ : ∃ m, m = cla.length := ⟨_, rfl⟩
                rw [← hm]
                have hml : m ≤ 190 := by
                  have h1 := congrArg List.length hcl
                  rw [List.length_map] at h1
                  have h2 := listed_len (l := L9) 1
                  have h3 := H4.out.2.2.2.2.2.2.2.2.2.2.2.2.2.1
                  omega
                have HA := Lib.hid (And.intro hcl (And.intro own (And.intro ba hm)))
                clear hcl own ba hm CA k7
                go_wp2_with fail
                gi_wp2_with fail
                gi_loopg [14, 80] m (fun g vk vj wr => ∃ k j : Nat, vk = .int .i64 (k : Int) ∧ vj = .int .i64 (j : Int) ∧ j ≤ m ∧ k ≤ j ∧ m - j ≤ g ∧ Hid (k = (((listed 1 L9).take j).filter (isLive nm)).length) ∧ Hid (Below wa.heap.size wa wr))
                case atStart => exact ⟨0, 0, rfl, rfl, Nat.zero_le _, Nat.le_refl _, by omega, (by show 0 = _; simp), Below.refl _ _⟩
                case round =>
                  obtain ⟨k, j, rfl, rfl, hj, hk, hg, HK, HBl⟩ := hrel
                  by_cases hlt : j < m
                  · obtain ⟨hcl, own, ba, hm⟩ := HA.out
                    obtain ⟨ch2, cw2, px, hok, hr, hnm, hsm, ho, o2, hlr, d3, d1, hwx, hl9, bw9⟩ := H4.out
                    obtain ⟨y, hy⟩ : ∃ y, cla[j]? = some y := ⟨cla[j]'(by omega), List.getElem?_eq_getElem (by omega)⟩
                    have hy1 : (cla.map (·.1))[j]? = some y.1 := by rw [List.getElem?_map, hy]; rfl
                    have row := own.row
                    obtain ⟨b, off, rfl, _, _⟩ := row j y.1 hy1
                    obtain ⟨hbl, hra⟩ := Ow.rangeAt_obs row hy1
                    have LD := Lib.hid (load_at47 (c := y.1.1) (range_below hra HBl.out hbl))
                    have hyl : (listed 1 L9)[j]? = some y.1.2 := by rw [← hcl, List.getElem?_map, hy]; rfl
                    have kY : Kept base wr y.1.1.1 y.1.2 := (own.kept y (List.mem_of_getElem? hy)).fx (Fx.ofBelow HBl.out)
                    obtain ⟨Y, hY⟩ : ∃ A, A = y.1.1.1 := ⟨_, rfl⟩
                    obtain ⟨oy, hoy⟩ : ∃ o, o = y.1.2 := ⟨_, rfl⟩
                    rw [← hY] at LD kY
                    rw [← hoy] at kY hyl
                    have z0 : (wr.alloc (.cells zerC OT)).heap[wr.heap.size]? = some (.cells zerC OT (0, 0)) := heap_alloc_new wr _
                    obtain ⟨th, n0', fx1, c1'⟩ := store_ob (base := wr.heap.size) z0 rfl kY.obj.1 (Nat.le_refl _)
                    obtain ⟨w3, hw3⟩ : ∃ W', W' = (wr.alloc (.cells zerC OT)).setCells wr.heap.size 0 Y.toList := ⟨_, rfl⟩
                    obtain ⟨O3, hO3⟩ : ∃ A, A = wr.heap.size := ⟨_, rfl⟩
                    rw [← hw3] at n0' c1'
                    have b3 : Below wr.heap.size wr w3 := by
                      have g : Gr wr (wr.alloc (.cells zerC OT)) := (Gr.refl wr).alloc _
                      exact ((Xb.ofGr g wr.heap.size).trans ⟨c1'.os, c1'.tape, c1'.output, c1'.size, fun k hk hne => c1'.block k hk (by simpa using hne)⟩).below (Nat.le_refl _) (Nat.le_refl _)
                    rw [← hO3] at n0'
                    have TH := Lib.hid th
                    have IN : Hid ((Tryz.prog.info? OT).map (·.size) = some Y.size) := by show _ = _; rw [kY.obj.1]; exact info_ob47
                    have ON := Lib.hid (objV_one kY.obj)
                    have HW3 : Hid ((wr.alloc (.cells zerC OT)).setCells wr.heap.size 0 Y.toList = w3 ∧ wr.heap.size = O3) := ⟨hw3.symm, hO3.symm⟩
                    have kY3 : Kept base w3 Y oy := kY.fx (Fx.ofBelow b3)
                    have b03 : Below wa.heap.size wa w3 := HBl.out.trans (b3.mono HBl.out.size)
                    have b23 : Below W2.heap.size W2 w3 := ba.trans (b03.mono ba.size)
                    obtain ⟨ow, how⟩ : ∃ s, s = oy.p.own := ⟨_, rfl⟩
                    obtain ⟨ph, hph⟩ : ∃ s, s = oy.p.ph := ⟨_, rfl⟩
                    have e10 : w3.cell? ⟨O3, 10, none⟩ = some (.string ow) := (cell_of_block n0' 10).trans (by rw [how]; exact kY3.obj.2.2.2.1.1)
                    have e12 : w3.cell? ⟨O3, 12, none⟩ = some (.int .i64 ph) := (cell_of_block n0' 12).trans (by rw [hph]; exact kY3.obj.2.2.2.1.2.2.1)
                    have en : w3.cell? ⟨O, 1, none⟩ = some (.string nm) := (b23.cell (p := ⟨O, 1, none⟩) HLW.out.2.1).trans d1
                    obtain ⟨b1, hb1⟩ : ∃ b, (ow.toList == nm.toList) = b := ⟨_, rfl⟩
                    obtain ⟨b2, hb2⟩ : ∃ b, (ph != (3 : Int)) = b := ⟨_, rfl⟩
                    have hiv : isLive nm oy = (b1 && b2) := by
                      have hk1 := (listed_mem.1 (List.mem_of_getElem? hyl)).2
                      unfold isLive isOf isPod
                      rw [hk1, ← how, ← hph, hb1, ← hb2]
                      rfl
                    have hcn := cnt_next (s := nm) hyl
                    have FIN : Hid (∀ k2, k2 = k + (if (b1 && b2) = true then 1 else 0) → Hid (k2 = (((listed 1 L9).take (j + 1)).filter (isLive nm)).length)) := fun k2 h => by show k2 = _; rw [h, hcn, hiv, ← HK.out]
                    have HB3 : Hid (Below wa.heap.size wa w3) := b03
                    have ek : IntKind.i64.wrap ((k : Int) + 1) = (k : Int) + 1 := by rw [IntKind.wrap_i64]; omega
                    clear hcl own ba hm ch2 cw2 px hok hr hnm hsm ho o2 hlr d3 d1 hwx hl9 bw9 hy hy1 row hbl hra hyl kY hY hoy z0 th n0' fx1 c1' hw3 hO3 b3 kY3 b03 b23 how hph hiv hcn HBl
                    gi_upto_region 24 with fail
                    refine region_round (by rfl) (fun ⟨a, w, h⟩ => h) ?_
                    go_wp2_with fail
                    gi_upto_region 25 with fail
                    refine region_round (by rfl) (fun ⟨a, w, h⟩ => h) ?_
                    go_wp2_with (first | (refine wpList_load_by (by kernel_rfl) OT _ rfl (.pointer (some ⟨b, off + j * 47, none⟩)) (.agg Y) (by rfl) LD.out ?_) | (refine wpList_store_mid rfl _ _ _ rfl wr.heap.size 0 Y (by rfl) (by rfl) TH.out IN.out ON.out ?_; rw [HW3.out.1, HW3.out.2]))
                    clear LD TH IN ON HW3
                    cases b1 with
                    | false =>
                      gi_upto_region 26 with fail
                      refine region_round (by rfl) (fun ⟨a, w, h⟩ => h) ?_
                      go_wp2_with fail
                      gi_upto_region 28 with fail
                      refine region_round (by rfl) (fun ⟨a, w, h⟩ => h) ?_
                      go_wp2_with fail
                      gi_roundg (m - (j + 1))
                      case measure => omega
                      case rel => exact ⟨k, j + 1, rfl, by go_num, hlt, by omega, Nat.le_refl _, FIN.out k rfl, HB3.out⟩
                    | true =>
                      cases b2 with
                      | false =>
                        gi_upto_region 26 with fail
                        refine region_round (by rfl) (fun ⟨a, w, h⟩ => h) ?_
                        go_wp2_with fail
                        gi_upto_region 28 with fail
                        refine region_round (by rfl) (fun ⟨a, w, h⟩ => h) ?_
                        go_wp2_with fail
                        gi_roundg (m - (j + 1))
                        case measure => omega
                        case rel => exact ⟨k, j + 1, rfl, by go_num, hlt, by omega, Nat.le_refl _, FIN.out k rfl, HB3.out⟩
                      | true =>
                        gi_upto_region 26 with fail
                        refine region_round (by rfl) (fun ⟨a, w, h⟩ => h) ?_
                        go_wp2_with fail
                        gi_upto_region 27 with fail
                        refine region_round (by rfl) (fun ⟨a, w, h⟩ => h) ?_
                        go_wp2_with fail
                        gi_upto_region 28 with fail
                        refine region_round (by rfl) (fun ⟨a, w, h⟩ => h) ?_
                        go_wp2_with fail
                        gi_roundg (m - (j + 1))
                        case measure => omega
                        case rel => exact ⟨k + 1, j + 1, by go_num, by go_num, hlt, by omega, Nat.le_refl _, FIN.out (k + 1) rfl, HB3.out⟩
                  · obtain rfl : j = m := by omega
                    obtain ⟨hcl, own, ba, hm⟩ := HA.out
                    obtain ⟨ch2, cw2, px, hok, hr, hnm, hsm, ho, o2, hlr, d3, d1, hwx, hl9, bw9⟩ := H4.out
                    have hkr : k = r := by
                      have h1 := congrArg List.length hcl
                      rw [List.length_map, ← hm] at h1
                      have h2 := HK.out
                      rw [h1, List.take_length, cnt_all, hlr] at h2
                      exact h2
                    have b2r : Below W2.heap.size W2 wr := ba.trans (HBl.out.mono ba.size)
                    have d3r : wr.cell? ⟨O, 3, none⟩ = some (.int .i64 (r : Int)) := (b2r.cell (p := ⟨O, 3, none⟩) HLW.out.2.1).trans d3
                    have cwr : wr.heap[Bn]? = some (.cells #[.int .i64 (sm : Int)] 3 (0, 0)) := (b2r.block Bn HLW.out.2.2).trans cw2
                    have nc : wr.cell? ⟨Bn, 0, none⟩ = some (.int .i64 (sm : Int)) := cell_of_block cwr 0
                    have nf : wr.frozen? ⟨Bn, 0, none⟩ = false := unfrozen_of_block cwr 0
                    have tn : ((r : Int) != (r : Int)) = false := by simp
                    obtain ⟨s2, hs2⟩ : ∃ s, s = sm + r := ⟨_, rfl⟩
                    have es : (sm : Int) + (r : Int) = (s2 : Int) := by omega
                    have ew : IntKind.i64.wrap (s2 : Int) = (s2 : Int) := by rw [IntKind.wrap_i64]; omega
                    obtain ⟨wz, hwz⟩ : ∃ x, wr.setCell ⟨Bn, 0, none⟩ (.int .i64 (s2 : Int)) = x := ⟨_, rfl⟩
                    have FIN : Hid (StaysC base wu.heap.size C W2 wz ∧ WI Bn w10 L9 (pre ++ [x]) wz) := by
                      have hBB := HB9.out
                      have cz : Chg [Bn] wr wz := hwz ▸ (Chg.refl [Bn] wr).setCell 0 _ (.inl (by simp))
                      refine ⟨(StaysC.ofBelow b2r).trans (StaysC.ofChg cz (fun g hg => ?_)), (ch2.trans (Chg.ofBelow b2r []) (by simp)).trans cz (fun g hg => .inl hg), ?_, px, fun y hy => ?_⟩
                      · rw [List.mem_singleton] at hg
                        subst hg
                        exact ⟨.inl (by omega), fun _ => (cells_prot cwr (by omega) rfl).2.2⟩
                      · rw [List.map_append, List.map_cons, List.map_nil, sumN_app, ← ho, ← hsm, ← hr, ← hs2, ← hwz, block_setCell cwr]
                        rfl
                      · rcases List.mem_append.1 hy with hy | hy
                        · exact hok y hy
                        · rw [List.mem_singleton] at hy
                          rw [hy, ← ho]
                          exact hwx
                    clear hcl own ba hm ch2 cw2 px hok hr hnm hsm ho o2 hlr d3 d1 hwx hl9 bw9 b2r cwr hs2 HBl HK HA H4 hlt hj hg
                    subst hkr
                    gi_upto_region 24 with fail
                    refine region_round (by rfl) (fun ⟨a, w, h⟩ => h) ?_
                    go_wp2_with fail
                    gi_upto_region 29 with fail
                    refine region_round (by rfl) (fun ⟨a, w, h⟩ => h) ?_
                    go_wp2_with fail
                    gi_upto_region 31 with fail
                    refine region_round (by rfl) (fun ⟨a, w, h⟩ => h) ?_
                    go_wp2_with fail
                    (try rw [hwz])
                    gi_wp2
                    exact FIN.out
              · intro D2 ys W11 hD hS11 ⟨C, hC, hI⟩ hdef2
                obtain ⟨st10, hS9, s10, a10, d10, low10, rs, ap9, ok9, bw9, hwl9, hl9, cn10⟩ := H9.out
                obtain ⟨hB1, hB2, hB3, zu, z10⟩ := HB9.out
                have st11 : StIs base W11 S9 sp 200 L9 hist9 := st10.chg hI.chg (fun g hg hm => by rw [List.mem_singleton] at hm; have := hS9 g hg; omega) (fun g hg _ => by rw [List.mem_singleton] at hg; subst hg; exact (cells_prot cn10 (by omega) rfl).2.2)
                have s11 := (hI.chg.block Bs (by omega) (by simp; omega)).trans s10
                have a11 := (hI.chg.block base (by omega) (by simp; omega)).trans a10
                have d11 := (hI.chg.block D1 (by omega) (by simp; omega)).trans d10
                have low11 : Below W.heap.size W W11 := low10.trans (hI.chg.below (fun g hg => by rw [List.mem_singleton] at hg; have := HWb.out; omega) low10.size)
                obtain ⟨mN, hmN⟩ : ∃ n, n = (listed 1 L9).length := ⟨_, rfl⟩
                have c11 := hI.cw
                rw [hS11] at c11
                have hsum : sumN (listed 0 L9) = mN := by rw [hmN]; exact (rs.all (by decide) ap9).symm
                rw [hsum] at c11
                have lt11 : ∀ {g : Nat} {ob : Obj}, W11.heap[g]? = some ob → g < W11.heap.size := fun hg => (Array.getElem?_eq_some_iff.1 hg).1
                obtain ⟨wD, hwD⟩ : ∃ x, x = W11.drew := ⟨_, rfl⟩
                have bD : Below W11.heap.size W11 wD := hwD ▸ ((Gr.refl W11).drewN 1).below
                have CA := Lib.hid (lall_any base wD S9 sp 200 L9 hist9 (st11.gr bD) (by omega))
                have gN := (bD.block _ (lt11 c11)).trans c11
                have gS := (bD.block _ (lt11 s11)).trans s11
                have gA := (bD.block _ (lt11 a11)).trans a11
                have gD := (bD.block _ (lt11 d11)).trans d11
                have gE := (bD.block _ (lt11 hdef2)).trans hdef2
                have FN : Hid (∀ ws : World, (ws.cell? ⟨Bn, 0, none⟩ = some (.int .i64 (mN : Int)) ∧ ws.cell? ⟨Bs, 0, none⟩ = some (.pointer (some ⟨sp, 0, none⟩))) → ws.cell? ⟨Bn, 0, none⟩ = some (.int .i64 (mN : Int))) := fun _ h => h.1
                have FS : Hid (∀ ws : World, (ws.cell? ⟨Bn, 0, none⟩ = some (.int .i64 (mN : Int)) ∧ ws.cell? ⟨Bs, 0, none⟩ = some (.pointer (some ⟨sp, 0, none⟩))) → ws.cell? ⟨Bs, 0, none⟩ = some (.pointer (some ⟨sp, 0, none⟩))) := fun _ h => h.2
                have HWD : Hid (W11.drew = wD ∧ (wD.cell? ⟨Bn, 0, none⟩ = some (.int .i64 (mN : Int)) ∧ wD.cell? ⟨Bs, 0, none⟩ = some (.pointer (some ⟨sp, 0, none⟩)))) := ⟨hwD.symm, cell_of_block gN 0, cell_of_block gS 0⟩
                have HF := Lib.hid (And.intro gN (And.intro gS (And.intro gA (And.intro gD (And.intro gE (And.intro (low11.trans (bD.mono low11.size)) (And.intro (show Bn < D2 by omega) (And.intro hmN (show base < Bn ∧ Bs < Bn ∧ D1 < Bn ∧ base < Bs by have := HB.out; omega)))))))))
                have tq : ((mN : Int) == (mN : Int)) = true := by simp
                clear st10 hS9 s10 a10 d10 low10 rs ap9 ok9 bw9 hwl9 hl9 cn10 hB1 hB2 hB3 zu z10 st11 s11 a11 d11 low11 hmN c11 hsum lt11 hwD bD gN gS gA gD gE hI hS11 hdef2 hD hC HTN J0
                go_upto_region 32 with fail
                refine Code.wp_mono (Q := Exit.then (fun a' w' => a'.tmps[4]? = some (.pointer (some ⟨base, 0, none⟩)) ∧ a'.defers = [D2, D1].map mark ∧ Hid (w'.heap[base]? = some bT ∧ Below W.heap.size W w' ∧ w'.heap[D2]? = some (.deferred (some [])) ∧ w'.heap[D1]? = some (.deferred (some [])) ∧ base < D1 ∧ D1 < D2)) (fun _ _ _ => False)) (fun e a' w' q => ?_) ?_
                · cases e with
                  | normal =>
                    obtain ⟨h4, hd, hfin⟩ := q
                    obtain ⟨tm, ds⟩ := a'
                    simp only at h4 hd
                    subst hd
                    clear FN FS CA HWD HF tq
                    go_wp2_with fail
                    obtain ⟨f1, f2, d2, d1, hbd, hdd⟩ := hfin.out
                    refine leaves_marks (F := Fence.wide) (n := 6) (P := Tryz.prog) (fn := Tryz.f3) (tmps := tm) [D2, D1] w' (by simp; omega) (fun D hD => by simp at hD; rcases hD with rfl | rfl; exact d2; exact d1) (fun w'' c'' => ?_)
                    exact ⟨_, results_cellB rfl tm w'' base h4 ((c''.block base (Array.getElem?_eq_some_iff.1 f1).1 (by simp; omega)).trans f1), rfl, f2.trans (c''.below (fun g hg => by simp at hg; have := HWb.out; omega) f2.size)⟩
                  | exit _ => exact q.elim
                  | goto _ => exact q.elim
                  | ret => exact q.elim
                  | panic _ => exact q.elim
                  | outgrown => exact q.elim
                refine wp_region_held_drew (S := fun ws => ws.cell? ⟨Bn, 0, none⟩ = some (.int .i64 (mN : Int)) ∧ ws.cell? ⟨Bs, 0, none⟩ = some (.pointer (some ⟨sp, 0, none⟩))) mixed (by rw [HWD.out.1]; exact HWD.out.2) (fun hS => ?_)
                rw [HWD.out.1] at hS ⊢
                refine wpAnyH_takeD (i := 0) (d := 107) (v := .int .i64 0) _ rfl rfl (by kernel_rfl) (by kernel_rfl) (by kernel_rfl) (fun _ _ _ h => h) (Or.inl ⟨by kernel_rfl, fun ws hSw => by first | (go_simp; done) | (go_simp; with_reducible rfl) | (go_simp; rfl)⟩) hS ?_
                simp only [Act.put, List.setIfInBounds_toArray, List.set_cons_zero, List.set_cons_succ]
                refine wpAnyH_takeD (i := 1) (d := 108) (v := .bool true) _ rfl rfl (by kernel_rfl) (by kernel_rfl) (by kernel_rfl) (fun _ _ _ h => h) (Or.inl ⟨by kernel_rfl, fun ws hSw => by first | (go_simp; done) | (go_simp; with_reducible rfl) | (go_simp; rfl)⟩) hS ?_
                simp only [Act.put, List.setIfInBounds_toArray, List.set_cons_zero, List.set_cons_succ]
                refine wpAnyH_takeD (i := 2) (d := 109) (v := .bool true) _ rfl rfl (by kernel_rfl) (by kernel_rfl) (by kernel_rfl) (fun _ _ _ h => h) (Or.inl ⟨by kernel_rfl, fun ws hSw => by first | (go_simp; done) | (go_simp; with_reducible rfl) | (go_simp; rfl)⟩) hS ?_
                simp only [Act.put, List.setIfInBounds_toArray, List.set_cons_zero, List.set_cons_succ]
                refine wpAnyH_takeD (i := 3) (d := 110) (v := .slice q9 0 c9) _ rfl rfl (by kernel_rfl) (by kernel_rfl) (by kernel_rfl) (fun _ _ _ h => h) (Or.inl ⟨by kernel_rfl, fun ws hSw => by first | (go_simp; done) | (go_simp; with_reducible rfl) | (go_simp; rfl)⟩) hS ?_
                simp only [Act.put, List.setIfInBounds_toArray, List.set_cons_zero, List.set_cons_succ]
                refine wpAnyH_takeD (i := 4) (d := 111) (v := .int .i64 0) _ rfl rfl (by kernel_rfl) (by kernel_rfl) (by kernel_rfl) (fun _ _ _ h => h) (Or.inl ⟨by kernel_rfl, fun ws hSw => by first | (go_simp; done) | (go_simp; with_reducible rfl) | (go_simp; rfl)⟩) hS ?_
                simp only [Act.put, List.setIfInBounds_toArray, List.set_cons_zero, List.set_cons_succ]
                refine wpAnyH_takeD (i := 5) (d := 112) (v := .bool true) _ rfl rfl (by kernel_rfl) (by kernel_rfl) (by kernel_rfl) (fun _ _ _ h => h) (Or.inl ⟨by kernel_rfl, fun ws hSw => by first | (go_simp; done) | (go_simp; with_reducible rfl) | (go_simp; rfl)⟩) hS ?_
                simp only [Act.put, List.setIfInBounds_toArray, List.set_cons_zero, List.set_cons_succ]
                refine wpAnyH_takeD (i := 6) (d := 113) (v := .bool true) _ rfl rfl (by kernel_rfl) (by kernel_rfl) (by kernel_rfl) (fun _ _ _ h => h) (Or.inl ⟨by kernel_rfl, fun ws hSw => by first | (go_simp; done) | (go_simp; with_reducible rfl) | (go_simp; rfl)⟩) hS ?_
                simp only [Act.put, List.setIfInBounds_toArray, List.set_cons_zero, List.set_cons_succ]
                refine wpAnyH_takeD (i := 7) (d := 114) (v := .bool true) _ rfl rfl (by kernel_rfl) (by kernel_rfl) (by kernel_rfl) (fun _ _ _ h => h) (Or.inl ⟨by kernel_rfl, fun ws hSw => by first | (go_simp; done) | (go_simp; with_reducible rfl) | (go_simp; rfl)⟩) hS ?_
                simp only [Act.put, List.setIfInBounds_toArray, List.set_cons_zero, List.set_cons_succ]
                refine wpAnyH_takeD (i := 8) (d := 115) (v := .int .i64 (mN : Int)) _ rfl rfl (by kernel_rfl) (by kernel_rfl) (by kernel_rfl) (fun _ _ _ h => h) (Or.inl ⟨by kernel_rfl, fun ws hSw => by have q := FN.out ws hSw; first | (go_simp; done) | (go_simp; with_reducible rfl) | (go_simp; rfl)⟩) hS ?_
                simp only [Act.put, List.setIfInBounds_toArray, List.set_cons_zero, List.set_cons_succ]
                refine wpAnyH_takeD (i := 9) (d := 116) (v := .pointer (some ⟨sp, 0, none⟩)) _ rfl rfl (by kernel_rfl) (by kernel_rfl) (by kernel_rfl) (fun _ _ _ h => h) (Or.inl ⟨by kernel_rfl, fun ws hSw => by have q := FS.out ws hSw; first | (go_simp; done) | (go_simp; with_reducible rfl) | (go_simp; rfl)⟩) hS ?_
                simp only [Act.put, List.setIfInBounds_toArray, List.set_cons_zero, List.set_cons_succ]
                refine wpAnyH_ready (rs := [10]) (by kernel_rfl) (by simp) ?_
                refine AllReadyH.cons rfl (fun K hK => ?_) AllReadyH.nil
                go_simp
                refine CA.out.mono ?_
                rintro e w12 ⟨⟨qa, ca, cla, rfl, hcl, own⟩, ba⟩
                obtain ⟨gN, gS, gA, gD, gE, low, hBD, hmN, hq1, hq2, hq3, hq4⟩ := HF.out
                have hm : cla.length = mN := by rw [hmN, ← hcl, List.length_map]
                rw [hm]
                have ltD : ∀ {g : Nat} {ob : Obj}, wD.heap[g]? = some ob → g < wD.heap.size := fun hg => (Array.getElem?_eq_some_iff.1 hg).1
                have hA := (ba.block _ (ltD gA)).trans gA
                have hN := (ba.block _ (ltD gN)).trans gN
                have hSs := (ba.block _ (ltD gS)).trans gS
                have hD1 := (ba.block _ (ltD gD)).trans gD
                have hD2 := (ba.block _ (ltD gE)).trans gE
                have rc : w12.cell? ⟨base, 0, none⟩ = some (.bool false) := cell_of_block hA 0
                have rf : w12.frozen? ⟨base, 0, none⟩ = false := unfrozen_of_block hA 0
                have low12 : Below W.heap.size W w12 := low.trans (ba.mono low.size)
                obtain ⟨wy, hwy, f1, f2⟩ := RET.out w12 low12 hA
                have cy : Chg [base] w12 wy := hwy ▸ (Chg.refl [base] w12).setCell 0 _ (.inl (by simp))
                have lt12 : ∀ {g : Nat} {ob : Obj}, w12.heap[g]? = some ob → g < w12.heap.size := fun hg => (Array.getElem?_eq_some_iff.1 hg).1
                have HS12 : Hid ((w12.cell? ⟨Bn, 0, none⟩ = some (.int .i64 (mN : Int)) ∧ w12.cell? ⟨Bs, 0, none⟩ = some (.pointer (some ⟨sp, 0, none⟩))) ∧ (wy.cell? ⟨Bn, 0, none⟩ = some (.int .i64 (mN : Int)) ∧ wy.cell? ⟨Bs, 0, none⟩ = some (.pointer (some ⟨sp, 0, none⟩)))) :=
                  ⟨⟨cell_of_block hN 0, cell_of_block hSs 0⟩, cell_of_block ((cy.block _ (lt12 hN) (by simp; omega)).trans hN) 0, cell_of_block ((cy.block _ (lt12 hSs) (by simp; omega)).trans hSs) 0⟩
                have FIN : Hid (wy.heap[base]? = some bT ∧ Below W.heap.size W wy ∧ wy.heap[D2]? = some (.deferred (some [])) ∧ wy.heap[D1]? = some (.deferred (some [])) ∧ base < D1 ∧ D1 < D2) := by
                  have hbD : base < D1 := by have := H8.out.2.2.2.2.2.2.2.2.2.2.2.2.1; have := HB.out; omega
                  exact ⟨f1, f2, (cy.block _ (lt12 hD2) (by simp; omega)).trans hD2, (cy.block _ (lt12 hD1) (by simp; omega)).trans hD1, hbD, by omega⟩
                clear gN gS gA gD gE low hBD hmN hq1 hq2 hq3 hq4 hm ltD hA hN hSs hD1 hD2 low12 f1 f2 cy lt12 hcl own ba CA
                refine hK _ _ HS12.out.1 (fun hS => ?_)
                try simp only [Act.put, List.setIfInBounds_toArray, List.set_cons_zero, List.set_cons_succ]
                refine wpAnyH_takeD (i := 11) (d := 118) (v := .int .i64 (mN : Int)) _ rfl rfl (by kernel_rfl) (by kernel_rfl) (by kernel_rfl) (fun _ _ _ h => h) (Or.inl ⟨by kernel_rfl, fun ws hSw => by first | (go_simp; done) | (go_simp; with_reducible rfl) | (go_simp; rfl)⟩) hS ?_
                simp only [Act.put, List.setIfInBounds_toArray, List.set_cons_zero, List.set_cons_succ]
                refine wpAnyH_takeD (i := 12) (d := 119) (v := .bool true) _ rfl rfl (by kernel_rfl) (by kernel_rfl) (by kernel_rfl) (fun _ _ _ h => h) (Or.inl ⟨by kernel_rfl, fun ws hSw => by first | (go_simp; done) | (go_simp; with_reducible rfl) | (go_simp; rfl)⟩) hS ?_
                simp only [Act.put, List.setIfInBounds_toArray, List.set_cons_zero, List.set_cons_succ]
                refine wpAnyH_takeD (i := 13) (d := 120) (v := .bool true) _ rfl rfl (by kernel_rfl) (by kernel_rfl) (by kernel_rfl) (fun _ _ _ h => h) (Or.inl ⟨by kernel_rfl, fun ws hSw => by first | (go_simp; done) | (go_simp; with_reducible rfl) | (go_simp; rfl)⟩) hS ?_
                simp only [Act.put, List.setIfInBounds_toArray, List.set_cons_zero, List.set_cons_succ]
                refine wpAnyH_ready (rs := [14]) (by kernel_rfl) (by simp) ?_
                refine AllReadyH.cons rfl (fun K hK => ?_) AllReadyH.nil
                go_simp
                (try rw [hwy])
                refine hK _ _ HS12.out.2 (fun hS => ?_)
                try simp only [Act.put, List.setIfInBounds_toArray, List.set_cons_zero, List.set_cons_succ]
                refine wpAnyH_done (by kernel_rfl) ?_ _
                exact ⟨rfl, rfl, FIN⟩
      · rintro D1 c' pre W7 hD - ⟨C, rfl, hch, hb7⟩ hdef
        obtain ⟨st5, hSB, hl60, hh60, s5, a5, low5, ap0, ok0, bw⟩ := H5.out
        obtain ⟨hB1, hB2, zt, z5⟩ := HB.out
        have low7 : Below W.heap.size W W7 := low5.trans (hch.below (fun g hg => by simp at hg; have := HWb.out; omega) low5.size)
        have FIN := Lib.hid (And.intro hb7 (And.intro low7 (And.intro hdef (show base < D1 by omega))))
        clear st5 hSB hl60 hh60 s5 a5 low5 ap0 ok0 bw hB1 hB2 zt z5 low7 hch hb7 hdef hD HTN I0
        refine wpIn_wide.2 ?_
        go_wp2_with fail
        refine leaves_marks (F := Fence.wide) (n := 6) (P := Tryz.prog) (fn := Tryz.f3) [D1] W7 (by simp) (fun D hD => by rw [List.mem_singleton] at hD; rw [hD]; exact FIN.out.2.2.1) (fun w'' c'' => ?_)
        obtain ⟨f1, f2, d9, hbD⟩ := FIN.out
        exact ⟨_, results_cellB rfl _ w'' base rfl ((c''.block _ (Array.getElem?_eq_some_iff.1 f1).1 (by simp; omega)).trans f1), rfl, f2.trans (c''.below (fun g hg => by rw [List.mem_singleton] at hg; have := HWb.out; omega) f2.size)⟩

theorem walk {H : Type} {enc : TypeId × Value → H} {base : Nat} (W : World) (hL : Tab W) (v0 : Value) (d0 : DataW H) (p0 : List MemPlace) (o0 : Value.okWide Tryz.prog W .any base 22 v0) (h0 : DataW.Trod enc Tryz.prog W 0 (fun _ => true) true 22 v0 d0 p0)
    (v1 : Value) (d1 : DataW H) (p1 : List MemPlace) (o1 : Value.okWide Tryz.prog W .any base 2 v1) (h1 : DataW.Trod enc Tryz.prog W 0 (fun _ => true) true 2 v1 d1 p1) (wt0 : Wt 22 d0) (_ : Wt 2 d1) :
    Calls Tryz.prog 3 #[v0, v1] W fun e W' => e = .returned (.bool true) ∧ Below W.heap.size W W' := by
  obtain ⟨q, c, l, rfl, hr, hok, hlen⟩ := Po.open_objs o0 h0 wt0
  obtain ⟨n, rfl, rfl, rfl, _⟩ := open_int Tryz.underlying2 o1 h1
  exact walk_at W hL q c l n hr hok hlen

/-! ### THE ROW's STEP -/
set_option maxRecDepth 100000 in
theorem lifted (os : Os) (started : os.Started) (H : Type) (enc : TypeId × Value → H) :
    ReturnsInHanded {} Tryz.checked os 3 .any (fun w args => (Rows.replicaSettlesSpec.pre enc Tryz.prog Tryz.f3 [] false w args ∧ laidMetH Tryz.prog lst w) ∧ sizedMet enc Tryz.prog Tryz.f3 (OpenSpec.ofChange Rows.replicaSettlesSpec) false w args) (Rows.replicaSettlesSpec.post enc Tryz.prog Tryz.f3 false true false false) := by
  refine returnsInHanded_of_change_and (C := Tryz.checked) (X := fun w _ => laidMetH Tryz.prog lst w) (fun _ _ _ hh h => h.of_heap hh) own started (by kernel_rfl) Tryz.func3
    (ChangeSpec.witness_shaped (enc := enc) (C := Tryz.checked) (os := os) (X := fun w _ => laidMetH Tryz.prog lst w) false (World.doorLaid Tryz.prog 2000 os) #[.slice none 0 0, .int .i64 0] 8 rfl (World.shaped_of_RefB (by kernel_rfl) (by kernel_rfl)) (by kernel_rfl) (by kernel_rfl) (by kernel_rfl) (door_met os _)) ?_
  intro W base args ds gs before hval0 hW hcnd hsz0 hL _
  have hval : ∀ (j : Nat) t v, Tryz.f3.params[j]? = some t → args[j]? = some v → Value.okWide Tryz.prog W .any base t v := hval0
  have hW' := hW
  obtain ⟨p, q, hA0, hV, rfl, hfz, hnd⟩ := hW
  have hA : DataW.TrodAll enc Tryz.prog W 0 (fun _ => true) true Tryz.f3.params.toList args.toList ds p := hA0
  have hlt : ∀ x ∈ p, x.block < W.heap.size := fun x hx => hW'.lt x (List.mem_append_left _ hx)
  rw [Tryz.params3] at hA hval
  have hread : ∀ t ∈ [22, 2], Tryz.prog.readableRec t = true ∧ t < Tryz.prog.types.size := by
    intro t ht
    simp only [List.mem_cons, List.not_mem_nil, or_false] at ht
    rcases ht with rfl | rfl <;> exact ⟨by kernel_rfl, of_decide_eq_true (by kernel_rfl)⟩
  have again : ∀ (W' : World), Below W.heap.size W W' → ∀ sp : Nat → Bool, (∀ x ∈ p, sp x.block = true) → DataW.TrodAll enc Tryz.prog W' 0 sp true [22, 2] args.toList ds p :=
    fun W' hb sp hsp => all_again (by kernel_rfl) hb [22, 2] args.toList ds p hread hA hlt hsp
  obtain ⟨v0, v1, d0, d1, p0, p1, rfl, rfl, rfl, h0, h1⟩ := trodAll_two hA
  obtain ⟨rfl, rfl⟩ := trodVars_none hV
  have wt0 : Wt 22 d0 := fun n hn => by
    have := List.all_eq_true.1 hsz0 n (DataW.weights_mem_each (j := 0) (t := 22) (d := d0) (by kernel_rfl) rfl n hn)
    simpa using this
  have wt1 : Wt 2 d1 := fun n hn => by
    have := List.all_eq_true.1 hsz0 n (DataW.weights_mem_each (j := 1) (t := 2) (d := d1) (by kernel_rfl) rfl n hn)
    simpa using this
  clear hA0 hval0
  simp only [List.append_nil] at hW' again
  refine (walk W (of_laid hL) v0 d0 p0 (hval 0 22 v0 rfl rfl) h0 v1 d1 p1 (hval 1 2 v1 rfl rfl) h1 wt0 wt1).mono fun e W' ⟨he, hg⟩ => ?_
  subst he
  exact ⟨_, rfl, post_below hW' hg (fun _ _ _ => trodAll_mk1 (shut_bool Tryz.underlying4 _)) (fun sp hsp => again W' hg sp hsp) (fun _ => rfl) (ok_one (by kernel_rfl) rfl (okWide_bool_mk Tryz.underlying4 _))⟩

theorem over : Rows.ReplicaSettlesSaid :=
  OpenClaim.holds_of_wide 3 Tryz.f3 rfl rfl rfl rfl rfl rfl rfl ⟨rfl, rfl, rfl, rfl, rfl⟩ rfl rfl rfl rfl rfl (by kernel_rfl) Tryz.func3 (by kernel_rfl)
    (of_decide_eq_true (by kernel_rfl)) (by unfold Func.isWrapper; first | (rw [if_pos (by decide +kernel)]; kernel_rfl) | (rw [if_neg (by decide +kernel)]; exact ⟨rfl, rfl⟩))
    (fun os started H enc _ => lifted os started H enc)

/-- The statement: the row, with what it lists tied to the program's text. -/
theorem proved : Rows.ReplicaSettlesCardSaid :=
  Claim7.holds_tied_plain_at .later [] _ true _ false
    over (fun _ h => by cases h) (by kernel_rfl) (fun _ h => by cases h) replicaSettles_row_tie rfl ⟨rfl, rfl⟩ (by kernel_rfl) rfl
    (fun f fn hf hfn => by
      obtain rfl : f = 3 := Option.some.inj ((show Tryz.prog.funcNamed Rows.replicaSettlesRow.func = some 3 by kernel_rfl).symm.trans hf) |>.symm
      obtain rfl : fn = Tryz.f3 := (Option.some.inj (Tryz.func3.symm.trans hfn)).symm
      exact ⟨by kernel_rfl, fun j t ht => by
        rw [Tryz.params3] at ht
        have hm : t ∈ [22, 2] := by simpa using Array.mem_of_getElem? ht
        have hall : ([22, 2].all fun u => !Tryz.prog.wantsStandIn u) = true := by kernel_rfl
        exact (show Tryz.prog.wantsStandIn t = false by simpa using List.all_eq_true.1 hall t hm)⟩)
    (by kernel_rfl)
#print axioms proved
end Go.Proofs.YtbkoepghmcdnhaaGreatDoor.replicaSettles
