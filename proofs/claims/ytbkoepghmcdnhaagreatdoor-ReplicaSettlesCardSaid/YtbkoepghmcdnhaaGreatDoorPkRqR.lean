/- Layer 16 (replica): a pass over all workloads of a store. Written by gen_rqr.py: edit rqr_main.txt. -/
import Derived.Test.YtbkoepghmcdnhaaGreatDoorPk5
namespace Go.Proofs.YtbkoepghmcdnhaaGreatDoor.Rp
open Go.RowKit Go.Shelf Go.Lib Go.Sort Go.Deep
open Go.Joins (cell_of_block unfrozen_of_block block_setCell)
open Go.Proofs.YtbkoepghmcdnhaaGreatDoor.Lc
open Go.Proofs.YtbkoepghmcdnhaaGreatDoor.Vi (isPod isOf isLive isFailed)
open Go.Proofs.YtbkoepghmcdnhaaGreatDoor.Ow (Obv encOb)
set_option linter.unusedVariables false
set_option linter.unusedSimpArgs false
set_option maxRecDepth 20000

/-- A store's blocks are no marks. -/
theorem st_mark {base : Nat} {W : World} {S : List Nat} {sp : Nat} {hist : List Ev} {most : Int} {l : List Ob} (h : StIs base W S sp most l hist) {D : Nat} (hd : W.heap[D]? = some (.deferred (some []))) : D ∉ S := by
  intro hg
  obtain ⟨mb, DD, ev, kept, h⟩ := h
  have e := h.fp
  rw [e] at hg
  simp only [List.mem_cons, Option.mem_toList] at hg
  rcases hg with rfl | rfl | hg
  · have := h.blk; rw [hd] at this; cases this
  · obtain ⟨es, c', h1, _⟩ := h.map.own
    rw [hd] at h1
    cases h1
  · rcases h.evs.2 with ⟨rfl, _⟩ | ⟨g', cap, cur, rfl, hb, h2, _⟩
    · cases hg
    · simp [Value.ownBlock] at hg
      subst hg
      rw [hd] at h2; cases h2
theorem st_cell {base : Nat} {W : World} {S : List Nat} {sp g0 : Nat} {hist : List Ev} {most : Int} {l : List Ob} {v : Value} (h : StIs base W S sp most l hist) (hd : W.heap[g0]? = some (.cells #[v] 23 (0, 0))) : g0 ∉ S := by
  intro hg
  obtain ⟨mb, DD, ev, kept, h⟩ := h
  have e := h.fp
  rw [e] at hg
  simp only [List.mem_cons, Option.mem_toList] at hg
  rcases hg with rfl | rfl | hg
  · have := h.blk
    rw [hd] at this
    injection this with this
    injection this with _ this _
    revert this
    decide
  · obtain ⟨es, c', h1, _⟩ := h.map.own
    rw [hd] at h1
    cases h1
  · rcases h.evs.2 with ⟨rfl, _⟩ | ⟨g', cap, cur, rfl, hb, h2, _⟩
    · cases hg
    · simp [Value.ownBlock] at hg
      subst hg
      rw [hd] at h2
      injection h2 with h2
      injection h2 with _ h2 _
      revert h2
      decide
theorem st_fine {base : Nat} {w : World} {S : List Nat} {sp : Nat} {hist : List Ev} {most : Int} {l : List Ob} (h : StIs base w S sp most l hist) : base ≤ w.heap.size ∧ KeyNe l ∧ ∀ o ∈ l, OkK o := by
  obtain ⟨mb, D, ev, kept, h⟩ := h
  exact ⟨h.bw, h.map.apart, h.map.ok⟩
/-- What stands while workloads have their passes. -/
structure PI (base A : Nat) (S : List Nat) (sp : Nat) (w : World) (L0 : List Ob) (now : Int) (n0 B C : Nat) (pre : List Co) (W : World) (S' : List Nat) (L' : List Ob) (hist' : List Ev) (q : Option Addr) (c : Nat) (cl : List Co) (seen : Nat) : Prop where
  st : StIs base W S' sp 200 L' hist'
  chg : Chg S w W
  news : ∀ g ∈ S', g ∈ S ∨ C ≤ g
  a0 : W.heap[A]? = some (.cells #[.pointer (some ⟨sp, 0, none⟩)] 23 (0, 0))
  a1 : W.heap[A + 1]? = some (.cells #[.int .i64 now] 2 (0, 0))
  c7 : W.heap[B]? = some (.cells #[.slice q cl.length c] SlO (0, 0))
  c8 : W.heap[B + 1]? = some (.cells #[.int .u64 (seen : Int)] 29 (0, 0))
  own : OwnCo base w.heap.size W q c cl
  off : ∀ g, (Value.slice q cl.length c).ownBlock = some g → g ∉ S' ∧ g ≠ B ∧ g ≠ B + 1 ∧ (g < B + 4 ∨ C ≤ g)
  le : seen ≤ hist'.length
  row : seen = hist'.length → cl.map (·.1.2) = listed 1 L'
  prx : pre.map (·.1.2) = (listed 0 L0).take pre.length
  way : Way L0 (listed 0 L0) pre.length L' n0 hist'.length
theorem PI.to {base A : Nat} {S : List Nat} {sp : Nat} {w : World} {L0 : List Ob} {now : Int} {n0 B C : Nat} {pre : List Co} {W W' : World} {S' : List Nat} {L' : List Ob} {hist' : List Ev} {q : Option Addr} {c : Nat} {cl : List Co} {seen : Nat} (h : PI base A S sp w L0 now n0 B C pre W S' L' hist' q c cl seen)
    (hS : ∀ g ∈ S, g < B + 4) (hA : A + 2 ≤ B) (hc : ∀ g, (g < B + 4 ∨ C ≤ g) → g < W.heap.size → W'.heap[g]? = W.heap[g]?) (fx : Fx base W W') (hch : Chg S w W') : PI base A S sp w L0 now n0 B C pre W' S' L' hist' q c cl seen := by
  have lt : ∀ {g : Nat} {o : Obj}, W.heap[g]? = some o → g < W.heap.size := fun hg => (Array.getElem?_eq_some_iff.1 hg).1
  refine ⟨h.st.stay (fun g hg => hc g ?_ (h.st.prot g hg).2.1) fx, hch, h.news, (hc _ (.inl (by omega)) (lt h.a0)).trans h.a0, (hc _ (.inl (by omega)) (lt h.a1)).trans h.a1, (hc _ (.inl (by omega)) (lt h.c7)).trans h.c7, (hc _ (.inl (by omega)) (lt h.c8)).trans h.c8, ⟨own_block h.own.own (fun g hg => hc g (h.off g hg).2.2.2 (World.ownsRow.lt h.own.own g hg).2), fun x hx => (h.own.kept x hx).fx fx⟩, h.off, h.le, h.row, h.prx, h.way⟩
  rcases h.news g hg with h1 | h1
  · exact .inl (hS g h1)
  · exact .inr h1
def PIs (base A : Nat) (S : List Nat) (sp : Nat) (w : World) (L0 : List Ob) (now : Int) (n0 B C : Nat) (pre : List Co) (W : World) : Prop := ∃ S' L' hist' q c cl seen, PI base A S sp w L0 now n0 B C pre W S' L' hist' q c cl seen
theorem pis_bears (base A : Nat) (S : List Nat) (sp : Nat) (w : World) (L0 : List Ob) (now : Int) (n0 B C G : Nat) (hB : base ≤ G) (hw : w.heap.size ≤ G) : BearsL G (PIs base A S sp w L0 now n0 B C) := by
  rintro pre V V' T ⟨S', L', hist', q, c, cl, seen, h⟩ ch hT
  have hT2 : ∀ g ∈ T, base ≤ g ∧ ∃ r : Loop, V.heap[g]? = some (.loop r) := fun g hg => ⟨by have := (hT g hg).1; omega, (hT g hg).2⟩
  have out : ∀ (g : Nat) (cs : Array Value) (T' : TypeId) (fz : Nat × Nat), V.heap[g]? = some (Obj.cells cs T' fz) → V'.heap[g]? = V.heap[g]? := fun g cs T' fz hg => ch.block g (Array.getElem?_eq_some_iff.1 hg).1 (fun hm => loop_cells (hT g hm).2 hg)
  refine ⟨S', L', hist', q, c, cl, seen, StIs.loops h.st ch hT2, h.chg.trans ch (fun g hg => .inr (by have := (hT g hg).1; omega)), h.news, (out A _ _ _ h.a0).trans h.a0, (out _ _ _ _ h.a1).trans h.a1, (out _ _ _ _ h.c7).trans h.c7, (out _ _ _ _ h.c8).trans h.c8, ⟨own_block h.own.own (fun g hg => ?_), fun x hx => (h.own.kept x hx).fx (Chg.loops ch hT2)⟩, h.off, h.le, h.row, h.prx, h.way⟩
  obtain ⟨cur, hcur⟩ := own_at h.own.own hg
  exact out g _ _ _ hcur
/-- .. while pods of nobody are deleted. -/
structure PJ (base A : Nat) (S : List Nat) (sp : Nat) (w : World) (L1 : List Ob) (n1 D C : Nat) (pre : List Co) (W : World) (S' : List Nat) (hist' : List Ev) : Prop where
  st : StIs base W S' sp 200 (L1.filter (keepR (orphs L1 ((listed 1 L1).take pre.length)))) hist'
  chg : Chg S w W
  news : ∀ g ∈ S', g ∈ S ∨ C ≤ g
  a0 : W.heap[A]? = some (.cells #[.pointer (some ⟨sp, 0, none⟩)] 23 (0, 0))
  mrk : W.heap[D]? = some (.deferred (some []))
  prx : pre.map (·.1.2) = (listed 1 L1).take pre.length
  evs : hist'.length = n1 + (orphs L1 ((listed 1 L1).take pre.length)).length
theorem PJ.to {base A : Nat} {S : List Nat} {sp : Nat} {w : World} {L1 : List Ob} {n1 D C G : Nat} {pre : List Co} {W W' : World} {S' : List Nat} {hist' : List Ev} (h : PJ base A S sp w L1 n1 D C pre W S' hist') (hS : ∀ g ∈ S, g < G) (hA : A < G ∧ D < G)
    (hc : ∀ g, (g < G ∨ C ≤ g) → g < W.heap.size → W'.heap[g]? = W.heap[g]?) (fx : Fx base W W') (hch : Chg S w W') : PJ base A S sp w L1 n1 D C pre W' S' hist' := by
  have lt : ∀ {g : Nat} {o : Obj}, W.heap[g]? = some o → g < W.heap.size := fun hg => (Array.getElem?_eq_some_iff.1 hg).1
  refine ⟨h.st.stay (fun g hg => hc g ?_ (h.st.prot g hg).2.1) fx, hch, h.news, (hc _ (.inl hA.1) (lt h.a0)).trans h.a0, (hc _ (.inl hA.2) (lt h.mrk)).trans h.mrk, h.prx, h.evs⟩
  rcases h.news g hg with h1 | h1
  · exact .inl (hS g h1)
  · exact .inr h1
def PJs (base A : Nat) (S : List Nat) (sp : Nat) (w : World) (L1 : List Ob) (n1 D C : Nat) (pre : List Co) (W : World) : Prop := ∃ S' hist', PJ base A S sp w L1 n1 D C pre W S' hist'
theorem pjs_bears (base A : Nat) (S : List Nat) (sp : Nat) (w : World) (L1 : List Ob) (n1 D C G : Nat) (hB : base ≤ G) (hw : w.heap.size ≤ G) : BearsL G (PJs base A S sp w L1 n1 D C) := by
  rintro pre V V' T ⟨S', hist', h⟩ ch hT
  have hT2 : ∀ g ∈ T, base ≤ g ∧ ∃ r : Loop, V.heap[g]? = some (.loop r) := fun g hg => ⟨by have := (hT g hg).1; omega, (hT g hg).2⟩
  have out : ∀ (g : Nat) (cs : Array Value) (T' : TypeId) (fz : Nat × Nat), V.heap[g]? = some (Obj.cells cs T' fz) → V'.heap[g]? = V.heap[g]? := fun g cs T' fz hg => ch.block g (Array.getElem?_eq_some_iff.1 hg).1 (fun hm => loop_cells (hT g hm).2 hg)
  refine ⟨S', hist', StIs.loops h.st ch hT2, h.chg.trans ch (fun g hg => .inr (by have := (hT g hg).1; omega)), h.news, (out A _ _ _ h.a0).trans h.a0, (ch.block D (Array.getElem?_eq_some_iff.1 h.mrk).1 (fun hm => ?_)).trans h.mrk, h.prx, h.evs⟩
  obtain ⟨_, r, hr⟩ := hT D hm
  have := h.mrk
  rw [hr] at this
  cases this
theorem wrong_no (w : World) (sp : Nat) (now : Int) (h0 : 0 ≤ now) (h1 : now ≤ 4611686018427387904) : Calls Tryz.prog 17 #[.pointer (some ⟨sp, 0, none⟩), .int .i64 now] w fun e w' => e = .returned (.bool false) ∧ w' = w := by
  have t1 : decide (now < 0) = false := decide_eq_false (by omega)
  have t2 : decide (4611686018427387904 < now) = false := decide_eq_false (by omega)
  clear h0 h1
  go_enter Tryz.func17, Tryz.ntmps17
  go_wp2
  go_ret
  exact ⟨rfl, rfl⟩

set_option maxHeartbeats 16000000 in
theorem rPass_any (base : Nat) (W0 w : World) (hb0 : W0.heap.size = base) (low : Below base W0 w) (hT : Tab W0) (S : List Nat) (sp : Nat) (L0 : List Ob) (hist : List Ev) (now : Int) (st : StIs base w S sp 200 L0 hist)
    (hwl : ∀ o ∈ listed 0 L0, o.name.size ≤ 27) (hpot : L0.length + lack L0 (listed 0 L0) ≤ 190) (hev : hist.length + L0.length + 2 * lack L0 (listed 0 L0) ≤ 1000) (h0 : 0 ≤ now) (h1 : now ≤ 4611686018427387904) :
    Calls Tryz.prog 8 #[.pointer (some ⟨sp, 0, none⟩), .int .i64 now] w fun e w' => ∃ q c L' hist', e = .returned (.tuple #[.slice q (hist'.length - hist.length) c, .int .i64 0]) ∧ After base w w' S sp 200 L' hist' ∧ Over L0 L' hist.length hist'.length := by
  have mixed : Tryz.prog.follows .mixedOrders = true := by kernel_rfl
  obtain ⟨bw, ap0, ok0⟩ := st_fine st
  obtain ⟨A, hA⟩ : ∃ A, A = w.heap.size := ⟨_, rfl⟩
  obtain ⟨w1, hw1⟩ : ∃ x, x = (w.alloc (.cells #[.pointer (some ⟨sp, 0, none⟩)] 23)).alloc (.cells #[.int .i64 now] 2) := ⟨_, rfl⟩
  have G1 : Gr w w1 := hw1 ▸ ((Gr.refl w).alloc _).alloc _
  have z1 : w1.heap.size = A + 2 := by rw [hw1, hA]; simp
  have a0 : w1.heap[A]? = some (.cells #[.pointer (some ⟨sp, 0, none⟩)] 23 (0, 0)) := by
    rw [hw1, hA, ((Gr.refl (w.alloc (.cells #[.pointer (some ⟨sp, 0, none⟩)] 23))).alloc _).heap (by simp)]
    exact heap_alloc_new w _
  have a1 : w1.heap[A + 1]? = some (.cells #[.int .i64 now] 2 (0, 0)) := by
    rw [hw1, hA]
    have := heap_alloc_new (w.alloc (.cells #[.pointer (some ⟨sp, 0, none⟩)] 23)) (.cells #[.int .i64 now] 2)
    simpa using this
  have CW := Lib.hid (wrong_no w1 sp now h0 h1)
  have CN := Lib.hid (now_any base w1 S sp 200 L0 hist (st.gr G1.below))
  obtain ⟨n0, hn0⟩ : ∃ n, n = hist.length := ⟨_, rfl⟩
  rw [← hn0] at CN
  have CA := Lib.hid (rall_any base w1 S sp 200 L0 hist (st.gr G1.below) (by omega))
  have k1 : w1.cell? ⟨A, 0, none⟩ = some (.pointer (some ⟨sp, 0, none⟩)) := cell_of_block a0 0
  have k2 : w1.cell? ⟨A + 1, 0, none⟩ = some (.int .i64 now) := cell_of_block a1 0
  have HW1 : Hid ((w.alloc (.cells #[.pointer (some ⟨sp, 0, none⟩)] 23)).alloc (.cells #[.int .i64 now] 2) = w1 ∧ w.heap.size = A ∧ w1.heap.size = A + 2) := ⟨hw1.symm, hA.symm, z1⟩
  have HH := Lib.hid (And.intro bw (And.intro ap0 (And.intro ok0 (And.intro hA (And.intro z1 (And.intro st (And.intro hwl (And.intro hpot (And.intro hev (And.intro h0 (And.intro h1 (And.intro hb0 (And.intro low (And.intro hT (And.intro hn0 (And.intro G1.below (And.intro a0 a1)))))))))))))))))
  clear hb0 low hT st hwl hpot hev h0 h1 bw ap0 ok0 hA hw1 G1 z1 a0 a1 hn0
  refine (callsIn_wide (n := 6)).1 ?_
  refine callsIn_of_wp_marks Tryz.func8 rfl trivial ?_ rfl
  simp only [Tryz.ntmps8, List.size_toArray, List.length_cons, List.length_nil, Nat.reduceAdd, Nat.reduceSub, Array.replicate_succ, Array.replicate_zero, List.push_toArray, List.append_toArray, List.nil_append, List.cons_append]
  refine wpIn_wide.2 ?_
  go_upto_region 1 with fail
  rw [HW1.out.1, HW1.out.2.1]
  go_wp2_with fail
  refine CW.out.mono ?_
  rintro e w' ⟨rfl, hw'⟩
  rw [hw']
  clear hw'
  go_wp2_with fail
  refine CN.out.mono ?_
  rintro e w' ⟨rfl, hw'⟩
  rw [hw']
  clear hw'
  go_wp2_with fail
  refine CA.out.mono ?_
  rintro e w2 ⟨⟨q, c, cl, rfl, hcl, own⟩, b2⟩
  obtain ⟨m, hm⟩ : ∃ m, m = cl.length := ⟨_, rfl⟩
  obtain ⟨B, hB⟩ : ∃ B, B = w2.heap.size := ⟨_, rfl⟩
  obtain ⟨w3, hw3⟩ : ∃ x, x = (w2.alloc (.cells #[.slice q m c] SlO)).alloc (.cells #[.int .u64 (n0 : Int)] 29) := ⟨_, rfl⟩
  have G3 : Gr w2 w3 := hw3 ▸ ((Gr.refl w2).alloc _).alloc _
  have z3 : w3.heap.size = B + 2 := by rw [hw3, hB]; simp
  have c7 : w3.heap[B]? = some (.cells #[.slice q m c] SlO (0, 0)) := by
    rw [hw3, hB, ((Gr.refl (w2.alloc (.cells #[.slice q m c] SlO))).alloc _).heap (by simp)]
    exact heap_alloc_new w2 _
  have c8 : w3.heap[B + 1]? = some (.cells #[.int .u64 (n0 : Int)] 29 (0, 0)) := by
    rw [hw3, hB]
    have := heap_alloc_new (w2.alloc (.cells #[.slice q m c] SlO)) (.cells #[.int .u64 (n0 : Int)] 29)
    simpa using this
  obtain ⟨wt, hwt⟩ : ∃ x, x = (w3.alloc (.cells #[.pointer (some ⟨sp, 0, none⟩)] 23)).alloc (.cells #[.int .i64 0] 3) := ⟨_, rfl⟩
  have Gt : Gr w3 wt := hwt ▸ ((Gr.refl w3).alloc _).alloc _
  have zt : wt.heap.size = B + 4 := by rw [hwt]; simp [z3]
  have e1 : wt.heap[B + 2]? = some (.cells #[.pointer (some ⟨sp, 0, none⟩)] 23 (0, 0)) := by
    rw [hwt, ← z3, ((Gr.refl (w3.alloc (.cells #[.pointer (some ⟨sp, 0, none⟩)] 23))).alloc _).heap (by simp)]
    exact heap_alloc_new w3 _
  have e2 : wt.heap[B + 2 + 1]? = some (.cells #[.int .i64 0] 3 (0, 0)) := by
    rw [hwt]
    have := heap_alloc_new (w3.alloc (.cells #[.pointer (some ⟨sp, 0, none⟩)] 23)) (.cells #[.int .i64 0] 3)
    rw [World.size_alloc, z3] at this
    exact this
  have CL := Lib.hid (list_any w3 (.pointer (some ⟨sp, 0, none⟩)) 0 ⟨_, rfl⟩)
  obtain ⟨bw, ap0, ok0, hA, z1, st, hwl, hpot, hev, h0, h1, hb0, low, hT, hn0, b1, a0, a1⟩ := HH.out
  have bt : Below w2.heap.size w2 wt := G3.below.trans (Gt.below.mono G3.below.size)
  have b1t : Below w1.heap.size w1 wt := b2.trans (bt.mono b2.size)
  have bwt : Below w.heap.size w wt := b1.trans (b1t.mono b1.size)
  have hzB : A + 2 ≤ B := by have := b2.size; omega
  have TN := list_tellsC (6 - 1) base wt S sp (B + 2) 200 0 L0 hist (st.gr bwt) (cell_of_block e1 0) (cell_of_block e2 0) (by omega) (by omega)
  have HTN := Lib.hid TN
  have own3 : OwnCo base w.heap.size wt q c cl := ⟨own_mono (own.gr bt).own (by omega), (own.gr bt).kept⟩
  have I0 : Hid (∀ C, wt.heap.size ≤ C → PIs base A S sp w L0 now n0 B C [] wt) := fun C hC => by
    refine ⟨S, L0, hist, q, c, cl, n0, st.gr bwt, Chg.ofBelow bwt S, fun g hg => .inl hg, (b1t.block A (by omega)).trans a0, (b1t.block _ (by omega)).trans a1, (by rw [← hm]; exact (Gt.heap (by omega)).trans c7), (Gt.heap (by omega)).trans c8, own3, fun g hg => ?_, by omega, fun _ => hcl, by simp, by rw [hn0]; exact Way.start _ _ _⟩
    have h1 := World.ownsRow.lt own.own g hg
    exact ⟨fun hm => by have := (st.prot g hm).2.1; omega, by omega, by omega, by omega⟩
  have k3 : w3.cell? ⟨A, 0, none⟩ = some (.pointer (some ⟨sp, 0, none⟩)) := cell_of_block ((G3.heap (by omega)).trans ((b2.block A (by omega)).trans a0)) 0
  have HW3 : Hid ((w2.alloc (.cells #[.slice q m c] SlO)).alloc (.cells #[.int .u64 (n0 : Int)] 29) = w3 ∧ w2.heap.size = B ∧ w3.heap.size = B + 2) := ⟨hw3.symm, hB.symm, z3⟩
  have HWT : Hid ((w3.alloc (.cells #[.pointer (some ⟨sp, 0, none⟩)] 23)).alloc (.cells #[.int .i64 0] 3) = wt) := hwt.symm
  have HZ := Lib.hid (And.intro hzB (And.intro zt (And.intro bwt (show w.heap.size ≤ wt.heap.size by omega))))
  rw [← hm]
  clear hcl own b2 hm hB hw3 G3 z3 c7 c8 hwt Gt zt e1 e2 bw ap0 ok0 hA z1 st hwl hpot hev h0 h1 hb0 low hT hn0 b1 a0 a1 bt b1t bwt hzB TN own3 CW CN CA k1 k2
  go_upto_region 5 with fail
  rw [HW3.out.1, HW3.out.2.1]
  go_wp2_with fail
  refine CL.out.mono ?_
  rintro e w' ⟨rfl, hw'⟩
  rw [HW3.out.2.2]
  rw [hw', HWT.out]
  clear hw' CL k3
  go_wp2_with fail
  refine (wpIn_wide (n := 6)).1 ?_
  refine wpIn_toldC (α := Co) (n := 6) (by decide) (gf := 14) (lb := #[.pointer (some ⟨B + 2, 0, none⟩), .pointer (some ⟨B + 2 + 1, 0, none⟩)]) rfl (enters_of Tryz.func14 (by kernel_rfl) rfl) HTN.out (Below.refl _ _) (fun _ => rfl) (by have := HH.out.1; have := HZ.out.2.2.2; omega) (fun pre x A A' h f => ⟨h.1, h.2.fx f⟩)
    (PIs base A S sp w L0 now n0 B) (fun _ _ _ _ => False) ?_ (fun c C s A A' T h _ _ => h.elim) I0.out ?_ ?_ (fun _ _ _ _ _ _ h _ => h.elim (fun _ h => h.elim))
  · intro C
    exact pis_bears base A S sp w L0 now n0 B C wt.heap.size (by have := HH.out.1; have := HZ.out.2.2.2; omega) HZ.out.2.2.2
  · intro l' C pre x W hi hgv hlB hlC hCW
    rw [zip_one]
    obtain ⟨D, hD⟩ : ∃ D, D = x.1.1.1 := ⟨_, rfl⟩
    obtain ⟨o, ho⟩ : ∃ o, o = x.1.2 := ⟨_, rfl⟩
    have hkx := hgv.2
    rw [← hD] at hkx ⊢
    rw [← ho] at hkx
    have z0 : (W.alloc (.cells zerC OT)).heap[W.heap.size]? = some (.cells zerC OT (0, 0)) := heap_alloc_new W _
    obtain ⟨th, n0', fx1, c1'⟩ := store_ob (base := W.heap.size) z0 rfl hkx.obj.1 (Nat.le_refl _)
    obtain ⟨wv, hwv⟩ : ∃ W', W' = (W.alloc (.cells zerC OT)).setCells W.heap.size 0 D.toList := ⟨_, rfl⟩
    obtain ⟨O, hO⟩ : ∃ A, A = W.heap.size := ⟨_, rfl⟩
    rw [← hwv] at n0' c1'
    have b3 : Below W.heap.size W wv := by
      have g : Gr W (W.alloc (.cells zerC OT)) := (Gr.refl W).alloc _
      exact ((Xb.ofGr g W.heap.size).trans ⟨c1'.os, c1'.tape, c1'.output, c1'.size, fun k hk hne => c1'.block k hk (by simpa using hne)⟩).below (Nat.le_refl _) (Nat.le_refl _)
    rw [← hO] at n0'
    have TH := Lib.hid th
    have IN : Hid ((Tryz.prog.info? OT).map (·.size) = some D.size) := by show _ = _; rw [hkx.obj.1]; exact info_ob47
    have ON := Lib.hid (objV_one hkx.obj)
    have HWV : Hid ((W.alloc (.cells zerC OT)).setCells W.heap.size 0 D.toList = wv ∧ W.heap.size = O) := ⟨hwv.symm, hO.symm⟩
    have H3 := Lib.hid (And.intro n0' (And.intro b3 (And.intro hi (And.intro hgv.1 (And.intro hkx ho)))))
    clear hkx z0 th n0' fx1 c1' hwv hO b3 hi hgv hD ho
    refine region_round (by rfl) (fun ⟨a, w, h⟩ => h) ?_
    go_wp2_with (refine wpList_store_mid rfl _ _ _ rfl W.heap.size 0 D (by rfl) (by rfl) TH.out IN.out ON.out ?_; rw [HWV.out.1, HWV.out.2])
    refine ⟨StaysC.ofBelow H3.out.2.1, fun W2 c2 f2 => ?_⟩
    obtain ⟨n3, b3, ⟨S', L', hist', q1, c1, cl1, seen, hI⟩, gv1, gv2, ho⟩ := H3.out
    obtain ⟨bw, ap0, ok0, hA, z1, st, hwl, hpot, hev, h0, h1, hb0, low, hT, hn0, b1, a0, a1⟩ := HH.out
    obtain ⟨hzB, zt, bwt, hwz⟩ := HZ.out
    have hO : W.heap.size = O := HWV.out.2
    rw [← ho] at gv1
    have out : ∀ g, g < wv.heap.size → g ≠ l' → W2.heap[g]? = wv.heap[g]? := fun g h1 h2 => c2.block g h1 (by simpa using h2)
    have z3 := b3.size
    have z2 := c2.size
    have hSB : ∀ g ∈ S, g < B + 4 := fun g hg => by have := (st.prot g hg).2.1; omega
    have hI2 : PI base A S sp w L0 now n0 B C pre W2 S' L' hist' q1 c1 cl1 seen := hI.to hSB hzB (fun g hg hlt => (out g (by omega) (by omega)).trans (b3.block g hlt)) ((Fx.ofBelow b3).trans f2) ((hI.chg.trans (Chg.ofBelow b3 []) (by simp)).trans c2 (fun g hg => .inr (by rw [List.mem_singleton] at hg; omega)))
    have o2 : W2.heap[O]? = some (.cells D OT (0, 0)) := (out O (Array.getElem?_eq_some_iff.1 n3).1 (by omega)).trans n3
    have kD : Kept base W2 D o := (gv2.fx (Fx.ofBelow b3)).fx f2
    obtain ⟨hh, hhh⟩ : ∃ n, n = hist'.length := ⟨_, rfl⟩
    obtain ⟨b, hb⟩ : ∃ b, ((hh : Int) != (seen : Int)) = b := ⟨_, rfl⟩
    have FA : Hid (∀ ws : World, (∃ n, ws = W2.drewN n) → ws.cell? ⟨A, 0, none⟩ = some (.pointer (some ⟨sp, 0, none⟩))) := fun ws ⟨n, h⟩ => by rw [h]; exact cell_of_block (w := W2.drewN n) hI2.a0 0
    have F8 : Hid (∀ ws : World, (∃ n, ws = W2.drewN n) → ws.cell? ⟨B + 1, 0, none⟩ = some (.int .u64 (seen : Int))) := fun ws ⟨n, h⟩ => by rw [h]; exact cell_of_block (w := W2.drewN n) hI2.c8 0
    have CN : Hid (∀ ws : World, (∃ n, ws = W2.drewN n) → Calls Tryz.prog 18 #[.pointer (some ⟨sp, 0, none⟩)] ws fun e w' => e = .returned (.int .u64 (hh : Int)) ∧ w' = ws) := fun ws ⟨n, h⟩ => by
      rw [hhh, h]
      exact now_any base _ S' sp 200 L' hist' (hI2.st.gr ((Gr.refl W2).drewN n).below)
    obtain ⟨wd, hwd⟩ : ∃ x, x = W2.drew := ⟨_, rfl⟩
    have bd : Below W2.heap.size W2 wd := hwd ▸ ((Gr.refl W2).drewN 1).below
    have HWD : Hid (W2.drew = wd ∧ ∃ n, wd = W2.drewN n) := ⟨hwd.symm, 1, hwd⟩
    have hzC : C ≤ W2.heap.size := by omega
    have hId : PI base A S sp w L0 now n0 B C pre wd S' L' hist' q1 c1 cl1 seen := hI2.to hSB hzB (fun g _ hlt => bd.block g hlt) (Fx.ofBelow bd) (hI2.chg.trans (Chg.ofBelow bd []) (by simp))
    have hol : o ∈ L0 ∧ o.kind = 0 := listed_mem.1 (List.mem_of_getElem? gv1)
    have H4 := Lib.hid (And.intro hId (And.intro ((bd.block O (Array.getElem?_eq_some_iff.1 o2).1).trans o2) (And.intro (kD.fx (Fx.ofBelow bd)) (And.intro bd (And.intro (show W2.heap.size ≤ wd.heap.size from bd.size) (And.intro hhh (And.intro gv1 (And.intro ho (And.intro hSB (And.intro hzC hol))))))))))
    have HCW : Hid (wt.heap.size ≤ C) := by show _ ≤ _; omega
    clear n3 b3 hI gv1 gv2 ho bw ap0 ok0 hA z1 st hwl hpot hev h0 h1 hb0 low hT hn0 b1 a0 a1 hzB zt bwt hwz hO out z3 z2 hSB hI2 o2 kD hhh hwd bd hzC hId hol c2 f2 TH IN ON HWV H3 hlB hlC hCW
    gi_upto_region 7 with fail
    refine region_round_held (S := fun ws => ∃ n, ws = W2.drewN n) mixed (by rfl) (fun ⟨a, w, h⟩ => h) ⟨1, rfl⟩ (fun hS => ?_)
    rw [HWD.out.1] at hS ⊢
    refine wpAnyH_takeD (i := 0) (d := 24) (v := .pointer (some ⟨sp, 0, none⟩)) _ rfl rfl (by kernel_rfl) (by kernel_rfl) (by kernel_rfl) (fun _ _ _ h => h) (Or.inl ⟨by kernel_rfl, fun ws hSw => by have q := FA.out ws hSw; first | (go_simp; done) | (go_simp; with_reducible rfl) | (go_simp; rfl)⟩) hS ?_
    simp only [Act.put, List.setIfInBounds_toArray, List.set_cons_zero, List.set_cons_succ]
    refine wpAnyH_takeD (i := 2) (d := 26) (v := .int .u64 (seen : Int)) _ rfl rfl (by kernel_rfl) (by kernel_rfl) (by kernel_rfl) (fun _ _ _ h => h) (Or.inl ⟨by kernel_rfl, fun ws hSw => by have q := F8.out ws hSw; first | (go_simp; done) | (go_simp; with_reducible rfl) | (go_simp; rfl)⟩) hS ?_
    simp only [Act.put, List.setIfInBounds_toArray, List.set_cons_zero, List.set_cons_succ]
    refine wpAnyH_ready (rs := [1]) (by kernel_rfl) (by simp) ?_
    refine AllReadyH.cons rfl (fun K hK => ?_) AllReadyH.nil
    go_simp
    refine (CN.out _ hS).mono ?_
    rintro e w' ⟨rfl, hw'⟩
    rw [hw']
    clear hw'
    refine hK _ _ HWD.out.2 (fun hS => ?_)
    try simp only [Act.put, List.setIfInBounds_toArray, List.set_cons_zero, List.set_cons_succ]
    refine wpAnyH_takeD (i := 3) (d := 27) (v := .bool b) _ rfl rfl (by kernel_rfl) (by kernel_rfl) (by kernel_rfl) (fun _ _ _ h => h) (Or.inl ⟨by kernel_rfl, fun ws hSw => by first | (go_simp; done) | (go_simp; with_reducible rfl) | (go_simp; rfl)⟩) hS ?_
    simp only [Act.put, List.setIfInBounds_toArray, List.set_cons_zero, List.set_cons_succ]
    refine wpAnyH_done (by kernel_rfl) ?_ _
    clear FA F8 CN hS
    cases b with
    | false =>
      obtain ⟨hId, oD, kD, bd, hzd, hhh, gv1, ho, hSB, hzC, hol⟩ := H4.out
      obtain ⟨wf, hwf⟩ : ∃ W, W = wd := ⟨_, rfl⟩
      rw [← hwf]
      obtain ⟨qr, hqr⟩ : ∃ q, q = q1 := ⟨_, rfl⟩
      obtain ⟨cr, hcr⟩ : ∃ q, q = c1 := ⟨_, rfl⟩
      obtain ⟨clr, hclr⟩ : ∃ q, q = cl1 := ⟨_, rfl⟩
      obtain ⟨sn, hsn⟩ : ∃ n, n = seen := ⟨_, rfl⟩
      have hes : seen = hist'.length := by
        have : (hh : Int) = (seen : Int) := by simpa using hb
        omega
      have HT9 : Hid (PI base A S sp w L0 now n0 B C pre wf S' L' hist' qr cr clr sn ∧ clr.map (·.1.2) = listed 1 L' ∧ wf.heap[O]? = some (.cells D OT (0, 0)) ∧ Kept base wf D o ∧ StaysC base wt.heap.size C W2 wf ∧ C ≤ wf.heap.size) := by
        rw [hwf, hqr, hcr, hclr, hsn]
        exact ⟨hId, hId.row hes, oD, kD, StaysC.ofBelow bd, by omega⟩
      clear hId oD kD bd hzd hhh gv1 ho hSB hzC hol hwf hqr hcr hclr hsn hes hb
      obtain ⟨hI9, hrow9, o9, k9, stay9, hzf⟩ := HT9.out
      obtain ⟨_, _, _, _, _, hhh, gv1, ho, hSB, hzC, hol⟩ := H4.out
      obtain ⟨bw, ap0, ok0, hA, z1, st, hwl, hpot, hev, h0, h1, hb0, low, hT, hn0, b1, a0, a1⟩ := HH.out
      obtain ⟨hzB, zt, bwt, hwz⟩ := HZ.out
      have hCt := HCW.out
      have okk := ok0 o hol.1
      obtain ⟨mr, hmr⟩ : ∃ m, m = clr.length := ⟨_, rfl⟩
      have hcw := (chk_wl okk.3 hol.2).2
      have hrep : o.w.rep = (repN o : Int) ∧ repN o ≤ 1000000 := by
        unfold c_w wlC withinB at hcw
        simp only [Bool.and_eq_true, decide_eq_true_eq] at hcw
        unfold repN
        omega
      have hnmo : okNm o.name = true := by
        unfold okNm
        rw [(chk_wl okk.3 hol.2).1, decide_eq_true (hwl o (List.mem_of_getElem? gv1))]
        rfl
      have hwy := hI9.way.pot
      have hwe := hI9.way.evs
      have hlm := lack_mem (L := L') (List.mem_of_getElem? gv1)
      obtain ⟨bwf, apf, okf⟩ := st_fine hI9.st
      have fx9 : Fx base w wf := hI9.chg.fx (fun g hg _ => (st.prot g hg).2.2)
      have hT9 : Tab wf := hT.below (by rw [hb0]; exact low.trans (fx9.below bw))
      have c0 : wf.cell? ⟨A, 0, none⟩ = some (.pointer (some ⟨sp, 0, none⟩)) := cell_of_block hI9.a0 0
      have cnw : wf.cell? ⟨A + 1, 0, none⟩ = some (.int .i64 now) := cell_of_block hI9.a1 0
      have c77 : wf.cell? ⟨B, 0, none⟩ = some (.slice qr mr cr) := by rw [hmr]; exact cell_of_block hI9.c7 0
      have LO := Lib.hid (load_ob o9 k9.obj.1)
      have CP := Lib.hid (rpass_any base wf S' sp L' hist' D o (repN o) qr mr cr (clr.map (·.1)) now hI9.st k9 okk hol.2 hrep.1 hrep.2 hnmo (by rw [List.length_map]; exact hmr) hI9.own.row
        (fun y hy => by
          obtain ⟨z, hz, rfl⟩ := List.mem_map.1 hy
          refine ⟨hI9.own.kept z hz, (okf z.1.2 ?_).nm⟩
          have hm2 : z.1.2 ∈ clr.map (·.1.2) := List.mem_map.2 ⟨z, hz, rfl⟩
          rw [hrow9] at hm2
          exact (listed_mem.1 hm2).1)
        (by
          have e : (clr.map (·.1)).map (·.2) = clr.map (·.1.2) := by rw [List.map_map]; rfl
          rw [e, hrow9]
          exact listed_perm 1 L') (by omega) (by omega) hT9 h0 h1)
      have FIN : Hid (∀ w' L2 hist2, After base wf w' S' sp 200 L2 hist2 → Passed o.name (repN o) L' L2 hist'.length hist2.length → StaysC base wt.heap.size C W2 w' ∧ PIs base A S sp w L0 now n0 B C (pre ++ [x]) w') := fun w' L2 hist2 ⟨S2, a1', a2', a3'⟩ ps => by
        have pS := hI9.st.prot
        have hS'B : ∀ g ∈ S', g < B + 4 ∨ C ≤ g := fun g hg => by
          rcases hI9.news g hg with h | h
          · exact .inl (hSB g h)
          · exact .inr h
        have nAB : ∀ g, A ≤ g → g < B + 4 → g ∉ S' := fun g h1 h2 hm => by
          rcases hI9.news g hm with h | h
          · have := (st.prot g h).2.1; omega
          · omega
        have lt : ∀ {g : Nat} {ob : Obj}, wf.heap[g]? = some ob → g < wf.heap.size := fun hg => (Array.getElem?_eq_some_iff.1 hg).1
        have fxa : Fx base wf w' := a2'.fx (fun g hg _ => (pS g hg).2.2)
        have hver := ps.ver
        refine ⟨stay9.trans (StaysC.ofChg a2' (fun g hg => ⟨by have := hS'B g hg; omega, fun _ => (pS g hg).2.2⟩)), S2, L2, hist2, qr, cr, clr, sn, a1', hI9.chg.trans a2' (fun g hg => ?_), fun g hg => ?_, (a2'.block _ (lt hI9.a0) (nAB _ (by omega) (by omega))).trans hI9.a0, (a2'.block _ (lt hI9.a1) (nAB _ (by omega) (by omega))).trans hI9.a1, (a2'.block _ (lt hI9.c7) (nAB _ (by omega) (by omega))).trans hI9.c7, (a2'.block _ (lt hI9.c8) (nAB _ (by omega) (by omega))).trans hI9.c8, ⟨own_block hI9.own.own (fun g hg => a2'.block g (World.ownsRow.lt hI9.own.own g hg).2 (hI9.off g hg).1), fun y hy => (hI9.own.kept y hy).fx fxa⟩, fun g hg => ⟨fun hm => ?_, (hI9.off g hg).2⟩, by have := hI9.le; omega, fun he => ?_, ?_, ?_⟩
        · rcases hI9.news g hg with h | h
          · exact .inl h
          · exact .inr (by omega)
        · rcases a3' g hg with h | h
          · exact hI9.news g h
          · exact .inr (by omega)
        · rcases a3' g hm with h | h
          · exact (hI9.off g hg).1 h
          · have := (World.ownsRow.lt hI9.own.own g hg).2; omega
        · have := hI9.le
          rw [ps.same (by omega)]
          exact hrow9
        · have := take_nextO (L := listed 0 L0) (pre := pre) (x := x) hI9.prx (by rw [← ho]; exact gv1)
          rw [this, List.length_append]
          rfl
        · rw [List.length_append]
          exact hI9.way.next (listed_unlike ap0 0) gv1 ps
      clear hI9 hrow9 o9 k9 stay9 hzf hhh gv1 ho hSB hzC hol bw ap0 ok0 hA z1 st hwl hpot hev h0 h1 hb0 low hT hn0 b1 a0 a1 hzB zt bwt hwz hCt okk hmr hcw hrep hnmo hwy hwe hlm bwf apf okf fx9 hT9 HT9 H4
      gi_upto_region 9 with fail
      refine region_round (by rfl) (fun ⟨a, w, h⟩ => h) ?_
      go_wp2_with (refine wpList_load_by (by kernel_rfl) OT _ rfl (.pointer (some ⟨O, 0, none⟩)) (.agg D) (by rfl) LO.out ?_)
      refine CP.out.mono ?_
      rintro e w9 ⟨⟨v, rfl⟩, L2, hist2, af, ps⟩
      have FF := Lib.hid (FIN.out w9 L2 hist2 af ps)
      clear af ps FIN CP LO c0 cnw c77
      go_wp2_with fail
      gi_wp2
      exact FF.out
    | true =>
      obtain ⟨hId, oD, kD, bd, hzd, hhh, gv1, ho, hSB, hzC, hol⟩ := H4.out
      obtain ⟨we, hwe⟩ : ∃ x, x = wd.drew := ⟨_, rfl⟩
      have be : Below wd.heap.size wd we := hwe ▸ ((Gr.refl wd).drewN 1).below
      have ste := hId.st.gr be
      have hL' : L'.length ≤ 1000 := by
        have h1 := hId.way.pot
        have h2 := HH.out.2.2.2.2.2.2.2.1
        omega
      have CA2 := Lib.hid (rall_any base we S' sp 200 L' hist' ste hL')
      have FA : Hid (∀ ws : World, ws.cell? ⟨A, 0, none⟩ = some (.pointer (some ⟨sp, 0, none⟩)) → ws.cell? ⟨A, 0, none⟩ = some (.pointer (some ⟨sp, 0, none⟩))) := fun _ h => h
      have HWE : Hid (wd.drew = we ∧ we.cell? ⟨A, 0, none⟩ = some (.pointer (some ⟨sp, 0, none⟩))) := ⟨hwe.symm, cell_of_block ((be.block A (Array.getElem?_eq_some_iff.1 hId.a0).1).trans hId.a0) 0⟩
      have HBE := Lib.hid be
      clear hId oD kD bd hzd hhh gv1 ho hSB hzC hol hwe be ste hL' hb
      gi_upto_region 8 with fail
      refine region_round_held (S := fun ws => ws.cell? ⟨A, 0, none⟩ = some (.pointer (some ⟨sp, 0, none⟩))) mixed (by rfl) (fun ⟨a, w, h⟩ => h) (by rw [HWE.out.1]; exact HWE.out.2) (fun hS => ?_)
      rw [HWE.out.1] at hS ⊢
      refine wpAnyH_takeD (i := 0) (d := 28) (v := .pointer (some ⟨sp, 0, none⟩)) _ rfl rfl (by kernel_rfl) (by kernel_rfl) (by kernel_rfl) (fun _ _ _ h => h) (Or.inl ⟨by kernel_rfl, fun ws hSw => by have q := FA.out ws hSw; first | (go_simp; done) | (go_simp; with_reducible rfl) | (go_simp; rfl)⟩) hS ?_
      simp only [Act.put, List.setIfInBounds_toArray, List.set_cons_zero, List.set_cons_succ]
      refine wpAnyH_takeD (i := 2) (d := 30) (v := .pointer (some ⟨sp, 0, none⟩)) _ rfl rfl (by kernel_rfl) (by kernel_rfl) (by kernel_rfl) (fun _ _ _ h => h) (Or.inl ⟨by kernel_rfl, fun ws hSw => by have q := FA.out ws hSw; first | (go_simp; done) | (go_simp; with_reducible rfl) | (go_simp; rfl)⟩) hS ?_
      simp only [Act.put, List.setIfInBounds_toArray, List.set_cons_zero, List.set_cons_succ]
      refine wpAnyH_ready (rs := [1]) (by kernel_rfl) (by simp) ?_
      refine AllReadyH.cons rfl (fun K hK => ?_) AllReadyH.nil
      go_simp
      refine CA2.out.mono ?_
      rintro e wg ⟨⟨qr, cr, clr, rfl, hclr, ownr⟩, bg⟩
      obtain ⟨hId, oD, kD, bd, hzd, hhh, gv1, ho, hSB, hzC, hol⟩ := H4.out
      obtain ⟨bw, ap0, ok0, hA, z1, st, hwl, hpot, hev, h0, h1, hb0, low, hT, hn0, b1, a0, a1⟩ := HH.out
      obtain ⟨hzB, zt, bwt, hwz⟩ := HZ.out
      have hCt := HCW.out
      have hze := HBE.out.size
      have bdg : Below wd.heap.size wd wg := HBE.out.trans (bg.mono HBE.out.size)
      have hIg : PI base A S sp w L0 now n0 B C pre wg S' L' hist' q1 c1 cl1 seen := hId.to hSB hzB (fun g _ hlt => bdg.block g hlt) (Fx.ofBelow bdg) (hId.chg.trans (Chg.ofBelow bdg []) (by simp))
      obtain ⟨mr, hmr⟩ : ∃ m, m = clr.length := ⟨_, rfl⟩
      rw [← hmr]
      have CN2 := now_any base wg S' sp 200 L' hist' hIg.st
      rw [← hhh] at CN2
      have HCN2 := Lib.hid CN2
      have u7 : wg.cell? ⟨B, 0, none⟩ = some (.slice q1 cl1.length c1) := cell_of_block hIg.c7 0
      have f7 : wg.frozen? ⟨B, 0, none⟩ = false := unfrozen_of_block hIg.c7 0
      obtain ⟨wh, hwh⟩ : ∃ x, x = wg.setCell ⟨B, 0, none⟩ (.slice qr mr cr) := ⟨_, rfl⟩
      have Ch : Chg [B] wg wh := by rw [hwh]; exact (Chg.refl [B] wg).setCell 0 _ (.inl (by simp))
      have b7 : wh.heap[B]? = some (.cells #[.slice qr mr cr] SlO (0, 0)) := by rw [hwh, block_setCell hIg.c7]; rfl
      have lt : ∀ {g : Nat} {ob : Obj}, wg.heap[g]? = some ob → g < wg.heap.size := fun hg => (Array.getElem?_eq_some_iff.1 hg).1
      have b8 : wh.heap[B + 1]? = some (.cells #[.int .u64 (seen : Int)] 29 (0, 0)) := (Ch.block _ (lt hIg.c8) (by simp)).trans hIg.c8
      have u8 : wh.cell? ⟨B + 1, 0, none⟩ = some (.int .u64 (seen : Int)) := cell_of_block b8 0
      have f8 : wh.frozen? ⟨B + 1, 0, none⟩ = false := unfrozen_of_block b8 0
      obtain ⟨wf, hwf⟩ : ∃ x, x = wh.setCell ⟨B + 1, 0, none⟩ (.int .u64 (hh : Int)) := ⟨_, rfl⟩
      have Ci : Chg [B + 1] wh wf := by rw [hwf]; exact (Chg.refl [B + 1] wh).setCell 0 _ (.inl (by simp))
      have b9 : wf.heap[B + 1]? = some (.cells #[.int .u64 (hh : Int)] 29 (0, 0)) := by rw [hwf, block_setCell b8]; rfl
      have Cf : Chg [B, B + 1] wg wf := (Ch.less (S' := [B, B + 1]) (fun g hg => .inl (by simp at hg ⊢; omega))).trans Ci (fun g hg => .inl (by simp at hg ⊢; omega))
      have npf : ∀ g ∈ [B, B + 1], ¬ Prot base wg g := fun g hg => by
        simp at hg
        rcases hg with rfl | rfl
        · exact (cells_prot hIg.c7 (by omega) rfl).2.2
        · exact (cells_prot hIg.c8 (by omega) rfl).2.2
      have Ff : Fx base wg wf := Cf.fx (fun g hg _ => npf g hg)
      have bf : ∀ g, g < wg.heap.size → g ≠ B → g ≠ B + 1 → wf.heap[g]? = wg.heap[g]? := fun g hg h1 h2 => Cf.block g hg (by simp; omega)
      have nS : ∀ g ∈ S', g ≠ B ∧ g ≠ B + 1 := fun g hg => by
        rcases hId.news g hg with h | h
        · have := (st.prot g h).2.1; omega
        · omega
      have hO := (Array.getElem?_eq_some_iff.1 oD).1
      have kO : O ≠ B ∧ O ≠ B + 1 := by
        constructor
        · rintro rfl; have h := hId.c7; rw [oD] at h; cases h
        · rintro rfl; have h := hId.c8; rw [oD] at h; cases h
      have HT9 : Hid (PI base A S sp w L0 now n0 B C pre wf S' L' hist' qr cr clr hh ∧ clr.map (·.1.2) = listed 1 L' ∧ wf.heap[O]? = some (.cells D OT (0, 0)) ∧ Kept base wf D o ∧ StaysC base wt.heap.size C W2 wf ∧ C ≤ wf.heap.size) := by
        have hzg := bdg.size
        have hzf := Cf.size
        have hgr : ∀ g, (Value.slice qr clr.length cr).ownBlock = some g → we.heap.size ≤ g ∧ g < wg.heap.size := fun g hg => World.ownsRow.lt ownr.own g hg
        have sw := hId.chg.size
        refine ⟨⟨hIg.st.stay (fun g hg => bf g (hIg.st.prot g hg).2.1 (nS g hg).1 (nS g hg).2) Ff, hIg.chg.trans Cf (fun g hg => .inr (by simp at hg; omega)), hIg.news, (bf _ (lt hIg.a0) (by omega) (by omega)).trans hIg.a0, (bf _ (lt hIg.a1) (by omega) (by omega)).trans hIg.a1, ?_, b9, ⟨own_mono (own_block ownr.own (fun g hg => bf g (hgr g hg).2 (by have := hgr g hg; omega) (by have := hgr g hg; omega))) (by omega), fun y hy => (ownr.kept y hy).fx Ff⟩, fun g hg => ?_, by omega, fun _ => hclr, hIg.prx, hIg.way⟩, hclr, ?_, (kD.fx (Fx.ofBelow bdg)).fx Ff, (StaysC.ofBelow (bd.trans (bdg.mono bd.size))).trans (StaysC.ofChg Cf (fun g hg => ⟨.inl (by simp at hg; omega), fun _ => npf g hg⟩)), by omega⟩
        · rw [← hmr]
          exact (Ci.block B (Array.getElem?_eq_some_iff.1 b7).1 (by simp)).trans b7
        · have h1 := hgr g hg
          exact ⟨fun hm => by have := (hId.st.prot g hm).2.1; omega, by omega, by omega, .inr (by omega)⟩
        · exact (bf O (by omega) kO.1 kO.2).trans ((bdg.block O hO).trans oD)
      have HWF : Hid (wg.setCell ⟨B, 0, none⟩ (.slice qr mr cr) = wh ∧ wh.setCell ⟨B + 1, 0, none⟩ (.int .u64 (hh : Int)) = wf) := ⟨hwh.symm, hwf.symm⟩
      have HS : Hid (wg.cell? ⟨A, 0, none⟩ = some (.pointer (some ⟨sp, 0, none⟩)) ∧ wh.cell? ⟨A, 0, none⟩ = some (.pointer (some ⟨sp, 0, none⟩)) ∧ wf.cell? ⟨A, 0, none⟩ = some (.pointer (some ⟨sp, 0, none⟩))) :=
        ⟨cell_of_block hIg.a0 0, cell_of_block ((Ch.block A (lt hIg.a0) (by simp; omega)).trans hIg.a0) 0, cell_of_block ((bf _ (lt hIg.a0) (by omega) (by omega)).trans hIg.a0) 0⟩
      clear hclr ownr bg hId oD kD bd hzd hhh gv1 ho hSB hzC hol bw ap0 ok0 hA z1 st hwl hpot hev h0 h1 hb0 low hT hn0 b1 a0 a1 hzB zt bwt hwz hCt hze bdg hIg hmr CN2 hwh Ch b7 lt b8 hwf Ci b9 Cf npf Ff bf nS hO kO CA2 FA
      refine hK _ _ HS.out.1 (fun hS => ?_)
      try simp only [Act.put, List.setIfInBounds_toArray, List.set_cons_zero, List.set_cons_succ]
      refine wpAnyH_ready (rs := [3]) (by kernel_rfl) (by simp) ?_
      refine AllReadyH.cons rfl (fun K hK => ?_) AllReadyH.nil
      go_simp
      refine HCN2.out.mono ?_
      rintro e w' ⟨rfl, hw'⟩
      rw [hw']
      clear hw'
      refine hK _ _ HS.out.1 (fun hS => ?_)
      try simp only [Act.put, List.setIfInBounds_toArray, List.set_cons_zero, List.set_cons_succ]
      refine wpAnyH_ready (rs := [4]) (by kernel_rfl) (by simp) ?_
      refine AllReadyH.cons rfl (fun K hK => ?_) AllReadyH.nil
      go_simp
      rw [HWF.out.1]
      refine hK _ _ HS.out.2.1 (fun hS => ?_)
      try simp only [Act.put, List.setIfInBounds_toArray, List.set_cons_zero, List.set_cons_succ]
      refine wpAnyH_ready (rs := [5]) (by kernel_rfl) (by simp) ?_
      refine AllReadyH.cons rfl (fun K hK => ?_) AllReadyH.nil
      go_simp
      rw [HWF.out.2]
      refine hK _ _ HS.out.2.2 (fun hS => ?_)
      try simp only [Act.put, List.setIfInBounds_toArray, List.set_cons_zero, List.set_cons_succ]
      refine wpAnyH_done (by kernel_rfl) ?_ _
      clear u7 f7 u8 f8 HCN2 HWF HS HWE HBE hS
      obtain ⟨sn, hsn⟩ : ∃ n, n = hh := ⟨_, rfl⟩
      rw [← hsn] at HT9
      clear hsn
      obtain ⟨hI9, hrow9, o9, k9, stay9, hzf⟩ := HT9.out
      obtain ⟨_, _, _, _, _, hhh, gv1, ho, hSB, hzC, hol⟩ := H4.out
      obtain ⟨bw, ap0, ok0, hA, z1, st, hwl, hpot, hev, h0, h1, hb0, low, hT, hn0, b1, a0, a1⟩ := HH.out
      obtain ⟨hzB, zt, bwt, hwz⟩ := HZ.out
      have hCt := HCW.out
      have okk := ok0 o hol.1
      obtain ⟨mr, hmr⟩ : ∃ m, m = clr.length := ⟨_, rfl⟩
      have hcw := (chk_wl okk.3 hol.2).2
      have hrep : o.w.rep = (repN o : Int) ∧ repN o ≤ 1000000 := by
        unfold c_w wlC withinB at hcw
        simp only [Bool.and_eq_true, decide_eq_true_eq] at hcw
        unfold repN
        omega
      have hnmo : okNm o.name = true := by
        unfold okNm
        rw [(chk_wl okk.3 hol.2).1, decide_eq_true (hwl o (List.mem_of_getElem? gv1))]
        rfl
      have hwy := hI9.way.pot
      have hwe := hI9.way.evs
      have hlm := lack_mem (L := L') (List.mem_of_getElem? gv1)
      obtain ⟨bwf, apf, okf⟩ := st_fine hI9.st
      have fx9 : Fx base w wf := hI9.chg.fx (fun g hg _ => (st.prot g hg).2.2)
      have hT9 : Tab wf := hT.below (by rw [hb0]; exact low.trans (fx9.below bw))
      have c0 : wf.cell? ⟨A, 0, none⟩ = some (.pointer (some ⟨sp, 0, none⟩)) := cell_of_block hI9.a0 0
      have cnw : wf.cell? ⟨A + 1, 0, none⟩ = some (.int .i64 now) := cell_of_block hI9.a1 0
      have c77 : wf.cell? ⟨B, 0, none⟩ = some (.slice qr mr cr) := by rw [hmr]; exact cell_of_block hI9.c7 0
      have LO := Lib.hid (load_ob o9 k9.obj.1)
      have CP := Lib.hid (rpass_any base wf S' sp L' hist' D o (repN o) qr mr cr (clr.map (·.1)) now hI9.st k9 okk hol.2 hrep.1 hrep.2 hnmo (by rw [List.length_map]; exact hmr) hI9.own.row
        (fun y hy => by
          obtain ⟨z, hz, rfl⟩ := List.mem_map.1 hy
          refine ⟨hI9.own.kept z hz, (okf z.1.2 ?_).nm⟩
          have hm2 : z.1.2 ∈ clr.map (·.1.2) := List.mem_map.2 ⟨z, hz, rfl⟩
          rw [hrow9] at hm2
          exact (listed_mem.1 hm2).1)
        (by
          have e : (clr.map (·.1)).map (·.2) = clr.map (·.1.2) := by rw [List.map_map]; rfl
          rw [e, hrow9]
          exact listed_perm 1 L') (by omega) (by omega) hT9 h0 h1)
      have FIN : Hid (∀ w' L2 hist2, After base wf w' S' sp 200 L2 hist2 → Passed o.name (repN o) L' L2 hist'.length hist2.length → StaysC base wt.heap.size C W2 w' ∧ PIs base A S sp w L0 now n0 B C (pre ++ [x]) w') := fun w' L2 hist2 ⟨S2, a1', a2', a3'⟩ ps => by
        have pS := hI9.st.prot
        have hS'B : ∀ g ∈ S', g < B + 4 ∨ C ≤ g := fun g hg => by
          rcases hI9.news g hg with h | h
          · exact .inl (hSB g h)
          · exact .inr h
        have nAB : ∀ g, A ≤ g → g < B + 4 → g ∉ S' := fun g h1 h2 hm => by
          rcases hI9.news g hm with h | h
          · have := (st.prot g h).2.1; omega
          · omega
        have lt : ∀ {g : Nat} {ob : Obj}, wf.heap[g]? = some ob → g < wf.heap.size := fun hg => (Array.getElem?_eq_some_iff.1 hg).1
        have fxa : Fx base wf w' := a2'.fx (fun g hg _ => (pS g hg).2.2)
        have hver := ps.ver
        refine ⟨stay9.trans (StaysC.ofChg a2' (fun g hg => ⟨by have := hS'B g hg; omega, fun _ => (pS g hg).2.2⟩)), S2, L2, hist2, qr, cr, clr, sn, a1', hI9.chg.trans a2' (fun g hg => ?_), fun g hg => ?_, (a2'.block _ (lt hI9.a0) (nAB _ (by omega) (by omega))).trans hI9.a0, (a2'.block _ (lt hI9.a1) (nAB _ (by omega) (by omega))).trans hI9.a1, (a2'.block _ (lt hI9.c7) (nAB _ (by omega) (by omega))).trans hI9.c7, (a2'.block _ (lt hI9.c8) (nAB _ (by omega) (by omega))).trans hI9.c8, ⟨own_block hI9.own.own (fun g hg => a2'.block g (World.ownsRow.lt hI9.own.own g hg).2 (hI9.off g hg).1), fun y hy => (hI9.own.kept y hy).fx fxa⟩, fun g hg => ⟨fun hm => ?_, (hI9.off g hg).2⟩, by have := hI9.le; omega, fun he => ?_, ?_, ?_⟩
        · rcases hI9.news g hg with h | h
          · exact .inl h
          · exact .inr (by omega)
        · rcases a3' g hg with h | h
          · exact hI9.news g h
          · exact .inr (by omega)
        · rcases a3' g hm with h | h
          · exact (hI9.off g hg).1 h
          · have := (World.ownsRow.lt hI9.own.own g hg).2; omega
        · have := hI9.le
          rw [ps.same (by omega)]
          exact hrow9
        · have := take_nextO (L := listed 0 L0) (pre := pre) (x := x) hI9.prx (by rw [← ho]; exact gv1)
          rw [this, List.length_append]
          rfl
        · rw [List.length_append]
          exact hI9.way.next (listed_unlike ap0 0) gv1 ps
      clear hI9 hrow9 o9 k9 stay9 hzf hhh gv1 ho hSB hzC hol bw ap0 ok0 hA z1 st hwl hpot hev h0 h1 hb0 low hT hn0 b1 a0 a1 hzB zt bwt hwz hCt okk hmr hcw hrep hnmo hwy hwe hlm bwf apf okf fx9 hT9 HT9 H4
      gi_upto_region 9 with fail
      refine region_round (by rfl) (fun ⟨a, w, h⟩ => h) ?_
      go_wp2_with (refine wpList_load_by (by kernel_rfl) OT _ rfl (.pointer (some ⟨O, 0, none⟩)) (.agg D) (by rfl) LO.out ?_)
      refine CP.out.mono ?_
      rintro e w9 ⟨⟨v, rfl⟩, L2, hist2, af, ps⟩
      have FF := Lib.hid (FIN.out w9 L2 hist2 af ps)
      clear af ps FIN CP LO c0 cnw c77
      go_wp2_with fail
      gi_wp2
      exact FF.out
  · intro Dm xs W hD hS ⟨C, hC, S1, L1, hist1, q1, c1, cl1, seen, hI⟩ hdef
    obtain ⟨bw, ap0, ok0, hA, z1, st, hwl, hpot, hev, h0, h1, hb0, low, hT, hn0, b1, a0, a1⟩ := HH.out
    obtain ⟨hzB, zt, bwt, hwz⟩ := HZ.out
    obtain ⟨E, hE⟩ : ∃ E, E = W.heap.size := ⟨_, rfl⟩
    obtain ⟨wu, hwu⟩ : ∃ x, x = (W.alloc (.cells #[.pointer (some ⟨sp, 0, none⟩)] 23)).alloc (.cells #[.int .i64 1] 3) := ⟨_, rfl⟩
    have Gu : Gr W wu := hwu ▸ ((Gr.refl W).alloc _).alloc _
    have zu : wu.heap.size = E + 2 := by rw [hwu, hE]; simp
    have e1 : wu.heap[E]? = some (.cells #[.pointer (some ⟨sp, 0, none⟩)] 23 (0, 0)) := by
      rw [hwu, hE, ((Gr.refl (W.alloc (.cells #[.pointer (some ⟨sp, 0, none⟩)] 23))).alloc _).heap (by simp)]
      exact heap_alloc_new W _
    have e2 : wu.heap[E + 1]? = some (.cells #[.int .i64 1] 3 (0, 0)) := by
      rw [hwu, hE]
      have := heap_alloc_new (W.alloc (.cells #[.pointer (some ⟨sp, 0, none⟩)] 23)) (.cells #[.int .i64 1] 3)
      simpa using this
    have CL2 := Lib.hid (list_any W (.pointer (some ⟨sp, 0, none⟩)) 1 ⟨_, rfl⟩)
    have hwp := hI.way.pot
    have hwe := hI.way.evs
    have hws := hI.chg.size
    obtain ⟨bW, ap1, ok1⟩ := st_fine hI.st
    have TN2 := list_tellsC (6 - 1) base wu S1 sp E 200 1 L1 hist1 (hI.st.gr Gu.below) (cell_of_block e1 0) (cell_of_block e2 0) (by omega) (by omega)
    have HTN2 := Lib.hid TN2
    have lt : ∀ {g : Nat} {ob : Obj}, W.heap[g]? = some ob → g < W.heap.size := fun hg => (Array.getElem?_eq_some_iff.1 hg).1
    have J0 : Hid (∀ C, wu.heap.size ≤ C → PJs base A S1 sp W L1 hist1.length Dm C [] wu) := fun C hC => by
      refine ⟨S1, hist1, ?_, Chg.ofBelow Gu.below S1, fun g hg => .inl hg, (Gu.heap (lt hI.a0)).trans hI.a0, (Gu.heap (lt hdef)).trans hdef, by simp, by simp [orphs]⟩
      have e : orphs L1 ((listed 1 L1).take ([] : List Co).length) = [] := by simp [orphs]
      rw [e, keepR_nil]
      exact hI.st.gr Gu.below
    have k0 : W.cell? ⟨A, 0, none⟩ = some (.pointer (some ⟨sp, 0, none⟩)) := cell_of_block hI.a0 0
    have HWU : Hid ((W.alloc (.cells #[.pointer (some ⟨sp, 0, none⟩)] 23)).alloc (.cells #[.int .i64 1] 3) = wu ∧ W.heap.size = E) := ⟨hwu.symm, hE.symm⟩
    have hWAY : Way L0 (listed 0 L0) (listed 0 L0).length L1 n0 hist1.length := by
      have h1 := congrArg List.length hS
      rw [List.length_map] at h1
      rw [← h1]
      exact hI.way
    have HK := Lib.hid (And.intro hI.st (And.intro hI.chg (And.intro hI.news (And.intro hI.a0 (And.intro hdef (And.intro (show wt.heap.size ≤ Dm from hD) (And.intro hC (And.intro hWAY (And.intro ap1 (And.intro ok1 (And.intro bW (And.intro Gu.below (And.intro zu (And.intro (show E = W.heap.size from hE) (And.intro hws (And.intro (lt hdef) (lt hI.a0)))))))))))))))))
    obtain ⟨n1, hn1⟩ : ∃ n, n = hist1.length := ⟨_, rfl⟩
    rw [← hn1] at J0
    have HN1 := Lib.hid hn1
    clear bw ap0 ok0 hA z1 st hwl hpot hev h0 h1 hb0 low hT hn0 b1 a0 a1 hzB zt bwt hwz hE hwu Gu zu e1 e2 hwp hwe hws bW ap1 ok1 TN2 lt hI hS hdef hD hC hWAY HTN I0 hn1
    go_wp2_with fail
    refine CL2.out.mono ?_
    rintro e w' ⟨rfl, hw'⟩
    rw [HWU.out.2]
    rw [hw', HWU.out.1]
    clear hw' CL2 k0
    go_wp2_with fail
    refine (wpIn_wide (n := 6)).1 ?_
    refine wpIn_toldC (α := Co) (n := 6) (by decide) (gf := 14) (lb := #[.pointer (some ⟨E, 0, none⟩), .pointer (some ⟨E + 1, 0, none⟩)]) rfl (enters_of Tryz.func14 (by kernel_rfl) rfl) HTN2.out (Below.refl _ _) (fun _ => rfl) (by have := HK.out.2.2.2.2.2.2.2.2.2.2; omega) (fun pre x A A' h f => ⟨h.1, h.2.fx f⟩)
      (PJs base A S1 sp W L1 n1 Dm) (fun _ _ _ _ => False) ?_ (fun c C s A A' T h _ _ => h.elim) J0.out ?_ ?_ (fun _ _ _ _ _ _ h _ => h.elim (fun _ h => h.elim))
    · intro C
      exact pjs_bears base A S1 sp W L1 n1 Dm C wu.heap.size (by have := HK.out.2.2.2.2.2.2.2.2.2.2; omega) (by have := HK.out.2.2.2.2.2.2.2.2.2.2; omega)
    · intro l2 C2 pre x V hi hgv hlB hlC hCW
      rw [zip_one]
      obtain ⟨D, hD⟩ : ∃ D, D = x.1.1.1 := ⟨_, rfl⟩
      obtain ⟨o, ho⟩ : ∃ o, o = x.1.2 := ⟨_, rfl⟩
      have hkx := hgv.2
      rw [← hD] at hkx ⊢
      rw [← ho] at hkx
      have z0 : (V.alloc (.cells zerC OT)).heap[V.heap.size]? = some (.cells zerC OT (0, 0)) := heap_alloc_new V _
      obtain ⟨th, n0', fx1, c1'⟩ := store_ob (base := V.heap.size) z0 rfl hkx.obj.1 (Nat.le_refl _)
      obtain ⟨wv, hwv⟩ : ∃ W', W' = (V.alloc (.cells zerC OT)).setCells V.heap.size 0 D.toList := ⟨_, rfl⟩
      obtain ⟨O, hO⟩ : ∃ A, A = V.heap.size := ⟨_, rfl⟩
      rw [← hwv] at n0' c1'
      have b3 : Below V.heap.size V wv := by
        have g : Gr V (V.alloc (.cells zerC OT)) := (Gr.refl V).alloc _
        exact ((Xb.ofGr g V.heap.size).trans ⟨c1'.os, c1'.tape, c1'.output, c1'.size, fun k hk hne => c1'.block k hk (by simpa using hne)⟩).below (Nat.le_refl _) (Nat.le_refl _)
      rw [← hO] at n0'
      have TH := Lib.hid th
      have IN : Hid ((Tryz.prog.info? OT).map (·.size) = some D.size) := by show _ = _; rw [hkx.obj.1]; exact info_ob47
      have ON := Lib.hid (objV_one hkx.obj)
      have HWV : Hid ((V.alloc (.cells zerC OT)).setCells V.heap.size 0 D.toList = wv ∧ V.heap.size = O) := ⟨hwv.symm, hO.symm⟩
      have H3 := Lib.hid (And.intro n0' (And.intro b3 (And.intro hi (And.intro hgv.1 (And.intro hkx ho)))))
      clear hkx z0 th n0' fx1 c1' hwv hO b3 hi hgv hD ho
      refine region_round (by rfl) (fun ⟨a, w, h⟩ => h) ?_
      go_wp2_with (refine wpList_store_mid rfl _ _ _ rfl V.heap.size 0 D (by rfl) (by rfl) TH.out IN.out ON.out ?_; rw [HWV.out.1, HWV.out.2])
      refine ⟨StaysC.ofBelow H3.out.2.1, fun V2 c2 f2 => ?_⟩
      obtain ⟨n3, b3, ⟨S', hist', hJ⟩, gv1, gv2, ho⟩ := H3.out
      obtain ⟨kst, kchg, knews, ka0, kdef, kD, kC, kway, kap, kok, kbW, kGu, kzu, kE, kws, kDl, kAl⟩ := HK.out
      have hO : V.heap.size = O := HWV.out.2
      rw [← ho] at gv1
      have out : ∀ g, g < wv.heap.size → g ≠ l2 → V2.heap[g]? = wv.heap[g]? := fun g h1 h2 => c2.block g h1 (by simpa using h2)
      have z3 := b3.size
      have z2 := c2.size
      have hSE : ∀ g ∈ S1, g < E := fun g hg => by have := (kst.prot g hg).2.1; omega
      have hJ2 : PJ base A S1 sp W L1 n1 Dm C2 pre V2 S' hist' := hJ.to (G := E) hSE ⟨by omega, by omega⟩ (fun g hg hlt => (out g (by omega) (by omega)).trans (b3.block g hlt)) ((Fx.ofBelow b3).trans f2) ((hJ.chg.trans (Chg.ofBelow b3 []) (by simp)).trans c2 (fun g hg => .inr (by rw [List.mem_singleton] at hg; omega)))
      have o2 : V2.heap[O]? = some (.cells D OT (0, 0)) := (out O (Array.getElem?_eq_some_iff.1 n3).1 (by omega)).trans n3
      have kDD : Kept base V2 D o := (gv2.fx (Fx.ofBelow b3)).fx f2
      obtain ⟨own, hown⟩ : ∃ s, s = o.p.own := ⟨_, rfl⟩
      obtain ⟨nm, hnm⟩ : ∃ s, s = o.name := ⟨_, rfl⟩
      obtain ⟨th, hth⟩ : ∃ b, b = L1.any (hit 0 own) := ⟨_, rfl⟩
      have CG := Lib.hid (get_any base V2 S' sp 200 _ hist' 0 own hJ2.st (by unfold I64; decide) (by rw [hown]; have := ftT_iff.1 kDD.fits.p_own; unfold maxLen; omega))
      rw [any_keep, ← hth] at CG
      have c0 : V2.cell? ⟨A, 0, none⟩ = some (.pointer (some ⟨sp, 0, none⟩)) := cell_of_block hJ2.a0 0
      have cw : V2.cell? ⟨O, 10, none⟩ = some (.string own) := (cell_of_block o2 10).trans (by rw [hown]; exact kDD.obj.2.2.2.1.1)
      have hol := listed_mem.1 (List.mem_of_getElem? gv1)
      have hev' : hist'.length ≤ 2000 := by
        have h1 := hJ.evs
        have h2 : (orphs L1 ((listed 1 L1).take pre.length)).length ≤ L1.length := by
          unfold orphs
          rw [List.length_map]
          have h3 := List.length_filter_le (orphan L1) ((listed 1 L1).take pre.length)
          rw [List.length_take] at h3
          have h4 := listed_len (l := L1) 1
          omega
        have h5 := kway.evs
        have h6 := kway.pot
        have h7 := HH.out.2.2.2.2.2.2.2.1
        have h8 := HH.out.2.2.2.2.2.2.2.2.1
        have h9 := HH.out.2.2.2.2.2.2.2.2.2.2.2.2.2.2.1
        have h10 := HN1.out
        omega
      have H4 := Lib.hid (And.intro hJ2 (And.intro o2 (And.intro kDD (And.intro hown (And.intro hnm (And.intro hth (And.intro gv1 (And.intro ho (And.intro hSE (And.intro hev' (And.intro hol (And.intro (show C2 ≤ O by omega) (And.intro (show wu.heap.size ≤ C2 by omega) (show wu.heap.size = E + 2 ∧ Dm < E ∧ A < E by omega))))))))))))))
      clear n3 b3 hJ gv1 gv2 ho kst kchg knews ka0 kdef kD kC kway kap kok kbW kGu kzu kE kws kDl kAl hO out z3 z2 hSE hJ2 o2 kDD hown hnm hth hol hev' c2 f2 TH IN ON HWV H3 hlB hlC hCW
      gi_upto_region 12 with fail
      refine region_round (by rfl) (fun ⟨a, w, h⟩ => h) ?_
      go_wp2_with fail
      refine CG.out.mono ?_
      rintro e w5 ⟨⟨Vv, rfl, hVs, hVo, -⟩, b5⟩
      have z0 : (w5.alloc (.cells zerC OT)).heap[w5.heap.size]? = some (.cells zerC OT (0, 0)) := heap_alloc_new w5 _
      obtain ⟨th', n0', fx1, c1'⟩ := store_ob (base := w5.heap.size) z0 rfl hVs (Nat.le_refl _)
      obtain ⟨w6, hw6⟩ : ∃ W', W' = (w5.alloc (.cells zerC OT)).setCells w5.heap.size 0 Vv.toList := ⟨_, rfl⟩
      obtain ⟨F, hF⟩ : ∃ A, A = w5.heap.size := ⟨_, rfl⟩
      rw [← hw6] at n0' c1'
      have b6 : Below w5.heap.size w5 w6 := by
        have g : Gr w5 (w5.alloc (.cells zerC OT)) := (Gr.refl w5).alloc _
        exact ((Xb.ofGr g w5.heap.size).trans ⟨c1'.os, c1'.tape, c1'.output, c1'.size, fun k hk hne => c1'.block k hk (by simpa using hne)⟩).below (Nat.le_refl _) (Nat.le_refl _)
      have TH := Lib.hid th'
      have IN : Hid ((Tryz.prog.info? OT).map (·.size) = some Vv.size) := by show _ = _; rw [hVs]; exact info_ob47
      have ON : Hid (Vv.all (·.oneCell') = true) := hVo
      have HW6 : Hid ((w5.alloc (.cells zerC OT)).setCells w5.heap.size 0 Vv.toList = w6 ∧ w5.heap.size = F) := ⟨hw6.symm, hF.symm⟩
      have B26 : Below V2.heap.size V2 w6 := b5.trans (b6.mono b5.size)
      obtain ⟨hJ2, o2, kDD, hown, hnm, hth, gv1, ho, hSE, hev', hol, hCO, hzC, hzE, hDE, hAE⟩ := H4.out
      have hJ6 : PJ base A S1 sp W L1 n1 Dm C2 pre w6 S' hist' := hJ2.to (G := E) hSE ⟨hAE, hDE⟩ (fun g _ hlt => B26.block g hlt) (Fx.ofBelow B26) (hJ2.chg.trans (Chg.ofBelow B26 []) (by simp))
      have o6 : w6.heap[O]? = some (.cells D OT (0, 0)) := (B26.block O (Array.getElem?_eq_some_iff.1 o2).1).trans o2
      have HJ6 := Lib.hid (And.intro hJ6 B26)
      have c6 : w6.cell? ⟨A, 0, none⟩ = some (.pointer (some ⟨sp, 0, none⟩)) := cell_of_block hJ6.a0 0
      have cn : w6.cell? ⟨O, 1, none⟩ = some (.string nm) := (cell_of_block o6 1).trans (by rw [hnm]; exact (kDD.fx (Fx.ofBelow B26)).obj.2.1.2.1)
      have px : (pre ++ [x]).map (·.1.2) = (listed 1 L1).take (pre ++ [x]).length := by
        have := take_nextO (L := listed 1 L1) (pre := pre) (x := x) hJ2.prx (by rw [← ho]; exact gv1)
        rw [this, List.length_append]
        rfl
      have on := orphs_next (L := L1) gv1
      have HPX := Lib.hid (And.intro px on)
      clear z0 th' n0' fx1 c1' hw6 hF b6 hVs hVo B26 b5 hJ2 o2 kDD hown hnm hth gv1 ho hSE hev' hol hCO hzC hzE hDE hAE hJ6 o6 px on CG cw c0
      go_wp2_with (refine wpList_store_mid rfl _ _ _ rfl w5.heap.size 0 Vv (by rfl) (by rfl) TH.out IN.out ON.out ?_; rw [HW6.out.1, HW6.out.2])
      clear TH IN ON HW6
      gi_upto_region 13 with fail
      refine region_round (by rfl) (fun ⟨a, w, h⟩ => h) ?_
      go_wp2_with fail
      cases th with
      | true =>
        have FIN : Hid (StaysC base wu.heap.size C2 V2 w6 ∧ PJs base A S1 sp W L1 n1 Dm C2 (pre ++ [x]) w6) := by
          obtain ⟨hJ2, o2, kDD, hown, hnm, hth, gv1, ho, hSE, hev', hol, hCO, hzC, hzE, hDE, hAE⟩ := H4.out
          obtain ⟨hJ6, B26⟩ := HJ6.out
          obtain ⟨px, on⟩ := HPX.out
          have ho2 : orphan L1 o = false := by unfold orphan; rw [← hown, ← hth]; rfl
          rw [ho2] at on
          have e : orphs L1 ((listed 1 L1).take (pre ++ [x]).length) = orphs L1 ((listed 1 L1).take pre.length) := by
            rw [List.length_append]
            exact on.trans (by simp)
          exact ⟨StaysC.ofBelow B26, S', hist', by rw [e]; exact hJ6.st, hJ6.chg, hJ6.news, hJ6.a0, hJ6.mrk, px, by rw [e]; exact hJ6.evs⟩
        clear c6 cn HPX HJ6 H4
        gi_wp2
        exact FIN.out
      | false =>
        obtain ⟨hJ2, o2, kDD, hown, hnm, hth, gv1, ho, hSE, hev', hol, hCO, hzC, hzE, hDE, hAE⟩ := H4.out
        obtain ⟨hJ6, B26⟩ := HJ6.out
        obtain ⟨px, on⟩ := HPX.out
        obtain ⟨kst, kchg, knews, ka0, kdef, kD, kC, kway, kap, kok, kbW, kGu, kzu, kE, kws, kDl, kAl⟩ := HK.out
        have ho2 : orphan L1 o = true := by unfold orphan; rw [← hown, ← hth]; rfl
        rw [ho2] at on
        have e : orphs L1 ((listed 1 L1).take (pre ++ [x]).length) = orphs L1 ((listed 1 L1).take pre.length) ++ [nm] := by
          rw [List.length_append, hnm]
          exact on
        have hde : delE 1 nm 0 (L1.filter (keepR (orphs L1 ((listed 1 L1).take pre.length)))) = 0 := by
          have h1 := orph_del kap gv1
          rw [← hnm] at h1
          unfold delE
          rw [if_neg (by decide)]
          cases hf : (L1.filter (keepR (orphs L1 ((listed 1 L1).take pre.length)))).find? (hit 1 nm) with
          | none => exact absurd hf h1
          | some y => simp
        have CD := delete_any base w6 S' sp 200 (L1.filter (keepR (orphs L1 ((listed 1 L1).take pre.length)))) hist' 1 nm 0 hJ6.st (by omega) ⟨by decide, by decide⟩ (by rw [hnm]; exact (kok o hol.1).nm)
        rw [hde, del_next kap, ← e] at CD
        have HCD := Lib.hid CD
        have FIN : Hid (∀ w' ev, After base w6 w' S' sp 200 (L1.filter (keepR (orphs L1 ((listed 1 L1).take (pre ++ [x]).length)))) (hist' ++ [ev]) → StaysC base wu.heap.size C2 V2 w' ∧ PJs base A S1 sp W L1 n1 Dm C2 (pre ++ [x]) w') := fun w' ev ⟨S2, a1', a2', a3'⟩ => by
          have pS := hJ6.st.prot
          have hSc : ∀ g ∈ S', g < wu.heap.size ∨ C2 ≤ g := fun g hg => by
            rcases hJ6.news g hg with h | h
            · exact .inl (by have := hSE g h; omega)
            · exact .inr h
          have lt : ∀ {g : Nat} {ob : Obj}, w6.heap[g]? = some ob → g < w6.heap.size := fun hg => (Array.getElem?_eq_some_iff.1 hg).1
          have hAS : A ∉ S' := fun hm => by
            rcases hJ6.news A hm with h | h
            · exact st_cell kst ka0 h
            · omega
          have z26 := B26.size
          have hOl := (Array.getElem?_eq_some_iff.1 o2).1
          refine ⟨(StaysC.ofBelow B26).trans (StaysC.ofChg a2' (fun g hg => ⟨hSc g hg, fun _ => (pS g hg).2.2⟩)), S2, _, a1', hJ6.chg.trans a2' (fun g hg => ?_), fun g hg => ?_, (a2'.block A (lt hJ6.a0) hAS).trans hJ6.a0, (a2'.block Dm (lt hJ6.mrk) (st_mark hJ6.st hJ6.mrk)).trans hJ6.mrk, px, ?_⟩
          · rcases hJ6.news g hg with h | h
            · exact .inl h
            · exact .inr (by omega)
          · rcases a3' g hg with h | h
            · exact hJ6.news g h
            · exact .inr (by omega)
          · rw [e, List.length_append, List.length_append, hJ6.evs]
            simp
            omega
        clear hJ2 o2 kDD hown hnm hth gv1 ho hSE hev' hol hCO hzC hzE hDE hAE hJ6 B26 px on kst kchg knews ka0 kdef kD kC kway kap kok kbW kGu kzu kE kws kDl kAl ho2 e hde CD HPX HJ6 H4
        gi_upto_region 14 with fail
        refine region_round (by rfl) (fun ⟨a, w, h⟩ => h) ?_
        go_wp2_with fail
        refine HCD.out.mono ?_
        rintro e w7 (⟨h, _⟩ | ⟨_, rfl, af⟩)
        · exact absurd rfl h
        · have FF := Lib.hid (FIN.out w7 _ af)
          clear af FIN HCD c6 cn
          go_wp2_with fail
          gi_wp2
          exact FF.out
    · intro D2 ys V hD2 hS2 ⟨C2, hC2, S2, hist2, hJ⟩ hdef2
      obtain ⟨bw, ap0, ok0, hA, z1, st, hwl, hpot, hev, h0, h1, hb0, low, hT, hn0, b1, a0, a1⟩ := HH.out
      obtain ⟨hzB, zt, bwt, hwz⟩ := HZ.out
      obtain ⟨kst, kchg, knews, ka0, kdef, kD, kC, kway, kap, kok, kbW, kGu, kzu, kE, kws, kDl, kAl⟩ := HK.out
      obtain ⟨L2, hL2⟩ : ∃ L2, L2 = L1.filter (keepR (orphs L1 (listed 1 L1))) := ⟨_, rfl⟩
      have hys : (listed 1 L1).take ys.length = listed 1 L1 := by
        have h1 := congrArg List.length hS2
        rw [List.length_map] at h1
        rw [h1, List.take_length]
      have s2 := hJ.st
      rw [hys, ← hL2] at s2
      have hv := hJ.evs
      rw [hys, HN1.out] at hv
      have OV := over_of kap kway hv
      rw [← hL2] at OV
      have hoe := OV.evs
      have CS := Lib.hid (since_any base V S2 sp 200 L2 hist2 n0 s2 (by omega) hoe.1 (by omega))
      have c0 : V.cell? ⟨A, 0, none⟩ = some (.pointer (some ⟨sp, 0, none⟩)) := cell_of_block hJ.a0 0
      have ch1 : Chg S w V := kchg.trans hJ.chg (fun g hg => by
        rcases knews g hg with h | h
        · exact .inl h
        · exact .inr (by omega))
      have nw1 : ∀ g ∈ S2, g ∈ S ∨ w.heap.size ≤ g := fun g hg => by
        rcases hJ.news g hg with h | h
        · rcases knews g h with h | h
          · exact .inl h
          · exact .inr (by omega)
        · exact .inr (by omega)
      have FIN := Lib.hid (And.intro s2 (And.intro OV (And.intro ch1 (And.intro nw1 (And.intro hJ.mrk (And.intro hdef2 (And.intro (show Dm < D2 by omega) (And.intro (show w.heap.size ≤ Dm by omega) (show base ≤ Dm by omega)))))))))
      clear bw ap0 ok0 hA z1 st hwl hpot hev h0 h1 hb0 low hT b1 a0 a1 hzB zt bwt hwz kst kchg knews ka0 kdef kD kC kway kap kok kbW kGu kzu kE kws kDl kAl hL2 hys s2 hv OV hoe ch1 nw1 hJ hS2 hdef2 hD2 hC2 HTN2 J0
      have HN0 := Lib.hid hn0
      clear hn0
      go_wp2_with fail
      refine CS.out.mono ?_
      rintro e w5 ⟨⟨v, rfl, own⟩, b5⟩
      obtain ⟨q, c, rfl⟩ := own_slice own
      obtain ⟨m, hm⟩ : ∃ m, m = (hist2.drop n0).length := ⟨_, rfl⟩
      rw [← hm]
      have HM := Lib.hid (And.intro hm b5)
      clear own hm b5 CS c0
      go_wp2_with fail
      obtain ⟨s2, OV, ch1, nw1, mk1, mk2, hDD, hwD, hbD⟩ := FIN.out
      obtain ⟨hm, b5⟩ := HM.out
      have d1 : w5.heap[Dm]? = some (.deferred (some [])) := (b5.block Dm (Array.getElem?_eq_some_iff.1 mk1).1).trans mk1
      have d2 : w5.heap[D2]? = some (.deferred (some [])) := (b5.block D2 (Array.getElem?_eq_some_iff.1 mk2).1).trans mk2
      refine leaves_marks (F := Fence.wide) (n := 6) (P := Tryz.prog) (fn := Tryz.f8) [D2, Dm] w5 (by simp; omega) (fun D hD => by simp at hD; rcases hD with rfl | rfl; exact d2; exact d1) (fun w'' c'' => ?_)
      obtain ⟨s5, f5⟩ := Po.stIs_idle (s2.gr b5) c'' (fun g hg => by simp at hg; rcases hg with rfl | rfl; exact ⟨by omega, d2⟩; exact ⟨by omega, d1⟩)
      refine ⟨_, results_tmp2 rfl _ _ _, q, c, L2, hist2, ?_, ⟨S2, s5, (ch1.trans (Chg.ofBelow b5 []) (by simp)).trans c'' (fun g hg => .inr ?_), nw1⟩, by rw [← HN0.out]; exact OV⟩
      · rw [hm, List.length_drop, HN0.out]
        rfl
      · simp at hg
        omega
end Go.Proofs.YtbkoepghmcdnhaaGreatDoor.Rp
