/- The event of a change is kept. -/
import Derived.Test.YtacgbagcddjlnaaStB
import Derived.Deep.AppendLies
namespace Go.Proofs.Ytacgbagcddjlnaa
open Go.RowKit Go.Shelf Go.Lib Go.Sort
open Go.Joins (cell_of_block unfrozen_of_block block_setCell)
set_option linter.unusedVariables false
set_option linter.unusedSimpArgs false
set_option maxRecDepth 20000

/-- A store's own cells. -/
def stC (most : Int) (now : Nat) (mb : Nat) (ev : Value) : Array Value := #[.int .i64 most, .int .u64 (now : Int), .map (some mb), ev]
theorem own_slice {w : World} {N : Nat} {E : TypeId} {k n : Nat} {v : Value} {xs : List Value} (h : w.ownsRow N E k v n xs) : ∃ q c, v = .slice q n c := by
  rcases h.2 with ⟨rfl, rfl⟩ | ⟨g, cap, cur, rfl, _⟩
  · exact ⟨_, _, rfl⟩
  · exact ⟨_, _, rfl⟩
theorem own_ne {w : World} {N : Nat} {E T : TypeId} {k n sp : Nat} {v : Value} {xs : List Value} {cs : Array Value} {fz : Nat × Nat} (h : w.ownsRow N E k v n xs) (hs : w.heap[sp]? = some (.cells cs T fz)) (hne : T ≠ E) : v.ownBlock ≠ some sp := by
  rcases h.2 with ⟨rfl, rfl⟩ | ⟨g, cap, cur, rfl, _, hg, _⟩
  · intro e; cases e
  · intro e
    simp [Value.ownBlock] at e
    subst e
    rw [hs] at hg
    simp only [Option.some.injEq, Obj.cells.injEq] at hg
    exact hne hg.2.1

theorem setAt_out : ∀ (vs : List Value) (L : Array Value) (i j : Nat), (j < i ∨ i + vs.length ≤ j) → (setAt L i vs)[j]? = L[j]?
  | [], L, i, j, h => rfl
  | v :: r, L, i, j, h => by
    simp only [List.length_cons] at h
    rw [setAt, setAt_out r _ (i + 1) j (by omega), Array.getElem?_setIfInBounds_ne (by omega)]
/-- One thing of a row of the call's own is written anew. -/
theorem own_set {α : Type} {enc : α → List Value} {k base : Nat} {E : TypeId} (hk : ∀ x, (enc x).length = k) {w : World} {v : Value} {l : List α} (h : w.ownsRow base E k v l.length (flat enc l)) {p : Nat} (hp : p < l.length) (x : α) :
    ∃ g c, v = .slice (some ⟨g, 0, none⟩) l.length c ∧ base ≤ g ∧ g < w.heap.size ∧ (w.setCells g (p * k) (enc x)).ownsRow base E k v l.length (flat enc (l.set p x)) ∧ w.there g (p * k) k := by
  obtain ⟨h0, h⟩ := h
  rcases h with ⟨_, h⟩ | ⟨g, cap, cur, rfl, hb, hg, hn, hm, hc, ht⟩
  · omega
  · have hpk : p * k + k ≤ l.length * k := by rw [← Nat.succ_mul]; exact Nat.mul_le_mul_right _ hp
    have hlk : l.length * k ≤ cap * k := Nat.mul_le_mul_right _ hn
    refine ⟨g, cap, rfl, hb, (Array.getElem?_eq_some_iff.1 hg).1, ⟨by rw [flat_length hk, List.length_set], .inr ⟨g, cap, setAt cur (p * k) (enc x), rfl, hb, setCells_block _ _ _ _ _ _ _ hg, hn, hm, by rw [setAt_size, hc], ?_⟩⟩, fun t htk => ⟨?_, unfrozen_of_block hg _⟩⟩
    · apply List.ext_getElem?
      intro j
      rw [List.getElem?_take]
      split
      · rename_i hj
        rw [Array.getElem?_toList]
        have hk0 : 0 < k := by
          rcases Nat.eq_zero_or_pos k with e | e
          · subst e; omega
          · exact e
        have hi : j / k < l.length := Nat.div_lt_of_lt_mul (by rw [Nat.mul_comm]; exact hj)
        have hr : j % k < k := Nat.mod_lt _ hk0
        have ej : j = j / k * k + j % k := by rw [Nat.mul_comm]; exact (Nat.div_add_mod j k).symm
        by_cases e : j / k = p
        · rw [e] at ej
          have := flat_at hk (l.set p x) p (j % k) x (List.getElem?_set_self hp) hr
          rw [ej, this, setAt_get _ _ _ _ (by rw [hk]; exact hr) (by rw [hk]; omega)]
        · have hjj : j < p * k ∨ p * k + k ≤ j := by
            rcases Nat.lt_or_gt_of_ne e with e1 | e1
            · left
              have : (j / k + 1) * k ≤ p * k := Nat.mul_le_mul_right _ e1
              rw [Nat.add_mul] at this
              omega
            · right
              have : (p + 1) * k ≤ j / k * k := Nat.mul_le_mul_right _ e1
              rw [Nat.add_mul] at this
              omega
          rw [setAt_out _ _ _ _ (by rw [hk]; exact hjj)]
          have a1 := flat_at hk l (j / k) (j % k) _ (List.getElem?_eq_getElem hi) hr
          have a2 := flat_at hk (l.set p x) (j / k) (j % k) l[j / k] (by rw [List.getElem?_set_ne (fun e2 => e e2.symm)]; exact List.getElem?_eq_getElem hi) hr
          rw [← ej] at a1 a2
          rw [a2, ← a1, ← ht, List.getElem?_take, if_pos hj, Array.getElem?_toList]
      · rename_i hj
        rw [List.getElem?_eq_none]
        rw [flat_length hk, List.length_set]
        omega
    · rw [cell_of_block hg]
      rw [Array.getElem?_eq_getElem (by omega)]
      rfl

theorem noted {base : Nat} {w wa w4 : World} {sp g cap mb now : Nat} {most : Int} {ev : Value} {kept : List Ev} {e : Ev} (ha : Chg [sp] w wa) (h4 : w4.heap[sp]? = some (.cells (stC most (now + 1) mb ev) ST (0, 0)))
    (ho : w4.ownsRow base ET 4 (.slice (some ⟨g, 0, none⟩) (kept.length + 1) cap) (kept.length + 1) (flat encE kept ++ encE e)) (hg : wa.grownBy w4 ev.ownBlock) (hat : ev.ownBlock = some g ∨ g = wa.heap.size) :
    (∃ ev', (w4.setCell ⟨sp, 3, none⟩ (.slice (some ⟨g, 0, none⟩) (kept.length + 1) cap)).heap[sp]? = some (.cells (stC most (now + 1) mb ev') ST (0, 0)) ∧
      (w4.setCell ⟨sp, 3, none⟩ (.slice (some ⟨g, 0, none⟩) (kept.length + 1) cap)).ownsRow base ET 4 ev' (kept.length + 1) (flat encE (kept ++ [e])) ∧ (ev'.ownBlock = ev.ownBlock ∨ ∃ g, ev'.ownBlock = some g ∧ w.heap.size ≤ g)) ∧
      Chg (sp :: ev.ownBlock.toList) w (w4.setCell ⟨sp, 3, none⟩ (.slice (some ⟨g, 0, none⟩) (kept.length + 1) cap)) := by
  have hne := own_ne ho h4 (by decide)
  refine ⟨⟨_, by rw [block_setCell h4]; rfl, ?_, ?_⟩, ?_⟩
  · have := ownsRow_setCell_other ho (a := ⟨sp, 3, none⟩) hne (.slice (some ⟨g, 0, none⟩) (kept.length + 1) cap)
    simpa [flat] using this
  · rcases hat with h | h
    · exact .inl h.symm
    · exact .inr ⟨g, rfl, h ▸ ha.size⟩
  · refine Chg.setCell ?_ 3 _ (.inl (by simp))
    exact Chg.trans (ha.less (S' := sp :: ev.ownBlock.toList) (fun g hg => .inl (by simp at hg; simp [hg]))) (Chg.ofGrown (S := ev.ownBlock.toList) hg (fun g e => .inl (by rw [e]; simp))) (fun g hg => .inl (List.mem_cons_of_mem _ hg))

set_option maxHeartbeats 4000000 in
theorem note_a (base : Nat) (w : World) (sp mb now : Nat) (most what k : Int) (nm : ByteArray) (ev : Value) (kept : List Ev) (hb : base ≤ w.heap.size) (hs : w.heap[sp]? = some (.cells (stC most now mb ev) ST (0, 0)))
    (ho : w.ownsRow base ET 4 ev kept.length (flat encE kept)) (hn : now < 4611686018427387904) (hl : kept.length < 1024) :
    Calls Try.prog 29 #[.pointer (some ⟨sp, 0, none⟩), .int .i64 what, thing k nm] w fun e w' => e = .returned (.int .u64 ((now + 1 : Nat) : Int)) ∧ (∃ ev', w'.heap[sp]? = some (.cells (stC most (now + 1) mb ev') ST (0, 0)) ∧
      w'.ownsRow base ET 4 ev' (kept.length + 1) (flat encE (kept ++ [⟨what, k, nm, now + 1⟩])) ∧ (ev'.ownBlock = ev.ownBlock ∨ ∃ g, ev'.ownBlock = some g ∧ w.heap.size ≤ g)) ∧ Chg (sp :: ev.ownBlock.toList) w w' := by
  have mixed : Try.prog.follows .mixedOrders = true := by kernel_rfl
  have c1 : w.cell? ⟨sp, 1, none⟩ = some (.int .u64 (now : Int)) := cell_of_block hs 1
  have f1 : w.frozen? ⟨sp, 1, none⟩ = false := unfrozen_of_block hs 1
  have lt : sp < w.heap.size := (Array.getElem?_eq_some_iff.1 hs).1
  have HS := Lib.hid (And.intro hs ho)
  have HL := Lib.hid hl
  clear hs ho hl
  obtain ⟨B, hB⟩ : ∃ B, B = w.heap.size := ⟨_, rfl⟩
  obtain ⟨w1, hw1⟩ : ∃ W, W = (w.setCell ⟨sp, 1, none⟩ (.int .u64 ((now : Int) + 1))).alloc (.cells #[.int .i64 k, .string nm] KT) := ⟨_, rfl⟩
  have h1 : w1.heap[sp]? = some (.cells (stC most (now + 1) mb ev) ST (0, 0)) := by
    rw [hw1, (Gr.alloc (Gr.refl (w.setCell ⟨sp, 1, none⟩ (.int .u64 ((now : Int) + 1)))) _).heap (by simpa [World.setCell] using lt), block_setCell HS.out.1]
    rfl
  have hz : (w.setCell ⟨sp, 1, none⟩ (.int .u64 ((now : Int) + 1))).heap.size = w.heap.size := by simp [World.setCell]
  have h2 : w1.heap[B]? = some (.cells #[.int .i64 k, .string nm] KT (0, 0)) := by
    rw [hw1, hB, ← hz]
    exact heap_alloc_new _ _
  have g1 : Chg [sp] w w1 := by
    rw [hw1]
    exact ((Chg.refl [sp] w).setCell 1 _ (.inl (by simp))).trans (Chg.ofGr ((Gr.refl _).alloc _) []) (by simp)
  have s1 : w1.heap.size = w.heap.size + 1 := by rw [hw1]; simp [World.setCell]
  have b0 : w1.cell? ⟨B, 0, none⟩ = some (.int .i64 k) := cell_of_block h2 0
  have b1 : w1.cell? ⟨B, 1, none⟩ = some (.string nm) := cell_of_block h2 1
  have b2 : w1.cell? ⟨sp, 1, none⟩ = some (.int .u64 ((now : Int) + 1)) := cell_of_block h1 1
  have ne := own_ne HS.out.2 HS.out.1 (by decide)
  have o1 : w1.ownsRow base ET 4 ev kept.length (flat encE kept) := by
    rw [hw1]
    exact (ownsRow_setCell_other HS.out.2 ne _).alloc _
  have HW := Lib.hid (And.intro hw1 (And.intro h1 (And.intro g1 (And.intro s1 (And.intro ne (And.intro o1 hB))))))
  clear h1 h2 g1 s1 ne o1
  unfold thing
  go_enter Try.func29, Try.ntmps29
  go_upto_region 3 with fail
  rw [← hw1, ← hB]
  clear hw1 hB c1 f1 hz lt
  go_cut [8] from 21 to 30 (fun e wc => ∃ E, e = .pointer (some ⟨E, 0, none⟩) ∧ Hid (w1.heap.size ≤ E ∧ wc.heap[E]? = some (.cells (encE ⟨what, k, nm, now + 1⟩).toArray ET (0, 0)) ∧ Below w1.heap.size w1 wc))
  case first =>
    go_region_held (fun W => W.cell? ⟨B, 0, none⟩ = some (.int .i64 k) ∧ W.cell? ⟨B, 1, none⟩ = some (.string nm) ∧ W.cell? ⟨sp, 1, none⟩ = some (.int .u64 ((now : Int) + 1))) (go_keep) (fail)
    go_wp2
    go_meet
    case rel =>
      refine ⟨w1.heap.size, rfl, Nat.le_refl _, ?_, (((Gr.refl w1).drewN 1).alloc _).below⟩
      have := heap_alloc_new w1.drew (.cells (encE ⟨what, k, nm, now + 1⟩).toArray ET)
      exact this
  case rest =>
    obtain ⟨E, rfl, HE⟩ := hcut
    obtain ⟨e0, e1, e2⟩ := HE.out
    obtain ⟨hw1, h1, g1, s1, ne, o1, hB⟩ := HW.out
    have hc1 : wc.heap[sp]? = some (.cells (stC most (now + 1) mb ev) ST (0, 0)) := (e2.block sp (Array.getElem?_eq_some_iff.1 h1).1).trans h1
    have oc : wc.ownsRow base ET 4 ev kept.length (flat encE kept) := by
      obtain ⟨o0, ox⟩ := o1
      refine ⟨o0, ?_⟩
      rcases ox with h | ⟨g, cap, cur, q1, q2, q3, r⟩
      · exact .inl h
      · exact .inr ⟨g, cap, cur, q1, q2, (e2.block g (Array.getElem?_eq_some_iff.1 q3).1).trans q3, r⟩
    obtain ⟨q, c, hev⟩ := own_slice oc
    have k3 : wc.cell? ⟨sp, 3, none⟩ = some (.slice q kept.length c) := by rw [cell_of_block hc1 3, ← hev]; rfl
    have k1 : wc.cell? ⟨sp, 1, none⟩ = some (.int .u64 ((now : Int) + 1)) := cell_of_block hc1 1
    have ltl : decide ((kept.length : Int) < 1024) = true := decide_eq_true (by have := HL.out; omega)
    have KE : Hid (wc.rangeAt E 0 (encE ⟨what, k, nm, now + 1⟩)) := rangeAt_block (cs := (encE ⟨what, k, nm, now + 1⟩).toArray) e1
    have HC := Lib.hid (And.intro hc1 (And.intro oc (And.intro hev (And.intro g1 (And.intro s1 (And.intro ne (And.intro hB (And.intro e2 h1))))))))
    have le0 : wc.cell? ⟨E, 0, none⟩ = some (.int .i64 what) := cell_of_block e1 0
    have le1 : wc.cell? ⟨E, 1, none⟩ = some (.int .i64 k) := cell_of_block e1 1
    have le2 : wc.cell? ⟨E, 2, none⟩ = some (.string nm) := cell_of_block e1 2
    have le3 : wc.cell? ⟨E, 3, none⟩ = some (.int .u64 ((now : Int) + 1)) := cell_of_block e1 3
    have hlt : sp < wc.heap.size := (Array.getElem?_eq_some_iff.1 hc1).1
    have hel : Hid (E < wc.heap.size) := (Array.getElem?_eq_some_iff.1 e1).1
    have hw : Hid (w1.heap.size ≤ wc.heap.size) := e2.size
    obtain ⟨inf, hi, hz0, hz1, hz2⟩ : ∃ i, Try.prog.info? ET = some i ∧ i.zero = some (.agg #[.int .i64 0, .int .i64 0, .string ⟨#[]⟩, .int .u64 0]) ∧ i.size = 4 ∧ i.bytes = 40 := ⟨_, rfl, by kernel_rfl, by kernel_rfl, by kernel_rfl⟩
    have HI := Lib.hid (And.intro hi (And.intro hz0 (And.intro hz1 hz2)))
    have own : Hid ((wc.drew.alloc (.cells (encE ⟨what, k, nm, now + 1⟩).toArray ET)).ownsRow base ET 4 (.slice q kept.length c) kept.length (flat encE kept)) := by
      show World.ownsRow _ _ _ _ _ _ _
      rw [← hev]
      exact World.ownsRow.alloc (w := wc.drew) oc _
    have news : Hid (∀ j u, (encE ⟨what, k, nm, now + 1⟩)[j]? = some u → (wc.drew.alloc (.cells (encE ⟨what, k, nm, now + 1⟩).toArray ET)).cell? ((⟨wc.heap.size, 0, none⟩ : Addr).add j) = some u) := fun j u hu => World.news_of_block (heap_alloc_new wc.drew (.cells (encE ⟨what, k, nm, now + 1⟩).toArray ET)) j u (by simpa using hu)
    have hll : Hid (kept.length + 1 ≤ 1024 ∧ base ≤ (wc.drew.alloc (.cells (encE ⟨what, k, nm, now + 1⟩).toArray ET)).heap.size) := ⟨by have := HL.out; omega, by have := hw.out; have h9 : (wc.drew.alloc (.cells (encE ⟨what, k, nm, now + 1⟩).toArray ET)).heap.size = wc.heap.size + 1 := (by simp); omega⟩
    have nsp : Hid (sp < wc.heap.size ∧ some sp ≠ (Value.slice q kept.length c).ownBlock) := ⟨hlt, by rw [← hev]; exact fun e => ne e.symm⟩
    have AB : Hid (sp < (wc.drew.alloc (.cells (encE ⟨what, k, nm, now + 1⟩).toArray ET)).heap.size ∧ (wc.drew.alloc (.cells (encE ⟨what, k, nm, now + 1⟩).toArray ET)).heap[sp]? = some (.cells (stC most (now + 1) mb (.slice q kept.length c)) ST (0, 0)) ∧ Chg [sp] w (wc.drew.alloc (.cells (encE ⟨what, k, nm, now + 1⟩).toArray ET))) := by
      have G : Gr wc (wc.drew.alloc (.cells (encE ⟨what, k, nm, now + 1⟩).toArray ET)) := ((Gr.refl wc).drewN 1).alloc _
      refine ⟨by have := G.below.size; have := hlt; omega, ?_, (g1.trans (Chg.ofBelow e2 []) (by simp)).trans (Chg.ofGr G []) (by simp)⟩
      rw [G.heap hlt, hc1, hev]
    clear e0 e1 e2 hw1 h1 g1 s1 ne o1 hB hc1 oc hev hi hz0 hz1 hz2 b0 b1 b2
    go_upto_region 5 with fail
    go_region_law (refine step_append_lies _ rfl _ _ SlE (by rfl) base ET inf (.agg #[.int .i64 0, .int .i64 0, .string ⟨#[]⟩, .int .u64 0]) 4 40 Try.underlying32 HI.out.1 HI.out.2.1 HI.out.2.2.1 HI.out.2.2.2 rfl (by omega) (.slice q kept.length c) kept.length (flat encE kept) (by rfl) own.out ⟨wc.heap.size, 0, none⟩ 1 1 (encE ⟨what, k, nm, now + 1⟩) (by rfl) (by rfl) news.out (oneE _) (by omega) (by have := hll.out.1; unfold maxLen; omega) (by have := hll.out.1; omega) hll.out.2 _ rfl ?_; intro g cap w4 hown4 hgrow4 hat4 hlt4; have hb4 := (hgrow4.block sp AB.out.1 nsp.out.2).trans AB.out.2.1; have u1 : w4.cell? ⟨sp, 3, none⟩ = some (.slice q kept.length c) := cell_of_block hb4 3; have u2 : w4.frozen? ⟨sp, 3, none⟩ = false := unfrozen_of_block hb4 3; have u3 : w4.cell? ⟨sp, 1, none⟩ = some (.int .u64 ((now : Int) + 1)) := cell_of_block hb4 1; have FIN := Lib.hid (noted (e := ⟨what, k, nm, now + 1⟩) AB.out.2.2 hb4 hown4 hgrow4 (hat4.imp id id)); clear hb4 hown4 hgrow4 hat4 hlt4)
    all_goals
      go_wp2
      go_ret
      rw [HC.out.2.2.1]
      exact ⟨by push_cast; rfl, FIN.out⟩
set_option maxHeartbeats 4000000 in
theorem note_b (base : Nat) (w : World) (sp mb now : Nat) (most what k : Int) (nm : ByteArray) (ev : Value) (kept : List Ev) (hb : base ≤ w.heap.size) (hs : w.heap[sp]? = some (.cells (stC most now mb ev) ST (0, 0)))
    (ho : w.ownsRow base ET 4 ev kept.length (flat encE kept)) (hn : now < 4611686018427387904) (hl : kept.length = 1024) :
    Calls Try.prog 29 #[.pointer (some ⟨sp, 0, none⟩), .int .i64 what, thing k nm] w fun e w' => e = .returned (.int .u64 ((now + 1 : Nat) : Int)) ∧ (w'.heap[sp]? = some (.cells (stC most (now + 1) mb ev) ST (0, 0)) ∧
      w'.ownsRow base ET 4 ev kept.length (flat encE (kept.set (now % 1024) ⟨what, k, nm, now + 1⟩))) ∧ Chg (sp :: ev.ownBlock.toList) w w' := by
  have mixed : Try.prog.follows .mixedOrders = true := by kernel_rfl
  have c1 : w.cell? ⟨sp, 1, none⟩ = some (.int .u64 (now : Int)) := cell_of_block hs 1
  have f1 : w.frozen? ⟨sp, 1, none⟩ = false := unfrozen_of_block hs 1
  have lt : sp < w.heap.size := (Array.getElem?_eq_some_iff.1 hs).1
  have HS := Lib.hid (And.intro hs ho)
  have HL := Lib.hid hl
  clear hs ho hl
  obtain ⟨B, hB⟩ : ∃ B, B = w.heap.size := ⟨_, rfl⟩
  obtain ⟨w1, hw1⟩ : ∃ W, W = (w.setCell ⟨sp, 1, none⟩ (.int .u64 ((now : Int) + 1))).alloc (.cells #[.int .i64 k, .string nm] KT) := ⟨_, rfl⟩
  have h1 : w1.heap[sp]? = some (.cells (stC most (now + 1) mb ev) ST (0, 0)) := by
    rw [hw1, (Gr.alloc (Gr.refl (w.setCell ⟨sp, 1, none⟩ (.int .u64 ((now : Int) + 1)))) _).heap (by simpa [World.setCell] using lt), block_setCell HS.out.1]
    rfl
  have hz : (w.setCell ⟨sp, 1, none⟩ (.int .u64 ((now : Int) + 1))).heap.size = w.heap.size := by simp [World.setCell]
  have h2 : w1.heap[B]? = some (.cells #[.int .i64 k, .string nm] KT (0, 0)) := by
    rw [hw1, hB, ← hz]
    exact heap_alloc_new _ _
  have g1 : Chg [sp] w w1 := by
    rw [hw1]
    exact ((Chg.refl [sp] w).setCell 1 _ (.inl (by simp))).trans (Chg.ofGr ((Gr.refl _).alloc _) []) (by simp)
  have s1 : w1.heap.size = w.heap.size + 1 := by rw [hw1]; simp [World.setCell]
  have b0 : w1.cell? ⟨B, 0, none⟩ = some (.int .i64 k) := cell_of_block h2 0
  have b1 : w1.cell? ⟨B, 1, none⟩ = some (.string nm) := cell_of_block h2 1
  have b2 : w1.cell? ⟨sp, 1, none⟩ = some (.int .u64 ((now : Int) + 1)) := cell_of_block h1 1
  have ne := own_ne HS.out.2 HS.out.1 (by decide)
  have o1 : w1.ownsRow base ET 4 ev kept.length (flat encE kept) := by
    rw [hw1]
    exact (ownsRow_setCell_other HS.out.2 ne _).alloc _
  have HW := Lib.hid (And.intro hw1 (And.intro h1 (And.intro g1 (And.intro s1 (And.intro ne (And.intro o1 hB))))))
  clear h1 h2 g1 s1 ne o1
  unfold thing
  go_enter Try.func29, Try.ntmps29
  go_upto_region 3 with fail
  rw [← hw1, ← hB]
  clear hw1 hB c1 f1 hz lt
  go_cut [8] from 21 to 30 (fun e wc => ∃ E, e = .pointer (some ⟨E, 0, none⟩) ∧ Hid (w1.heap.size ≤ E ∧ wc.heap[E]? = some (.cells (encE ⟨what, k, nm, now + 1⟩).toArray ET (0, 0)) ∧ Below w1.heap.size w1 wc))
  case first =>
    go_region_held (fun W => W.cell? ⟨B, 0, none⟩ = some (.int .i64 k) ∧ W.cell? ⟨B, 1, none⟩ = some (.string nm) ∧ W.cell? ⟨sp, 1, none⟩ = some (.int .u64 ((now : Int) + 1))) (go_keep) (fail)
    go_wp2
    go_meet
    case rel =>
      refine ⟨w1.heap.size, rfl, Nat.le_refl _, ?_, (((Gr.refl w1).drewN 1).alloc _).below⟩
      have := heap_alloc_new w1.drew (.cells (encE ⟨what, k, nm, now + 1⟩).toArray ET)
      exact this
  case rest =>
    obtain ⟨E, rfl, HE⟩ := hcut
    obtain ⟨e0, e1, e2⟩ := HE.out
    obtain ⟨hw1, h1, g1, s1, ne, o1, hB⟩ := HW.out
    have hc1 : wc.heap[sp]? = some (.cells (stC most (now + 1) mb ev) ST (0, 0)) := (e2.block sp (Array.getElem?_eq_some_iff.1 h1).1).trans h1
    have oc : wc.ownsRow base ET 4 ev kept.length (flat encE kept) := by
      obtain ⟨o0, ox⟩ := o1
      refine ⟨o0, ?_⟩
      rcases ox with h | ⟨g, cap, cur, q1, q2, q3, r⟩
      · exact .inl h
      · exact .inr ⟨g, cap, cur, q1, q2, (e2.block g (Array.getElem?_eq_some_iff.1 q3).1).trans q3, r⟩
    obtain ⟨q, c, hev⟩ := own_slice oc
    have k3 : wc.cell? ⟨sp, 3, none⟩ = some (.slice q kept.length c) := by rw [cell_of_block hc1 3, ← hev]; rfl
    have k1 : wc.cell? ⟨sp, 1, none⟩ = some (.int .u64 ((now : Int) + 1)) := cell_of_block hc1 1
    have ltl : decide ((kept.length : Int) < 1024) = false := decide_eq_false (by have := HL.out; omega)
    obtain ⟨g, c', hgv, hgb, hgs, hset, hth⟩ := own_set lenE oc (p := now % 1024) (by have := HL.out; omega) (⟨what, k, nm, now + 1⟩ : Ev)
    have hq : q = some ⟨g, 0, none⟩ := by rw [hev] at hgv; simp only [Value.slice.injEq] at hgv; exact hgv.1
    subst hq
    obtain ⟨p, hp⟩ : ∃ p, p = now % 1024 := ⟨_, rfl⟩
    have hp2 : (now : Int) % 1024 = (p : Int) := by omega
    have hp3 : p < 1024 := by omega
    rw [← hp] at hset hth
    have kl4 : (kept.length : Int) = 1024 := by have := HL.out; omega
    have le0 : wc.cell? ⟨E, 0, none⟩ = some (.int .i64 what) := cell_of_block e1 0
    have le1 : wc.cell? ⟨E, 1, none⟩ = some (.int .i64 k) := cell_of_block e1 1
    have le2 : wc.cell? ⟨E, 2, none⟩ = some (.string nm) := cell_of_block e1 2
    have le3 : wc.cell? ⟨E, 3, none⟩ = some (.int .u64 ((now : Int) + 1)) := cell_of_block e1 3
    obtain ⟨t0, f0⟩ := hth 0 (by decide)
    obtain ⟨t1, f1⟩ := hth 1 (by decide)
    obtain ⟨t2, f2⟩ := hth 2 (by decide)
    obtain ⟨t3, f3⟩ := hth 3 (by decide)
    rw [Nat.add_zero] at t0 f0
    obtain ⟨y0, t0⟩ := Option.isSome_iff_exists.1 t0
    obtain ⟨y1, t1⟩ := Option.isSome_iff_exists.1 t1
    obtain ⟨y2, t2⟩ := Option.isSome_iff_exists.1 t2
    obtain ⟨y3, t3⟩ := Option.isSome_iff_exists.1 t3
    have gsp : g ≠ sp := by
      have e := own_ne oc hc1 (by decide)
      rw [hev] at e
      intro e2
      exact e (by simp [Value.ownBlock, e2])
    obtain ⟨w5, hw5⟩ : ∃ W, W = wc.drew.setCells g (p * 4) (encE ⟨what, k, nm, now + 1⟩) := ⟨_, rfl⟩
    have s5 : w5.heap[sp]? = some (.cells (stC most (now + 1) mb ev) ST (0, 0)) := by
      rw [hw5, setCells_out _ _ _ _ _ (fun e => gsp e.symm)]
      exact hc1
    have o5 : w5.ownsRow base ET 4 ev kept.length (flat encE (kept.set p ⟨what, k, nm, now + 1⟩)) := by
      rw [hw5]
      exact hset
    have x5 : Chg (sp :: ev.ownBlock.toList) w w5 := by
      have a1 : Chg [sp] w wc.drew := (g1.trans (Chg.ofBelow e2 []) (by simp)).trans (Chg.ofGr ((Gr.refl wc).drewN 1) []) (by simp)
      have a2 : Chg [g] wc.drew w5 := by
        obtain ⟨r1, r2, r3⟩ := setCells_rest (encE ⟨what, k, nm, now + 1⟩) wc.drew g (p * 4)
        rw [hw5]
        exact ⟨r1, r2, r3, by rw [setCells_size]; exact Nat.le_refl _, fun k _ hk => setCells_out _ _ _ _ _ (by simpa using hk)⟩
      refine Chg.trans (a1.less (fun g hg => .inl (by simp at hg; simp [hg]))) a2 (fun g' hg' => .inl ?_)
      simp at hg'
      rw [hev]
      simp [Value.ownBlock, hg']
    have n5 : w5.cell? ⟨sp, 1, none⟩ = some (.int .u64 ((now : Int) + 1)) := cell_of_block s5 1
    have FIN := Lib.hid (And.intro s5 (And.intro o5 (And.intro x5 (And.intro hp hw5))))
    clear e0 e1 e2 hw1 h1 g1 s1 ne o1 hB hc1 oc hev b0 b1 b2 hgv hgb hgs hset hth gsp s5 o5 x5 hp
    have HX : Hid (((((wc.setCell ⟨g, p * 4, none⟩ (.int .i64 what)).setCell ⟨g, p * 4 + 1, none⟩ (.int .i64 k)).setCell ⟨g, p * 4 + 2, none⟩ (.string nm)).setCell ⟨g, p * 4 + 3, none⟩ (.int .u64 ((now : Int) + 1))).drew = w5) := by
      show _ = _
      rw [hw5]
      rfl
    clear hw5
    go_upto_region 6 with fail
    go_region
    all_goals
      rw [HX.out]
      go_wp2
      go_ret
      exact ⟨by push_cast; rfl, ⟨FIN.out.1, FIN.out.2.2.2.1 ▸ FIN.out.2.1⟩, FIN.out.2.2.1⟩


theorem note_any (base : Nat) (w : World) (sp mb now : Nat) (most what k : Int) (nm : ByteArray) (ev : Value) (kept : List Ev) (hb : base ≤ w.heap.size) (hs : w.heap[sp]? = some (.cells (stC most now mb ev) ST (0, 0)))
    (ho : w.ownsRow base ET 4 ev kept.length (flat encE kept)) (hn : now < 4611686018427387904) (hl : kept.length ≤ 1024) :
    Calls Try.prog 29 #[.pointer (some ⟨sp, 0, none⟩), .int .i64 what, thing k nm] w fun e w' => e = .returned (.int .u64 ((now + 1 : Nat) : Int)) ∧ (∃ ev' kept', w'.heap[sp]? = some (.cells (stC most (now + 1) mb ev') ST (0, 0)) ∧
      w'.ownsRow base ET 4 ev' kept'.length (flat encE kept') ∧ (∀ hist, hist.length = now → Ring hist kept → Ring (hist ++ [⟨what, k, nm, now + 1⟩]) kept') ∧ (∀ g, ev'.ownBlock = some g → ev.ownBlock = some g ∨ w.heap.size ≤ g)) ∧ Chg (sp :: ev.ownBlock.toList) w w' := by
  rcases Nat.lt_or_ge kept.length 1024 with h | h
  · refine (note_a base w sp mb now most what k nm ev kept hb hs ho hn h).mono ?_
    rintro e w' ⟨h1, ⟨ev', h2, h3, h4⟩, h5⟩
    refine ⟨h1, ⟨ev', kept ++ [⟨what, k, nm, now + 1⟩], h2, by simpa using h3, fun hist _ hr => ring_app hr h _, fun g hg => ?_⟩, h5⟩
    rcases h4 with h4 | ⟨g', h4, h6⟩
    · exact .inl (h4 ▸ hg)
    · rw [h4] at hg
      cases hg
      exact .inr h6
  · have hl' : kept.length = 1024 := by omega
    refine (note_b base w sp mb now most what k nm ev kept hb hs ho hn hl').mono ?_
    rintro e w' ⟨h1, ⟨h2, h3⟩, h5⟩
    exact ⟨h1, ⟨ev, _, h2, by rw [List.length_set]; exact h3, fun hist hh hr => by rw [← hh]; exact ring_set hr hl' _, fun g hg => .inl hg⟩, h5⟩

/-- A store at sp: of at most so many objects, these in it, behind these changes; its own blocks. -/
structure StAt (base : Nat) (w : World) (S : List Nat) (sp mb : Nat) (D : DataW Value) (ev : Value) (kept : List Ev) (most : Int) (l : List Ob) (hist : List Ev) : Prop where
  fp : S = sp :: mb :: ev.ownBlock.toList
  bsp : base ≤ sp
  bmb : base ≤ mb
  bw : base ≤ w.heap.size
  blk : w.heap[sp]? = some (.cells (stC most hist.length mb ev) ST (0, 0))
  map : MapIs base w mb hist.length D l
  evs : w.ownsRow base ET 4 ev kept.length (flat encE kept)
  ring : Ring hist kept
def StIs (base : Nat) (w : World) (S : List Nat) (sp : Nat) (most : Int) (l : List Ob) (hist : List Ev) : Prop := ∃ mb D ev kept, StAt base w S sp mb D ev kept most l hist

theorem own_prot {base N n k : Nat} {w : World} {E : TypeId} {v : Value} {xs : List Value} (h : w.ownsRow N E k v n xs) (hN : base ≤ N) (hE : rowTy E = false) : ∀ g, v.ownBlock = some g → base ≤ g ∧ g < w.heap.size ∧ ¬ Prot base w g := by
  intro g hg
  rcases h.2 with ⟨rfl, _⟩ | ⟨g', cap, cur, rfl, hb, h2, _⟩
  · cases hg
  · simp [Value.ownBlock] at hg
    subst hg
    refine ⟨by omega, (Array.getElem?_eq_some_iff.1 h2).1, fun hp => ?_⟩
    rcases hp with hp | ⟨cs, T, fz, h3, h4⟩
    · omega
    · rw [h2] at h3
      simp only [Option.some.injEq, Obj.cells.injEq] at h3
      rw [← h3.2.1, hE] at h4
      cases h4
theorem cells_prot {base g : Nat} {w : World} {T : TypeId} {cs : Array Value} {fz : Nat × Nat} (h : w.heap[g]? = some (.cells cs T fz)) (hb : base ≤ g) (hT : rowTy T = false) : base ≤ g ∧ g < w.heap.size ∧ ¬ Prot base w g := by
  refine ⟨hb, (Array.getElem?_eq_some_iff.1 h).1, fun hp => ?_⟩
  rcases hp with hp | ⟨cs, T, fz, h3, h4⟩
  · omega
  · rw [h] at h3
    simp only [Option.some.injEq, Obj.cells.injEq] at h3
    rw [← h3.2.1, hT] at h4
    cases h4
theorem map_prot {base mb n : Nat} {w : World} {D : DataW Value} {l : List Ob} (h : MapIs base w mb n D l) (hb : base ≤ mb) : base ≤ mb ∧ mb < w.heap.size ∧ ¬ Prot base w mb := by
  obtain ⟨es, c, h1, _⟩ := h.own
  refine ⟨hb, (Array.getElem?_eq_some_iff.1 h1).1, fun hp => ?_⟩
  rcases hp with hp | ⟨cs, T, fz, h3, h4⟩
  · omega
  · rw [h1] at h3; cases h3
theorem StAt.prot {base : Nat} {w : World} {S : List Nat} {sp mb : Nat} {D : DataW Value} {ev : Value} {kept hist : List Ev} {most : Int} {l : List Ob} (h : StAt base w S sp mb D ev kept most l hist) : ∀ g ∈ S, base ≤ g ∧ g < w.heap.size ∧ ¬ Prot base w g := by
  intro g hg
  rw [h.fp] at hg
  simp only [List.mem_cons, Option.mem_toList] at hg
  rcases hg with rfl | rfl | hg
  · exact cells_prot h.blk h.bsp rfl
  · exact map_prot h.map h.bmb
  · exact own_prot h.evs (Nat.le_refl _) rfl g hg
theorem StIs.prot {base : Nat} {w : World} {S : List Nat} {sp : Nat} {hist : List Ev} {most : Int} {l : List Ob} (h : StIs base w S sp most l hist) : ∀ g ∈ S, base ≤ g ∧ g < w.heap.size ∧ ¬ Prot base w g := by
  obtain ⟨mb, D, ev, kept, h⟩ := h
  exact h.prot
theorem own_block {base n k : Nat} {w w' : World} {E : TypeId} {v : Value} {xs : List Value} (h : w.ownsRow base E k v n xs) (he : ∀ g, v.ownBlock = some g → w'.heap[g]? = w.heap[g]?) : w'.ownsRow base E k v n xs := by
  obtain ⟨h0, h⟩ := h
  refine ⟨h0, ?_⟩
  rcases h with h | ⟨g, cap, cur, rfl, hb, hg, r⟩
  · exact .inl h
  · exact .inr ⟨g, cap, cur, rfl, hb, (he g rfl).trans hg, r⟩
/-- It stays while others are written. -/
theorem StAt.stay {base : Nat} {w w' : World} {S : List Nat} {sp mb : Nat} {D : DataW Value} {ev : Value} {kept hist : List Ev} {most : Int} {l : List Ob} (h : StAt base w S sp mb D ev kept most l hist) (hs : ∀ g ∈ S, w'.heap[g]? = w.heap[g]?) (hf : Fx base w w') : StAt base w' S sp mb D ev kept most l hist := by
  have e := h.fp
  refine ⟨e, h.bsp, h.bmb, Nat.le_trans h.bw hf.size, (hs sp (by rw [e]; simp)).trans h.blk, h.map.fx (hs mb (by rw [e]; simp)) hf, own_block h.evs (fun g hg => hs g (by rw [e, hg]; simp)), h.ring⟩
theorem StIs.stay {base : Nat} {w w' : World} {S : List Nat} {sp : Nat} {hist : List Ev} {most : Int} {l : List Ob} (h : StIs base w S sp most l hist) (hs : ∀ g ∈ S, w'.heap[g]? = w.heap[g]?) (hf : Fx base w w') : StIs base w' S sp most l hist := by
  obtain ⟨mb, D, ev, kept, h⟩ := h
  exact ⟨mb, D, ev, kept, h.stay hs hf⟩
theorem StIs.gr {base : Nat} {w w' : World} {S : List Nat} {sp : Nat} {hist : List Ev} {most : Int} {l : List Ob} (h : StIs base w S sp most l hist) (g : Below w.heap.size w w') : StIs base w' S sp most l hist :=
  h.stay (fun k hk => g.block k (h.prot k hk).2.1) (Fx.ofBelow g)
/-- .. while others' blocks are. -/
theorem StIs.chg {base : Nat} {w w' : World} {S T : List Nat} {sp : Nat} {hist : List Ev} {most : Int} {l : List Ob} (h : StIs base w S sp most l hist) (c : Chg T w w') (hd : ∀ g ∈ S, g ∉ T) (hp : ∀ g ∈ T, g < w.heap.size → ¬ Prot base w g) : StIs base w' S sp most l hist :=
  h.stay (fun k hk => c.block k (h.prot k hk).2.1 (hd k hk)) (c.fx hp)

/-- What a change leaves. -/
def After (base : Nat) (w w' : World) (S : List Nat) (sp : Nat) (most : Int) (l : List Ob) (hist : List Ev) : Prop := ∃ S', StIs base w' S' sp most l hist ∧ Chg S w w' ∧ ∀ g ∈ S', g ∈ S ∨ w.heap.size ≤ g
end Go.Proofs.Ytacgbagcddjlnaa
