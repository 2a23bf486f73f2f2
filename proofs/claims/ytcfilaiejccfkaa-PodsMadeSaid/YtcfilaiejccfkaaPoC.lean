/- Pods: the law's next; the chapter's example. -/
import Derived.Test.YtcfilaiejccfkaaPoA
import Derived.Deep.QuietTactic
import Derived.BigQuiet
namespace Go.Proofs.Ytcfilaiejccfkaa.Po
open Go.RowKit Go.Shelf Go.Lib Go.Sort Go.Deep
open Go.Joins (cell_of_block unfrozen_of_block block_setCell)
set_option linter.unusedVariables false
set_option linter.unusedSimpArgs false
set_option maxRecDepth 20000

set_option maxHeartbeats 4000000 in
theorem lnext_any (w : World) (P : Array Value) (x : Pd) (now : Int) (there : Bool) (hv : PdS w P x) (ht : Tk x) :
    Calls Try.prog 8 #[.agg P, .int .i64 now, .bool there] w fun e w' => e = .returned (.tuple #[.int .i64 (nxt x now there).ph, .int .i64 (nxt x now there).since]) ∧ Gr w w' := by
  have mixed : Try.prog.follows .mixedOrders = true := by kernel_rfl
  obtain ⟨h1, h2, h3, h4⟩ := ht
  have b : (w.alloc (.cells P PT)).heap[w.heap.size]? = some (.cells P PT (0, 0)) := heap_alloc_new w _
  have c1 : (w.alloc (.cells P PT)).cell? ⟨w.heap.size, 1, none⟩ = some (.string x.node) := by rw [cell_of_block b]; exact hv.2.2.1
  have c2 : (w.alloc (.cells P PT)).cell? ⟨w.heap.size, 2, none⟩ = some (.int .i64 x.ph) := by rw [cell_of_block b]; exact hv.2.2.2.1
  have c3 : (w.alloc (.cells P PT)).cell? ⟨w.heap.size, 3, none⟩ = some (.int .i64 x.since) := by rw [cell_of_block b]; exact hv.2.2.2.2.1
  have c9 : (w.alloc (.cells P PT)).cell? ⟨w.heap.size, 9, none⟩ = some (.int .i64 x.warm) := by rw [cell_of_block b]; exact hv.2.2.2.2.2.2.2.2.2.2
  have G := Lib.hid ((Gr.refl w).alloc (.cells P PT))
  obtain ⟨E, hE⟩ : ∃ E, E = x.since + x.warm := ⟨_, rfl⟩
  have e1 : IntKind.i64.wrap (x.since + x.warm) = E := by rw [hE, IntKind.wrap_i64]; omega
  obtain ⟨d, hd⟩ : ∃ d, decide (E ≤ now) = d := ⟨_, rfl⟩
  have HE := Lib.hid (And.intro hE hd)
  have HX : Hid (nxt x now there = (if x.ph = 3 then x else if x.node.size ≠ 0 ∧ there = false then setPh x 3 now else if x.ph = 1 ∧ x.since + x.warm ≤ now then setPh x 2 (x.since + x.warm) else x)) := rfl
  generalize nxt x now there = y at HX ⊢
  clear hv h1 h2 h3 h4 b hE
  generalize hph : x.ph = ph at *
  generalize hsi : x.since = si at *
  have HP := Lib.hid (And.intro hph hsi)
  clear hph hsi
  by_cases p3 : ph = 3
  · have HY : Hid (y.ph = ph ∧ y.since = si) := by
      have := HX.out
      rw [if_pos p3] at this
      rw [this]
      exact HP.out
    have t1 : (ph == 3) = true := by simp [p3]
    obtain ⟨hy1, hy2⟩ := HY.out
    rw [hy1, hy2]
    clear p3 HX HP HE HY hy1 hy2 d hd
    go_enter Try.func8, Try.ntmps8
    go_wp2_with fail
    go_quiet (fail)
    go_wp2
    go_ret2
    exact ⟨rfl, by first | exact G.out.drewN _ | exact (G.out.drew).drewN _⟩
  · have t1 : (ph == 3) = false := by simp [p3]
    have go : ∀ (hneg : ¬ (x.node.size ≠ 0 ∧ there = false)), Hid (y = if ph = 1 ∧ si + x.warm ≤ now then setPh x 2 (si + x.warm) else x) := fun hneg => by
      have := HX.out
      rw [if_neg p3, if_neg hneg] at this
      exact this
    have fin : ∀ (b1 : Bool), (ph == 1) = b1 → Hid (y = if ph = 1 ∧ si + x.warm ≤ now then setPh x 2 (si + x.warm) else x) → Hid (y.ph = (if b1 && d then 2 else ph) ∧ y.since = (if b1 && d then E else si)) := fun b1 hb hy => by
      obtain ⟨hE, hd⟩ := HE.out
      have e : (b1 && d) = decide (ph = 1 ∧ si + x.warm ≤ now) := by
        rw [← hb, ← hd, hE]
        by_cases hh : ph = 1 <;> simp [hh]
      rw [e, hy.out]
      by_cases hh : ph = 1 ∧ si + x.warm ≤ now
      · rw [if_pos hh, decide_eq_true hh, hE]; exact ⟨rfl, rfl⟩
      · rw [if_neg hh, decide_eq_false hh]; exact HP.out
    have FIN := Lib.hid fin
    have GO := Lib.hid go
    clear fin go
    by_cases hz : x.node.size = 0
    · have en := empty_of hz
      rw [en] at c1
      have HY := GO.out (fun h => h.1 hz)
      clear GO hz en HX HE
      obtain ⟨b1, hb1⟩ : ∃ b1, (ph == 1) = b1 := ⟨_, rfl⟩
      have F := FIN.out b1 hb1 HY
      clear FIN HY HP p3
      cases b1 <;> cases d <;> (
        obtain ⟨hy1, hy2⟩ := F.out
        simp only [Bool.and_true, Bool.and_false, Bool.false_and, Bool.true_and, if_true, if_false, Bool.false_eq_true] at hy1 hy2
        rw [hy1, hy2]
        clear hy1 hy2 F
        go_enter Try.func8, Try.ntmps8
        go_wp2_with fail
        go_quiet (fail)
        go_wp2
        go_ret2
        exact ⟨rfl, by first | exact G.out.drewN _ | exact (G.out.drew).drewN _⟩)
    · have tn := bne_empty hz
      cases there with
      | false =>
        have HY : Hid (y.ph = 3 ∧ y.since = now) := by
          have := HX.out
          rw [if_neg p3, if_pos ⟨hz, rfl⟩] at this
          rw [this]
          exact ⟨rfl, rfl⟩
        obtain ⟨hy1, hy2⟩ := HY.out
        rw [hy1, hy2]
        clear p3 HX HP HE HY hy1 hy2 d hd hz GO FIN
        go_enter Try.func8, Try.ntmps8
        go_wp2
        go_ret2
        exact ⟨rfl, G.out⟩
      | true =>
        have HY := GO.out (fun h => by cases h.2)
        clear GO hz HX HE
        obtain ⟨b1, hb1⟩ : ∃ b1, (ph == 1) = b1 := ⟨_, rfl⟩
        have F := FIN.out b1 hb1 HY
        clear FIN HY HP p3
        cases b1 <;> cases d <;> (
          obtain ⟨hy1, hy2⟩ := F.out
          simp only [Bool.and_true, Bool.and_false, Bool.false_and, Bool.true_and, if_true, if_false, Bool.false_eq_true] at hy1 hy2
          rw [hy1, hy2]
          clear hy1 hy2 F
          go_enter Try.func8, Try.ntmps8
          go_wp2_with fail
          go_quiet (fail)
          go_wp2
          go_ret2
          exact ⟨rfl, by first | exact G.out.drewN _ | exact (G.out.drew).drewN _⟩)

/-! ### the chapter's example -/
def exP : Pd := ⟨⟨#[97]⟩, ⟨#[110]⟩, 1, 5, 0, 0, [], [], [], 3⟩
abbrev exC : Array Value := #[.string { data := #[97] }, .string { data := #[110] }, .int .i64 1, .int .i64 5, .int .i64 0, .int .i64 0, .slice none 0 0, .slice none 0 0, .slice none 0 0, .int .i64 3]
theorem ex_pd (w : World) : PdS w exC exP := ⟨rfl, rfl, rfl, rfl, rfl, rfl, rfl, ⟨none, 0, rfl, RowR.nil _ _ _ _⟩, ⟨none, 0, rfl, RowR.nil _ _ _ _⟩, ⟨none, 0, rfl, RowR.nil _ _ _ _⟩, rfl⟩
theorem ex_nil : NilP exC := by
  intro i n c hi hc
  simp only [List.mem_cons, List.not_mem_nil, or_false] at hi
  rcases hi with rfl | rfl | rfl <;> (cases hc; rfl)
theorem ex_8 : nxt exP 8 true = setPh exP 2 8 := (if_neg (by decide)).trans ((if_neg (by decide)).trans (if_pos (by decide)))
theorem ex_7 : nxt exP 7 true = exP := (if_neg (by decide)).trans ((if_neg (by decide)).trans (if_neg (by decide)))
theorem field_ph {w : World} {P : Array Value} {x : Pd} (h : PdS w P x) (ws : World) : (Instr.field PT (.agg P) 2).run Try.prog ws = .ok (.int .i64 x.ph) ws := by
  obtain ⟨a0, a1, a2, a3, _⟩ := h
  obtain ⟨d0, d1, d2, d3, d4, d5, d6, d7, d8, d9, rfl⟩ := arr10 a0
  simp at a3
  subst a3
  kernel_rfl
theorem built_ex : Try.prog.built PT [(0, .string { data := #[97] }), (1, .string { data := #[110] }), (2, .int .i64 1), (3, .int .i64 5), (8, .int .i64 3)] = some exC := by kernel_rfl
theorem run_builtP {o : Oper} {ev : Operand → Value} {parts : Array (Nat × Operand)} {l : List (Nat × Value)} {C : Array Value} (ho : o.op = .build PT parts) (hp : (parts.map fun (i, x) => (i, ev x)).toList = l) (hc : Try.prog.built PT l = some C) (w : World) :
    (execOp ev o).run Try.prog w = .ok (.value (.agg C)) w := by
  rw [← hp] at hc
  unfold execOp
  simp only [ho, Sem.run_bind, run_build w _ _ _ hc, Result.andThen_ok]
  rfl
/-- A pod is stored into a new variable of its own. -/
theorem new_pd {w : World} {P : Array Value} {x : Pd} (hv : PdS w P x) (hn : NilP P) :
    Hid ((w.alloc (.cells zerP PT)).there w.heap.size 0 P.size) ∧ Hid ((Try.prog.info? PT).map (·.size) = some P.size) ∧ Hid (P.all (·.oneCell') = true) ∧ ∃ w1, (w.alloc (.cells zerP PT)).setCells w.heap.size 0 P.toList = w1 ∧ w1.heap[w.heap.size]? = some (.cells P PT (0, 0)) ∧ Below w.heap.size w w1 ∧ w1.heap.size = w.heap.size + 1 := by
  have b := heap_alloc_new w (.cells zerP PT)
  refine ⟨Ld.there_block b (by rw [hv.1]; rfl), by show _ = _; rw [hv.1]; exact info_pt, hv.one, _, rfl, Ld.laid b (by rw [hv.1]; rfl), ?_, by rw [setCells_size]; simp⟩
  exact Ld.below_setCells _ _ _ (Nat.le_refl _) ((Gr.refl w).alloc _).below

set_option maxHeartbeats 4000000 in
theorem plives_any (w : World) : Calls Try.prog 5 #[] w fun e w' => e = .returned (.bool true) ∧ Below w.heap.size w w' := by
  have RB := Lib.hid built_ex
  obtain ⟨TH, IN, ON, w1, hw1, b1, l1, z1⟩ := new_pd (ex_pd w) ex_nil
  obtain ⟨B, hB⟩ : ∃ B, B = w.heap.size := ⟨_, rfl⟩
  have LD := Lib.hid (load_pd b1 rfl)
  have CN := Lib.hid (next_any w1 exC exP 8 true (ex_pd w1) ex_nil ⟨by decide, by decide, by decide⟩ ⟨by decide, by decide, by decide, by decide⟩)
  rw [ex_8] at CN
  have HW := Lib.hid (And.intro hw1 (And.intro hB (And.intro b1 (And.intro l1 z1))))
  rw [← hB] at LD
  clear hw1 hB b1 l1 z1
  go_enter Try.func5, Try.ntmps5
  go_upto_region 2 with (first | (refine wpList_known (by kernel_rfl) (run_builtP rfl (by kernel_rfl) RB.out _) ?_) | (refine wpList_store_mid rfl _ _ _ rfl w.heap.size 0 exC (by rfl) (by rfl) TH.out IN.out ON.out ?_))
  rw [HW.out.1, ← HW.out.2.1]
  clear TH IN ON RB
  go_wp2_with (refine wpList_load_by (by kernel_rfl) PT _ rfl (.pointer (some ⟨B, 0, none⟩)) (.agg exC) (by kernel_rfl) LD.out ?_)
  refine CN.out.mono ?_
  rintro e m ⟨⟨P, rfl, pd, po⟩, hb⟩
  obtain ⟨hw1, hB, b1, l1, z1⟩ := HW.out
  obtain ⟨TH, IN, ON, w2, hw2, b2, l2, z2⟩ := new_pd pd po.nil
  have bB : w2.heap[B]? = some (.cells exC PT (0, 0)) := by
    rw [l2.block B (by have := hb.size; omega), hb.block B (by omega), hB]
    exact b1
  have LD2 := Lib.hid (load_pd bB rfl)
  have CM := Lib.hid (next_any w2 exC exP 7 true (ex_pd w2) ex_nil ⟨by decide, by decide, by decide⟩ ⟨by decide, by decide, by decide, by decide⟩)
  rw [ex_7] at CM
  obtain ⟨M, hM⟩ : ∃ M, M = m.heap.size := ⟨_, rfl⟩
  have cM2 : w2.heap[M]? = some (.cells P PT (0, 0)) := by rw [hM]; exact b2
  have HB := Lib.hid (And.intro (show Below w.heap.size w w2 from (l1.trans ((hb.mono l1.size).trans (l2.mono (Nat.le_trans l1.size hb.size))))) (And.intro cM2 pd))
  have HM := Lib.hid (And.intro hw2 hM)
  clear hw1 hB b1 l1 z1 hb pd po hw2 b2 l2 z2 bB hM cM2 CN LD
  go_upto_region 3 with (refine wpList_store_mid rfl _ _ _ rfl m.heap.size 0 P (by rfl) (by rfl) TH.out IN.out ON.out ?_)
  rw [HM.out.1, ← HM.out.2]
  clear TH IN ON
  go_wp2_with (refine wpList_load_by (by kernel_rfl) PT _ rfl (.pointer (some ⟨B, 0, none⟩)) (.agg exC) (by kernel_rfl) LD2.out ?_)
  refine CM.out.mono ?_
  rintro e m2 ⟨⟨R, rfl, rd, ro⟩, hb2⟩
  obtain ⟨l, cM2, pd⟩ := HB.out
  have FR : ∀ ws : World, (Instr.field PT (.agg R) 2).run Try.prog ws = .ok (.int .i64 1) ws := fun ws => field_ph rd ws
  have bM : m2.heap[M]? = some (.cells P PT (0, 0)) := (hb2.block M (Array.getElem?_eq_some_iff.1 cM2).1).trans cM2
  have k2 : m2.cell? ⟨M, 2, none⟩ = some (.int .i64 2) := by rw [cell_of_block bM]; exact pd.2.2.2.1
  have k3 : m2.cell? ⟨M, 3, none⟩ = some (.int .i64 8) := by rw [cell_of_block bM]; exact pd.2.2.2.2.1
  have FIN : Hid (Below w.heap.size w m2) := l.trans (hb2.mono l.size)
  clear l cM2 pd bM rd ro hb2 CM HB HM HW LD2
  go_wp2
  go_ret
  exact ⟨rfl, FIN.out⟩

/-- Two objects laid into two variables of the call's own. -/
theorem two_ob {w w1 : World} {p q : Nat} {CA CB : Array Value} (b : Below w.heap.size w w1) (hp : w1.heap[p]? = some (.cells zerC OT (0, 0))) (hq : w1.heap[q]? = some (.cells zerC OT (0, 0))) (hne : p ≠ q) (lp : w.heap.size ≤ p) (lq : w.heap.size ≤ q) (ha : CA.size = 47) (hb : CB.size = 47) :
    w1.there p 0 47 ∧ (w1.setCells p 0 CA.toList).there q 0 47 ∧ Below w.heap.size w (w1.setCells p 0 CA.toList) ∧ ((w1.setCells p 0 CA.toList).setCells q 0 CB.toList).heap[p]? = some (.cells CA OT (0, 0)) ∧ ((w1.setCells p 0 CA.toList).setCells q 0 CB.toList).heap[q]? = some (.cells CB OT (0, 0)) ∧ Below w.heap.size w ((w1.setCells p 0 CA.toList).setCells q 0 CB.toList) := by
  have hq1 : (w1.setCells p 0 CA.toList).heap[q]? = some (.cells zerC OT (0, 0)) := by rw [setCells_out _ _ _ _ _ (fun e => hne e.symm)]; exact hq
  have b1 : Below w.heap.size w (w1.setCells p 0 CA.toList) := Ld.below_setCells _ _ _ lp b
  exact ⟨Ld.there_block hp rfl, Ld.there_block hq1 rfl, b1, by rw [setCells_out _ _ _ _ _ hne]; exact Ld.laid hp (by rw [ha]; rfl), Ld.laid hq1 (by rw [hb]; rfl), Ld.below_setCells _ _ _ lq b1⟩
end Go.Proofs.Ytcfilaiejccfkaa.Po
