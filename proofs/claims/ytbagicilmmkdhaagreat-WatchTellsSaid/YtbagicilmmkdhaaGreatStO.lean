/- The law's model: where one is; an event. -/
import Derived.Test.YtbagicilmmkdhaaGreatStA
import Derived.Test.YtbagicilmmkdhaaGreatVaRt
import Derived.Great.BuildSlice
import Derived.Deep.AppendLies
import Derived.Test.YtbagicilmmkdhaaGreatObNil
import Derived.Test.YtbagicilmmkdhaaGreatVaW
namespace Go.Proofs.YtbagicilmmkdhaaGreat
open Go.RowKit Go.Shelf Go.Lib Go.Sort
open Go.Joins (cell_of_block unfrozen_of_block block_setCell)
set_option linter.unusedVariables false
set_option linter.unusedSimpArgs false
set_option maxRecDepth 20000

/-- The cells of an object. -/
abbrev Cs := { a : Array Value // a.size = 47 ∧ a.all (·.oneCell') = true }
def encC (c : Cs) : List Value := c.1.toList
theorem lenC (c : Cs) : (encC c).length = 47 := by unfold encC; rw [Array.length_toList]; exact c.2.1
theorem oneC (c : Cs) : ∀ u ∈ encC c, u.oneCell' = true := by
  intro u hu
  have h := c.2.2
  rw [← Array.all_toList] at h
  exact List.all_eq_true.1 h u hu
def mkC {base : Nat} {w : World} {cs : Array Value} {o : Ob} (h : Kept base w cs o) : Cs := ⟨cs, h.obj.1, objV_one h.obj⟩
abbrev MoT : TypeId := 34
abbrev SlO : TypeId := 31
def moC (lv : Value) (now : Nat) (mev : Value) : Array Value := #[lv, .int .u64 (now : Int), mev]

structure MoAt (base : Nat) (w : World) (T : List Nat) (mp : Nat) (lv mev : Value) (csl : List Cs) (l : List Ob) (hist : List Ev) : Prop where
  fp : T = mp :: (lv.ownBlock.toList ++ mev.ownBlock.toList)
  bmp : base ≤ mp
  bw : base ≤ w.heap.size
  blk : w.heap[mp]? = some (.cells (moC lv hist.length mev) MoT (0, 0))
  row : w.ownsRow base OT 47 lv csl.length (flat encC csl)
  len : csl.length = l.length
  objs : ∀ (i : Nat) (o : Ob), l[i]? = some o → ∃ c : Cs, csl[i]? = some c ∧ Kept base w c.1 o
  evs : w.ownsRow base ET 4 mev hist.length (flat encE hist)
def MoIs (base : Nat) (w : World) (T : List Nat) (mp : Nat) (l : List Ob) (hist : List Ev) : Prop := ∃ lv mev csl, MoAt base w T mp lv mev csl l hist
theorem MoAt.prot {base : Nat} {w : World} {T : List Nat} {mp : Nat} {lv mev : Value} {csl : List Cs} {l : List Ob} {hist : List Ev} (h : MoAt base w T mp lv mev csl l hist) : ∀ g ∈ T, base ≤ g ∧ g < w.heap.size ∧ ¬ Prot base w g := by
  intro g hg
  rw [h.fp] at hg
  simp only [List.mem_cons, List.mem_append, Option.mem_toList] at hg
  rcases hg with rfl | hg | hg
  · exact cells_prot h.blk h.bmp rfl
  · exact own_prot h.row (Nat.le_refl _) rfl g hg
  · exact own_prot h.evs (Nat.le_refl _) rfl g hg
theorem MoIs.prot {base : Nat} {w : World} {T : List Nat} {mp : Nat} {l : List Ob} {hist : List Ev} (h : MoIs base w T mp l hist) : ∀ g ∈ T, base ≤ g ∧ g < w.heap.size ∧ ¬ Prot base w g := by
  obtain ⟨lv, mev, csl, h⟩ := h
  exact h.prot
theorem MoAt.stay {base : Nat} {w w' : World} {T : List Nat} {mp : Nat} {lv mev : Value} {csl : List Cs} {l : List Ob} {hist : List Ev} (h : MoAt base w T mp lv mev csl l hist) (hs : ∀ g ∈ T, w'.heap[g]? = w.heap[g]?) (hf : Fx base w w') : MoAt base w' T mp lv mev csl l hist := by
  have e := h.fp
  refine ⟨e, h.bmp, Nat.le_trans h.bw hf.size, (hs mp (by rw [e]; simp)).trans h.blk, own_block h.row (fun g hg => hs g (by rw [e, hg]; simp)), h.len, fun i o ho => ?_, own_block h.evs (fun g hg => hs g (by rw [e, hg]; simp))⟩
  obtain ⟨c, h1, h2⟩ := h.objs i o ho
  exact ⟨c, h1, h2.fx hf⟩
theorem MoIs.stay {base : Nat} {w w' : World} {T : List Nat} {mp : Nat} {l : List Ob} {hist : List Ev} (h : MoIs base w T mp l hist) (hs : ∀ g ∈ T, w'.heap[g]? = w.heap[g]?) (hf : Fx base w w') : MoIs base w' T mp l hist := by
  obtain ⟨lv, mev, csl, h⟩ := h
  exact ⟨lv, mev, csl, h.stay hs hf⟩
theorem MoIs.gr {base : Nat} {w w' : World} {T : List Nat} {mp : Nat} {l : List Ob} {hist : List Ev} (h : MoIs base w T mp l hist) (g : Below w.heap.size w w') : MoIs base w' T mp l hist := h.stay (fun k hk => g.block k (h.prot k hk).2.1) (Fx.ofBelow g)
theorem MoIs.chg {base : Nat} {w w' : World} {T S : List Nat} {mp : Nat} {l : List Ob} {hist : List Ev} (h : MoIs base w T mp l hist) (c : Chg S w w') (hd : ∀ g ∈ T, g ∉ S) (hp : ∀ g ∈ S, g < w.heap.size → ¬ Prot base w g) : MoIs base w' T mp l hist :=
  h.stay (fun k hk => c.block k (h.prot k hk).2.1 (hd k hk)) (c.fx hp)

/-- Where one is, -1: it isn't. -/
def idx (l : List Ob) (k : Int) (nm : ByteArray) : Int := if l.any (hit k nm) then (l.findIdx (hit k nm) : Int) else -1
theorem rangeAt_own {w : World} {base g n cap : Nat} {csl : List Cs} {i : Nat} {c : Cs} (h : w.ownsRow base OT 47 (.slice (some ⟨g, 0, none⟩) n cap) csl.length (flat encC csl)) (hc : csl[i]? = some c) : w.rangeAt g (i * 47) c.1.toList := by
  intro j v hv
  have hj : j < 47 := by
    have := (List.getElem?_eq_some_iff.1 hv).1
    rw [Array.length_toList, c.2.1] at this
    exact this
  have := h.cells (g := g) rfl (i * 47 + j) v (by rw [flat_at lenC csl i j c hc hj]; exact hv)
  rwa [add_none', Nat.zero_add] at this
theorem load_at47 {w : World} {g o : Nat} {c : Cs} (h : w.rangeAt g o c.1.toList) : (Instr.loadAt OT (.pointer (some ⟨g, o, none⟩))).run Tryz.prog w = .ok (.agg c.1) w :=
  run_loadAt_mid (P := Tryz.prog) w g o OT c.1.toList _ h Tryz.underlying56 rfl (by rw [Array.length_toList, c.2.1]; exact info_ob47)

set_option maxHeartbeats 4000000 in
theorem note_m (base : Nat) (w : World) (T : List Nat) (mp : Nat) (lv mev : Value) (csl : List Cs) (l : List Ob) (hist : List Ev) (what k : Int) (nm : ByteArray) (cs : Array Value) (h : MoAt base w T mp lv mev csl l hist) (hn : hist.length < 1000000) (h0 : cs[0]? = some (.int .i64 k)) (h1 : cs[1]? = some (.string nm)) :
    Calls Tryz.prog 29 #[.pointer (some ⟨mp, 0, none⟩), .int .i64 what, .agg cs] w fun e w' => e = .returned (.tuple #[]) ∧ ∃ mev', (w'.heap[mp]? = some (.cells (moC lv (hist.length + 1) mev') MoT (0, 0)) ∧
      w'.ownsRow base ET 4 mev' (hist.length + 1) (flat encE (hist ++ [⟨what, k, nm, hist.length + 1⟩])) ∧ (∀ g, mev'.ownBlock = some g → mev.ownBlock = some g ∨ w.heap.size ≤ g)) ∧ Chg (mp :: mev.ownBlock.toList) w w' := by
  have mixed : Tryz.prog.follows .mixedOrders = true := by kernel_rfl
  obtain ⟨B, hB⟩ : ∃ B, B = w.heap.size := ⟨_, rfl⟩
  obtain ⟨now, hnow⟩ : ∃ n, n = hist.length := ⟨_, rfl⟩
  obtain ⟨wb, hwb⟩ : ∃ wb, wb = (w.setCell ⟨mp, 1, none⟩ (.int .u64 ((now : Int) + 1))).alloc (.cells cs OT) := ⟨_, rfl⟩
  have lt : mp < w.heap.size := (Array.getElem?_eq_some_iff.1 h.blk).1
  have hz : (w.setCell ⟨mp, 1, none⟩ (.int .u64 ((now : Int) + 1))).heap.size = w.heap.size := by simp [World.setCell]
  have bm : wb.heap[mp]? = some (.cells (moC lv (now + 1) mev) MoT (0, 0)) := by
    rw [hwb, (Gr.alloc (Gr.refl (w.setCell ⟨mp, 1, none⟩ (.int .u64 ((now : Int) + 1)))) _).heap (by rw [hz]; exact lt), block_setCell h.blk]
    rfl
  have b0 : wb.heap[B]? = some (.cells cs OT (0, 0)) := by
    rw [hwb, hB, ← hz]
    exact heap_alloc_new _ _
  have g1 : Chg [mp] w wb := by
    rw [hwb]
    exact ((Chg.refl [mp] w).setCell 1 _ (.inl (by simp))).trans (Chg.ofGr ((Gr.refl _).alloc _) []) (by simp)
  have hbs : wb.heap.size = B + 1 := by rw [hwb, hB]; simp [World.setCell]
  have ne := own_ne h.evs h.blk (by decide)
  have o1 : wb.ownsRow base ET 4 mev now (flat encE hist) := by
    rw [hwb, hnow]
    exact (ownsRow_setCell_other h.evs ne _).alloc _
  have c1 : w.cell? ⟨mp, 1, none⟩ = some (.int .u64 (now : Int)) := by rw [hnow]; exact cell_of_block h.blk 1
  have f1 : w.frozen? ⟨mp, 1, none⟩ = false := unfrozen_of_block h.blk 1
  have HW := Lib.hid (And.intro hwb (And.intro bm (And.intro b0 (And.intro g1 (And.intro hbs (And.intro ne (And.intro o1 (And.intro hB (And.intro hnow h)))))))))
  have hn' : now < 1000000 := by omega
  clear h bm b0 g1 hbs ne o1 hz hnow hn
  go_enter Tryz.func29, Tryz.ntmps29
  go_upto_region 2 with fail
  rw [← hwb, ← hB]
  clear hwb hB c1 f1 lt
  obtain ⟨hwb, bm, b0, g1, hbs, ne, o1, hB, hnow, h⟩ := HW.out
  have SS : ∀ ws : World, (ws.heap[mp]? = some (.cells (moC lv (now + 1) mev) MoT (0, 0)) ∧ ws.heap[B]? = some (.cells cs OT (0, 0))) → ws.cell? ⟨mp, 2, none⟩ = some mev ∧ ws.cell? ⟨mp, 1, none⟩ = some (.int .u64 ((now : Int) + 1)) ∧ ws.cell? ⟨B, 0, none⟩ = some (.int .i64 k) ∧ ws.cell? ⟨B, 1, none⟩ = some (.string nm) := fun ws hs => ⟨cell_of_block hs.1 2, cell_of_block hs.1 1, (cell_of_block hs.2 0).trans h0, (cell_of_block hs.2 1).trans h1⟩
  have K2 := Lib.hid (fun ws hs => (SS ws hs).1)
  have K1 := Lib.hid (fun ws hs => (SS ws hs).2.1)
  have KB0 := Lib.hid (fun ws hs => (SS ws hs).2.2.1)
  have KB1 := Lib.hid (fun ws hs => (SS ws hs).2.2.2)
  have S0 : Hid (wb.drew.heap[mp]? = some (.cells (moC lv (now + 1) mev) MoT (0, 0)) ∧ wb.drew.heap[B]? = some (.cells cs OT (0, 0))) := ⟨bm, b0⟩
  obtain ⟨wc, hwc⟩ : ∃ W, W = wb.drew.alloc (.cells #[.int .i64 what, .int .i64 k, .string nm, .int .u64 ((now : Int) + 1)] ET) := ⟨_, rfl⟩
  have G : Gr wb wc := hwc ▸ ((Gr.refl wb).drewN 1).alloc _
  have SC : Hid (wc.heap[mp]? = some (.cells (moC lv (now + 1) mev) MoT (0, 0)) ∧ wc.heap[B]? = some (.cells cs OT (0, 0))) := ⟨(G.heap (Array.getElem?_eq_some_iff.1 bm).1).trans bm, (G.heap (Array.getElem?_eq_some_iff.1 b0).1).trans b0⟩
  have oc : wc.ownsRow base ET 4 mev now (flat encE hist) := own_block o1 (fun g hg => G.heap (own_prot o1 (Nat.le_refl _) rfl g hg).2.1)
  have news : Hid (∀ j u, (encE ⟨what, k, nm, now + 1⟩)[j]? = some u → wc.cell? ((⟨wb.heap.size, 0, none⟩ : Addr).add j) = some u) := fun j u hu => World.news_of_block (by rw [hwc]; exact heap_alloc_new wb.drew (.cells (encE ⟨what, k, nm, now + 1⟩).toArray ET)) j u (by simpa using hu)
  have hinf : Hid ((Tryz.prog.info? ET).map (fun i => (i.zero, i.size, i.bytes)) = some (some (.agg #[.int .i64 0, .int .i64 0, .string ⟨#[]⟩, .int .u64 0]), 4, 40)) := by show _ = _; kernel_rfl
  have hbw : Hid (base ≤ wc.heap.size ∧ now + 1 ≤ 1000000) := ⟨by have := h.bw; have := G.below.size; omega, by omega⟩
  have HWC : Hid (wb.drew.alloc (.cells #[.int .i64 what, .int .i64 k, .string nm, .int .u64 ((now : Int) + 1)] ET) = wc) := hwc.symm
  have OC := Lib.hid oc
  clear SS hwb bm b0 g1 hbs ne o1 hB hnow h oc G hwc h0 h1
  refine wp_region_G (f := 19) (S := fun ws => ws.heap[mp]? = some (.cells (moC lv (now + 1) mev) MoT (0, 0)) ∧ ws.heap[B]? = some (.cells cs OT (0, 0))) mixed S0.out (fun hS => ?_)
  refine wpAnyG_takeD (i := 0) (d := 13) (v := .pointer (some ⟨mp, 0, none⟩)) _ rfl rfl (by kernel_rfl) (by kernel_rfl) (by kernel_rfl) (by kernel_rfl) (fun _ _ _ h => h) (Or.inl ⟨by kernel_rfl, fun ws hSw => by first | (go_simp; done) | (go_simp; with_reducible rfl) | (go_simp; rfl)⟩) hS ?_
  simp only [Act.put, List.setIfInBounds_toArray, List.set_cons_zero, List.set_cons_succ]
  refine wpAnyG_takeD (i := 1) (d := 14) (v := .pointer (some ⟨mp, 0, none⟩)) _ rfl rfl (by kernel_rfl) (by kernel_rfl) (by kernel_rfl) (by kernel_rfl) (fun _ _ _ h => h) (Or.inl ⟨by kernel_rfl, fun ws hSw => by first | (go_simp; done) | (go_simp; with_reducible rfl) | (go_simp; rfl)⟩) hS ?_
  simp only [Act.put, List.setIfInBounds_toArray, List.set_cons_zero, List.set_cons_succ]
  refine wpAnyG_takeD (i := 2) (d := 15) (v := .pointer (some ⟨mp, 0, none⟩)) _ rfl rfl (by kernel_rfl) (by kernel_rfl) (by kernel_rfl) (by kernel_rfl) (fun _ _ _ h => h) (Or.inl ⟨by kernel_rfl, fun ws hSw => by first | (go_simp; done) | (go_simp; with_reducible rfl) | (go_simp; rfl)⟩) hS ?_
  simp only [Act.put, List.setIfInBounds_toArray, List.set_cons_zero, List.set_cons_succ]
  refine wpAnyG_takeD (i := 3) (d := 16) (v := .pointer (some ⟨mp, 2, none⟩)) _ rfl rfl (by kernel_rfl) (by kernel_rfl) (by kernel_rfl) (by kernel_rfl) (fun _ _ _ h => h) (Or.inl ⟨by kernel_rfl, fun ws hSw => by first | (go_simp; done) | (go_simp; with_reducible rfl) | (go_simp; rfl)⟩) hS ?_
  simp only [Act.put, List.setIfInBounds_toArray, List.set_cons_zero, List.set_cons_succ]
  refine wpAnyG_takeD (i := 4) (d := 17) (v := mev) _ rfl rfl (by kernel_rfl) (by kernel_rfl) (by kernel_rfl) (by kernel_rfl) (fun _ _ _ h => h) (Or.inl ⟨by kernel_rfl, fun ws hSw => by have q := K2.out ws hSw; first | (go_simp; done) | (go_simp; with_reducible rfl) | (go_simp; rfl)⟩) hS ?_
  simp only [Act.put, List.setIfInBounds_toArray, List.set_cons_zero, List.set_cons_succ]
  refine wpAnyG_takeD (i := 5) (d := 18) (v := .int .i64 what) _ rfl rfl (by kernel_rfl) (by kernel_rfl) (by kernel_rfl) (by kernel_rfl) (fun _ _ _ h => h) (Or.inl ⟨by kernel_rfl, fun ws hSw => by first | (go_simp; done) | (go_simp; with_reducible rfl) | (go_simp; rfl)⟩) hS ?_
  simp only [Act.put, List.setIfInBounds_toArray, List.set_cons_zero, List.set_cons_succ]
  refine wpAnyG_takeD (i := 6) (d := 19) (v := .pointer (some ⟨B, 0, none⟩)) _ rfl rfl (by kernel_rfl) (by kernel_rfl) (by kernel_rfl) (by kernel_rfl) (fun _ _ _ h => h) (Or.inl ⟨by kernel_rfl, fun ws hSw => by first | (go_simp; done) | (go_simp; with_reducible rfl) | (go_simp; rfl)⟩) hS ?_
  simp only [Act.put, List.setIfInBounds_toArray, List.set_cons_zero, List.set_cons_succ]
  refine wpAnyG_takeD (i := 7) (d := 20) (v := .int .i64 k) _ rfl rfl (by kernel_rfl) (by kernel_rfl) (by kernel_rfl) (by kernel_rfl) (fun _ _ _ h => h) (Or.inl ⟨by kernel_rfl, fun ws hSw => by have q := KB0.out ws hSw; first | (go_simp; done) | (go_simp; with_reducible rfl) | (go_simp; rfl)⟩) hS ?_
  simp only [Act.put, List.setIfInBounds_toArray, List.set_cons_zero, List.set_cons_succ]
  refine wpAnyG_takeD (i := 8) (d := 21) (v := .pointer (some ⟨B, 1, none⟩)) _ rfl rfl (by kernel_rfl) (by kernel_rfl) (by kernel_rfl) (by kernel_rfl) (fun _ _ _ h => h) (Or.inl ⟨by kernel_rfl, fun ws hSw => by first | (go_simp; done) | (go_simp; with_reducible rfl) | (go_simp; rfl)⟩) hS ?_
  simp only [Act.put, List.setIfInBounds_toArray, List.set_cons_zero, List.set_cons_succ]
  refine wpAnyG_takeD (i := 9) (d := 22) (v := .string nm) _ rfl rfl (by kernel_rfl) (by kernel_rfl) (by kernel_rfl) (by kernel_rfl) (fun _ _ _ h => h) (Or.inl ⟨by kernel_rfl, fun ws hSw => by have q := KB1.out ws hSw; first | (go_simp; done) | (go_simp; with_reducible rfl) | (go_simp; rfl)⟩) hS ?_
  simp only [Act.put, List.setIfInBounds_toArray, List.set_cons_zero, List.set_cons_succ]
  refine wpAnyG_takeD (i := 10) (d := 23) (v := .pointer (some ⟨mp, 0, none⟩)) _ rfl rfl (by kernel_rfl) (by kernel_rfl) (by kernel_rfl) (by kernel_rfl) (fun _ _ _ h => h) (Or.inl ⟨by kernel_rfl, fun ws hSw => by first | (go_simp; done) | (go_simp; with_reducible rfl) | (go_simp; rfl)⟩) hS ?_
  simp only [Act.put, List.setIfInBounds_toArray, List.set_cons_zero, List.set_cons_succ]
  refine wpAnyG_takeD (i := 11) (d := 24) (v := .pointer (some ⟨mp, 0, none⟩)) _ rfl rfl (by kernel_rfl) (by kernel_rfl) (by kernel_rfl) (by kernel_rfl) (fun _ _ _ h => h) (Or.inl ⟨by kernel_rfl, fun ws hSw => by first | (go_simp; done) | (go_simp; with_reducible rfl) | (go_simp; rfl)⟩) hS ?_
  simp only [Act.put, List.setIfInBounds_toArray, List.set_cons_zero, List.set_cons_succ]
  refine wpAnyG_takeD (i := 12) (d := 25) (v := .pointer (some ⟨mp, 1, none⟩)) _ rfl rfl (by kernel_rfl) (by kernel_rfl) (by kernel_rfl) (by kernel_rfl) (fun _ _ _ h => h) (Or.inl ⟨by kernel_rfl, fun ws hSw => by first | (go_simp; done) | (go_simp; with_reducible rfl) | (go_simp; rfl)⟩) hS ?_
  simp only [Act.put, List.setIfInBounds_toArray, List.set_cons_zero, List.set_cons_succ]
  refine wpAnyG_takeD (i := 13) (d := 26) (v := .int .u64 ((now : Int) + 1)) _ rfl rfl (by kernel_rfl) (by kernel_rfl) (by kernel_rfl) (by kernel_rfl) (fun _ _ _ h => h) (Or.inl ⟨by kernel_rfl, fun ws hSw => by have q := K1.out ws hSw; first | (go_simp; done) | (go_simp; with_reducible rfl) | (go_simp; rfl)⟩) hS ?_
  simp only [Act.put, List.setIfInBounds_toArray, List.set_cons_zero, List.set_cons_succ]
  refine wpAnyG_takeD (i := 14) (d := 27) (v := .agg #[.int .i64 what, .int .i64 k, .string nm, .int .u64 ((now : Int) + 1)]) _ rfl rfl (by kernel_rfl) (by kernel_rfl) (by kernel_rfl) (by kernel_rfl) (fun _ _ _ h => h) (Or.inl ⟨by kernel_rfl, fun ws hSw => by first | (go_simp; done) | (go_simp; with_reducible rfl) | (go_simp; rfl)⟩) hS ?_
  simp only [Act.put, List.setIfInBounds_toArray, List.set_cons_zero, List.set_cons_succ]
  refine wpAnyG_ready (rs := [15]) (by kernel_rfl) (by simp) ?_
  refine AllReadyG.cons rfl (fun K hK => ?_) AllReadyG.nil
  go_simp
  rw [show (wb.alloc (.cells #[.int .i64 what, .int .i64 k, .string nm, .int .u64 ((now : Int) + 1)] ET)).drew = wc from HWC.out]
  refine hK _ _ SC.out (fun hS => ?_)
  try simp only [Act.put, List.setIfInBounds_toArray, List.set_cons_zero, List.set_cons_succ]
  refine wpAnyG_ready (rs := [16]) (by kernel_rfl) (by simp) ?_
  refine AllReadyG.cons rfl (fun K hK => ?_) AllReadyG.nil
  refine step_append (by rfl) _ _ SlE rfl base ET _ 4 40 Tryz.underlying32 hinf.out rfl (by decide) mev now (flat encE hist) (by rfl) OC.out ⟨wb.heap.size, 0, none⟩ 1 1 (encE ⟨what, k, nm, now + 1⟩) (by rfl) (by rfl) news.out (oneE _) (by have := hbw.out.2; unfold maxLen; omega) (by have := hbw.out.2; omega) hbw.out.1 ?_
  intro v' w4 o4 gb4 at4
  obtain ⟨hwb, bm, b0, g1, hbs, ne, o1, hB, hnow, h⟩ := HW.out
  have hSC := SC.out
  have ne4 : mev.ownBlock ≠ some mp := ne
  have neB : mev.ownBlock ≠ some B := fun e => by
    have := (own_prot h.evs (Nat.le_refl _) rfl B e).2.1
    omega
  have m4 : w4.heap[mp]? = some (.cells (moC lv (now + 1) mev) MoT (0, 0)) := (gb4.block mp (Array.getElem?_eq_some_iff.1 hSC.1).1 (fun e => ne4 e.symm)).trans hSC.1
  have B4 : w4.heap[B]? = some (.cells cs OT (0, 0)) := (gb4.block B (Array.getElem?_eq_some_iff.1 hSC.2).1 (fun e => neB e.symm)).trans hSC.2
  obtain ⟨q', c', rfl⟩ := own_slice o4
  obtain ⟨w5, hw5⟩ : ∃ W, W = w4.setCell ⟨mp, 2, none⟩ (.slice q' (now + 1) c') := ⟨_, rfl⟩
  have FIN : Hid (∃ mev', (w5.heap[mp]? = some (.cells (moC lv (now + 1) mev') MoT (0, 0)) ∧ w5.ownsRow base ET 4 mev' (now + 1) (flat encE (hist ++ [⟨what, k, nm, now + 1⟩])) ∧ (∀ g, mev'.ownBlock = some g → mev.ownBlock = some g ∨ w.heap.size ≤ g)) ∧ Chg (mp :: mev.ownBlock.toList) w w5) := by
    have hne := own_ne o4 m4 (by decide)
    refine ⟨_, ⟨by rw [hw5, block_setCell m4]; rfl, ?_, ?_⟩, ?_⟩
    · rw [hw5]
      have := ownsRow_setCell_other o4 (a := ⟨mp, 2, none⟩) hne (.slice q' (now + 1) c')
      simpa [flat] using this
    · intro g hg
      have hcs : w.heap.size ≤ wc.heap.size := by
        have a1 := g1.size
        have a2 : wc.heap.size = wb.heap.size + 1 := by rw [← HWC.out]; simp
        omega
      rcases at4 with e | e
      · rw [e] at hg; exact .inl hg
      · rw [e] at hg
        cases hg
        exact .inr hcs
    · rw [hw5]
      refine Chg.setCell ?_ 2 _ (.inl (by simp))
      have gc : Gr wb wc := by rw [← HWC.out]; exact ((Gr.refl wb).drewN 1).alloc _
      have a : Chg (mp :: mev.ownBlock.toList) w wc := (g1.less (fun g hg => .inl (by simp at hg; simp [hg]))).trans (Chg.ofGr gc []) (by simp)
      exact a.trans (Chg.ofGrown (S := mev.ownBlock.toList) gb4 (fun g e => .inl (by rw [e]; simp))) (fun g hg => .inl (List.mem_cons_of_mem _ hg))
  have u4 : w4.cell? ⟨mp, 2, none⟩ = some mev := cell_of_block m4 2
  have f4 : w4.frozen? ⟨mp, 2, none⟩ = false := unfrozen_of_block m4 2
  have HN := Lib.hid hnow
  have HW5 : Hid (w4.setCell ⟨mp, 2, none⟩ (.slice q' (now + 1) c') = w5) := hw5.symm
  refine hK _ _ ⟨m4, B4⟩ (fun hS => ?_)
  clear hwb bm b0 g1 hbs ne o1 hB hnow h hSC ne4 neB m4 B4 o4 gb4 at4 hw5 HW
  try simp only [Act.put, List.setIfInBounds_toArray, List.set_cons_zero, List.set_cons_succ]
  refine wpAnyG_takeD (i := 17) (d := 30) (v := .pointer (some ⟨mp, 0, none⟩)) _ rfl rfl (by kernel_rfl) (by kernel_rfl) (by kernel_rfl) (by kernel_rfl) (fun _ _ _ h => h) (Or.inl ⟨by kernel_rfl, fun ws hSw => by first | (go_simp; done) | (go_simp; with_reducible rfl) | (go_simp; rfl)⟩) hS ?_
  simp only [Act.put, List.setIfInBounds_toArray, List.set_cons_zero, List.set_cons_succ]
  refine wpAnyG_takeD (i := 18) (d := 31) (v := .pointer (some ⟨mp, 2, none⟩)) _ rfl rfl (by kernel_rfl) (by kernel_rfl) (by kernel_rfl) (by kernel_rfl) (fun _ _ _ h => h) (Or.inl ⟨by kernel_rfl, fun ws hSw => by first | (go_simp; done) | (go_simp; with_reducible rfl) | (go_simp; rfl)⟩) hS ?_
  simp only [Act.put, List.setIfInBounds_toArray, List.set_cons_zero, List.set_cons_succ]
  refine wpAnyG_ready (rs := [19]) (by kernel_rfl) (by simp) ?_
  refine AllReadyG.last rfl rfl (fun K hK => ?_)
  go_simp
  rw [HW5.out]
  refine hK _ _ ?_
  try simp only [Act.put, List.setIfInBounds_toArray, List.set_cons_zero, List.set_cons_succ]
  refine wpAnyG_done (by kernel_rfl) ?_
  go_wp2
  go_end0
  rw [← HN.out]
  exact ⟨rfl, FIN.out⟩

theorem name_test (a b : ByteArray) : (a.toList == b.toList) = decide (a = b) := by
  rw [ByteArray.toList_eq, ByteArray.toList_eq, Bool.eq_iff_iff, beq_iff_eq, decide_eq_true_eq]
  exact ⟨fun h => by_inj h, fun h => by rw [h]⟩
theorem hit_eq (k : Int) (nm : ByteArray) (o : Ob) : hit k nm o = ((o.kind == k) && (o.name.toList == nm.toList)) := by
  rw [name_test, Bool.eq_iff_iff, hit_iff, Bool.and_eq_true, beq_iff_eq, decide_eq_true_eq]
theorem idx_at {l : List Ob} {k : Int} {nm : ByteArray} {j : Nat} {o : Ob} (h : l[j]? = some o) (hh : hit k nm o = true) (hb : ∀ i x, i < j → l[i]? = some x → hit k nm x = false) : idx l k nm = (j : Int) := by
  have hj := (List.getElem?_eq_some_iff.1 h)
  obtain ⟨hlt, he⟩ := hj
  have ha : l.any (hit k nm) = true := List.any_eq_true.2 ⟨o, List.mem_of_getElem? h, hh⟩
  unfold idx
  rw [if_pos ha]
  have : l.findIdx (hit k nm) = j := by
    rw [List.findIdx_eq hlt]
    refine ⟨by rw [he]; exact hh, fun i hi => ?_⟩
    exact hb i _ hi (List.getElem?_eq_getElem (by omega))
  rw [this]
theorem idx_none {l : List Ob} {k : Int} {nm : ByteArray} (hb : ∀ i x, i < l.length → l[i]? = some x → hit k nm x = false) : idx l k nm = -1 := by
  unfold idx
  rw [if_neg]
  intro h
  obtain ⟨x, hx, hp⟩ := List.any_eq_true.1 h
  obtain ⟨i, hi⟩ := List.getElem?_of_mem hx
  rw [hb i x (List.getElem?_eq_some_iff.1 hi).1 hi] at hp
  cases hp

set_option maxHeartbeats 4000000 in
theorem find_m (base : Nat) (w : World) (T : List Nat) (mp : Nat) (l : List Ob) (hist : List Ev) (k : Int) (nm : ByteArray) (h : MoIs base w T mp l hist) (hn : l.length < 1000000) :
    Calls Tryz.prog 27 #[.pointer (some ⟨mp, 0, none⟩), .int .i64 k, .string nm] w fun e w' => e = .returned (.int .i64 (idx l k nm)) ∧ Below w.heap.size w w' := by
  have mixed : Tryz.prog.follows .mixedOrders = true := by kernel_rfl
  obtain ⟨lv, mev, csl, h⟩ := h
  obtain ⟨q, c, hlv⟩ := own_slice h.row
  obtain ⟨n, hnl⟩ : ∃ n, n = csl.length := ⟨_, rfl⟩
  have hn2 : n < 1000000 := by rw [hnl, h.len]; exact hn
  have c0 : w.cell? ⟨mp, 0, none⟩ = some (.slice q n c) := by rw [hnl, ← hlv]; exact cell_of_block h.blk 0
  have HH := Lib.hid (And.intro h (And.intro hlv hnl))
  clear h hlv hnl hn
  go_enter Tryz.func27, Tryz.ntmps27
  go_wp2_with fail
  go_loopg [14] n (fun g vi wr => ∃ j : Nat, vi = .int .i64 (j : Int) ∧ j ≤ n ∧ n - j ≤ g ∧ Hid (∀ i x, i < j → l[i]? = some x → hit k nm x = false) ∧ Hid (Below w.heap.size w wr))
  case atStart => exact ⟨0, rfl, Nat.zero_le _, by omega, fun i x hi => by omega, Below.refl _ _⟩
  case round =>
    obtain ⟨j, rfl, h1, h2, HP, HB⟩ := hrel
    by_cases hlt : j < n
    · obtain ⟨h, hlv, hnl⟩ := HH.out
      have hl := h.len
      obtain ⟨o, ho⟩ : ∃ o, l[j]? = some o := ⟨l[j]'(by omega), List.getElem?_eq_getElem (by omega)⟩
      obtain ⟨x, hx, hk⟩ := h.objs j o ho
      obtain ⟨g, cap, cur, hgq, hgb, hgh, _⟩ : ∃ g cap cur, lv = .slice (some ⟨g, 0, none⟩) csl.length cap ∧ base ≤ g ∧ w.heap[g]? = some (.cells cur OT (0, 0)) ∧ True := by
        rcases h.row.2 with ⟨_, h0⟩ | ⟨g, cap, cur, e1, e2, e3, _⟩
        · omega
        · exact ⟨g, cap, cur, e1, e2, e3, trivial⟩
      have hq : q = some ⟨g, 0, none⟩ := by rw [hlv] at hgq; simp only [Value.slice.injEq] at hgq; exact hgq.1
      subst hq
      have hlg := (Array.getElem?_eq_some_iff.1 hgh).1
      have hr : w.rangeAt g (j * 47) x.1.toList := rangeAt_own (by have := h.row; rw [hgq] at this; exact this) hx
      have LD := Lib.hid (load_at47 (c := x) (rangeAt_below hr HB.out hlg))
      obtain ⟨X, hX⟩ : ∃ X, X = x.1 := ⟨_, rfl⟩
      rw [← hX] at LD
      have z0 : (wr.alloc (.cells zerC OT)).heap[wr.heap.size]? = some (.cells zerC OT (0, 0)) := heap_alloc_new wr _
      have hXs : X.size = 47 := by rw [hX]; exact x.2.1
      obtain ⟨th, n0, fx1, c1⟩ := store_ob (base := wr.heap.size) z0 rfl hXs (Nat.le_refl _)
      obtain ⟨w3, hw3⟩ : ∃ W, W = (wr.alloc (.cells zerC OT)).setCells wr.heap.size 0 X.toList := ⟨_, rfl⟩
      obtain ⟨A, hA⟩ : ∃ A, A = wr.heap.size := ⟨_, rfl⟩
      rw [← hw3] at n0 c1
      rw [← hA] at n0 c1
      have b3 : Below wr.heap.size wr w3 := by
        have g : Gr wr (wr.alloc (.cells zerC OT)) := (Gr.refl wr).alloc _
        exact ((Xb.ofGr g A).trans ⟨c1.os, c1.tape, c1.output, c1.size, fun k hk hne => c1.block k hk (by simpa using hne)⟩).below (by omega) (Nat.le_refl _)
      have B3 : Hid (Below w.heap.size w w3) := HB.out.trans (b3.mono HB.out.size)
      have TH := Lib.hid th
      have IN : Hid ((Tryz.prog.info? OT).map (·.size) = some X.size) := by show _ = _; rw [hXs]; exact info_ob47
      have ON : Hid (X.all (·.oneCell') = true) := by show _ = _; rw [hX]; exact x.2.2
      have HW3 : Hid ((wr.alloc (.cells zerC OT)).setCells wr.heap.size 0 X.toList = w3 ∧ wr.heap.size = A) := ⟨hw3.symm, hA.symm⟩
      have ov : ObjV w X o := by rw [hX]; exact hk.obj
      have q0 : w3.cell? ⟨A, 0, none⟩ = some (.int .i64 o.kind) := by rw [cell_of_block n0 0]; exact ov.2.1.1
      have q1 : w3.cell? ⟨A, 1, none⟩ = some (.string o.name) := by rw [cell_of_block n0 1]; exact ov.2.1.2.1
      have HO := Lib.hid ho
      have hhit := hit_eq k nm o
      obtain ⟨t1, ht1⟩ : ∃ t, t = (o.kind == k) := ⟨_, rfl⟩
      obtain ⟨t2, ht2⟩ : ∃ t, t = (o.name.toList == nm.toList) := ⟨_, rfl⟩
      rw [← ht1, ← ht2] at hhit
      have HHit := Lib.hid hhit
      have e1 : (o.kind == k) = t1 := ht1.symm
      have e2 : (o.name.toList == nm.toList) = t2 := ht2.symm
      clear h hlv hnl hl ho hx hk hgq hgb hgh hlg hr hX z0 hXs th n0 fx1 c1 hw3 hA b3 ov hhit ht1 ht2
      go_upto_region 4 with (first | (refine wpList_load_by (by kernel_rfl) OT _ rfl (.pointer (some ⟨g, j * 47, none⟩)) (.agg X) (by rfl) LD.out ?_) | (refine wpList_store_mid rfl _ _ _ rfl wr.heap.size 0 X (by rfl) (by rfl) TH.out IN.out ON.out ?_; rw [HW3.out.1, HW3.out.2]))
      cases t1 with
      | false =>
        have HN : Hid (∀ i x, i < j + 1 → l[i]? = some x → hit k nm x = false) := fun i x hi hx => by
          rcases Nat.lt_or_ge i j with h | h
          · exact HP.out i x h hx
          · obtain rfl : i = j := by omega
            rw [HO.out] at hx
            cases hx
            rw [HHit.out]; rfl
        clear HP HHit HO TH IN ON HW3 LD
        go_wp2
        go_roundg (n - (j + 1))
        case measure => omega
        case rel => exact ⟨j + 1, by push_cast; rfl, by omega, by omega, HN.out, B3.out⟩
      | true =>
        cases t2 with
        | false =>
          have HN : Hid (∀ i x, i < j + 1 → l[i]? = some x → hit k nm x = false) := fun i x hi hx => by
            rcases Nat.lt_or_ge i j with h | h
            · exact HP.out i x h hx
            · obtain rfl : i = j := by omega
              rw [HO.out] at hx
              cases hx
              rw [HHit.out]; rfl
          clear HP HHit HO TH IN ON HW3 LD
          go_wp2
          go_roundg (n - (j + 1))
          case measure => omega
          case rel => exact ⟨j + 1, by push_cast; rfl, by omega, by omega, HN.out, B3.out⟩
        | true =>
          have FIN : Hid (idx l k nm = (j : Int)) := idx_at HO.out (by rw [HHit.out]; rfl) HP.out
          clear HP HHit HO TH IN ON HW3 LD
          go_wp2
          go_ret
          exact ⟨by rw [FIN.out]; rfl, B3.out⟩
    · have FIN : Hid (idx l k nm = -1) := idx_none (fun i x hi hx => HP.out i x (by have := HH.out.1.len; have := HH.out.2.2; omega) hx)
      clear HP HH
      go_wp2
      go_ret
      exact ⟨by rw [FIN.out]; rfl, HB.out⟩
end Go.Proofs.YtbagicilmmkdhaaGreat
/- Objects deleted. -/
namespace Go.Proofs.YtbagicilmmkdhaaGreat
open Go.RowKit Go.Shelf Go.Lib Go.Sort
open Go.Joins (cell_of_block unfrozen_of_block block_setCell)
set_option linter.unusedVariables false
set_option linter.unusedSimpArgs false
set_option maxRecDepth 20000

/-- What Delete is refused with; 0: it isn't. -/
def delE (k : Int) (nm : ByteArray) (ver : Nat) (l : List Ob) : Int := if k < 0 ∨ 5 ≤ k then 17 else match l.find? (hit k nm) with | none => 7 | some x => if ver ≠ 0 ∧ ver ≠ x.ver then 9 else 0

set_option maxHeartbeats 4000000 in
theorem delete_bad (w : World) (sp : Nat) (k : Int) (nm : ByteArray) (ver : Nat) (h : k < 0 ∨ 5 ≤ k) :
    Calls Tryz.prog 28 #[.pointer (some ⟨sp, 0, none⟩), .int .i64 k, .string nm, .int .u64 (ver : Int)] w fun e w' => e = .returned (.tuple #[.int .u64 0, .int .i64 17]) ∧ w = w' := by
  by_cases h1 : k < 0
  · have t : decide (k < 0) = true := decide_eq_true h1
    clear h
    go_enter Tryz.func28, Tryz.ntmps28
    go_wp2
    refine bodyPost_ret (results_tmp2 rfl _ _ _) rfl ?_
    exact ⟨rfl, rfl⟩
  · have t : decide (k < 0) = false := decide_eq_false h1
    have t2 : decide (5 ≤ k) = true := decide_eq_true (by omega)
    clear h
    go_enter Tryz.func28, Tryz.ntmps28
    go_wp2
    refine bodyPost_ret (results_tmp2 rfl _ _ _) rfl ?_
    exact ⟨rfl, rfl⟩

set_option maxHeartbeats 8000000 in
theorem delete_any (base : Nat) (w : World) (S : List Nat) (sp : Nat) (most : Int) (l : List Ob) (hist : List Ev) (k : Int) (nm : ByteArray) (ver : Nat) (hs : StIs base w S sp most l hist) (hn : hist.length < 1000000) (hk : 0 ≤ k ∧ k < 5) (hnm : nm.size ≤ maxLen) :
    Calls Tryz.prog 28 #[.pointer (some ⟨sp, 0, none⟩), .int .i64 k, .string nm, .int .u64 (ver : Int)] w fun e w' =>
      (delE k nm ver l ≠ 0 ∧ e = .returned (.tuple #[.int .u64 0, .int .i64 (delE k nm ver l)]) ∧ Below w.heap.size w w') ∨
      (delE k nm ver l = 0 ∧ e = .returned (.tuple #[.int .u64 ((hist.length + 1 : Nat) : Int), .int .i64 0]) ∧ After base w w' S sp most (del l k nm) (hist ++ [⟨2, k, nm, hist.length + 1⟩])) := by
  have mixed : Tryz.prog.follows .mixedOrders = true := by kernel_rfl
  obtain ⟨mb, Dm, ev, kept, h⟩ := hs
  have k64 : I64 k := by unfold I64; omega
  have hdE : delE k nm ver l = match l.find? (hit k nm) with | none => 7 | some x => if ver ≠ 0 ∧ ver ≠ x.ver then 9 else 0 := if_neg (by omega)
  obtain ⟨A, hA⟩ : ∃ A, A = w.heap.size := ⟨_, rfl⟩
  obtain ⟨n, hnw⟩ : ∃ n, n = w.alloc (.cells #[.int .i64 k, .string nm] KT) := ⟨_, rfl⟩
  have G0 : Gr w n := hnw ▸ (Gr.refl w).alloc _
  have a0 : n.heap[A]? = some (.cells #[.int .i64 k, .string nm] KT (0, 0)) := by rw [hnw, hA]; exact heap_alloc_new w _
  have hns : n.heap.size = A + 1 := by rw [hnw, hA]; simp
  have SN := (show StIs base w S sp most l hist from ⟨mb, Dm, ev, kept, h⟩).gr G0.below
  have hN : StAt base n S sp mb Dm ev kept most l hist := h.stay (fun g hg => G0.heap (h.prot g hg).2.1) (Fx.ofBelow G0.below)
  obtain ⟨th, V, hV, hVo, hfind, LK⟩ : ∃ th V, V.size = 47 ∧ V.all (·.oneCell') = true ∧ ((th = false ∧ l.find? (hit k nm) = none) ∨ ∃ x, th = true ∧ l.find? (hit k nm) = some x ∧ Kept base n V x) ∧ (∀ ws : World, ws.heap[mb]? = n.heap[mb]? → (Instr.lookup MT (.map (some mb)) (thing k nm) true).run Tryz.prog ws = .ok (.tuple #[.agg V, .bool th]) ws) := by
    rcases hN.map.look k64 hnm with ⟨a1, a2, a3⟩ | ⟨x, cx, a1, a2, a3, a4⟩
    · exact ⟨false, zerC, rfl, zer_all, .inl ⟨rfl, a2⟩, a3⟩
    · exact ⟨true, cx, a3.obj.1, objV_one a3.obj, .inr ⟨x, rfl, a2, a3⟩, a4⟩
  have hmc : n.cell? ⟨sp, 2, none⟩ = some (.map (some mb)) := cell_of_block hN.blk 2
  have hml : mb < n.heap.size := (map_prot hN.map h.bmb).2.1
  have hspl : sp < n.heap.size := (Array.getElem?_eq_some_iff.1 hN.blk).1
  have hAl : A < n.heap.size := (Array.getElem?_eq_some_iff.1 a0).1
  have KB : Hid (∀ ws : World, Below n.heap.size n ws → ws.cell? ⟨sp, 2, none⟩ = some (.map (some mb))) := fun ws b => (World.cell?_of_block (b.block sp hspl)).trans hmc
  have KL : Hid (∀ ws : World, Below n.heap.size n ws → ws.rangeAt A 0 [.int .i64 k, .string nm]) := fun ws b => rangeAt_block (cs := #[.int .i64 k, .string nm]) ((b.block A hAl).trans a0)
  have KK : Hid (∀ ws : World, Below n.heap.size n ws → (Instr.lookup MT (.map (some mb)) (.agg #[.int .i64 k, .string nm]) true).run Tryz.prog ws = .ok (.tuple #[.agg V, .bool th]) ws) := fun ws b => LK ws (b.block mb hml)
  have hik : (Tryz.prog.info? KT).map (·.size) = some ([.int .i64 k, .string nm] : List Value).length := by kernel_rfl
  have huk := Tryz.underlying98
  have IV : Hid ((Tryz.prog.info? OT).map (·.size) = some V.size) := by show _ = _; rw [hV]; exact info_ob47
  have OV := Lib.hid hVo
  have S0 : Hid (Below n.heap.size n n.drew) := ((Gr.refl n).drewN 1).below
  have t1 : decide (k < 0) = false := decide_eq_false (by omega)
  have t2 : decide (5 ≤ k) = false := decide_eq_false (by omega)
  have HW : Hid (w.alloc (.cells #[.int .i64 k, .string nm] KT) = n ∧ w.heap.size = A) := ⟨hnw.symm, hA.symm⟩
  have HT := Lib.hid (And.intro h (And.intro hN (And.intro hfind (And.intro G0 (And.intro a0 (And.intro hns (And.intro hA (And.intro hdE (And.intro k64 (And.intro hnm hml))))))))))
  have SV : Hid (∀ (v : World) (A : Nat), Below n.heap.size n v → n.heap.size ≤ A → v.heap[A]? = some (.cells zerC OT (0, 0)) → v.there A 0 V.size ∧ (v.setCells A 0 V.toList).heap[A]? = some (.cells V OT (0, 0)) ∧ Below n.heap.size n (v.setCells A 0 V.toList)) := fun v A b hA hz => by
    obtain ⟨a1, a2, a3, a4⟩ := store_ob (base := A) hz rfl hV (Nat.le_refl _)
    exact ⟨a1, a2, b.trans (a4.below (fun g hg => by simp at hg; omega) b.size)⟩
  clear h hN hfind G0 a0 hns hA hdE k64 hnm hml hspl hAl LK hV hVo hmc SN hnw hk
  go_enter Tryz.func28, Tryz.ntmps28
  go_upto_region 6 with fail
  rw [HW.out.1, HW.out.2]
  go_cut [11, 12] from 24 to 32 (fun v11 v12 wc => ∃ C, v11 = .pointer (some ⟨C, 0, none⟩) ∧ v12 = .bool th ∧ Hid (n.heap.size ≤ C ∧ wc.heap[C]? = some (.cells V OT (0, 0)) ∧ Below n.heap.size n wc))
  case first =>
    refine wp_region_held_drew (S := fun ws => Below n.heap.size n ws) mixed S0.out (fun hS => ?_)
    refine wpAnyH_takeD (i := 0) (d := 25) (v := .pointer (some ⟨sp, 0, none⟩)) _ rfl rfl (by kernel_rfl) (by kernel_rfl) (by kernel_rfl) (fun _ _ _ h => h) (Or.inl ⟨by kernel_rfl, fun ws hSw => by first | (go_simp; done) | (go_simp; with_reducible rfl) | (go_simp; rfl)⟩) hS ?_
    simp only [Act.put, List.setIfInBounds_toArray, List.set_cons_zero, List.set_cons_succ]
    refine wpAnyH_takeD (i := 1) (d := 26) (v := .pointer (some ⟨sp, 0, none⟩)) _ rfl rfl (by kernel_rfl) (by kernel_rfl) (by kernel_rfl) (fun _ _ _ h => h) (Or.inl ⟨by kernel_rfl, fun ws hSw => by first | (go_simp; done) | (go_simp; with_reducible rfl) | (go_simp; rfl)⟩) hS ?_
    simp only [Act.put, List.setIfInBounds_toArray, List.set_cons_zero, List.set_cons_succ]
    refine wpAnyH_takeD (i := 2) (d := 27) (v := .pointer (some ⟨sp, 2, none⟩)) _ rfl rfl (by kernel_rfl) (by kernel_rfl) (by kernel_rfl) (fun _ _ _ h => h) (Or.inl ⟨by kernel_rfl, fun ws hSw => by first | (go_simp; done) | (go_simp; with_reducible rfl) | (go_simp; rfl)⟩) hS ?_
    simp only [Act.put, List.setIfInBounds_toArray, List.set_cons_zero, List.set_cons_succ]
    refine wpAnyH_takeD (i := 3) (d := 28) (v := .map (some mb)) _ rfl rfl (by kernel_rfl) (by kernel_rfl) (by kernel_rfl) (fun _ _ _ h => h) (Or.inl ⟨by kernel_rfl, fun ws hSw => by have q := KB.out ws hSw; first | (go_simp; done) | (go_simp; with_reducible rfl) | (go_simp; rfl)⟩) hS ?_
    simp only [Act.put, List.setIfInBounds_toArray, List.set_cons_zero, List.set_cons_succ]
    refine wpAnyH_takeD (i := 4) (d := 29) (v := .agg #[.int .i64 k, .string nm]) _ rfl rfl (by kernel_rfl) (by kernel_rfl) (by kernel_rfl) (fun _ _ _ h => h) (yieldsIf_load_mid (by kernel_rfl) _ _ rfl A 0 (by kernel_rfl) [.int .i64 k, .string nm] _ (fun ws hSw => KL.out ws hSw) huk rfl hik) hS ?_
    simp only [Act.put, List.setIfInBounds_toArray, List.set_cons_zero, List.set_cons_succ]
    refine wpAnyH_takeD (i := 5) (d := 30) (v := .tuple #[.agg V, .bool th]) _ rfl rfl (by kernel_rfl) (by kernel_rfl) (by kernel_rfl) (fun _ _ _ h => h) (Or.inl ⟨by kernel_rfl, fun ws hSw => by have q := KK.out ws hSw; first | (go_simp; done) | (go_simp; with_reducible rfl) | (go_simp; rfl)⟩) hS ?_
    simp only [Act.put, List.setIfInBounds_toArray, List.set_cons_zero, List.set_cons_succ]
    refine wpAnyH_takeD (i := 6) (d := 24) (v := .tuple #[.agg V, .bool th]) _ rfl rfl (by kernel_rfl) (by kernel_rfl) (by kernel_rfl) (fun _ _ _ h => h) (Or.inl ⟨by kernel_rfl, fun ws hSw => by first | (go_simp; done) | (go_simp; with_reducible rfl) | (go_simp; rfl)⟩) hS ?_
    simp only [Act.put, List.setIfInBounds_toArray, List.set_cons_zero, List.set_cons_succ]
    refine wpAnyH_takeD (i := 7) (d := 31) (v := .agg V) _ rfl rfl (by kernel_rfl) (by kernel_rfl) (by kernel_rfl) (fun _ _ _ h => h) (Or.inl ⟨by kernel_rfl, fun ws hSw => by first | (go_simp; done) | (go_simp; with_reducible rfl) | (go_simp; rfl)⟩) hS ?_
    simp only [Act.put, List.setIfInBounds_toArray, List.set_cons_zero, List.set_cons_succ]
    refine wpAnyH_takeD (i := 8) (d := 32) (v := .bool th) _ rfl rfl (by kernel_rfl) (by kernel_rfl) (by kernel_rfl) (fun _ _ _ h => h) (Or.inl ⟨by kernel_rfl, fun ws hSw => by first | (go_simp; done) | (go_simp; with_reducible rfl) | (go_simp; rfl)⟩) hS ?_
    simp only [Act.put, List.setIfInBounds_toArray, List.set_cons_zero, List.set_cons_succ]
    refine wpAnyH_ready (rs := [9]) (by kernel_rfl) (by simp) ?_
    refine AllReadyH.cons rfl (fun K hK => ?_) AllReadyH.nil
    go_simp
    obtain ⟨w3, hw3⟩ : ∃ W, W = (n.alloc (.cells zerC OT)).drew := ⟨_, rfl⟩
    have z3 : w3.heap[n.heap.size]? = some (.cells zerC OT (0, 0)) := by rw [hw3]; exact heap_alloc_new n _
    have b3 : Below n.heap.size n w3 := by rw [hw3]; exact (((Gr.refl n).alloc _).drewN 1).below
    obtain ⟨th1, x1, x2⟩ := SV.out w3 n.heap.size b3 (Nat.le_refl _) z3
    obtain ⟨w6, hw6⟩ : ∃ W, W = w3.setCells n.heap.size 0 V.toList := ⟨_, rfl⟩
    rw [← hw6] at x1 x2
    have FIN : Hid (n.heap.size ≤ n.heap.size ∧ w6.heap[n.heap.size]? = some (.cells V OT (0, 0)) ∧ Below n.heap.size n w6) := ⟨Nat.le_refl _, x1, x2⟩
    have TH := Lib.hid th1
    have HW6 := Lib.hid hw6
    rw [← hw3]
    refine hK _ _ b3 (fun hS => ?_)
    clear th1 x1 x2 hw6 z3 hw3 b3
    try simp only [Act.put, List.setIfInBounds_toArray, List.set_cons_zero, List.set_cons_succ]
    refine wpAnyH_ready (rs := [10]) (by kernel_rfl) (by simp) ?_
    refine AllReadyH.cons rfl (fun K hK => ?_) AllReadyH.nil
    rw [if_pos (by rfl)]
    refine wp_store_mid OT _ _ rfl n.heap.size 0 V (by rfl) (by rfl) TH.out IV.out OV.out ?_
    rw [← HW6.out]
    refine hK _ _ FIN.out.2.2 (fun hS => ?_)
    try simp only [Act.put, List.setIfInBounds_toArray, List.set_cons_zero, List.set_cons_succ]
    refine wpAnyH_takeD (i := 11) (d := 12) (v := .bool th) _ rfl rfl (by kernel_rfl) (by kernel_rfl) (by kernel_rfl) (fun _ _ _ h => h) (Or.inl ⟨by kernel_rfl, fun ws hSw => by first | (go_simp; done) | (go_simp; with_reducible rfl) | (go_simp; rfl)⟩) hS ?_
    simp only [Act.put, List.setIfInBounds_toArray, List.set_cons_zero, List.set_cons_succ]
    refine wpAnyH_done (by kernel_rfl) ?_ _
    go_wp2_with fail
    go_meet
    case rel => exact ⟨_, rfl, rfl, FIN⟩
  case rest =>
    obtain ⟨C, rfl, rfl, HC⟩ := hcut
    obtain ⟨h, hN, hfind, G0, a0, hns, hA, hdE, k64, hnm, hml⟩ := HT.out
    obtain ⟨hC, c0, bc⟩ := HC.out
    have BW : Below w.heap.size w wc := G0.below.trans (bc.mono G0.below.size)
    rcases hfind with ⟨rfl, hf⟩ | ⟨x, rfl, hf, kx⟩
    · have FIN : Hid (delE k nm ver l = 7 ∧ Below w.heap.size w wc) := ⟨by rw [hdE, hf], BW⟩
      clear h hN G0 a0 hns hA hdE k64 hnm hml hC c0 bc BW hf HT HC KB KL KK IV OV S0 HW SV hik huk
      go_wp2
      refine bodyPost_ret (results_tmp2 rfl _ _ _) rfl ?_
      exact .inl ⟨by rw [FIN.out.1]; decide, by rw [FIN.out.1]; rfl, FIN.out.2⟩
    · have KX := kx.fx (Fx.ofBelow (base := base) bc)
      obtain ⟨vx, hvx⟩ : ∃ v, v = x.ver := ⟨_, rfl⟩
      have q2 : wc.cell? ⟨C, 2, none⟩ = some (.int .u64 (vx : Int)) := by rw [hvx]; exact (cell_of_block c0 2).trans KX.obj.2.1.2.2.1
      rw [hf] at hdE
      simp only [← hvx] at hdE
      by_cases hbad : ver ≠ 0 ∧ ver ≠ vx
      · have t3 : ((ver : Int) != 0) = true := by rw [bne_iff_ne]; omega
        have t4 : ((ver : Int) != (vx : Int)) = true := by rw [bne_iff_ne]; omega
        have FIN : Hid (delE k nm ver l = 9 ∧ Below w.heap.size w wc) := ⟨by rw [hdE]; exact if_pos hbad, BW⟩
        clear h hN G0 a0 hns hA hdE k64 hnm hml hC c0 bc BW hf HT HC KB KL KK IV OV S0 HW SV hik huk kx KX hvx hbad
        go_wp2
        refine bodyPost_ret (results_tmp2 rfl _ _ _) rfl ?_
        exact .inl ⟨by rw [FIN.out.1]; decide, by rw [FIN.out.1]; rfl, FIN.out.2⟩
      · have hz : delE k nm ver l = 0 := by rw [hdE]; exact if_neg hbad
        have HZ := Lib.hid hz
        have HV := Lib.hid hbad
        clear h hN G0 a0 hns hA hdE k64 hnm hml hC c0 bc BW hf kx KX hvx hbad hz
        go_upto_region 9 with fail
        go_cut [42] from 35 to 42 (fun v wx => v = .bool false ∧ wx = wc)
        case first =>
          by_cases h0 : ver = 0
          · have t3 : ((ver : Int) != 0) = false := by rw [h0]; rfl
            clear h0
            go_wp2_with fail
            go_meet
            case rel => exact ⟨rfl, rfl⟩
          · have t3 : ((ver : Int) != 0) = true := by rw [bne_iff_ne]; omega
            have t4 : ((ver : Int) != (vx : Int)) = false := by
              have := HV.out
              have e : ver = vx := by
                by_cases e : ver = vx
                · exact e
                · exact absurd ⟨h0, e⟩ this
              rw [e]; simp
            go_wp2_with fail
            go_meet
            case rel => exact ⟨rfl, rfl⟩
        case rest =>
          obtain ⟨rfl, rfl⟩ := hcut
          obtain ⟨h, hN, hfind, G0, a0, hns, hA, hdE, k64, hnm, hml⟩ := HT.out
          obtain ⟨hC, c0, bc⟩ := HC.out
          have BW : Below w.heap.size w wc := G0.below.trans (bc.mono G0.below.size)
          have hW : StAt base wc S sp mb Dm ev kept most l hist := h.stay (fun g hg => BW.block g (h.prot g hg).2.1) (Fx.ofBelow BW)
          have aW : wc.heap[A]? = some (.cells #[.int .i64 k, .string nm] KT (0, 0)) := (bc.block A (Array.getElem?_eq_some_iff.1 a0).1).trans a0
          have KC : Hid (∀ ws : World, (ws.heap[sp]? = some (.cells (stC most hist.length mb ev) ST (0, 0)) ∧ ws.heap[A]? = some (.cells #[.int .i64 k, .string nm] KT (0, 0))) → ws.cell? ⟨sp, 2, none⟩ = some (.map (some mb))) := fun ws h => cell_of_block h.1 2
          have KA : Hid (∀ ws : World, (ws.heap[sp]? = some (.cells (stC most hist.length mb ev) ST (0, 0)) ∧ ws.heap[A]? = some (.cells #[.int .i64 k, .string nm] KT (0, 0))) → ws.rangeAt A 0 [.int .i64 k, .string nm]) := fun ws h => rangeAt_block (cs := #[.int .i64 k, .string nm]) h.2
          have S9 : Hid (wc.drew.heap[sp]? = some (.cells (stC most hist.length mb ev) ST (0, 0)) ∧ wc.drew.heap[A]? = some (.cells #[.int .i64 k, .string nm] KT (0, 0))) := ⟨hW.blk, aW⟩
          have gd : Gr wc wc.drew := (Gr.refl wc).drewN 1
          have Md : MapIs base wc.drew mb hist.length Dm l := hW.map.fx rfl (Fx.ofBelow gd.below)
          obtain ⟨w5, hr, M5, t5⟩ := Md.del h.bmb k64 hnm 0
          have hr' : ∀ ty, (Builtin.delete_ #[MT, KT] ty #[.map (some mb), thing k nm]).run Tryz.prog wc.drew = .ok (.tuple #[]) w5 := fun ty => hr
          have T5 := t5.grown
          have nsm : sp ≠ mb := by
            rintro rfl
            obtain ⟨es, c, q1, _⟩ := hW.map.own
            rw [hW.blk] at q1; cases q1
          have nam : A ≠ mb := by
            rintro rfl
            obtain ⟨es, c, q1, _⟩ := hW.map.own
            rw [aW] at q1; cases q1
          have hs5 : w5.heap[sp]? = some (.cells (stC most hist.length mb ev) ST (0, 0)) := (T5.block sp (Array.getElem?_eq_some_iff.1 hW.blk).1 (by simpa using nsm)).trans hW.blk
          have a5 : w5.heap[A]? = some (.cells #[.int .i64 k, .string nm] KT (0, 0)) := (T5.block A (Array.getElem?_eq_some_iff.1 aW).1 (by simpa using nam)).trans aW
          have o5 : w5.ownsRow base ET 4 ev kept.length (flat encE kept) := own_block (w := wc) hW.evs (fun g hg => T5.block g (own_prot hW.evs (Nat.le_refl _) rfl g hg).2.1 (fun e => by
            cases e
            obtain ⟨es, c, q1, _⟩ := hW.map.own
            rcases hW.evs.2 with ⟨e, _⟩ | ⟨g', cap, cur, e, _, h3, _⟩
            · rw [e] at hg; cases hg
            · rw [e] at hg
              simp [Value.ownBlock] at hg
              subst hg
              rw [q1] at h3; cases h3))
          have CN := Lib.hid (note_any base w5 sp mb hist.length most 2 k nm ev kept (Nat.le_trans hW.bw T5.size) hs5 o5 (by omega) (by have := h.ring.1; omega))
          have e0 : w5.cell? ⟨A, 0, none⟩ = some (.int .i64 k) := cell_of_block a5 0
          have e1 : w5.cell? ⟨A, 1, none⟩ = some (.string nm) := cell_of_block a5 1
          have S5 : Hid (w5.heap[sp]? = some (.cells (stC most hist.length mb ev) ST (0, 0)) ∧ w5.heap[A]? = some (.cells #[.int .i64 k, .string nm] KT (0, 0))) := ⟨hs5, a5⟩
          have C5 : Chg [mb] w w5 := ((Chg.ofBelow BW [mb]).trans (Chg.ofGr gd []) (by simp)).trans (Chg.ofGrown (S := [mb]) T5 (fun g e => .inl (by simp at e; simp [e]))) (fun g hg => .inl hg)
          have HR := Lib.hid (And.intro hr' (And.intro M5 (And.intro C5 (And.intro h hW))))
          clear hN hfind G0 a0 hns hA hdE k64 hnm hml hC c0 bc BW hW aW gd Md hr hr' M5 t5 T5 nsm nam hs5 a5 o5 h HT HC KB KL KK IV OV S0 HW SV C5
          go_upto_region 11 with fail
          refine wp_region_held_drew (S := fun ws => ws.heap[sp]? = some (.cells (stC most hist.length mb ev) ST (0, 0)) ∧ ws.heap[A]? = some (.cells #[.int .i64 k, .string nm] KT (0, 0))) mixed S9.out (fun hS => ?_)
          refine wpAnyH_takeD (i := 0) (d := 43) (v := .pointer (some ⟨sp, 0, none⟩)) _ rfl rfl (by kernel_rfl) (by kernel_rfl) (by kernel_rfl) (fun _ _ _ h => h) (Or.inl ⟨by kernel_rfl, fun ws hSw => by first | (go_simp; done) | (go_simp; with_reducible rfl) | (go_simp; rfl)⟩) hS ?_
          simp only [Act.put, List.setIfInBounds_toArray, List.set_cons_zero, List.set_cons_succ]
          refine wpAnyH_takeD (i := 1) (d := 44) (v := .pointer (some ⟨sp, 0, none⟩)) _ rfl rfl (by kernel_rfl) (by kernel_rfl) (by kernel_rfl) (fun _ _ _ h => h) (Or.inl ⟨by kernel_rfl, fun ws hSw => by first | (go_simp; done) | (go_simp; with_reducible rfl) | (go_simp; rfl)⟩) hS ?_
          simp only [Act.put, List.setIfInBounds_toArray, List.set_cons_zero, List.set_cons_succ]
          refine wpAnyH_takeD (i := 2) (d := 45) (v := .pointer (some ⟨sp, 2, none⟩)) _ rfl rfl (by kernel_rfl) (by kernel_rfl) (by kernel_rfl) (fun _ _ _ h => h) (Or.inl ⟨by kernel_rfl, fun ws hSw => by first | (go_simp; done) | (go_simp; with_reducible rfl) | (go_simp; rfl)⟩) hS ?_
          simp only [Act.put, List.setIfInBounds_toArray, List.set_cons_zero, List.set_cons_succ]
          refine wpAnyH_takeD (i := 3) (d := 46) (v := .map (some mb)) _ rfl rfl (by kernel_rfl) (by kernel_rfl) (by kernel_rfl) (fun _ _ _ h => h) (Or.inl ⟨by kernel_rfl, fun ws hSw => by have q := KC.out ws hSw; first | (go_simp; done) | (go_simp; with_reducible rfl) | (go_simp; rfl)⟩) hS ?_
          simp only [Act.put, List.setIfInBounds_toArray, List.set_cons_zero, List.set_cons_succ]
          refine wpAnyH_takeD (i := 4) (d := 47) (v := .agg #[.int .i64 k, .string nm]) _ rfl rfl (by kernel_rfl) (by kernel_rfl) (by kernel_rfl) (fun _ _ _ h => h) (yieldsIf_load_mid (by kernel_rfl) _ _ rfl A 0 (by kernel_rfl) [.int .i64 k, .string nm] _ (fun ws hSw => KA.out ws hSw) huk rfl hik) hS ?_
          simp only [Act.put, List.setIfInBounds_toArray, List.set_cons_zero, List.set_cons_succ]
          refine wpAnyH_ready (rs := [5]) (by kernel_rfl) (by simp) ?_
          refine AllReadyH.cons rfl (fun K hK => ?_) AllReadyH.nil
          refine step_delete (by rfl) _ _ MT KT rfl rfl rfl (HR.out.1 _) ?_
          refine hK _ _ S5.out (fun hS => ?_)
          try simp only [Act.put, List.setIfInBounds_toArray, List.set_cons_zero, List.set_cons_succ]
          refine wpAnyH_done (by kernel_rfl) ?_ _
          go_wp2_with fail
          refine CN.out.mono ?_
          rintro e w6 ⟨rfl, ⟨ev', kept', s6, o6, r6, f6⟩, c6⟩
          have FIN : Hid (After base w w6 S sp most (del l k nm) (hist ++ [⟨2, k, nm, hist.length + 1⟩])) := by
            obtain ⟨_, M5, C5, h, hW⟩ := HR.out
            have lt5 : ∀ g, g < w.heap.size → g < w5.heap.size := fun g hg => Nat.lt_of_lt_of_le hg C5.size
            have nmb : mb ∉ sp :: ev.ownBlock.toList := by
              intro hm
              obtain ⟨es, c, q1, _⟩ := h.map.own
              simp only [List.mem_cons, Option.mem_toList] at hm
              rcases hm with rfl | hm
              · rw [h.blk] at q1; cases q1
              · rcases h.evs.2 with ⟨e, _⟩ | ⟨g', cap, cur, e, _, h3, _⟩
                · rw [e] at hm; cases hm
                · rw [e] at hm
                  simp [Value.ownBlock] at hm
                  subst hm
                  rw [q1] at h3; cases h3
            have h5blk := S5.out.1
            have F6 : Fx base w5 w6 := c6.fx (fun g hg _ hp => by
              simp only [List.mem_cons, Option.mem_toList] at hg
              rcases hg with rfl | hg
              · exact (cells_prot h5blk h.bsp rfl).2.2 hp
              · have e5 : w5.heap[g]? = w.heap[g]? := C5.block g (own_prot h.evs (Nat.le_refl _) rfl g hg).2.1 (fun hm => by
                  simp at hm; subst hm; exact nmb (by simp [hg]))
                refine (own_prot h.evs (Nat.le_refl _) rfl g hg).2.2 ?_
                rcases hp with hp | ⟨cs, T, fz, x1, x2⟩
                · exact .inl hp
                · exact .inr ⟨cs, T, fz, e5 ▸ x1, x2⟩)
            have M6 := (M5.fx (c6.block mb (map_prot M5 h.bmb).2.1 nmb) F6).mono (Nat.le_succ hist.length)
            refine ⟨sp :: mb :: ev'.ownBlock.toList, ⟨mb, _, ev', kept', rfl, h.bsp, h.bmb, Nat.le_trans h.bw (Nat.le_trans C5.size c6.size), by rw [List.length_append]; exact s6, by rw [List.length_append]; exact M6, o6, r6 hist rfl h.ring⟩, ?_, ?_⟩
            · refine (C5.less (S' := S) (fun g hg => .inl ?_)).trans c6 (fun g hg => .inl ?_)
              · simp at hg; rw [h.fp, hg]; simp
              · rw [h.fp]
                simp only [List.mem_cons] at hg ⊢
                rcases hg with hg | hg
                · exact .inl hg
                · exact .inr (.inr hg)
            · intro g hg
              rw [h.fp]
              simp only [List.mem_cons, Option.mem_toList] at hg ⊢
              rcases hg with hg | hg | hg
              · exact .inl (.inl hg)
              · exact .inl (.inr (.inl hg))
              · rcases f6 g hg with h4 | h4
                · exact .inl (.inr (.inr h4))
                · exact .inr (Nat.le_trans C5.size h4)
          clear s6 o6 r6 f6 c6 CN HR
          go_wp2
          refine bodyPost_ret (results_tmp2 rfl _ _ _) rfl ?_
          exact .inr ⟨HZ.out, rfl, FIN.out⟩
end Go.Proofs.YtbagicilmmkdhaaGreat
/- An act upon a store and its model: what they have in common. -/
namespace Go.Proofs.YtbagicilmmkdhaaGreat
open Go.RowKit Go.Shelf Go.Lib Go.Sort
open Go.Joins (cell_of_block unfrozen_of_block block_setCell)
set_option linter.unusedVariables false
set_option linter.unusedSimpArgs false
set_option maxRecDepth 20000

/-- A store and a model that have the same, apart. -/
structure Sys (base : Nat) (w : World) (S T : List Nat) (sp mp : Nat) (most : Int) (l : List Ob) (hist : List Ev) : Prop where
  st : StIs base w S sp most l hist
  mo : MoIs base w T mp l hist
  ap : ∀ g ∈ S, g ∉ T
theorem Sys.gr {base : Nat} {w w' : World} {S T : List Nat} {sp mp : Nat} {most : Int} {l : List Ob} {hist : List Ev} (h : Sys base w S T sp mp most l hist) (g : Below w.heap.size w w') : Sys base w' S T sp mp most l hist := ⟨h.st.gr g, h.mo.gr g, h.ap⟩
theorem Sys.prot {base : Nat} {w : World} {S T : List Nat} {sp mp : Nat} {most : Int} {l : List Ob} {hist : List Ev} (h : Sys base w S T sp mp most l hist) : ∀ g ∈ S ++ T, base ≤ g ∧ g < w.heap.size ∧ ¬ Prot base w g := fun g hg => by
  rcases List.mem_append.1 hg with hg | hg
  · exact h.st.prot g hg
  · exact h.mo.prot g hg
theorem Sys.chg {base : Nat} {w w' : World} {S T U : List Nat} {sp mp : Nat} {most : Int} {l : List Ob} {hist : List Ev} (h : Sys base w S T sp mp most l hist) (c : Chg U w w') (hd : ∀ g ∈ S ++ T, g ∉ U) (hp : ∀ g ∈ U, g < w.heap.size → ¬ Prot base w g) : Sys base w' S T sp mp most l hist :=
  ⟨h.st.chg c (fun g hg => hd g (List.mem_append_left _ hg)) hp, h.mo.chg c (fun g hg => hd g (List.mem_append_right _ hg)) hp, h.ap⟩
def Next (base : Nat) (w w' : World) (S T : List Nat) (sp mp : Nat) (most : Int) (l : List Ob) (hist : List Ev) : Prop := ∃ S' T', Sys base w' S' T' sp mp most l hist ∧ Chg (S ++ T) w w' ∧ ∀ g ∈ S' ++ T', g ∈ S ++ T ∨ w.heap.size ≤ g

/-- What an act does. -/
inductive Move (l : List Ob) (hist : List Ev) : List Ob → List Ev → Prop
  | stay : Move l hist l hist
  | made (d : Ob) : l.any (hit d.kind d.name) = false → OkK d → Move l hist (l ++ [d]) (hist ++ [⟨0, d.kind, d.name, hist.length + 1⟩])
  | set (d : Ob) : l.any (hit d.kind d.name) = true → OkK d → Move l hist (put l d) (hist ++ [⟨1, d.kind, d.name, hist.length + 1⟩])
  | gone (k : Int) (nm : ByteArray) : l.any (hit k nm) = true → Move l hist (del l k nm) (hist ++ [⟨2, k, nm, hist.length + 1⟩])

abbrev AcT : TypeId := 58
def acC (kk : Int) (cs : Array Value) (r : Bool) : Array Value := (#[Value.int .i64 kk] ++ cs).push (.bool r)
theorem acC_0 (kk : Int) (cs : Array Value) (r : Bool) : (acC kk cs r)[0]? = some (.int .i64 kk) := by
  unfold acC
  rw [Array.getElem?_push_lt (by simp; omega)]
  simp
theorem acC_at (kk : Int) (cs : Array Value) (r : Bool) (j : Nat) (hj : j < cs.size) : (acC kk cs r)[1 + j]? = cs[j]? := by
  unfold acC
  rw [Array.getElem?_push, if_neg (by simp; omega), Array.getElem?_append_right (by simp)]
  simp
theorem acC_r (kk : Int) (cs : Array Value) (r : Bool) (h : cs.size = 47) : (acC kk cs r)[48]? = some (.bool r) := by
  unfold acC
  rw [Array.getElem?_push, if_pos (by simp; omega)]
theorem acC_set (kk : Int) (cs : Array Value) (r : Bool) (h : cs.size = 47) (v : Value) : (acC kk cs r).setIfInBounds 3 v = acC kk (cs.setIfInBounds 2 v) r := by
  apply Array.ext_getElem?
  intro i
  by_cases h3 : i = 3
  · subst h3
    rw [Array.getElem?_setIfInBounds_self_of_lt (by simp [acC]; omega)]
    have := acC_at kk (cs.setIfInBounds 2 v) r 2 (by simp; omega)
    rw [show 1 + 2 = 3 from rfl] at this
    rw [this, Array.getElem?_setIfInBounds_self_of_lt (by omega)]
  · rw [Array.getElem?_setIfInBounds_ne (fun e => h3 e.symm)]
    rcases Nat.eq_zero_or_pos i with h0 | h0
    · subst h0
      rw [acC_0, acC_0]
    · obtain ⟨j, rfl⟩ : ∃ j, i = 1 + j := ⟨i - 1, by omega⟩
      by_cases hj : j < 47
      · rw [acC_at _ _ _ _ (by omega), acC_at _ _ _ _ (by simp; omega), Array.getElem?_setIfInBounds_ne (by omega)]
      · by_cases h48 : j = 47
        · subst h48
          rw [show 1 + 47 = 48 from rfl, acC_r _ _ _ h, acC_r _ _ _ (by simpa using h)]
        · rw [Array.getElem?_eq_none (by simp [acC]; omega), Array.getElem?_eq_none (by simp [acC]; omega)]
theorem acC_range {w : World} {B : Nat} {kk : Int} {cs : Array Value} {r : Bool} {T : TypeId} {fz : Nat × Nat} (h : w.heap[B]? = some (.cells (acC kk cs r) T fz)) : w.rangeAt B 1 cs.toList := by
  intro j v hv
  rw [cell_of_block h, acC_at _ _ _ _ (by have := (List.getElem?_eq_some_iff.1 hv).1; simpa using this), ← Array.getElem?_toList]
  exact hv
/-- The act's block, as it is while the act is done. -/
structure ActAt (base : Nat) (w : World) (B : Nat) (kk : Int) (cs : Array Value) (r : Bool) (o : Ob) : Prop where
  blk : w.heap[B]? = some (.cells (acC kk cs r) AcT (0, 0))
  obj : Kept base w cs o
  lo : base ≤ B
theorem ActAt.gr {base : Nat} {w w' : World} {B : Nat} {kk : Int} {cs : Array Value} {r : Bool} {o : Ob} (h : ActAt base w B kk cs r o) (g : Below w.heap.size w w') : ActAt base w' B kk cs r o :=
  ⟨(g.block B (Array.getElem?_eq_some_iff.1 h.blk).1).trans h.blk, h.obj.fx (Fx.ofBelow g), h.lo⟩
theorem ActAt.chg {base : Nat} {w w' : World} {U : List Nat} {B : Nat} {kk : Int} {cs : Array Value} {r : Bool} {o : Ob} (h : ActAt base w B kk cs r o) (c : Chg U w w') (hn : B ∉ U) (hp : ∀ g ∈ U, g < w.heap.size → ¬ Prot base w g) : ActAt base w' B kk cs r o :=
  ⟨(c.block B (Array.getElem?_eq_some_iff.1 h.blk).1 hn).trans h.blk, h.obj.fx (c.fx hp), h.lo⟩
theorem ActAt.load {base : Nat} {w : World} {B : Nat} {kk : Int} {cs : Array Value} {r : Bool} {o : Ob} (h : ActAt base w B kk cs r o) : (Instr.loadAt OT (.pointer (some ⟨B, 1, none⟩))).run Tryz.prog w = .ok (.agg cs) w := by
  have := load_at47 (c := mkC h.obj) (w := w) (g := B) (o := 1) (acC_range h.blk)
  exact this
theorem ActAt.cells {base : Nat} {w : World} {B : Nat} {kk : Int} {cs : Array Value} {r : Bool} {o : Ob} (h : ActAt base w B kk cs r o) : w.cell? ⟨B, 0, none⟩ = some (.int .i64 kk) ∧ w.cell? ⟨B, 1, none⟩ = some (.int .i64 o.kind) ∧ w.cell? ⟨B, 2, none⟩ = some (.string o.name) ∧ w.cell? ⟨B, 3, none⟩ = some (.int .u64 (o.ver : Int)) ∧ w.cell? ⟨B, 48, none⟩ = some (.bool r) ∧ w.frozen? ⟨B, 3, none⟩ = false := by
  have hs := h.obj.obj.1
  have hv := h.obj.obj.2.1
  refine ⟨by rw [cell_of_block h.blk]; exact acC_0 _ _ _, ?_, ?_, ?_, by rw [cell_of_block h.blk]; exact acC_r _ _ _ hs, unfrozen_of_block h.blk 3⟩
  · rw [cell_of_block h.blk]; exact (acC_at kk cs r 0 (by omega)).trans hv.1
  · rw [cell_of_block h.blk]; exact (acC_at kk cs r 1 (by omega)).trans hv.2.1
  · rw [cell_of_block h.blk]; exact (acC_at kk cs r 2 (by omega)).trans hv.2.2.1
theorem ActAt.set {base : Nat} {w : World} {B : Nat} {kk : Int} {cs : Array Value} {r : Bool} {o : Ob} (h : ActAt base w B kk cs r o) {v : Nat} (h64 : v < 18446744073709551616) : ActAt base (w.setCell ⟨B, 3, none⟩ (.int .u64 (v : Int))) B kk (cs.setIfInBounds 2 (.int .u64 (v : Int))) r (setV o v) := by
  refine ⟨by rw [block_setCell h.blk, acC_set _ _ _ h.obj.obj.1], ?_, h.lo⟩
  refine (h.obj.fx ((Chg.refl [B] w).setCell 3 _ (.inl (by simp)) |>.fx (fun g hg _ => ?_))).setV h64
  simp at hg
  subst hg
  exact (cells_prot h.blk h.lo rfl).2.2
end Go.Proofs.YtbagicilmmkdhaaGreat
/- An act upon a store and its model: how they go on. -/
namespace Go.Proofs.YtbagicilmmkdhaaGreat
open Go.RowKit Go.Shelf Go.Lib Go.Sort
open Go.Joins (cell_of_block unfrozen_of_block block_setCell)
set_option linter.unusedVariables false
set_option linter.unusedSimpArgs false
set_option maxRecDepth 20000

theorem Sys.next {base : Nat} {w wc w3 w7 : World} {S T U : List Nat} {sp mp : Nat} {most : Int} {l l' : List Ob} {hist hist' : List Ev} (hst : ∀ g ∈ S ++ T, g < w.heap.size) (s : Sys base wc S T sp mp most l hist) (W : Chg [] w wc) (AF : After base wc w3 S sp most l' hist')
    (C : Chg U w3 w7) (hU : ∀ g ∈ U, g ∈ T ∨ (w.heap.size ≤ g ∧ g < wc.heap.size ∧ ¬ Prot base w3 g)) (hM : ∃ T', MoIs base w7 T' mp l' hist' ∧ ∀ g ∈ T', g ∈ T ∨ w3.heap.size ≤ g) : Next base w w7 S T sp mp most l' hist' := by
  obtain ⟨S', st, c3, i3⟩ := AF
  obtain ⟨T', mo, i7⟩ := hM
  have hz := W.size
  have hz3 := c3.size
  have pS : ∀ g ∈ S, g < wc.heap.size → ¬ Prot base wc g := fun g hg _ => (s.st.prot g hg).2.2
  have m3 : MoIs base w3 T mp l hist := s.mo.chg c3 (fun g hg hm => s.ap g hm hg) pS
  have q : ∀ g ∈ S', g ∉ T := fun g hg hm => by
    rcases i3 g hg with h | h
    · exact s.ap g h hm
    · have := (s.mo.prot g hm).2.1; omega
  refine ⟨S', T', ⟨st.chg C (fun g hg hm => ?_) (fun g hg _ => ?_), mo, fun g hg hm => ?_⟩, ?_, fun g hg => ?_⟩
  · rcases hU g hm with h | ⟨h1, h2, _⟩
    · exact q g hg h
    · rcases i3 g hg with h | h
      · have := hst g (List.mem_append_left _ h); omega
      · omega
  · rcases hU g hg with h | ⟨_, _, h3⟩
    · exact (m3.prot g h).2.2
    · exact h3
  · rcases i7 g hm with h | h
    · exact q g hg h
    · have := (st.prot g hg).2.1; omega
  · refine ((W.less (S' := S ++ T) (by simp)).trans c3 (fun g hg => .inl (List.mem_append_left _ hg))).trans C (fun g hg => ?_)
    rcases hU g hg with h | ⟨h, _⟩
    · exact .inl (List.mem_append_right _ h)
    · exact .inr h
  · rcases List.mem_append.1 hg with h | h
    · rcases i3 g h with h | h
      · exact .inl (List.mem_append_left _ h)
      · exact .inr (by omega)
    · rcases i7 g h with h | h
      · exact .inl (List.mem_append_right _ h)
      · exact .inr (by omega)

section
variable {P : Program} {ops : Array Oper} {Q : Exit → Act → World → Prop} {w : World} {o : Oper} {a : Act} {K : Act → World → Prop}
/-- A slice literal of one whole struct. -/
theorem step_build (hw : Region.wanted o (yielded ops a.tmps) = true) (t e : TypeId) (x : Operand) (ho : o.op = .buildSlice t 1 #[(0, x)]) (z : Value) (s : Nat) (X : Array Value) (hx : a.eval x = .agg X) (hX : X.size = s) (h0 : 0 < s) (h1 : s ≤ 1000000)
    (hu : P.underlying t = some (.slice e)) (hinfo : (P.info? e).map (fun i => (i.zero, i.size)) = some (some z, s)) (k : K (a.put o.dst (.slice (some ⟨w.heap.size, 0, none⟩) 1 1)) (w.alloc (.cells X e))) :
    if Region.wanted o (yielded ops a.tmps) = true then Oper.wp P o a w K Q else K (a.put o.dst undef) w := by
  rw [if_pos hw]
  cases hie : P.info? e with
  | none => rw [hie] at hinfo; cases hinfo
  | some i =>
    rw [hie] at hinfo
    simp only [Option.map_some, Option.some.injEq, Prod.mk.injEq] at hinfo
    obtain ⟨hz, hs⟩ := hinfo
    refine wp_buildSlice t e 1 _ ho X i z hu hie hz (by rw [hs]; omega) (by rw [hs]; omega) ?_ k
    have hc : (Value.agg X).cells = X := rfl
    have := Great.fill_whole h0 [Value.agg X] ((Array.range (1 * i.size)).map (z.cells[· % z.cells.size]!)) (fun v hv => by rw [List.mem_singleton.1 hv, hc]; exact hX) (by simp [hs])
    rw [hs] at this ⊢
    simp [hx, hc] at this ⊢
    exact this
end
theorem name_dfl (o : Ob) : (dfl o).name = o.name := by
  unfold dfl
  split
  · rfl
  · split <;> rfl
theorem own_at {w : World} {N n k : Nat} {E : TypeId} {v : Value} {xs : List Value} (h : w.ownsRow N E k v n xs) {g : Nat} (hg : v.ownBlock = some g) : ∃ cur, w.heap[g]? = some (.cells cur E (0, 0)) := by
  rcases h.2 with ⟨rfl, _⟩ | ⟨g', cap, cur, rfl, _, h2, _⟩
  · cases hg
  · simp [Value.ownBlock] at hg
    subst hg
    exact ⟨cur, h2⟩
/-- The model behind a change, its events first, its row then. -/
theorem MoAt.again {base : Nat} {w3 w4 w8 : World} {T X : List Nat} {mp : Nat} {lv mev lv' mev' : Value} {csl csl' : List Cs} {l l' : List Ob} {hist : List Ev} {e : Ev} (hm : MoAt base w3 T mp lv mev csl l hist) (C4 : Chg (mp :: mev.ownBlock.toList) w3 w4)
    (b4 : w4.heap[mp]? = some (.cells (moC lv (hist.length + 1) mev') MoT (0, 0))) (o4 : w4.ownsRow base ET 4 mev' (hist.length + 1) (flat encE (hist ++ [e]))) (f4 : ∀ g, mev'.ownBlock = some g → mev.ownBlock = some g ∨ w3.heap.size ≤ g)
    (C8 : Chg (mp :: (lv.ownBlock.toList ++ X)) w4 w8) (hX : ∀ g ∈ X, mev'.ownBlock ≠ some g) (b8 : w8.heap[mp]? = some (.cells (moC lv' (hist.length + 1) mev') MoT (0, 0))) (o8 : w8.ownsRow base OT 47 lv' csl'.length (flat encC csl'))
    (f8 : ∀ g, lv'.ownBlock = some g → lv.ownBlock = some g ∨ w3.heap.size ≤ g) (hl : csl'.length = l'.length) (ho : Fx base w3 w8 → ∀ (i : Nat) (o : Ob), l'[i]? = some o → ∃ c : Cs, csl'[i]? = some c ∧ Kept base w8 c.1 o) (hX3 : ∀ g ∈ X, g < w3.heap.size → ¬ Prot base w3 g) :
    (∃ T', MoIs base w8 T' mp l' (hist ++ [e]) ∧ ∀ g ∈ T', g ∈ T ∨ w3.heap.size ≤ g) ∧ Chg (T ++ X) w3 w8 := by
  have hC : Chg (T ++ X) w3 w8 := by
    refine (C4.less (S' := T ++ X) (fun g hg => .inl ?_)).trans C8 (fun g hg => .inl ?_)
    · rw [hm.fp]; simp at hg ⊢; rcases hg with h | h <;> simp [h]
    · rw [hm.fp]; simp at hg ⊢; rcases hg with h | h | h <;> simp [h]
  have hF : Fx base w3 w8 := hC.fx (fun g hg hlt => by
    rcases List.mem_append.1 hg with h | h
    · exact (hm.prot g h).2.2
    · exact hX3 g h hlt)
  refine ⟨⟨mp :: (lv'.ownBlock.toList ++ mev'.ownBlock.toList), ⟨lv', mev', csl', rfl, hm.bmp, Nat.le_trans hm.bw hC.size, by rw [List.length_append]; exact b8, o8, hl, ho hF, ?_⟩, ?_⟩, hC⟩
  · rw [List.length_append]
    refine own_block o4 (fun k hk => C8.block k (own_prot o4 (Nat.le_refl _) rfl k hk).2.1 (fun hmem => ?_))
    simp only [List.mem_cons, List.mem_append, Option.mem_toList] at hmem
    rcases hmem with rfl | h | h
    · exact own_ne o4 b4 (by decide) hk
    · have ho : w3.ownsRow base OT 47 lv csl.length (flat encC csl) := hm.row
      have r4 : w4.ownsRow base OT 47 lv csl.length (flat encC csl) := own_block ho (fun g hg => C4.block g (own_prot ho (Nat.le_refl _) rfl g hg).2.1 (fun hmem => by
        simp only [List.mem_cons, Option.mem_toList] at hmem
        obtain ⟨cur, hcur⟩ := own_at ho hg
        rcases hmem with rfl | h
        · rw [hm.blk] at hcur; cases hcur
        · exact own_ne hm.evs hcur (by decide) h))
      obtain ⟨cur, hcur⟩ := own_at r4 h
      exact own_ne o4 hcur (by decide) hk
    · exact hX k h hk
  · intro g hg
    rw [hm.fp]
    simp only [List.mem_cons, List.mem_append, Option.mem_toList] at hg ⊢
    rcases hg with h | h | h
    · exact .inl (.inl h)
    · rcases f8 g h with h | h
      · exact .inl (.inr (.inl h))
      · exact .inr h
    · rcases f4 g h with h | h
      · exact .inl (.inr (.inr h))
      · exact .inr h

theorem flat_take {csl : List Cs} {j t : Nat} {u : Value} (h : (flat encC (csl.take j))[t]? = some u) : (flat encC csl)[t]? = some u := by
  have e : flat encC csl = flat encC (csl.take j) ++ flat encC (csl.drop j) := by
    unfold flat
    rw [← List.flatMap_append, List.take_append_drop]
  rw [e, List.getElem?_append_left (List.getElem?_eq_some_iff.1 h).1]
  exact h
theorem flat_drop {csl : List Cs} {k t : Nat} {u : Value} (hk : k ≤ csl.length) (h : (flat encC (csl.drop k))[t]? = some u) : (flat encC csl)[k * 47 + t]? = some u := by
  have e : flat encC csl = flat encC (csl.take k) ++ flat encC (csl.drop k) := by
    unfold flat
    rw [← List.flatMap_append, List.take_append_drop]
  have hl : (flat encC (csl.take k)).length = k * 47 := by rw [flat_length lenC, List.length_take, Nat.min_eq_left hk]
  rw [e, List.getElem?_append_right (by omega), hl, Nat.add_sub_cancel_left]
  exact h
theorem flat_erase (csl : List Cs) (j : Nat) : flat encC (csl.take j) ++ flat encC (csl.drop (j + 1)) = flat encC (csl.eraseIdx j) := by
  unfold flat
  rw [← List.flatMap_append, List.eraseIdx_eq_take_drop_succ]
theorem erase_objs {base : Nat} {w : World} {l : List Ob} {csl : List Cs} (h : ∀ (i : Nat) (o : Ob), l[i]? = some o → ∃ c : Cs, csl[i]? = some c ∧ Kept base w c.1 o) (j : Nat) : ∀ (i : Nat) (o : Ob), (l.eraseIdx j)[i]? = some o → ∃ c : Cs, (csl.eraseIdx j)[i]? = some c ∧ Kept base w c.1 o := by
  intro i o hi
  rw [List.getElem?_eraseIdx] at hi ⊢
  split at hi
  · rename_i hlt; rw [if_pos hlt]; exact h i o hi
  · rename_i hlt; rw [if_neg hlt]; exact h _ o hi
theorem info_OT : ∃ b, (Tryz.prog.info? OT).map (fun i => (i.zero, i.size, i.bytes)) = some (some (.agg zerC), 47, b) ∧ b ≤ 10000 := by
  have h1 : (Tryz.prog.info? OT).map (fun i => (i.zero, i.size)) = some (some (.agg zerC), 47) := by kernel_rfl
  have h2 : (Tryz.prog.info? OT).map (fun i => decide (i.bytes ≤ 10000)) = some true := by kernel_rfl
  cases h : Tryz.prog.info? OT with
  | none => rw [h] at h1; cases h1
  | some i =>
    rw [h] at h1 h2
    simp only [Option.map_some, Option.some.injEq, Prod.mk.injEq, decide_eq_true_eq] at h1 h2
    exact ⟨i.bytes, by simp [h1.1, h1.2], h2⟩
end Go.Proofs.YtbagicilmmkdhaaGreat
/- An act upon a store and its model: Delete (by wip/tools/genstdo.py). -/
namespace Go.Proofs.YtbagicilmmkdhaaGreat
open Go.RowKit Go.Shelf Go.Lib Go.Sort
open Go.Joins (cell_of_block unfrozen_of_block block_setCell)
set_option linter.unusedVariables false
set_option linter.unusedSimpArgs false
set_option maxRecDepth 20000

end Go.Proofs.YtbagicilmmkdhaaGreat
/- An act upon a store and its model: Create (by wip/tools/genstdo.py). -/
namespace Go.Proofs.YtbagicilmmkdhaaGreat
open Go.RowKit Go.Shelf Go.Lib Go.Sort
open Go.Joins (cell_of_block unfrozen_of_block block_setCell)
set_option linter.unusedVariables false
set_option linter.unusedSimpArgs false
set_option maxRecDepth 20000

end Go.Proofs.YtbagicilmmkdhaaGreat
/- An act upon a store and its model: Update (by wip/tools/genstdo.py). -/
namespace Go.Proofs.YtbagicilmmkdhaaGreat
open Go.RowKit Go.Shelf Go.Lib Go.Sort
open Go.Joins (cell_of_block unfrozen_of_block block_setCell)
set_option linter.unusedVariables false
set_option linter.unusedSimpArgs false
set_option maxRecDepth 20000

end Go.Proofs.YtbagicilmmkdhaaGreat
/- Acts that came in: opened; few. -/
namespace Go.Proofs.YtbagicilmmkdhaaGreat
open Go.ChangeShapes Go.WideShapes Go.ChangeAt Go.RowKit Go.Deep Go.Lib Go.Shelf
open Go.Joins (cell_of_block unfrozen_of_block block_setCell)
set_option linter.unusedVariables false
set_option linter.unusedSimpArgs false
set_option maxRecDepth 20000

abbrev Acv := Int × Cs × Bool × Ob
instance : Inhabited Cs := ⟨⟨zerC, by kernel_rfl, zer_all⟩⟩
instance : Inhabited Ob := ⟨nnO ⟨#[]⟩ 0⟩
def cellsA (a : Acv) : Array Value := acC a.1 a.2.1.1 a.2.2.1
def encA (a : Acv) : List Value := (cellsA a).toList
theorem sizeA (a : Acv) : (cellsA a).size = 49 := by
  unfold cellsA acC
  simp [a.2.1.2.1]
def okA (W : World) (a : Acv) : Prop := ObjV W a.2.1.1 a.2.2.2 ∧ NilO a.2.1.1 ∧ FitsO a.2.2.2

theorem open_ob2 {H : Type} {enc : TypeId × Value → H} {W : World} {cs : Array Value} {d : DataW H} {p : List MemPlace} {fuel : Nat} (hs : cs.size = 47)
    (hf : DataW.trod enc Tryz.prog W 0 (fun _ => true) true fuel 56 cs.toList = some (d, p)) (wt : Wt 56 d) : ∃ o, ObjV W cs o ∧ FitsO o := by
  obtain ⟨nk, yk, tk, zk⟩ := fld (F := 3) (off := 0) (k := 1) 0 Tryz.underlying56 (by kernel_rfl) hf wt
  obtain ⟨k, a0, w0⟩ := leaf_i Tryz.underlying3 tk
  obtain ⟨ns, ys, ts, zs⟩ := fld (F := 9) (off := 1) (k := 1) 1 Tryz.underlying56 (by kernel_rfl) hf wt
  obtain ⟨s, a1, w1⟩ := leaf_s Tryz.underlying9 ts zs
  obtain ⟨nu, yu, tu, zu⟩ := fld (F := 23) (off := 2) (k := 1) 2 Tryz.underlying56 (by kernel_rfl) hf wt
  obtain ⟨u, a2, w2⟩ := leaf_u Tryz.underlying23 tu
  obtain ⟨nx0, yx0, tx0, zx0⟩ := fld (F := 41) (off := 3) (k := 7) 3 Tryz.underlying56 (by kernel_rfl) hf wt
  obtain ⟨x0, ⟨r0_0, r0_1, r0_2⟩, ⟨m0_0, m0_1, m0_2⟩, f0_0, f0_1, f0_2, f0_3, f0_4, f0_5, f0_6⟩ := open_wl tx0 zx0
  obtain ⟨nx1, yx1, tx1, zx1⟩ := fld (F := 43) (off := 10) (k := 10) 4 Tryz.underlying56 (by kernel_rfl) hf wt
  obtain ⟨x1, ⟨r1_0, r1_1, r1_2, r1_3, r1_4⟩, ⟨m1_0, m1_1, m1_2⟩, f1_0, f1_1, f1_2, f1_3, f1_4, f1_5, f1_6, f1_7, f1_8, f1_9⟩ := open_pd tx1 zx1
  obtain ⟨nx2, yx2, tx2, zx2⟩ := fld (F := 45) (off := 20) (k := 7) 5 Tryz.underlying56 (by kernel_rfl) hf wt
  obtain ⟨x2, ⟨r2_0, r2_1, r2_2⟩, ⟨m2_0, m2_1⟩, f2_0, f2_1, f2_2, f2_3, f2_4, f2_5, f2_6⟩ := open_nd tx2 zx2
  obtain ⟨nx3, yx3, tx3, zx3⟩ := fld (F := 47) (off := 27) (k := 8) 6 Tryz.underlying56 (by kernel_rfl) hf wt
  obtain ⟨x3, ⟨r3_0, r3_1⟩, ⟨m3_0, m3_1⟩, f3_0, f3_1, f3_2, f3_3, f3_4, f3_5, f3_6, f3_7⟩ := open_gp tx3 zx3
  obtain ⟨nx4, yx4, tx4, zx4⟩ := fld (F := 54) (off := 35) (k := 12) 7 Tryz.underlying56 (by kernel_rfl) hf wt
  obtain ⟨x4, ⟨r4_0, r4_1⟩, ⟨m4_0, m4_1, m4_2, m4_3⟩, f4_0, f4_1, f4_2, f4_3, f4_4, f4_5, f4_6, f4_7, f4_8, f4_9, f4_10, f4_11⟩ := open_hp tx4 zx4
  have e0 : cs[0]? = some (.int .i64 k) := by rw [← Array.getElem?_toList]; exact a0
  have e1 : cs[1]? = some (.string s) := by rw [← Array.getElem?_toList]; exact a1
  have e2 : cs[2]? = some (.int .u64 (u : Int)) := by rw [← Array.getElem?_toList]; exact a2
  exact ⟨⟨k, s, u, x0, x1, x2, x3, x4⟩, ⟨hs, ⟨e0, e1, e2, w2⟩, ⟨el_at f0_0, el_at f0_1, el_at f0_2, slr_at f0_3, slr_at f0_4, slr_at f0_5, el_at f0_6⟩, ⟨el_at f1_0, el_at f1_1, el_at f1_2, el_at f1_3, el_at f1_4, el_at f1_5, slr_at f1_6, slr_at f1_7, slr_at f1_8, el_at f1_9⟩, ⟨el_at f2_0, el_at f2_1, el_at f2_2, slr_at f2_3, slr_at f2_4, el_at f2_5, el_at f2_6⟩, ⟨el_at f3_0, el_at f3_1, el_at f3_2, el_at f3_3, el_at f3_4, slr_at f3_5, slr_at f3_6, el_at f3_7⟩, ⟨el_at f4_0, el_at f4_1, el_at f4_2, slr_at f4_3, el_at f4_4, el_at f4_5, el_at f4_6, slr_at f4_7, el_at f4_8, el_at f4_9, slr_at f4_10, slr_at f4_11⟩⟩, { name := w1, w_lab := List.all_eq_true.2 r0_0, w_sel := List.all_eq_true.2 r0_1, w_tol := List.all_eq_true.2 r0_2, w_lab_r := m0_0, w_sel_r := m0_1, w_tol_r := m0_2, p_own := r1_0, p_node := r1_1, p_lab := List.all_eq_true.2 r1_2, p_sel := List.all_eq_true.2 r1_3, p_tol := List.all_eq_true.2 r1_4, p_lab_r := m1_0, p_sel_r := m1_1, p_tol_r := m1_2, n_grp := r2_0, n_lab := List.all_eq_true.2 r2_1, n_tnt := List.all_eq_true.2 r2_2, n_lab_r := m2_0, n_tnt_r := m2_1, g_lab := List.all_eq_true.2 r3_0, g_tnt := List.all_eq_true.2 r3_1, g_lab_r := m3_0, g_tnt_r := m3_1, h_tg := r4_0, h_met := List.all_eq_true.2 r4_1, h_met_r := m4_0, h_upol_r := m4_1, h_dpol_r := m4_2, h_past_r := m4_3 }⟩
theorem sub_take {cs : List Value} {o m j : Nat} (h : j < m) : ((cs.drop o).take m)[j]? = cs[o + j]? := by
  rw [List.getElem?_take_of_lt h, List.getElem?_drop]
theorem open_act {H : Type} {enc : TypeId × Value → H} {W : World} {n : Nat} {cs : List Value} {y : DataW H × List MemPlace} (h : DataW.trod enc Tryz.prog W 0 (fun _ => true) true n 58 cs = some y) (wt : Wt 58 y.1) :
    ∃ x : Acv, (∀ (t : Nat) (v : Value), (encA x)[t]? = some v → cs[t]? = some v) ∧ okA W x := by
  obtain ⟨_, _, t0, z0⟩ := fld (F := 3) (off := 0) (k := 1) 0 Tryz.underlying58 (by kernel_rfl) h wt
  obtain ⟨kk, a0, _⟩ := leaf_i Tryz.underlying3 t0
  obtain ⟨_, _, t2, z2⟩ := fld (F := 4) (off := 48) (k := 1) 2 Tryz.underlying58 (by kernel_rfl) h wt
  obtain ⟨r, a2, _⟩ := leaf_b Tryz.underlying4 t2
  obtain ⟨n1, ⟨d1, p1⟩, t1, z1⟩ := fld (F := 56) (off := 1) (k := 47) 1 Tryz.underlying58 (by kernel_rfl) h wt
  have hl : 48 < cs.length := (List.getElem?_eq_some_iff.1 a2).1
  have hs : ((cs.drop 1).take 47).toArray.size = 47 := by simp; omega
  obtain ⟨o, hv, F⟩ := open_ob2 hs t1 z1
  have hn : NilO ((cs.drop 1).take 47).toArray := open_nil (H := H) (enc := enc) (W := W) (d := d1) (p := p1) ⟨n1, t1⟩ z1
  refine ⟨⟨kk, ⟨((cs.drop 1).take 47).toArray, hs, objV_one hv⟩, r, o⟩, fun t v hv => ?_, hv, hn, F⟩
  have ht : t < 49 := by
    have := (List.getElem?_eq_some_iff.1 hv).1
    rw [encA, Array.length_toList, sizeA] at this
    exact this
  rw [encA, Array.getElem?_toList] at hv
  unfold cellsA at hv
  rcases Nat.eq_zero_or_pos t with rfl | h0
  · rw [acC_0] at hv
    exact a0.trans hv
  · by_cases h48 : t = 48
    · subst h48
      rw [acC_r _ _ _ hs] at hv
      exact a2.trans hv
    · obtain ⟨j, rfl⟩ : ∃ j, t = 1 + j := ⟨t - 1, by omega⟩
      rw [acC_at _ _ _ _ (by show j < Array.size _; rw [hs]; omega)] at hv
      rw [← hv]
      show _ = ((cs.drop 1).take 47).toArray[j]?
      rw [List.getElem?_toArray, sub_take (by omega)]
theorem open_acts {H : Type} {enc : TypeId × Value → H} {W : World} {base : Nat} {v : Value} {d : DataW H} {p : List MemPlace} (ok : Value.okWide Tryz.prog W .any base 22 v)
    (h : DataW.Trod enc Tryz.prog W 0 (fun _ => true) true 22 v d p) (wt : Wt 22 d) : ∃ q c l, v = .slice q l.length c ∧ RowR 49 encA W q l ∧ (∀ x ∈ l, okA W x) ∧ l.length ≤ 140737488351232 := by
  obtain ⟨a0, len, cap, rfl⟩ := okWide_slice Tryz.underlying22 ok
  obtain ⟨fuel, hf⟩ := h
  have hf : DataW.trod enc Tryz.prog W 0 (fun _ => true) true fuel 22 (([Value.slice a0 len cap].drop 0).take 1) = some (d, p) := hf
  obtain ⟨l, ⟨q, c, h1, h2⟩, h3, h4⟩ := open_rowG (k := 49) encA (okA W) Tryz.underlying22 (by kernel_rfl) (by decide) (of_decide_eq_true (by kernel_rfl)) (fun n cs y h wt => open_act h wt) hf wt
  simp at h1
  obtain ⟨rfl, rfl, rfl⟩ := h1
  exact ⟨a0, cap, l, rfl, h2, h3, h4⟩

theorem info_act : (Tryz.prog.info? AcT).map (·.size) = some 49 := by kernel_rfl
theorem load_act {w : World} {g o : Nat} {c : Acv} (h : w.rangeAt g o (encA c)) : (Instr.loadAt AcT (.pointer (some ⟨g, o, none⟩))).run Tryz.prog w = .ok (.agg (cellsA c)) w :=
  run_loadAt_mid (P := Tryz.prog) w g o AcT (encA c) _ h Tryz.underlying58 rfl (by rw [encA, Array.length_toList, sizeA]; exact info_act)
theorem store_act {w : World} {g : Nat} {Z D : Array Value} (hg : w.heap[g]? = some (.cells Z AcT (0, 0))) (hz : Z.size = 49) (hd : D.size = 49) :
    w.there g 0 D.size ∧ (w.setCells g 0 D.toList).heap[g]? = some (.cells D AcT (0, 0)) ∧ Chg [g] w (w.setCells g 0 D.toList) := by
  have c : Chg [g] w (w.setCells g 0 D.toList) := by
    obtain ⟨r1, r2, r3⟩ := setCells_rest D.toList w g 0
    exact ⟨r1, r2, r3, by rw [setCells_size]; exact Nat.le_refl _, fun k _ hk => setCells_out _ _ _ _ _ (by simpa using hk)⟩
  refine ⟨?_, ?_, c⟩
  · intro j hj
    rw [Nat.zero_add, cell_of_block hg, unfrozen_of_block hg]
    refine ⟨?_, rfl⟩
    rw [Array.getElem?_eq_getElem (by omega)]
    rfl
  · rw [setCells_block _ _ _ _ _ _ _ hg, setAt_full (by omega)]
abbrev zerA : Array Value := #[.int .i64 0, .int .i64 0, .string { data := #[] }, .int .u64 0, .int .i64 0, .int .i64 0, .int .i64 0, .slice none 0 0, .slice none 0 0, .slice none 0 0, .int .i64 0, .string { data := #[] }, .string { data := #[] }, .int .i64 0, .int .i64 0, .int .i64 0, .int .i64 0, .slice none 0 0, .slice none 0 0, .slice none 0 0, .int .i64 0, .string { data := #[] }, .int .i64 0, .int .i64 0, .slice none 0 0, .slice none 0 0, .int .i64 0, .bool false, .int .i64 0, .int .i64 0, .int .i64 0, .int .i64 0, .int .i64 0, .slice none 0 0, .slice none 0 0, .int .i64 0, .string { data := #[] }, .int .i64 0, .int .i64 0, .slice none 0 0, .int .i64 0, .int .i64 0, .int .i64 0, .slice none 0 0, .int .i64 0, .int .i64 0, .slice none 0 0, .slice none 0 0, .bool false]
theorem act_new (wr : World) (X : Array Value) (hX : X.size = 49) : (wr.alloc (.cells zerA AcT)).there wr.heap.size 0 X.size ∧ ((wr.alloc (.cells zerA AcT)).setCells wr.heap.size 0 X.toList).heap[wr.heap.size]? = some (.cells X AcT (0, 0)) ∧ Below wr.heap.size wr ((wr.alloc (.cells zerA AcT)).setCells wr.heap.size 0 X.toList) := by
  have z0 : (wr.alloc (.cells zerA AcT)).heap[wr.heap.size]? = some (.cells zerA AcT (0, 0)) := heap_alloc_new wr _
  obtain ⟨th, n0, c1⟩ := store_act z0 rfl hX
  refine ⟨th, n0, ?_⟩
  have g : Gr wr (wr.alloc (.cells zerA AcT)) := (Gr.refl wr).alloc _
  exact ((Xb.ofGr g wr.heap.size).trans ⟨c1.os, c1.tape, c1.output, c1.size, fun k hk hne => c1.block k hk (by simpa using hne)⟩).below (Nat.le_refl _) (Nat.le_refl _)
theorem oneA (a : Acv) : (cellsA a).all (·.oneCell') = true := by
  rw [← Array.all_toList]
  refine List.all_eq_true.2 (fun u hu => ?_)
  obtain ⟨t, ht⟩ := List.getElem?_of_mem hu
  rw [Array.getElem?_toList] at ht
  have hlt : t < 49 := by have := (Array.getElem?_eq_some_iff.1 ht).1; rw [sizeA] at this; exact this
  unfold cellsA at ht
  rcases Nat.eq_zero_or_pos t with rfl | h0
  · rw [acC_0] at ht; cases ht; rfl
  · by_cases h48 : t = 48
    · subst h48
      rw [acC_r _ _ _ a.2.1.2.1] at ht; cases ht; rfl
    · obtain ⟨j, rfl⟩ : ∃ j, t = 1 + j := ⟨t - 1, by omega⟩
      rw [acC_at _ _ _ _ (by rw [a.2.1.2.1]; omega)] at ht
      exact oneC a.2.1 u (by unfold encC; exact List.mem_of_getElem? (by rw [Array.getElem?_toList]; exact ht))

/-- Acts that a law takes. -/
def fewA (l : List Acv) : Bool := l.all (fun a => fewB a.2.2.2 && decide (a.2.2.2.name.size ≤ 100)) && decide (l.length ≤ 60)
theorem RowR.rangeAt {W : World} {b off : Nat} {l : List Acv} {j : Nat} {x : Acv} (h : RowR 49 encA W (some ⟨b, off, none⟩) l) (hx : l[j]? = some x) : b < W.heap.size ∧ W.rangeAt b (off + j * 49) (encA x) := by
  obtain ⟨b', off', e, h1, h2⟩ := h j x hx
  simp only [Option.some.injEq, Addr.mk.injEq] at e
  obtain ⟨rfl, rfl, _⟩ := e
  exact ⟨h1, fun t v hv => h2 t v hv⟩
theorem cellsA_obj {W : World} {x : Acv} (h : okA W x) : ObjV W x.2.1.1 x.2.2.2 := h.1

set_option maxHeartbeats 4000000 in
theorem few_acts (w : World) (q : Option Addr) (c : Nat) (l : List Acv) (hr : RowR 49 encA w q l) (hok : ∀ x ∈ l, okA w x) (hlen : l.length ≤ 140737488351232) :
    Calls Tryz.prog 6 #[.slice q l.length c] w fun e w' => e = .returned (.bool (fewA l)) ∧ Below w.heap.size w w' := by
  have mixed : Tryz.prog.follows .mixedOrders = true := by kernel_rfl
  obtain ⟨n, hn⟩ : ∃ n, n = l.length := ⟨_, rfl⟩
  rw [← hn] at hlen ⊢
  have HH := Lib.hid (And.intro hr (And.intro hok hn))
  clear hr hok hn
  go_enter Tryz.func6, Tryz.ntmps6
  go_wp2_with fail
  go_loopg [7] n (fun g vi wr => ∃ j : Nat, vi = .int .i64 (j : Int) ∧ j ≤ n ∧ n - j ≤ g ∧ Hid (∀ i x, i < j → l[i]? = some x → (fewB x.2.2.2 && decide (x.2.2.2.name.size ≤ 100)) = true) ∧ Hid (Below w.heap.size w wr))
  case atStart => exact ⟨0, rfl, Nat.zero_le _, by omega, fun i x hi => by omega, Below.refl _ _⟩
  case round =>
    obtain ⟨j, rfl, h1, h2, HP, HB⟩ := hrel
    by_cases hlt : j < n
    · obtain ⟨hr, hok, hn⟩ := HH.out
      obtain ⟨x, hx⟩ : ∃ x, l[j]? = some x := ⟨l[j]'(by omega), List.getElem?_eq_getElem (by omega)⟩
      obtain ⟨b, off, rfl, _, _⟩ := hr j x hx
      obtain ⟨hbl, hra⟩ := RowR.rangeAt hr hx
      have LD := Lib.hid (load_act (rangeAt_below hra HB.out hbl))
      obtain ⟨X, hX⟩ : ∃ X, X = cellsA x := ⟨_, rfl⟩
      rw [← hX] at LD
      have hXs : X.size = 49 := by rw [hX]; exact sizeA x
      obtain ⟨th, n0, b3⟩ := act_new wr X hXs
      obtain ⟨w3, hw3⟩ : ∃ W, W = (wr.alloc (.cells zerA AcT)).setCells wr.heap.size 0 X.toList := ⟨_, rfl⟩
      obtain ⟨A, hA⟩ : ∃ A, A = wr.heap.size := ⟨_, rfl⟩
      rw [← hw3] at n0 b3
      rw [← hA] at n0
      have B3 : Below w.heap.size w w3 := HB.out.trans (b3.mono HB.out.size)
      have TH := Lib.hid th
      have IN : Hid ((Tryz.prog.info? AcT).map (·.size) = some X.size) := by show _ = _; rw [hXs]; exact info_act
      have ON : Hid (X.all (·.oneCell') = true) := by show _ = _; rw [hX]; exact oneA x
      have HW3 : Hid ((wr.alloc (.cells zerA AcT)).setCells wr.heap.size 0 X.toList = w3 ∧ wr.heap.size = A) := ⟨hw3.symm, hA.symm⟩
      have ok := hok x (List.mem_of_getElem? hx)
      obtain ⟨kk, ⟨cs, hcs⟩, r, o⟩ := x
      have n1 : w3.heap[A]? = some (.cells (acC kk cs r) AcT (0, 0)) := by rw [n0, hX]; rfl
      have LB := Lib.hid (load_at47 (c := ⟨cs, hcs⟩) (acC_range n1))
      have CF := Lib.hid (few_any w3 cs o (ok.1.below B3) ok.2.2)
      have q2 : w3.cell? ⟨A, 2, none⟩ = some (.string o.name) := by
        rw [cell_of_block n1]
        exact (acC_at kk cs r 1 (by rw [hcs.1]; decide)).trans ok.1.2.1.2.1
      obtain ⟨nm, hnm⟩ : ∃ s, s = o.name := ⟨_, rfl⟩
      obtain ⟨fb, hfb⟩ : ∃ b, b = fewB o := ⟨_, rfl⟩
      rw [← hnm] at q2
      rw [← hfb] at CF
      have HX : Hid (l[j]? = some (kk, ⟨cs, hcs⟩, r, o) ∧ nm = o.name ∧ fb = fewB o ∧ Below w.heap.size w w3) := ⟨hx, hnm, hfb, B3⟩
      clear hr hok hn hx hbl hra hX hXs th n0 b3 hw3 hA B3 ok n1 hnm hfb
      go_upto_region 4 with (first | (refine wpList_load_by (by kernel_rfl) AcT _ rfl (.pointer (some ⟨b, off + j * 49, none⟩)) (.agg X) (by rfl) LD.out ?_) | (refine wpList_store_mid rfl _ _ _ rfl wr.heap.size 0 X (by rfl) (by rfl) TH.out IN.out ON.out ?_; rw [HW3.out.1, HW3.out.2]))
      go_wp2_with (refine wpList_load_by (by kernel_rfl) OT _ rfl (.pointer (some ⟨A, 1, none⟩)) (.agg cs) (by kernel_rfl) LB.out ?_)
      refine CF.out.mono ?_
      rintro e w4 ⟨rfl, g4⟩
      have q4 : w4.cell? ⟨A, 2, none⟩ = some (.string nm) := g4.cell q2
      have B4 : Hid (Below w.heap.size w w4) := HX.out.2.2.2.trans (g4.below.mono HX.out.2.2.2.size)
      have bad : (fb && decide (nm.size ≤ 100)) = false → fewA l = false := fun hb => by
        obtain ⟨hx, hnm, hfb, _⟩ := HX.out
        unfold fewA
        rw [Bool.and_eq_false_iff]
        refine .inl (Bool.eq_false_iff.2 (fun h => ?_))
        have := List.all_eq_true.1 h _ (List.mem_of_getElem? hx)
        rw [← hnm, ← hfb, hb] at this
        cases this
      have good : (fb && decide (nm.size ≤ 100)) = true → ∀ i x, i < j + 1 → l[i]? = some x → (fewB x.2.2.2 && decide (x.2.2.2.name.size ≤ 100)) = true := fun hb i x hi hx => by
        obtain ⟨hx', hnm, hfb, _⟩ := HX.out
        rcases Nat.lt_or_ge i j with h | h
        · exact HP.out i x h hx
        · obtain rfl : i = j := by omega
          rw [hx'] at hx
          cases hx
          rw [← hnm, ← hfb]
          exact hb
      cases fb with
      | false =>
        have FIN := Lib.hid (bad rfl)
        clear bad good g4 q2 q4 HP HX HH HB TH IN ON HW3 LD LB CF
        go_wp2
        go_ret
        exact ⟨by rw [FIN.out]; rfl, B4.out⟩
      | true =>
        by_cases hs : nm.size ≤ 100
        · have GD := Lib.hid (good (by simp [hs]))
          have t1 : decide (100 < nm.size) = false := decide_eq_false (by omega)
          have t2 : decide ((100 : Int) < (nm.size : Int)) = false := decide_eq_false (by omega)
          clear bad good g4 q2 HP HX HH HB TH IN ON HW3 LD LB CF hs
          go_wp2
          go_roundg (n - (j + 1))
          case measure => omega
          case rel => exact ⟨j + 1, by push_cast; rfl, by omega, by omega, GD.out, B4.out⟩
        · have FIN := Lib.hid (bad (by simp [hs]))
          have t1 : decide (100 < nm.size) = true := decide_eq_true (by omega)
          have t2 : decide ((100 : Int) < (nm.size : Int)) = true := decide_eq_true (by omega)
          clear bad good g4 q2 HP HX HH HB TH IN ON HW3 LD LB CF hs
          go_wp2
          go_ret
          exact ⟨by rw [FIN.out]; rfl, B4.out⟩
    · have FIN : Hid (fewA l = decide (n ≤ 60)) := by
        show _ = _
        unfold fewA
        rw [List.all_eq_true.2 (fun x hx => by
          obtain ⟨i, hi⟩ := List.getElem?_of_mem hx
          exact HP.out i x (by have := (List.getElem?_eq_some_iff.1 hi).1; have := HH.out.2.2; omega) hi), Bool.true_and, HH.out.2.2]
      clear HP HH
      by_cases hs : n ≤ 60
      · have t1 : decide (n ≤ 60) = true := decide_eq_true hs
        have t2 : decide ((n : Int) ≤ 60) = true := decide_eq_true (by omega)
        have F2 : Hid (fewA l = true) := by show _ = _; rw [FIN.out, t1]
        clear FIN hs
        go_wp2
        go_ret
        exact ⟨by rw [F2.out]; first | rfl | (simp only [t2]; rfl), HB.out⟩
      · have t1 : decide (n ≤ 60) = false := decide_eq_false hs
        have t2 : decide ((n : Int) ≤ 60) = false := decide_eq_false (by omega)
        have F2 : Hid (fewA l = false) := by show _ = _; rw [FIN.out, t1]
        clear FIN hs
        go_wp2
        go_ret
        exact ⟨by rw [F2.out]; first | rfl | (simp only [t2]; rfl), HB.out⟩
end Go.Proofs.YtbagicilmmkdhaaGreat
/- Get, Len and Now of a store that is there. -/
namespace Go.Proofs.YtbagicilmmkdhaaGreat
open Go.RowKit Go.Shelf Go.Lib Go.Sort
open Go.Joins (cell_of_block unfrozen_of_block block_setCell)
set_option linter.unusedVariables false
set_option linter.unusedSimpArgs false
set_option maxRecDepth 20000

theorem zer_obj (w : World) : ObjV w zerC zerO :=
  ⟨rfl, ⟨rfl, rfl, rfl, by decide⟩, ⟨rfl, rfl, rfl, ⟨none, 0, rfl, RowR.nil _ _ _ _⟩, ⟨none, 0, rfl, RowR.nil _ _ _ _⟩, ⟨none, 0, rfl, RowR.nil _ _ _ _⟩, rfl⟩, ⟨rfl, rfl, rfl, rfl, rfl, rfl, ⟨none, 0, rfl, RowR.nil _ _ _ _⟩, ⟨none, 0, rfl, RowR.nil _ _ _ _⟩, ⟨none, 0, rfl, RowR.nil _ _ _ _⟩, rfl⟩, ⟨rfl, rfl, rfl, ⟨none, 0, rfl, RowR.nil _ _ _ _⟩, ⟨none, 0, rfl, RowR.nil _ _ _ _⟩, rfl, rfl⟩, ⟨rfl, rfl, rfl, rfl, rfl, ⟨none, 0, rfl, RowR.nil _ _ _ _⟩, ⟨none, 0, rfl, RowR.nil _ _ _ _⟩, rfl⟩, ⟨rfl, rfl, rfl, ⟨none, 0, rfl, RowR.nil _ _ _ _⟩, rfl, rfl, rfl, ⟨none, 0, rfl, RowR.nil _ _ _ _⟩, rfl, rfl, ⟨none, 0, rfl, RowR.nil _ _ _ _⟩, ⟨none, 0, rfl, RowR.nil _ _ _ _⟩⟩⟩
theorem zer_nil : NilO zerC := by
  intro i n c hi hc
  simp only [rowsIx, List.mem_cons, List.not_mem_nil, or_false] at hi
  rcases hi with rfl | rfl | rfl | rfl | rfl | rfl | rfl | rfl | rfl | rfl | rfl | rfl | rfl | rfl <;> (simp at hc; exact hc.2.symm)
theorem zer_kept (base : Nat) (w : World) : Kept base w zerC zerO :=
  ⟨fun w' _ => zer_obj w', zer_nil, by unfold TinyO; simp [zerO], by constructor <;> first | rfl | exact Nat.zero_le _⟩

set_option maxHeartbeats 4000000 in
theorem now_any (base : Nat) (w : World) (S : List Nat) (sp : Nat) (most : Int) (l : List Ob) (hist : List Ev) (h : StIs base w S sp most l hist) :
    Calls Tryz.prog 16 #[.pointer (some ⟨sp, 0, none⟩)] w fun e w' => e = .returned (.int .u64 (hist.length : Int)) ∧ w' = w := by
  obtain ⟨mb, Dm, ev, kept, h⟩ := h
  have c1 : w.cell? ⟨sp, 1, none⟩ = some (.int .u64 (hist.length : Int)) := cell_of_block h.blk 1
  clear h
  go_enter Tryz.func16, Tryz.ntmps16
  go_wp2
  go_ret
  exact ⟨rfl, rfl⟩

set_option maxHeartbeats 4000000 in
theorem len_any (base : Nat) (w : World) (S : List Nat) (sp : Nat) (most : Int) (l : List Ob) (hist : List Ev) (h : StIs base w S sp most l hist) :
    Calls Tryz.prog 35 #[.pointer (some ⟨sp, 0, none⟩)] w fun e w' => e = .returned (.int .i64 (l.length : Int)) ∧ w' = w := by
  obtain ⟨mb, Dm, ev, kept, h⟩ := h
  have c1 : w.cell? ⟨sp, 2, none⟩ = some (.map (some mb)) := cell_of_block h.blk 2
  have hlen := h.map.own.len mapT 3
  rw [h.map.size] at hlen
  clear h
  go_enter Tryz.func35, Tryz.ntmps35
  go_wp2
  go_ret
  exact ⟨rfl, rfl⟩

set_option maxHeartbeats 4000000 in
theorem get_any (base : Nat) (w : World) (S : List Nat) (sp : Nat) (most : Int) (l : List Ob) (hist : List Ev) (k : Int) (nm : ByteArray) (h : StIs base w S sp most l hist) (hk : I64 k) (hnm : nm.size ≤ maxLen) :
    Calls Tryz.prog 34 #[.pointer (some ⟨sp, 0, none⟩), .int .i64 k, .string nm] w fun e w' => (∃ V, e = .returned (.tuple #[.agg V, .bool (l.any (hit k nm))]) ∧ V.size = 47 ∧ V.all (·.oneCell') = true ∧ ∀ x, l.find? (hit k nm) = some x → Kept base w' V x) ∧ Below w.heap.size w w' := by
  obtain ⟨mb, Dm, ev, kept, h⟩ := h
  obtain ⟨th, V, o, hth, hV, LK, hfo⟩ : ∃ th V o, l.any (hit k nm) = th ∧ Kept base w V o ∧ (∀ ws : World, ws.heap[mb]? = w.heap[mb]? → (Instr.lookup MT (.map (some mb)) (thing k nm) true).run Tryz.prog ws = .ok (.tuple #[.agg V, .bool th]) ws) ∧ (∀ x, l.find? (hit k nm) = some x → x = o) := by
    rcases h.map.look hk hnm with ⟨a1, a2, a3⟩ | ⟨x, cx, a1, a2, a3, a4⟩
    · exact ⟨false, zerC, zerO, a1, zer_kept base w, a3, fun x hx => by rw [a2] at hx; cases hx⟩
    · exact ⟨true, cx, x, a1, a3, a4, fun y hy => by rw [a2] at hy; cases hy; rfl⟩
  rw [hth]
  obtain ⟨B, hB⟩ : ∃ B, B = w.heap.size := ⟨_, rfl⟩
  obtain ⟨wb, hwb⟩ : ∃ wb, wb = w.alloc (.cells zerC OT) := ⟨_, rfl⟩
  have G0 : Gr w wb := hwb ▸ (Gr.refl w).alloc _
  have b1 : wb.heap[B]? = some (.cells zerC OT (0, 0)) := by rw [hwb, hB]; exact heap_alloc_new w _
  have hbs : wb.heap.size = B + 1 := by rw [hwb, hB]; simp
  have hml : mb < w.heap.size := (map_prot h.map h.bmb).2.1
  have c2 : wb.cell? ⟨sp, 2, none⟩ = some (.map (some mb)) := G0.cell (cell_of_block h.blk 2)
  have lk : (Instr.lookup MT (.map (some mb)) (.agg #[.int .i64 k, .string nm]) true).run Tryz.prog wb = .ok (.tuple #[.agg V, .bool th]) wb := LK wb (G0.heap hml)
  have z0 : (wb.alloc (.cells zerC OT)).heap[wb.heap.size]? = some (.cells zerC OT (0, 0)) := heap_alloc_new wb _
  obtain ⟨th1, n0, fx1, d1⟩ := store_ob (base := wb.heap.size) z0 rfl hV.obj.1 (Nat.le_refl _)
  obtain ⟨wc, hwc⟩ : ∃ W, W = (wb.alloc (.cells zerC OT)).setCells wb.heap.size 0 V.toList := ⟨_, rfl⟩
  obtain ⟨A, hA⟩ : ∃ A, A = wb.heap.size := ⟨_, rfl⟩
  rw [← hwc] at n0 d1
  rw [← hA] at n0 d1
  have bwc : Below wb.heap.size wb wc := by
    have g : Gr wb (wb.alloc (.cells zerC OT)) := (Gr.refl wb).alloc _
    exact ((Xb.ofGr g A).trans ⟨d1.os, d1.tape, d1.output, d1.size, fun k hk hne => d1.block k hk (by simpa using hne)⟩).below (by omega) (Nat.le_refl _)
  have hVc : Kept base wc V o := hV.fx ((Fx.ofBelow G0.below).trans (Fx.ofBelow bwc))
  have CC := Lib.hid (clone_any wc V o hVc.obj hVc.nil hVc.small.small)
  have TH1 := Lib.hid th1
  have IV : Hid ((Tryz.prog.info? OT).map (·.size) = some V.size) := by show _ = _; rw [hV.obj.1]; exact info_ob47
  have OV := Lib.hid (objV_one hV.obj)
  have HW : Hid ((wb.alloc (.cells zerC OT)).setCells wb.heap.size 0 V.toList = wc ∧ wb.heap.size = A) := ⟨hwc.symm, hA.symm⟩
  have LV := Lib.hid (load_ob n0 hV.obj.1)
  have HH := Lib.hid (And.intro G0 (And.intro b1 (And.intro hbs (And.intro bwc (And.intro hVc (And.intro hfo (And.intro hB h.bw)))))))
  clear h hth hV LK hfo G0 b1 hbs hml z0 th1 n0 fx1 d1 hwc hA bwc hVc hk hnm
  go_enter Tryz.func34, Tryz.ntmps34
  go_upto_region 3 with fail
  rw [← hwb, ← hB]
  clear hwb hB
  go_upto_region 4 with (refine wpList_store_mid rfl _ _ _ rfl wb.heap.size 0 V (by rfl) (by rfl) TH1.out IV.out OV.out ?_; rw [HW.out.1, HW.out.2])
  go_wp2_with (refine wpList_load_by (by kernel_rfl) OT _ rfl (.pointer (some ⟨A, 0, none⟩)) (.agg V) (by kernel_rfl) LV.out ?_)
  refine CC.out.mono ?_
  rintro e m ⟨⟨D, rfl, hC⟩, hbl⟩
  obtain ⟨G0, b1, hbs, bwc, hVc, hfo, hB, hbw⟩ := HH.out
  have KD : Kept base m D o := kept_copy hVc hC hVc.small hVc.fits
  have hwcz := bwc.size
  have m1 : m.heap[B]? = some (.cells zerC OT (0, 0)) := ((hbl.block B (by omega)).trans (bwc.block B (by omega))).trans b1
  obtain ⟨th, n0, fx1, c1⟩ := store_ob (base := base) m1 rfl KD.obj.1 (by omega)
  obtain ⟨n, hn⟩ : ∃ n, n = m.setCells B 0 D.toList := ⟨_, rfl⟩
  rw [← hn] at n0 fx1 c1
  have IN : Hid ((Tryz.prog.info? OT).map (·.size) = some D.size) := by show _ = _; rw [KD.obj.1]; exact info_ob47
  have TH := Lib.hid th
  have ON := Lib.hid (objV_one KD.obj)
  have HN := Lib.hid hn
  have bwn : Below w.heap.size w n := by
    have h1 : Below w.heap.size w m := G0.below.trans ((bwc.mono G0.below.size).trans (hbl.mono (by omega)))
    exact h1.trans (c1.below (fun g hg => by simp at hg; omega) h1.size)
  have FIN : Hid ((∃ V', D = V' ∧ V'.size = 47 ∧ V'.all (·.oneCell') = true ∧ ∀ x, l.find? (hit k nm) = some x → Kept base n V' x) ∧ Below w.heap.size w n) := ⟨⟨D, rfl, KD.obj.1, objV_one KD.obj, fun x hx => by rw [hfo x hx]; exact KD.fx fx1⟩, bwn⟩
  have N0 := Lib.hid n0
  clear G0 b1 hbs bwc hVc hfo hB hbw KD hwcz m1 th n0 fx1 c1 hn bwn hbl hC CC LV HW TH1 IV OV HH
  go_wp2_with (refine wpList_store_mid rfl _ _ _ rfl B 0 D (by rfl) (by rfl) TH.out IN.out ON.out ?_; rw [← HN.out])
  refine bodyPost_ret (results_row_tmp rfl _ _ B OT D (0, 0) _ (by rfl) N0.out Tryz.underlying56 rfl IN.out) rfl ?_
  obtain ⟨⟨V', rfl, h1, h2, h3⟩, h4⟩ := FIN.out
  exact ⟨⟨_, rfl, h1, h2, h3⟩, h4⟩
end Go.Proofs.YtbagicilmmkdhaaGreat
/- The names that one goes by: a map of names; what an event does to them; how many there are. -/
namespace Go.Proofs.YtbagicilmmkdhaaGreat
open Go.RowKit Go.Shelf Go.Lib Go.Sort
open Go.Maps (Keyed IsMap Tidy)
open Go.Joins (cell_of_block unfrozen_of_block block_setCell)
set_option linter.unusedVariables false
set_option linter.unusedSimpArgs false
set_option maxRecDepth 20000

/-- What an event does. -/
structure Step (l : List Ob) (e : Ev) (l' : List Ob) : Prop where
  kind : I64 e.kind
  name : e.name.size ≤ maxLen
  was : l.any (hit e.kind e.name) = !(decide (e.what = 0))
  now : ∀ k nm, l'.any (hit k nm) = if k = e.kind ∧ nm = e.name then !(decide (e.what = 2)) else l.any (hit k nm)
theorem hit_off {k k' : Int} {nm nm' : ByteArray} {o : Ob} (h : hit k nm o = true) : hit k' nm' o = decide (k' = k ∧ nm' = nm) := by
  obtain ⟨rfl, rfl⟩ := hit_iff.1 h
  rw [Bool.eq_iff_iff, hit_iff, decide_eq_true_eq]
  exact ⟨fun h => ⟨h.1.symm, h.2.symm⟩, fun h => ⟨h.1.symm, h.2.symm⟩⟩
theorem hit_own (o : Ob) (k : Int) (nm : ByteArray) : hit k nm o = decide (k = o.kind ∧ nm = o.name) := hit_off (hit_self o)
theorem step_made {l : List Ob} {d : Ob} {v : Nat} (ha : l.any (hit d.kind d.name) = false) (hd : OkK d) : Step l ⟨0, d.kind, d.name, v⟩ (l ++ [d]) :=
  ⟨hd.1, hd.2, ha, fun k nm => by
    rw [List.any_append]
    simp only [List.any_cons, List.any_nil, Bool.or_false]
    rw [hit_own d]
    by_cases e : k = d.kind ∧ nm = d.name
    · simp [e]
    · simp [e]⟩
theorem step_set {l : List Ob} {d : Ob} {v : Nat} (ha : l.any (hit d.kind d.name) = true) (hd : OkK d) : Step l ⟨1, d.kind, d.name, v⟩ (put l d) :=
  ⟨hd.1, hd.2, by rw [ha]; rfl, fun k nm => by
    by_cases e : k = d.kind ∧ nm = d.name
    · obtain ⟨rfl, rfl⟩ := e
      rw [if_pos ⟨rfl, rfl⟩]
      exact List.any_eq_true.2 ⟨d, put_self l d, hit_self d⟩
    · rw [if_neg e, Bool.eq_iff_iff, List.any_eq_true, List.any_eq_true]
      constructor
      · rintro ⟨x, hx, hp⟩
        rcases put_mem hx with rfl | ⟨hx, _⟩
        · rw [hit_own, decide_eq_true_eq] at hp
          exact absurd hp e
        · exact ⟨x, hx, hp⟩
      · rintro ⟨x, hx, hp⟩
        refine ⟨x, put_keeps hx (fun e2 => e ?_), hp⟩
        obtain ⟨a1, a2⟩ := hit_iff.1 hp
        unfold Key at e2
        rw [Prod.mk.injEq] at e2
        exact ⟨by rw [← a1, e2.1], by rw [← a2]; exact by_inj e2.2⟩⟩
theorem step_gone {l : List Ob} {k : Int} {nm : ByteArray} {v : Nat} (hp : l.Pairwise (fun a b => Key a ≠ Key b)) (hok : ∀ o ∈ l, OkK o) (ha : l.any (hit k nm) = true) : Step l ⟨2, k, nm, v⟩ (del l k nm) := by
  obtain ⟨x, hx, hpx⟩ := List.any_eq_true.1 ha
  obtain ⟨e1, e2⟩ := hit_iff.1 hpx
  refine ⟨e1 ▸ (hok x hx).1, e2 ▸ (hok x hx).2, by rw [ha]; rfl, fun k' nm' => ?_⟩
  by_cases e : k' = k ∧ nm' = nm
  · obtain ⟨rfl, rfl⟩ := e
    rw [if_pos ⟨rfl, rfl⟩]
    show _ = false
    rw [List.any_eq_false]
    intro y hy
    rw [del_mem hp] at hy
    rw [hy.2]
    simp
  · rw [if_neg e, Bool.eq_iff_iff, List.any_eq_true, List.any_eq_true]
    constructor
    · rintro ⟨y, hy, hpy⟩
      exact ⟨y, ((del_mem hp).1 hy).1, hpy⟩
    · rintro ⟨y, hy, hpy⟩
      refine ⟨y, (del_mem hp).2 ⟨hy, ?_⟩, hpy⟩
      cases h : hit k nm y with
      | false => rfl
      | true =>
        obtain ⟨a1, a2⟩ := hit_iff.1 h
        obtain ⟨b1, b2⟩ := hit_iff.1 hpy
        exact absurd ⟨by rw [← b1, a1], by rw [← b2, a2]⟩ e
theorem Move.step {l l' : List Ob} {hist hist' : List Ev} (h : Move l hist l' hist') (hp : l.Pairwise (fun a b => Key a ≠ Key b)) (hok : ∀ o ∈ l, OkK o) : (l' = l ∧ hist' = hist) ∨ ∃ e, hist' = hist ++ [e] ∧ Step l e l' := by
  cases h with
  | stay => exact .inl ⟨rfl, rfl⟩
  | made d h1 h2 => exact .inr ⟨_, rfl, step_made h1 h2⟩
  | set d h1 h2 => exact .inr ⟨_, rfl, step_set h1 h2⟩
  | gone k nm h1 => exact .inr ⟨_, rfl, step_gone hp hok h1⟩
/-- A row of events from one row of objects to another one. -/
def Chain (l0 : List Ob) (ext : List Ev) (l : List Ob) : Prop := ∃ f : Nat → List Ob, f 0 = l0 ∧ f ext.length = l ∧ ∀ i e, ext[i]? = some e → Step (f i) e (f (i + 1))
theorem Chain.nil (l : List Ob) : Chain l [] l := ⟨fun _ => l, rfl, rfl, fun i e h => by simp at h⟩
theorem Chain.snoc {l0 l l' : List Ob} {ext : List Ev} {e : Ev} (h : Chain l0 ext l) (s : Step l e l') : Chain l0 (ext ++ [e]) l' := by
  obtain ⟨f, h0, h1, h2⟩ := h
  refine ⟨fun i => if i ≤ ext.length then f i else l', by simp [h0], by simp only [List.length_append, List.length_singleton]; exact if_neg (by omega), fun i x hx => ?_⟩
  rw [List.getElem?_append] at hx
  split at hx
  · rename_i hlt
    have := h2 i x hx
    simp only
    rw [if_pos (by omega), if_pos (by omega)]
    exact this
  · rename_i hlt
    have hi : i - ext.length = 0 := by
      have := (List.getElem?_eq_some_iff.1 hx).1
      simpa using this
    rw [hi] at hx
    simp at hx
    subst hx
    have : i = ext.length := by omega
    subst this
    simp only
    rw [if_pos (Nat.le_refl _), if_neg (by omega), h1]
    exact s

/-- How many of a row's names are through. -/
def seen (left : Lit → Bool) (l : List Ob) : Nat := (l.filter (fun o => !left (kl o.kind o.name))).length
theorem seen_none {left : Lit → Bool} {l : List Ob} (h : ∀ o ∈ l, left (kl o.kind o.name) = true) : seen left l = 0 := by
  unfold seen
  rw [List.filter_eq_nil_iff.2 (fun o ho => by rw [h o ho]; simp)]
  rfl
theorem seen_all {left : Lit → Bool} {l : List Ob} (h : ∀ z, left z = false) : seen left l = l.length := by
  unfold seen
  rw [List.filter_eq_self.2 (fun o ho => by rw [h]; rfl)]
theorem seen_step {left left' : Lit → Bool} {k : Int} {nm : ByteArray} (hl : left (kl k nm) = true) : ∀ (l : List Ob), l.Pairwise (fun a b => Key a ≠ Key b) → (∀ o ∈ l, left' (kl o.kind o.name) = (left (kl o.kind o.name) && !(hit k nm o))) →
    seen left' l = seen left l + (if l.any (hit k nm) then 1 else 0)
  | [], _, _ => rfl
  | x :: l, hp, h => by
    have hp2 := List.pairwise_cons.1 hp
    have ih := seen_step hl l hp2.2 (fun o ho => h o (List.mem_cons_of_mem _ ho))
    have hx := h x List.mem_cons_self
    unfold seen at ih ⊢
    cases hh : hit k nm x with
    | true =>
      obtain ⟨e1, e2⟩ := hit_iff.1 hh
      have hno : l.any (hit k nm) = false := by
        rw [List.any_eq_false]
        intro y hy hpy
        obtain ⟨b1, b2⟩ := hit_iff.1 hpy
        exact hp2.1 y hy (by unfold Key; rw [e1, e2, b1, b2])
      rw [hno] at ih
      have hlx : left (kl x.kind x.name) = true := by rw [e1, e2]; exact hl
      rw [hh, hlx] at hx
      rw [List.filter_cons, List.filter_cons, hx, hlx]
      simp [hh] at ih ⊢
      exact ih
    | false =>
      rw [hh] at hx
      simp only [Bool.not_false, Bool.and_true] at hx
      rw [List.filter_cons, List.filter_cons, hx]
      cases hl2 : left (kl x.kind x.name) <;> simp [hh, hl2] at ih ⊢ <;> omega
end Go.Proofs.YtbagicilmmkdhaaGreat
/- Acts played upon a store and its model, one by one. -/
namespace Go.Proofs.YtbagicilmmkdhaaGreat
open Go.RowKit Go.Shelf Go.Lib Go.Sort
open Go.Joins (cell_of_block unfrozen_of_block block_setCell)
set_option linter.unusedVariables false
set_option linter.unusedSimpArgs false
set_option maxRecDepth 20000

theorem Move.len {l l' : List Ob} {hist hist' : List Ev} (h : Move l hist l' hist') : l'.length ≤ l.length + 1 := by
  cases h with
  | stay => omega
  | made d h1 h2 => simp
  | set d h1 h2 => rw [put_len, if_pos h1]; omega
  | gone k nm h1 => have := @del_len l k nm; rw [if_pos h1] at this; omega
/-- A store and its model under way. -/
structure Run (base : Nat) (W wr : World) (sp mp : Nat) (most : Int) (X : Option (Nat × Obj)) (l0 : List Ob) (h0 : List Ev) (l : List Ob) (hist : List Ev) (j k : Nat) : Prop where
  sys : ∃ S T, Sys base wr S T sp mp most l hist ∧ ∀ b o, X = some (b, o) → b ∉ S ++ T ∧ wr.heap[b]? = some o
  chain : ∃ ext, hist = h0 ++ ext ∧ Chain l0 ext l ∧ ext.length ≤ j
  few : l.length ≤ k + j
  low : Below W.heap.size W wr
theorem Run.gr {base : Nat} {W wr w' : World} {sp mp : Nat} {most : Int} {X : Option (Nat × Obj)} {l0 l : List Ob} {h0 hist : List Ev} {j k : Nat} (h : Run base W wr sp mp most X l0 h0 l hist j k) (g : Below wr.heap.size wr w') : Run base W w' sp mp most X l0 h0 l hist j k := by
  obtain ⟨S, T, s, x⟩ := h.sys
  refine ⟨⟨S, T, s.gr g, fun b o e => ⟨(x b o e).1, ?_⟩⟩, h.chain, h.few, h.low.trans (g.mono h.low.size)⟩
  exact (g.block b (Array.getElem?_eq_some_iff.1 (x b o e).2).1).trans (x b o e).2
theorem Run.step {base : Nat} {W wr w' : World} {sp mp : Nat} {most : Int} {X : Option (Nat × Obj)} {l0 l l' : List Ob} {h0 hist hist' : List Ev} {j k : Nat} (hb : base = W.heap.size) (h : Run base W wr sp mp most X l0 h0 l hist j k) (S T : List Nat) (s : Sys base wr S T sp mp most l hist) (x : ∀ b o, X = some (b, o) → b ∉ S ++ T ∧ wr.heap[b]? = some o)
    (m : Move l hist l' hist') (n : Next base wr w' S T sp mp most l' hist') : Run base W w' sp mp most X l0 h0 l' hist' (j + 1) k := by
  obtain ⟨S', T', s', c, i⟩ := n
  obtain ⟨ext, h1, h2, h3⟩ := h.chain
  obtain ⟨mb, D, ev, kept, hst⟩ := s.st
  refine ⟨⟨S', T', s', fun b o e => ?_⟩, ?_, by have := m.len; have := h.few; omega, ?_⟩
  · obtain ⟨x1, x2⟩ := x b o e
    have hlt := (Array.getElem?_eq_some_iff.1 x2).1
    refine ⟨fun hm => ?_, (c.block b hlt x1).trans x2⟩
    rcases i b hm with h | h
    · exact x1 h
    · omega
  · rcases m.step hst.map.apart hst.map.ok with ⟨e1, e2⟩ | ⟨e, e1, e2⟩
    · exact ⟨ext, by rw [e2]; exact h1, by rw [e1]; exact h2, by omega⟩
    · exact ⟨ext ++ [e], by rw [e1, h1, List.append_assoc], h2.snoc e2, by simp; omega⟩
  · refine h.low.trans ?_
    have := c.below (base := base) (fun g hg => (s.prot g hg).1) hst.bw
    rw [← hb]
    exact this
/-- A new model. -/
theorem Run.made {base : Nat} {W w : World} {S : List Nat} {sp : Nat} {most : Int} (hb : base = W.heap.size) (h : StIs base w S sp most [] []) (hl : Below W.heap.size W w) : Run base W (w.alloc (.cells #[.slice none 0 0, .int .u64 0, .slice none 0 0] MoT)) sp w.heap.size most none [] [] [] [] 0 0 := by
  have g : Gr w (w.alloc (.cells #[.slice none 0 0, .int .u64 0, .slice none 0 0] MoT)) := (Gr.refl w).alloc _
  refine ⟨⟨S, [w.heap.size], ⟨h.gr g.below, ⟨.slice none 0 0, .slice none 0 0, [], rfl, by have := hl.size; omega, by have := hl.size; have := g.below.size; omega, heap_alloc_new w _, World.ownsRow_nil _ _ _ _, rfl, fun i o hi => by simp at hi, World.ownsRow_nil _ _ _ _⟩, fun k hk hm => ?_⟩, fun b o e => by cases e⟩, ⟨[], rfl, Chain.nil _, Nat.le_refl _⟩, Nat.le_refl _, hl.trans (g.below.mono hl.size)⟩
  simp at hm
  have := (h.prot k hk).2.1
  omega
/-- .. beside a block of one's own. -/
theorem Run.have_ {base : Nat} {W wr : World} {sp mp : Nat} {most : Int} {l0 l : List Ob} {h0 hist : List Ev} {j k : Nat} (h : Run base W wr sp mp most none l0 h0 l hist j k) (o : Obj) : Run base W (wr.alloc o) sp mp most (some (wr.heap.size, o)) l0 h0 l hist j k := by
  have h' := h.gr ((Gr.refl wr).alloc o).below
  obtain ⟨S, T, s, _⟩ := h.sys
  refine ⟨⟨S, T, s.gr ((Gr.refl wr).alloc o).below, fun b o' e => ?_⟩, h.chain, h.few, h'.low⟩
  cases e
  exact ⟨fun hm => by have := (s.prot _ hm).2.1; omega, heap_alloc_new wr o⟩
theorem Run.chg {base : Nat} {W w w' : World} {sp mp mb : Nat} {o : Obj} {most : Int} {l0 l : List Ob} {h0 hist : List Ev} {j k : Nat} (h : Run base W w sp mp most (some (mb, o)) l0 h0 l hist j k) (hb : base = W.heap.size) (hmb : base ≤ mb) (hp : ¬ Prot base w mb) (c : Chg [mb] w w') (o' : Obj) (ho : w'.heap[mb]? = some o') : Run base W w' sp mp most (some (mb, o')) l0 h0 l hist j k := by
  obtain ⟨S, T, s, x⟩ := h.sys
  obtain ⟨x1, x2⟩ := x mb o rfl
  refine ⟨⟨S, T, s.chg c (fun g hg hm => by simp at hm; subst hm; exact x1 hg) (fun g hg _ => by simp at hg; subst hg; exact hp), fun b o2 e => by cases e; exact ⟨x1, ho⟩⟩, h.chain, h.few, ?_⟩
  refine h.low.trans ?_
  have := c.below (base := base) (fun g hg => by simp at hg; omega) (by have := h.low.size; omega)
  rw [← hb]
  exact this
theorem turned_chg {w w' : World} {mb : Nat} (h : w.mapTurned w' mb) : Chg [mb] w w' :=
  Chg.ofGrown (S := [mb]) (World.mapTurned.grown h) (fun g e => .inl (by simp at e; simp [e]))
theorem Run.again {base : Nat} {W wr : World} {sp mp : Nat} {most : Int} {X : Option (Nat × Obj)} {l0 l : List Ob} {h0 hist : List Ev} {j k : Nat} (h : Run base W wr sp mp most X l0 h0 l hist j k) : Run base W wr sp mp most X l hist l hist 0 (k + j) :=
  ⟨h.sys, ⟨[], by simp, Chain.nil _, Nat.le_refl _⟩, by have := h.few; omega, h.low⟩
theorem Run.st {base : Nat} {W wr : World} {sp mp : Nat} {most : Int} {X : Option (Nat × Obj)} {l0 l : List Ob} {h0 hist : List Ev} {j k : Nat} (h : Run base W wr sp mp most X l0 h0 l hist j k) : ∃ S, StIs base wr S sp most l hist := by
  obtain ⟨S, T, s, _⟩ := h.sys
  exact ⟨S, s.st⟩
theorem Run.hist {base : Nat} {W wr : World} {sp mp : Nat} {most : Int} {X : Option (Nat × Obj)} {l0 l : List Ob} {h0 hist : List Ev} {j k : Nat} (h : Run base W wr sp mp most X l0 h0 l hist j k) : h0.length ≤ hist.length ∧ hist.length ≤ h0.length + j := by
  obtain ⟨ext, e, _, h3⟩ := h.chain
  rw [e, List.length_append]
  omega
theorem Run.fine {base : Nat} {W wr : World} {sp mp : Nat} {most : Int} {X : Option (Nat × Obj)} {l0 l : List Ob} {h0 hist : List Ev} {j k : Nat} (h : Run base W wr sp mp most X l0 h0 l hist j k) : l.Pairwise (fun a b => Key a ≠ Key b) ∧ ∀ o ∈ l, OkK o := by
  obtain ⟨S, mb, D, ev, kept, s⟩ := h.st
  exact ⟨s.map.apart, s.map.ok⟩
/-- The model's row, as the program reads it. -/
theorem Run.row {base : Nat} {W wr : World} {sp mp : Nat} {most : Int} {X : Option (Nat × Obj)} {l0 l : List Ob} {h0 hist : List Ev} {j k : Nat} (h : Run base W wr sp mp most X l0 h0 l hist j k) : ∃ q c, wr.cell? ⟨mp, 0, none⟩ = some (.slice q l.length c) ∧
    ∀ i x, l[i]? = some x → ∃ g : Nat, ∃ y : Cs, q = some ⟨g, 0, none⟩ ∧ g < wr.heap.size ∧ (∀ b o, X = some (b, o) → g ≠ b) ∧ wr.rangeAt g (i * 47) y.1.toList ∧ ObjV wr y.1 x := by
  obtain ⟨S, T, s, hX⟩ := h.sys
  obtain ⟨lv, mev, csl, hm⟩ := s.mo
  obtain ⟨q, c, rfl⟩ := own_slice hm.row
  refine ⟨q, c, by rw [← hm.len]; exact cell_of_block hm.blk 0, fun i x hx => ?_⟩
  obtain ⟨y, hy, hk⟩ := hm.objs i x hx
  have hi : i < csl.length := (List.getElem?_eq_some_iff.1 hy).1
  obtain ⟨g, cap, cur, hgq, hgh⟩ : ∃ g cap cur, Value.slice q csl.length c = .slice (some ⟨g, 0, none⟩) csl.length cap ∧ wr.heap[g]? = some (.cells cur OT (0, 0)) := by
    rcases hm.row.2 with ⟨_, h0⟩ | ⟨g, cap, cur, e1, e2, e3, _⟩
    · omega
    · exact ⟨g, cap, cur, e1, e3⟩
  have hr := hm.row
  simp only [Value.slice.injEq, true_and] at hgq
  obtain ⟨rfl, rfl⟩ := hgq
  refine ⟨g, y, rfl, (Array.getElem?_eq_some_iff.1 hgh).1, fun b o e hgb => ?_, rangeAt_own hr hy, hk.obj⟩
  subst hgb
  exact (hX g o e).1 (List.mem_append_right _ (by rw [hm.fp]; simp [Value.ownBlock]))
end Go.Proofs.YtbagicilmmkdhaaGreat
