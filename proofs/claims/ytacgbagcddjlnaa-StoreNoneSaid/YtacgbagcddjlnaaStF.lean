/- Stores made; objects created, updated. -/
import Derived.Test.YtacgbagcddjlnaaStR
import Derived.Carry
namespace Go.Proofs.Ytacgbagcddjlnaa
open Go.RowKit Go.Shelf Go.Lib Go.Sort
open Go.Joins (cell_of_block unfrozen_of_block block_setCell)
set_option linter.unusedVariables false
set_option linter.unusedSimpArgs false
set_option maxRecDepth 20000

set_option maxHeartbeats 4000000 in
theorem new_bad (w : World) (most : Int) (h : most < 1 ∨ 512 < most) :
    Calls Try.prog 8 #[.int .i64 most] w fun e w' => e = .returned (.tuple #[.pointer none, .int .i64 1]) ∧ Gr w w' := by
  have G := Lib.hid (Gr.refl w)
  by_cases h1 : most < 1
  · have t : decide (most < 1) = true := decide_eq_true h1
    clear h
    go_enter Try.func8, Try.ntmps8
    go_wp2
    refine bodyPost_ret (results_tmp2 rfl _ _ _) rfl ?_
    exact ⟨rfl, G.out⟩
  · have t : decide (most < 1) = false := decide_eq_false h1
    have t2 : decide (512 < most) = true := decide_eq_true (by omega)
    clear h
    go_enter Try.func8, Try.ntmps8
    go_wp2
    refine bodyPost_ret (results_tmp2 rfl _ _ _) rfl ?_
    exact ⟨rfl, G.out⟩
set_option maxHeartbeats 4000000 in
theorem new_any (base : Nat) (w : World) (most : Int) (h1 : 1 ≤ most) (h2 : most ≤ 512) (hb : base ≤ w.heap.size) :
    Calls Try.prog 8 #[.int .i64 most] w fun e w' => (∃ S sp, e = .returned (.tuple #[.pointer (some ⟨sp, 0, none⟩), .int .i64 0]) ∧ StIs base w' S sp most [] [] ∧ ∀ g ∈ S, w.heap.size ≤ g) ∧ Below w.heap.size w w' := by
  have t1 : decide (most < 1) = false := decide_eq_false (by omega)
  have t2 : decide (512 < most) = false := decide_eq_false (by omega)
  have G := Lib.hid (Gr.refl w)
  have HB := Lib.hid hb
  have mk := @run_makeMap Try.prog
  clear h1 h2 hb
  go_enter Try.func8, Try.ntmps8
  go_wp2
  refine bodyPost_ret (results_tmp2 rfl _ _ _) rfl ?_
  have e1 : ((w.alloc (.map #[] 0)).alloc (.cells (stC most 0 w.heap.size (.slice none 0 0)) ST)).heap[w.heap.size + 1]? = some (.cells (stC most 0 w.heap.size (.slice none 0 0)) ST (0, 0)) := by simpa using heap_alloc_new (w.alloc (.map #[] 0)) (.cells (stC most 0 w.heap.size (.slice none 0 0)) ST)
  refine ⟨⟨[w.heap.size + 1, w.heap.size], w.heap.size + 1, rfl, ⟨w.heap.size, .map [], .slice none 0 0, [], rfl, by have := HB.out; omega, HB.out, by have := HB.out; simp; omega, e1, ?_, World.ownsRow_nil _ _ _ _, ring_nil⟩, fun g hg => ?_⟩, ((G.out.alloc _).alloc _).below⟩
  · exact (MapIs.made base w).fx (((Gr.refl _).alloc _).heap (by simp)) (Fx.ofBelow ((Gr.refl _).alloc _).below)
  · simp at hg
    omega

/-- What Create is refused with; 0: it isn't. -/
def creE (d : Ob) (l : List Ob) (most : Int) : Int := if chkE d ≠ 0 then chkE d else if l.any (hit d.kind d.name) then 8 else if most ≤ (l.length : Int) then 10 else 0
theorem ok_chk {d : Ob} (h : chkE d = 0) (F : FitsO d) : OkK d := by
  have h1 : withinB d.kind 0 4 = true := by
    cases hw : withinB d.kind 0 4 with
    | true => rfl
    | false => rw [chkE, if_pos hw] at h; cases h
  have hf := F.name
  unfold withinB at h1
  unfold ftT at hf
  simp at h1 hf
  exact ⟨by unfold I64; omega, by unfold maxLen; omega⟩

set_option maxHeartbeats 4000000 in
theorem create_bad (base : Nat) (w : World) (sp : Nat) (cs : Array Value) (o : Ob) (hc : Kept base w cs o) (hb : base ≤ w.heap.size) (he : chkE (dfl o) ≠ 0) :
    Calls Try.prog 15 #[.pointer (some ⟨sp, 0, none⟩), .agg cs] w fun e w' => e = .returned (.tuple #[.int .u64 0, .int .i64 (chkE (dfl o))]) ∧ Below w.heap.size w w' := by
  have mixed : Try.prog.follows .mixedOrders = true := by kernel_rfl
  obtain ⟨B, hB⟩ : ∃ B, B = w.heap.size := ⟨_, rfl⟩
  obtain ⟨wb, hwb⟩ : ∃ wb, wb = w.alloc (.cells cs OT) := ⟨_, rfl⟩
  have G0 : Gr w wb := hwb ▸ (Gr.refl w).alloc _
  have b0 : wb.heap[B]? = some (.cells cs OT (0, 0)) := by rw [hwb, hB]; exact heap_alloc_new w _
  have hbs : wb.heap.size = B + 1 := by rw [hwb, hB]; simp
  have LO := Lib.hid (load_ob b0 hc.obj.1)
  have K0 := hc.fx (Fx.ofBelow (base := base) G0.below)
  have CR := Lib.hid (ready_any base wb sp cs o K0 (by omega))
  have HH := Lib.hid (And.intro hc (And.intro hb (And.intro hwb (And.intro hB (And.intro G0 (And.intro b0 hbs))))))
  have te : (chkE (dfl o) != 0) = true := by simpa using he
  generalize chkE (dfl o) = ce at *
  clear hc hb G0 b0 hbs K0 he
  go_enter Try.func15, Try.ntmps15
  go_upto_region 1 with fail
  rw [← hwb, ← hB]
  clear hwb hB
  go_wp2_with (refine wpList_load_by (by kernel_rfl) OT _ rfl (.pointer (some ⟨B, 0, none⟩)) (.agg cs) (by kernel_rfl) LO.out ?_)
  refine CR.out.mono ?_
  rintro e m ⟨⟨D, rfl, KD⟩, hbl⟩
  obtain ⟨hc, hb, hwb, hB, G0, b0, hbs⟩ := HH.out
  have m0 : m.heap[B]? = some (.cells cs OT (0, 0)) := (hbl.block B (by omega)).trans b0
  obtain ⟨th, n0, fx1, c1⟩ := store_ob (base := base) m0 hc.obj.1 KD.obj.1 (by omega)
  obtain ⟨n, hn⟩ : ∃ n, n = m.setCells B 0 D.toList := ⟨_, rfl⟩
  rw [← hn] at n0 fx1 c1
  have IN : Hid ((Try.prog.info? OT).map (·.size) = some D.size) := by show _ = _; rw [KD.obj.1]; exact info_ob47
  have TH := Lib.hid th
  have ON := Lib.hid (objV_one KD.obj)
  have HN := Lib.hid hn
  have FIN : Hid (Below w.heap.size w n) := ((Xb.ofGr G0 B).trans ((Xb.ofBelow hbl B).trans ⟨c1.os, c1.tape, c1.output, c1.size, fun k hk hne => c1.block k hk (by simpa using hne)⟩)).below (by omega) (Nat.le_refl _)
  clear hc hb hwb hB G0 b0 hbs m0 th n0 fx1 c1 hn KD hbl LO CR HH
  go_wp2_with (refine wpList_store_mid rfl _ _ _ rfl B 0 D (by rfl) (by rfl) TH.out IN.out ON.out ?_; rw [← HN.out])
  refine bodyPost_ret (results_tmp2 rfl _ _ _) rfl ?_
  exact ⟨rfl, FIN.out⟩
end Go.Proofs.Ytacgbagcddjlnaa
