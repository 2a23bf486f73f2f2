/- The law's example. -/
import Derived.Test.YtacgbagcddjlnaaStG
import Derived.Test.YtacgbagcddjlnaaStH
namespace Go.Proofs.Ytacgbagcddjlnaa
open Go.RowKit Go.Shelf Go.Lib Go.Sort
open Go.Joins (cell_of_block unfrozen_of_block block_setCell)
set_option linter.unusedVariables false
set_option linter.unusedSimpArgs false
set_option maxRecDepth 20000

def nnO (nm : ByteArray) (ver : Nat) : Ob := ⟨2, nm, ver, zerO.w, zerO.p, ⟨⟨#[]⟩, 1, 0, [], [], 0, false⟩, zerO.g, zerO.h⟩
abbrev nnC (nm : ByteArray) (ver : Nat) : Array Value := #[.int .i64 2, .string nm, .int .u64 (ver : Int), .int .i64 0, .int .i64 0, .int .i64 0, .slice none 0 0, .slice none 0 0, .slice none 0 0, .int .i64 0, .string { data := #[] }, .string { data := #[] }, .int .i64 0, .int .i64 0, .int .i64 0, .int .i64 0, .slice none 0 0, .slice none 0 0, .slice none 0 0, .int .i64 0, .string { data := #[] }, .int .i64 1, .int .i64 0, .slice none 0 0, .slice none 0 0, .int .i64 0, .bool false, .int .i64 0, .int .i64 0, .int .i64 0, .int .i64 0, .int .i64 0, .slice none 0 0, .slice none 0 0, .int .i64 0, .string { data := #[] }, .int .i64 0, .int .i64 0, .slice none 0 0, .int .i64 0, .int .i64 0, .int .i64 0, .slice none 0 0, .int .i64 0, .int .i64 0, .slice none 0 0, .slice none 0 0]
theorem nn_obj (w : World) (nm : ByteArray) (ver : Nat) (hv : ver < 18446744073709551616) : ObjV w (nnC nm ver) (nnO nm ver) :=
  ⟨rfl, ⟨rfl, rfl, rfl, hv⟩, ⟨rfl, rfl, rfl, ⟨none, 0, rfl, RowR.nil _ _ _ _⟩, ⟨none, 0, rfl, RowR.nil _ _ _ _⟩, ⟨none, 0, rfl, RowR.nil _ _ _ _⟩, rfl⟩, ⟨rfl, rfl, rfl, rfl, rfl, rfl, ⟨none, 0, rfl, RowR.nil _ _ _ _⟩, ⟨none, 0, rfl, RowR.nil _ _ _ _⟩, ⟨none, 0, rfl, RowR.nil _ _ _ _⟩, rfl⟩, ⟨rfl, rfl, rfl, ⟨none, 0, rfl, RowR.nil _ _ _ _⟩, ⟨none, 0, rfl, RowR.nil _ _ _ _⟩, rfl, rfl⟩, ⟨rfl, rfl, rfl, rfl, rfl, ⟨none, 0, rfl, RowR.nil _ _ _ _⟩, ⟨none, 0, rfl, RowR.nil _ _ _ _⟩, rfl⟩, ⟨rfl, rfl, rfl, ⟨none, 0, rfl, RowR.nil _ _ _ _⟩, rfl, rfl, rfl, ⟨none, 0, rfl, RowR.nil _ _ _ _⟩, rfl, rfl, ⟨none, 0, rfl, RowR.nil _ _ _ _⟩, ⟨none, 0, rfl, RowR.nil _ _ _ _⟩⟩⟩
theorem nn_fits (nm : ByteArray) (ver : Nat) (h : ftT nm = true) : FitsO (nnO nm ver) := by constructor <;> first | exact h | rfl | exact Nat.zero_le _
theorem nn_nil (nm : ByteArray) (ver : Nat) : NilO (nnC nm ver) := by
  intro i n c hi hc
  simp only [rowsIx, List.mem_cons, List.not_mem_nil, or_false] at hi
  rcases hi with rfl | rfl | rfl | rfl | rfl | rfl | rfl | rfl | rfl | rfl | rfl | rfl | rfl | rfl <;> (simp at hc; exact hc.2.symm)
theorem nn_kept (base : Nat) (w : World) (nm : ByteArray) (ver : Nat) (hv : ver < 18446744073709551616) (h : ftT nm = true) : Kept base w (nnC nm ver) (nnO nm ver) :=
  ⟨fun w' _ => nn_obj w' nm ver hv, nn_nil nm ver, by unfold TinyO; simp [nnO, zerO], nn_fits nm ver h⟩
theorem nn_dfl (nm : ByteArray) (ver : Nat) : dfl (nnO nm ver) = nnO nm ver := (if_neg (show ¬ (2 : Int) = 3 by decide)).trans (if_neg (show ¬ (2 : Int) = 4 by decide))
theorem nn_size (nm : ByteArray) (ver : Nat) : (nnC nm ver).size = 47 := rfl

set_option maxHeartbeats 4000000 in
theorem nn_any (w : World) (nm : ByteArray) :
    Calls Try.prog 14 #[.string nm] w fun e w' => e = .returned (.agg (nnC nm 0)) ∧ Below w.heap.size w w' := by
  have mixed : Try.prog.follows .mixedOrders = true := by kernel_rfl
  obtain ⟨B, hB⟩ : ∃ B, B = w.heap.size := ⟨_, rfl⟩
  obtain ⟨wb, hwb⟩ : ∃ wb, wb = w.alloc (.cells zerC OT) := ⟨_, rfl⟩
  have G0 : Gr w wb := hwb ▸ (Gr.refl w).alloc _
  have b1 : wb.heap[B]? = some (.cells zerC OT (0, 0)) := by rw [hwb, hB]; exact heap_alloc_new w _
  obtain ⟨Z, hZ⟩ : ∃ Z, Z = nnC nm 0 := ⟨_, rfl⟩
  have hzs : Z.size = 47 := by rw [hZ]; rfl
  obtain ⟨th, n0, fx1, c1⟩ := store_ob (base := B) b1 rfl hzs (Nat.le_refl _)
  have IN : Hid ((Try.prog.info? OT).map (·.size) = some Z.size) := by show _ = _; rw [hzs]; exact info_ob47
  have TH := Lib.hid th
  have ON : Hid (Z.all (·.oneCell') = true) := by show _ = _; rw [hZ]; exact objV_one (nn_obj w nm 0 (by decide))
  have HZ := Lib.hid hZ
  obtain ⟨n, hn⟩ : ∃ n, n = wb.setCells B 0 Z.toList := ⟨_, rfl⟩
  rw [← hn] at n0 fx1 c1
  have HN := Lib.hid hn
  have FIN : Hid (n.heap[B]? = some (.cells Z OT (0, 0)) ∧ Below w.heap.size w n) := ⟨n0, ((Xb.ofGr G0 B).trans ⟨c1.os, c1.tape, c1.output, c1.size, fun k hk hne => c1.block k hk (by simpa using hne)⟩).below (by omega) (Nat.le_refl _)⟩
  clear hZ hzs th n0 fx1 c1 hn b1 G0
  go_enter Try.func14, Try.ntmps14
  go_upto_region 1 with fail
  rw [← hwb, ← hB]
  clear hwb hB
  go_wp2_with (refine wpList_store_mid rfl _ _ _ rfl B 0 Z (by rfl) (by rw [HZ.out]; rfl) TH.out IN.out ON.out ?_; rw [← HN.out])
  refine bodyPost_ret (results_cell_row rfl _ _ B OT Z (0, 0) _ (by rfl) FIN.out.1 Try.underlying56 rfl IN.out) rfl ?_
  exact ⟨by rw [HZ.out], FIN.out.2⟩

theorem After.keep {base : Nat} {w w' : World} {S : List Nat} {sp : Nat} {most m0 : Int} {l l0 : List Ob} {hist h0 : List Ev} (h : After base w w' S sp most l hist) (hs : StIs base w S sp m0 l0 h0) :
    ∃ S', StIs base w' S' sp most l hist ∧ (∀ B, B < w.heap.size → B ∉ S → B ∉ S' ∧ w'.heap[B]? = w.heap[B]?) ∧ Below base w w' := by
  obtain ⟨S', h1, h2, h3⟩ := h
  refine ⟨S', h1, fun B hB hn => ⟨fun hm => ?_, h2.block B hB hn⟩, h2.below (fun g hg => (hs.prot g hg).1) ?_⟩
  · rcases h3 B hm with h | h
    · exact hn h
    · omega
  · obtain ⟨_, _, _, _, q⟩ := hs
    exact q.bw
/-- The store stays while a block that isn't its own is written. -/
theorem StIs.set {base : Nat} {w : World} {S : List Nat} {sp : Nat} {most : Int} {l : List Ob} {hist : List Ev} (h : StIs base w S sp most l hist) {B : Nat} {cs : Array Value} {T : TypeId} {fz : Nat × Nat} (hB : w.heap[B]? = some (.cells cs T fz)) (hT : rowTy T = false) (hb : base ≤ B) (hn : B ∉ S) (i : Nat) (v : Value) : StIs base (w.setCell ⟨B, i, none⟩ v) S sp most l hist := by
  refine h.chg (T := [B]) ((Chg.refl [B] w).setCell i v (.inl (by simp))) (fun g hg hm => ?_) (fun g hg _ => ?_)
  · simp at hm; subst hm; exact hn hg
  · simp at hg; subst hg; exact (cells_prot hB hb hT).2.2

theorem nn_chk {nm : ByteArray} (h : chkE (nnO nm 0) = 0) (v : Nat) : chkE (nnO nm v) = 0 := h
theorem hit_nn (nm : ByteArray) (a b : Nat) : hit (nnO nm a).kind (nnO nm a).name (nnO nm b) = true := hit_iff.2 ⟨rfl, rfl⟩
theorem put_nn (nm : ByteArray) (a b : Nat) : put [nnO nm a] (nnO nm b) = [nnO nm b] := by
  unfold put
  rw [if_pos (by simp [hit_nn])]
  have : List.findIdx (hit (nnO nm b).kind (nnO nm b).name) [nnO nm a] = 0 := by
    rw [List.findIdx_cons, hit_nn]
    rfl
  rw [this]
  rfl
theorem one_update (base : Nat) (w : World) (S : List Nat) (sp : Nat) (most : Int) (nm : ByteArray) (ver : Nat) (hist : List Ev) (hs : StIs base w S sp most [nnO nm hist.length] hist) (hf : ftT nm = true) (hc : chkE (nnO nm 0) = 0) (hn : hist.length < 1000000) (hv : ver = hist.length) :
    Calls Try.prog 16 #[.pointer (some ⟨sp, 0, none⟩), .agg (nnC nm ver)] w fun e w' => e = .returned (.tuple #[.int .u64 ((hist.length + 1 : Nat) : Int), .int .i64 0]) ∧
      After base w w' S sp most [nnO nm (hist.length + 1)] (hist ++ [⟨1, 2, nm, hist.length + 1⟩]) := by
  have hu : updE (dfl (nnO nm ver)) [nnO nm hist.length] = 0 := by
    rw [nn_dfl, updE, if_neg (by rw [nn_chk hc]; exact fun h => h rfl), List.find?_cons_of_pos (hit_nn _ _ _)]
    exact if_neg (fun h => h hv)
  refine (update_any base w S sp most _ hist (nnC nm ver) (nnO nm ver) hs (nn_kept base w nm ver (by omega) hf) hn (by rw [nn_dfl]; exact nn_chk hc ver)).mono ?_
  rintro e w' (⟨h1, _⟩ | ⟨_, h2, h3⟩)
  · exact absurd hu h1
  · refine ⟨h2, ?_⟩
    rw [nn_dfl] at h3
    have e1 : setV (nnO nm ver) (hist.length + 1) = nnO nm (hist.length + 1) := rfl
    rw [e1, put_nn] at h3
    exact h3
theorem one_stale (base : Nat) (w : World) (S : List Nat) (sp : Nat) (most : Int) (nm : ByteArray) (ver : Nat) (hist : List Ev) (hs : StIs base w S sp most [nnO nm hist.length] hist) (hf : ftT nm = true) (hc : chkE (nnO nm 0) = 0) (hn : hist.length < 1000000) (hv : ver ≠ hist.length) (h64 : ver < 1000000) :
    Calls Try.prog 16 #[.pointer (some ⟨sp, 0, none⟩), .agg (nnC nm ver)] w fun e w' => e = .returned (.tuple #[.int .u64 0, .int .i64 9]) ∧ Below w.heap.size w w' := by
  have hu : updE (dfl (nnO nm ver)) [nnO nm hist.length] = 9 := by
    rw [nn_dfl, updE, if_neg (by rw [nn_chk hc]; exact fun h => h rfl), List.find?_cons_of_pos (hit_nn _ _ _)]
    exact if_pos hv
  refine (update_any base w S sp most _ hist (nnC nm ver) (nnO nm ver) hs (nn_kept base w nm ver (by omega) hf) hn (by rw [nn_dfl]; exact nn_chk hc ver)).mono ?_
  rintro e w' (⟨h1, h2, h3⟩ | ⟨h1, _⟩)
  · rw [hu] at h2; exact ⟨h2, h3⟩
  · rw [hu] at h1; cases h1
theorem one_create (base : Nat) (w : World) (S : List Nat) (sp : Nat) (most : Int) (nm : ByteArray) (hs : StIs base w S sp most [] []) (hf : ftT nm = true) (hc : chkE (nnO nm 0) = 0) (hm : 1 ≤ most) :
    Calls Try.prog 15 #[.pointer (some ⟨sp, 0, none⟩), .agg (nnC nm 0)] w fun e w' => e = .returned (.tuple #[.int .u64 1, .int .i64 0]) ∧
      After base w w' S sp most [nnO nm 1] [⟨0, 2, nm, 1⟩] := by
  have hu : creE (dfl (nnO nm 0)) [] most = 0 := by
    rw [nn_dfl, creE, if_neg (by rw [hc]; exact fun h => h rfl), if_neg (by simp), if_neg (by simp; omega)]
  refine (create_any base w S sp most [] [] (nnC nm 0) (nnO nm 0) hs (nn_kept base w nm 0 (by decide) hf) (by decide) (by rw [nn_dfl]; exact hc)).mono ?_
  rintro e w' (⟨h1, _⟩ | ⟨_, h2, h3⟩)
  · exact absurd hu h1
  · refine ⟨h2, ?_⟩
    rw [nn_dfl] at h3
    exact h3
theorem nn1_chk : chkE (nnO ⟨#[110, 49]⟩ 0) = 0 := by decide +kernel
theorem nn2_chk : chkE (nnO ⟨#[110, 50]⟩ 0) = 0 := by decide +kernel

/-- An object of the law's own, and a store beside it. -/
structure Beside (base : Nat) (w : World) (B : Nat) (cs : Array Value) (S : List Nat) (sp : Nat) (most : Int) (l : List Ob) (hist : List Ev) : Prop where
  blk : w.heap[B]? = some (.cells cs OT (0, 0))
  st : StIs base w S sp most l hist
  nm : B ∉ S
  lo : base ≤ B
theorem Beside.gr {base : Nat} {w w' : World} {B : Nat} {cs : Array Value} {S : List Nat} {sp : Nat} {most : Int} {l : List Ob} {hist : List Ev} (h : Beside base w B cs S sp most l hist) (g : Below w.heap.size w w') : Beside base w' B cs S sp most l hist :=
  ⟨(g.block B (Array.getElem?_eq_some_iff.1 h.blk).1).trans h.blk, h.st.gr g, h.nm, h.lo⟩
theorem Beside.set {base : Nat} {w : World} {B : Nat} {cs : Array Value} {S : List Nat} {sp : Nat} {most : Int} {l : List Ob} {hist : List Ev} (h : Beside base w B cs S sp most l hist) (i : Nat) (v : Value) : Beside base (w.setCell ⟨B, i, none⟩ v) B (cs.setIfInBounds i v) S sp most l hist :=
  ⟨block_setCell h.blk v, h.st.set h.blk rfl h.lo h.nm i v, h.nm, h.lo⟩
theorem Beside.after {base : Nat} {w w' : World} {B : Nat} {cs : Array Value} {S : List Nat} {sp : Nat} {most m : Int} {l l' : List Ob} {hist hist' : List Ev} (h : Beside base w B cs S sp most l hist) (a : After base w w' S sp m l' hist') : ∃ S', Beside base w' B cs S' sp m l' hist' ∧ Below base w w' := by
  obtain ⟨S', h1, h2, h3⟩ := a.keep h.st
  obtain ⟨h4, h5⟩ := h2 B (Array.getElem?_eq_some_iff.1 h.blk).1 h.nm
  exact ⟨S', ⟨h5.trans h.blk, h1, h4, h.lo⟩, h3⟩
theorem Beside.load {base : Nat} {w : World} {B : Nat} {cs : Array Value} {S : List Nat} {sp : Nat} {most : Int} {l : List Ob} {hist : List Ev} (h : Beside base w B cs S sp most l hist) (hs : cs.size = 47) : (Instr.loadAt OT (.pointer (some ⟨B, 0, none⟩))).run Try.prog w = .ok (.agg cs) w := load_ob h.blk hs

set_option maxHeartbeats 8000000 in
theorem lives_any (w : World) : Calls Try.prog 6 #[] w fun e w' => e = .returned (.bool true) ∧ Below w.heap.size w w' := by
  have mixed : Try.prog.follows .mixedOrders = true := by kernel_rfl
  obtain ⟨base, hbase⟩ : ∃ b, b = w.heap.size := ⟨_, rfl⟩
  have CN := Lib.hid (new_any base w 9 (by decide) (by decide) (by omega))
  have HB := Lib.hid hbase
  clear hbase
  go_enter Try.func6, Try.ntmps6
  go_wp2_with fail
  refine CN.out.mono ?_
  rintro e w1 ⟨⟨S, sp, rfl, s1, p1⟩, b1⟩
  have H1 := Lib.hid (And.intro s1 (And.intro p1 b1))
  obtain ⟨Z, hZ⟩ : ∃ Z, Z = nnC ⟨#[110, 49]⟩ 0 := ⟨_, rfl⟩
  have CD := Lib.hid (nn_any w1 ⟨#[110, 49]⟩)
  rw [← hZ] at CD
  have HZ := Lib.hid hZ
  clear s1 p1 b1 CN hZ
  go_upto_region 2 with fail
  go_wp2_with fail
  refine CD.out.mono ?_
  rintro e w2 ⟨rfl, b2⟩
  obtain ⟨s1, p1, b1⟩ := H1.out
  have hsz : Z.size = 47 := by rw [HZ.out]; rfl
  have z0 : (w2.alloc (.cells zerC OT)).heap[w2.heap.size]? = some (.cells zerC OT (0, 0)) := heap_alloc_new w2 _
  obtain ⟨th, n0, fx1, c1⟩ := store_ob (base := w2.heap.size) z0 rfl hsz (Nat.le_refl _)
  obtain ⟨w3, hw3⟩ : ∃ W, W = (w2.alloc (.cells zerC OT)).setCells w2.heap.size 0 Z.toList := ⟨_, rfl⟩
  obtain ⟨B, hB⟩ : ∃ B, B = w2.heap.size := ⟨_, rfl⟩
  rw [← hw3] at n0 fx1 c1
  rw [← hB] at n0 fx1 c1
  have b3 : Below w1.heap.size w1 w3 := by
    have g : Gr w2 (w2.alloc (.cells zerC OT)) := (Gr.refl w2).alloc _
    exact ((Xb.ofBelow b2 B).trans ((Xb.ofGr g B).trans ⟨c1.os, c1.tape, c1.output, c1.size, fun k hk hne => c1.block k hk (by simpa using hne)⟩)).below (by rw [hB]; exact b2.size) (Nat.le_refl _)
  have M3 : Beside base w3 B Z S sp 9 [] [] := ⟨n0, s1.gr b3, fun hm => by have := (s1.prot B hm).2.1; have := b2.size; omega, by have := HB.out; have := b1.size; have := b2.size; omega⟩
  have TH := Lib.hid th
  have IN : Hid ((Try.prog.info? OT).map (·.size) = some Z.size) := by show _ = _; rw [hsz]; exact info_ob47
  have ON : Hid (Z.all (·.oneCell') = true) := by show _ = _; rw [HZ.out]; exact objV_one (nn_obj w _ 0 (by decide))
  have HW : Hid ((w2.alloc (.cells zerC OT)).setCells w2.heap.size 0 Z.toList = w3 ∧ w2.heap.size = B) := ⟨hw3.symm, hB.symm⟩
  have W3 : Hid (Below base w w3) := (b1.mono (by have := HB.out; omega)).trans (b3.mono (by have := HB.out; have := b1.size; omega))
  have L3 := Lib.hid (M3.load hsz)
  have C3 := Lib.hid (one_create base w3 S sp 9 ⟨#[110, 49]⟩ M3.st rfl nn1_chk (by decide))
  rw [← HZ.out] at C3
  have H3 := Lib.hid M3
  clear s1 p1 b1 hB z0 th n0 fx1 c1 hw3 b3 M3 b2 H1 CD hsz
  go_upto_region 3 with (refine wpList_store_mid rfl _ _ _ rfl w2.heap.size 0 Z (by rfl) (by rfl) TH.out IN.out ON.out ?_; rw [HW.out.1, HW.out.2])
  go_wp2_with (refine wpList_load_by (by kernel_rfl) OT _ rfl (.pointer (some ⟨B, 0, none⟩)) (.agg Z) (by kernel_rfl) L3.out ?_)
  refine C3.out.mono ?_
  rintro e w4 ⟨rfl, a4⟩
  obtain ⟨S4, M4, b4⟩ := H3.out.after a4
  obtain ⟨w5, hw5⟩ : ∃ W, W = w4.setCell ⟨B, 2, none⟩ (.int .u64 1) := ⟨_, rfl⟩
  obtain ⟨Z1, hZ1⟩ : ∃ Z1, Z1 = nnC ⟨#[110, 49]⟩ 1 := ⟨_, rfl⟩
  have M5 : Beside base w5 B Z1 S4 sp 9 [nnO ⟨#[110, 49]⟩ 1] [⟨0, 2, ⟨#[110, 49]⟩, 1⟩] := by
    have := M4.set 2 (.int .u64 1)
    rw [HZ.out] at this
    rw [hw5, hZ1]
    exact this
  have q4 : w4.cell? ⟨B, 2, none⟩ = some (.int .u64 0) := by rw [cell_of_block M4.blk 2, HZ.out]; rfl
  have f4 : w4.frozen? ⟨B, 2, none⟩ = false := unfrozen_of_block M4.blk 2
  have hz1 : Z1.size = 47 := by rw [hZ1]; rfl
  have L5 := Lib.hid (M5.load hz1)
  have C5 := Lib.hid (one_update base w5 S4 sp 9 ⟨#[110, 49]⟩ 1 [⟨0, 2, ⟨#[110, 49]⟩, 1⟩] M5.st rfl nn1_chk (by decide) rfl)
  rw [← hZ1] at C5
  have HW5 := Lib.hid hw5
  have H5 := Lib.hid (And.intro M5 b4)
  have HZ1 := Lib.hid (And.intro hZ1 hz1)
  have W5 : Hid (Below base w4 w5) := by
    have hlt := H3.out.lo
    rw [hw5]
    exact (Below.refl base w4).setCell (by exact hlt) _
  clear a4 M4 b4 hw5 M5 hZ1 hz1 L3 C3 TH IN ON HW
  go_upto_region 5 with fail
  rw [← HW5.out]
  go_wp2_with (refine wpList_load_by (by kernel_rfl) OT _ rfl (.pointer (some ⟨B, 0, none⟩)) (.agg Z1) (by kernel_rfl) L5.out ?_)
  refine C5.out.mono ?_
  rintro e w6 ⟨rfl, a6⟩
  obtain ⟨S6, M6', b6⟩ := H5.out.1.after a6
  have M6 : Beside base w6 B Z1 S6 sp 9 [nnO ⟨#[110, 49]⟩ 2] [⟨0, 2, ⟨#[110, 49]⟩, 1⟩, ⟨1, 2, ⟨#[110, 49]⟩, 2⟩] := M6'
  clear M6'
  have L6 := Lib.hid (M6.load HZ1.out.2)
  have C6 := Lib.hid (one_stale base w6 S6 sp 9 ⟨#[110, 49]⟩ 1 [⟨0, 2, ⟨#[110, 49]⟩, 1⟩, ⟨1, 2, ⟨#[110, 49]⟩, 2⟩] M6.st rfl nn1_chk (by decide) (by decide) (by decide))
  rw [← HZ1.out.1] at C6
  have H6 := Lib.hid (And.intro M6 b6)
  clear a6 M6 b6 C5 L5 q4 f4
  go_upto_region 6 with fail
  go_wp2_with (refine wpList_load_by (by kernel_rfl) OT _ rfl (.pointer (some ⟨B, 0, none⟩)) (.agg Z1) (by kernel_rfl) L6.out ?_)
  refine C6.out.mono ?_
  rintro e w7 ⟨rfl, b7⟩
  have FIN : Hid (Below w.heap.size w w7) := by
    have h := ((W3.out.trans H5.out.2).trans W5.out).trans (H6.out.2.trans (b7.mono (by obtain ⟨_, _, _, _, q⟩ := H6.out.1.st; exact q.bw)))
    rw [HB.out] at h
    exact h
  clear b7 C6 L6
  go_wp2
  go_ret
  exact ⟨rfl, FIN.out⟩
end Go.Proofs.Ytacgbagcddjlnaa
