/- Acts that came in: opened; few. -/
import Derived.Test.YtacgbagcddjlnaaStI
import Derived.Test.YtacgbagcddjlnaaObNil
import Derived.Test.YtacgbagcddjlnaaVaW
import Derived.Test.YtacgbagcddjlnaaStA
namespace Go.Proofs.Ytacgbagcddjlnaa
open Go.ChangeShapes Go.WideShapes Go.ChangeAt Go.RowKit Go.Deep Go.Lib Go.Shelf
open Go.Joins (cell_of_block unfrozen_of_block block_setCell)
set_option linter.unusedVariables false
set_option linter.unusedSimpArgs false
set_option maxRecDepth 20000

abbrev Acv := Int × Cs × Bool × Ob
instance : Inhabited Cs := ⟨⟨zerC, by kernel_rfl, zer_all⟩⟩
instance : Inhabited Ob := ⟨nnO ⟨#[]⟩ 0⟩
def cellsA (a : Acv) : Array Value := acC a.1 a.2.1.1 a.2.2.1
def encA (a : Acv) : List Value := (cellsA a).toList
theorem sizeA (a : Acv) : (cellsA a).size = 49 := by
  unfold cellsA acC
  simp [a.2.1.2.1]
def okA (W : World) (a : Acv) : Prop := ObjV W a.2.1.1 a.2.2.2 ∧ NilO a.2.1.1 ∧ FitsO a.2.2.2

theorem open_ob2 {H : Type} {enc : TypeId × Value → H} {W : World} {cs : Array Value} {d : DataW H} {p : List MemPlace} {fuel : Nat} (hs : cs.size = 47)
    (hf : DataW.trod enc Try.prog W 0 (fun _ => true) true fuel 56 cs.toList = some (d, p)) (wt : Wt 56 d) : ∃ o, ObjV W cs o ∧ FitsO o := by
  obtain ⟨nk, yk, tk, zk⟩ := fld (F := 3) (off := 0) (k := 1) 0 Try.underlying56 (by kernel_rfl) hf wt
  obtain ⟨k, a0, w0⟩ := leaf_i Try.underlying3 tk
  obtain ⟨ns, ys, ts, zs⟩ := fld (F := 9) (off := 1) (k := 1) 1 Try.underlying56 (by kernel_rfl) hf wt
  obtain ⟨s, a1, w1⟩ := leaf_s Try.underlying9 ts zs
  obtain ⟨nu, yu, tu, zu⟩ := fld (F := 31) (off := 2) (k := 1) 2 Try.underlying56 (by kernel_rfl) hf wt
  obtain ⟨u, a2, w2⟩ := leaf_u Try.underlying31 tu
  obtain ⟨nx0, yx0, tx0, zx0⟩ := fld (F := 41) (off := 3) (k := 7) 3 Try.underlying56 (by kernel_rfl) hf wt
  obtain ⟨x0, ⟨r0_0, r0_1, r0_2⟩, ⟨m0_0, m0_1, m0_2⟩, f0_0, f0_1, f0_2, f0_3, f0_4, f0_5, f0_6⟩ := open_wl tx0 zx0
  obtain ⟨nx1, yx1, tx1, zx1⟩ := fld (F := 43) (off := 10) (k := 10) 4 Try.underlying56 (by kernel_rfl) hf wt
  obtain ⟨x1, ⟨r1_0, r1_1, r1_2, r1_3, r1_4⟩, ⟨m1_0, m1_1, m1_2⟩, f1_0, f1_1, f1_2, f1_3, f1_4, f1_5, f1_6, f1_7, f1_8, f1_9⟩ := open_pd tx1 zx1
  obtain ⟨nx2, yx2, tx2, zx2⟩ := fld (F := 45) (off := 20) (k := 7) 5 Try.underlying56 (by kernel_rfl) hf wt
  obtain ⟨x2, ⟨r2_0, r2_1, r2_2⟩, ⟨m2_0, m2_1⟩, f2_0, f2_1, f2_2, f2_3, f2_4, f2_5, f2_6⟩ := open_nd tx2 zx2
  obtain ⟨nx3, yx3, tx3, zx3⟩ := fld (F := 47) (off := 27) (k := 8) 6 Try.underlying56 (by kernel_rfl) hf wt
  obtain ⟨x3, ⟨r3_0, r3_1⟩, ⟨m3_0, m3_1⟩, f3_0, f3_1, f3_2, f3_3, f3_4, f3_5, f3_6, f3_7⟩ := open_gp tx3 zx3
  obtain ⟨nx4, yx4, tx4, zx4⟩ := fld (F := 54) (off := 35) (k := 12) 7 Try.underlying56 (by kernel_rfl) hf wt
  obtain ⟨x4, ⟨r4_0, r4_1⟩, ⟨m4_0, m4_1, m4_2, m4_3⟩, f4_0, f4_1, f4_2, f4_3, f4_4, f4_5, f4_6, f4_7, f4_8, f4_9, f4_10, f4_11⟩ := open_hp tx4 zx4
  have e0 : cs[0]? = some (.int .i64 k) := by rw [← Array.getElem?_toList]; exact a0
  have e1 : cs[1]? = some (.string s) := by rw [← Array.getElem?_toList]; exact a1
  have e2 : cs[2]? = some (.int .u64 (u : Int)) := by rw [← Array.getElem?_toList]; exact a2
  exact ⟨⟨k, s, u, x0, x1, x2, x3, x4⟩, ⟨hs, ⟨e0, e1, e2, w2⟩, ⟨el_at f0_0, el_at f0_1, el_at f0_2, slr_at f0_3, slr_at f0_4, slr_at f0_5, el_at f0_6⟩, ⟨el_at f1_0, el_at f1_1, el_at f1_2, el_at f1_3, el_at f1_4, el_at f1_5, slr_at f1_6, slr_at f1_7, slr_at f1_8, el_at f1_9⟩, ⟨el_at f2_0, el_at f2_1, el_at f2_2, slr_at f2_3, slr_at f2_4, el_at f2_5, el_at f2_6⟩, ⟨el_at f3_0, el_at f3_1, el_at f3_2, el_at f3_3, el_at f3_4, slr_at f3_5, slr_at f3_6, el_at f3_7⟩, ⟨el_at f4_0, el_at f4_1, el_at f4_2, slr_at f4_3, el_at f4_4, el_at f4_5, el_at f4_6, slr_at f4_7, el_at f4_8, el_at f4_9, slr_at f4_10, slr_at f4_11⟩⟩, { name := w1, w_lab := List.all_eq_true.2 r0_0, w_sel := List.all_eq_true.2 r0_1, w_tol := List.all_eq_true.2 r0_2, w_lab_r := m0_0, w_sel_r := m0_1, w_tol_r := m0_2, p_own := r1_0, p_node := r1_1, p_lab := List.all_eq_true.2 r1_2, p_sel := List.all_eq_true.2 r1_3, p_tol := List.all_eq_true.2 r1_4, p_lab_r := m1_0, p_sel_r := m1_1, p_tol_r := m1_2, n_grp := r2_0, n_lab := List.all_eq_true.2 r2_1, n_tnt := List.all_eq_true.2 r2_2, n_lab_r := m2_0, n_tnt_r := m2_1, g_lab := List.all_eq_true.2 r3_0, g_tnt := List.all_eq_true.2 r3_1, g_lab_r := m3_0, g_tnt_r := m3_1, h_tg := r4_0, h_met := List.all_eq_true.2 r4_1, h_met_r := m4_0, h_upol_r := m4_1, h_dpol_r := m4_2, h_past_r := m4_3 }⟩
theorem sub_take {cs : List Value} {o m j : Nat} (h : j < m) : ((cs.drop o).take m)[j]? = cs[o + j]? := by
  rw [List.getElem?_take_of_lt h, List.getElem?_drop]
theorem open_act {H : Type} {enc : TypeId × Value → H} {W : World} {n : Nat} {cs : List Value} {y : DataW H × List MemPlace} (h : DataW.trod enc Try.prog W 0 (fun _ => true) true n 58 cs = some y) (wt : Wt 58 y.1) :
    ∃ x : Acv, (∀ (t : Nat) (v : Value), (encA x)[t]? = some v → cs[t]? = some v) ∧ okA W x := by
  obtain ⟨_, _, t0, z0⟩ := fld (F := 3) (off := 0) (k := 1) 0 Try.underlying58 (by kernel_rfl) h wt
  obtain ⟨kk, a0, _⟩ := leaf_i Try.underlying3 t0
  obtain ⟨_, _, t2, z2⟩ := fld (F := 4) (off := 48) (k := 1) 2 Try.underlying58 (by kernel_rfl) h wt
  obtain ⟨r, a2, _⟩ := leaf_b Try.underlying4 t2
  obtain ⟨n1, ⟨d1, p1⟩, t1, z1⟩ := fld (F := 56) (off := 1) (k := 47) 1 Try.underlying58 (by kernel_rfl) h wt
  have hl : 48 < cs.length := (List.getElem?_eq_some_iff.1 a2).1
  have hs : ((cs.drop 1).take 47).toArray.size = 47 := by simp; omega
  obtain ⟨o, hv, F⟩ := open_ob2 hs t1 z1
  have hn : NilO ((cs.drop 1).take 47).toArray := open_nil (H := H) (enc := enc) (W := W) (d := d1) (p := p1) ⟨n1, t1⟩ z1
  refine ⟨⟨kk, ⟨((cs.drop 1).take 47).toArray, hs, objV_one hv⟩, r, o⟩, fun t v hv => ?_, hv, hn, F⟩
  have ht : t < 49 := by
    have := (List.getElem?_eq_some_iff.1 hv).1
    rw [encA, Array.length_toList, sizeA] at this
    exact this
  rw [encA, Array.getElem?_toList] at hv
  unfold cellsA at hv
  rcases Nat.eq_zero_or_pos t with rfl | h0
  · rw [acC_0] at hv
    exact a0.trans hv
  · by_cases h48 : t = 48
    · subst h48
      rw [acC_r _ _ _ hs] at hv
      exact a2.trans hv
    · obtain ⟨j, rfl⟩ : ∃ j, t = 1 + j := ⟨t - 1, by omega⟩
      rw [acC_at _ _ _ _ (by show j < Array.size _; rw [hs]; omega)] at hv
      rw [← hv]
      show _ = ((cs.drop 1).take 47).toArray[j]?
      rw [List.getElem?_toArray, sub_take (by omega)]
theorem open_acts {H : Type} {enc : TypeId × Value → H} {W : World} {base : Nat} {v : Value} {d : DataW H} {p : List MemPlace} (ok : Value.okWide Try.prog W .any base 22 v)
    (h : DataW.Trod enc Try.prog W 0 (fun _ => true) true 22 v d p) (wt : Wt 22 d) : ∃ q c l, v = .slice q l.length c ∧ RowR 49 encA W q l ∧ (∀ x ∈ l, okA W x) ∧ l.length ≤ 140737488351232 := by
  obtain ⟨a0, len, cap, rfl⟩ := okWide_slice Try.underlying22 ok
  obtain ⟨fuel, hf⟩ := h
  have hf : DataW.trod enc Try.prog W 0 (fun _ => true) true fuel 22 (([Value.slice a0 len cap].drop 0).take 1) = some (d, p) := hf
  obtain ⟨l, ⟨q, c, h1, h2⟩, h3, h4⟩ := open_rowG (k := 49) encA (okA W) Try.underlying22 (by kernel_rfl) (by decide) (of_decide_eq_true (by kernel_rfl)) (fun n cs y h wt => open_act h wt) hf wt
  simp at h1
  obtain ⟨rfl, rfl, rfl⟩ := h1
  exact ⟨a0, cap, l, rfl, h2, h3, h4⟩

theorem info_act : (Try.prog.info? AcT).map (·.size) = some 49 := by kernel_rfl
theorem load_act {w : World} {g o : Nat} {c : Acv} (h : w.rangeAt g o (encA c)) : (Instr.loadAt AcT (.pointer (some ⟨g, o, none⟩))).run Try.prog w = .ok (.agg (cellsA c)) w :=
  run_loadAt_mid (P := Try.prog) w g o AcT (encA c) _ h Try.underlying58 rfl (by rw [encA, Array.length_toList, sizeA]; exact info_act)
theorem store_act {w : World} {g : Nat} {Z D : Array Value} (hg : w.heap[g]? = some (.cells Z AcT (0, 0))) (hz : Z.size = 49) (hd : D.size = 49) :
    w.there g 0 D.size ∧ (w.setCells g 0 D.toList).heap[g]? = some (.cells D AcT (0, 0)) ∧ Chg [g] w (w.setCells g 0 D.toList) := by
  have c : Chg [g] w (w.setCells g 0 D.toList) := by
    obtain ⟨r1, r2, r3⟩ := setCells_rest D.toList w g 0
    exact ⟨r1, r2, r3, by rw [setCells_size]; exact Nat.le_refl _, fun k _ hk => setCells_out _ _ _ _ _ (by simpa using hk)⟩
  refine ⟨?_, ?_, c⟩
  · intro j hj
    rw [Nat.zero_add, cell_of_block hg, unfrozen_of_block hg]
    refine ⟨?_, rfl⟩
    rw [Array.getElem?_eq_getElem (by omega)]
    rfl
  · rw [setCells_block _ _ _ _ _ _ _ hg, setAt_full (by omega)]
abbrev zerA : Array Value := #[.int .i64 0, .int .i64 0, .string { data := #[] }, .int .u64 0, .int .i64 0, .int .i64 0, .int .i64 0, .slice none 0 0, .slice none 0 0, .slice none 0 0, .int .i64 0, .string { data := #[] }, .string { data := #[] }, .int .i64 0, .int .i64 0, .int .i64 0, .int .i64 0, .slice none 0 0, .slice none 0 0, .slice none 0 0, .int .i64 0, .string { data := #[] }, .int .i64 0, .int .i64 0, .slice none 0 0, .slice none 0 0, .int .i64 0, .bool false, .int .i64 0, .int .i64 0, .int .i64 0, .int .i64 0, .int .i64 0, .slice none 0 0, .slice none 0 0, .int .i64 0, .string { data := #[] }, .int .i64 0, .int .i64 0, .slice none 0 0, .int .i64 0, .int .i64 0, .int .i64 0, .slice none 0 0, .int .i64 0, .int .i64 0, .slice none 0 0, .slice none 0 0, .bool false]
theorem act_new (wr : World) (X : Array Value) (hX : X.size = 49) : (wr.alloc (.cells zerA AcT)).there wr.heap.size 0 X.size ∧ ((wr.alloc (.cells zerA AcT)).setCells wr.heap.size 0 X.toList).heap[wr.heap.size]? = some (.cells X AcT (0, 0)) ∧ Below wr.heap.size wr ((wr.alloc (.cells zerA AcT)).setCells wr.heap.size 0 X.toList) := by
  have z0 : (wr.alloc (.cells zerA AcT)).heap[wr.heap.size]? = some (.cells zerA AcT (0, 0)) := heap_alloc_new wr _
  obtain ⟨th, n0, c1⟩ := store_act z0 rfl hX
  refine ⟨th, n0, ?_⟩
  have g : Gr wr (wr.alloc (.cells zerA AcT)) := (Gr.refl wr).alloc _
  exact ((Xb.ofGr g wr.heap.size).trans ⟨c1.os, c1.tape, c1.output, c1.size, fun k hk hne => c1.block k hk (by simpa using hne)⟩).below (Nat.le_refl _) (Nat.le_refl _)
theorem oneA (a : Acv) : (cellsA a).all (·.oneCell') = true := by
  rw [← Array.all_toList]
  refine List.all_eq_true.2 (fun u hu => ?_)
  obtain ⟨t, ht⟩ := List.getElem?_of_mem hu
  rw [Array.getElem?_toList] at ht
  have hlt : t < 49 := by have := (Array.getElem?_eq_some_iff.1 ht).1; rw [sizeA] at this; exact this
  unfold cellsA at ht
  rcases Nat.eq_zero_or_pos t with rfl | h0
  · rw [acC_0] at ht; cases ht; rfl
  · by_cases h48 : t = 48
    · subst h48
      rw [acC_r _ _ _ a.2.1.2.1] at ht; cases ht; rfl
    · obtain ⟨j, rfl⟩ : ∃ j, t = 1 + j := ⟨t - 1, by omega⟩
      rw [acC_at _ _ _ _ (by rw [a.2.1.2.1]; omega)] at ht
      exact oneC a.2.1 u (by unfold encC; exact List.mem_of_getElem? (by rw [Array.getElem?_toList]; exact ht))

/-- Acts that a law takes. -/
def fewA (l : List Acv) : Bool := l.all (fun a => fewB a.2.2.2 && decide (a.2.2.2.name.size ≤ 100)) && decide (l.length ≤ 60)
theorem RowR.rangeAt {W : World} {b off : Nat} {l : List Acv} {j : Nat} {x : Acv} (h : RowR 49 encA W (some ⟨b, off, none⟩) l) (hx : l[j]? = some x) : b < W.heap.size ∧ W.rangeAt b (off + j * 49) (encA x) := by
  obtain ⟨b', off', e, h1, h2⟩ := h j x hx
  simp only [Option.some.injEq, Addr.mk.injEq] at e
  obtain ⟨rfl, rfl, _⟩ := e
  exact ⟨h1, fun t v hv => h2 t v hv⟩
theorem cellsA_obj {W : World} {x : Acv} (h : okA W x) : ObjV W x.2.1.1 x.2.2.2 := h.1

set_option maxHeartbeats 4000000 in
theorem few_acts (w : World) (q : Option Addr) (c : Nat) (l : List Acv) (hr : RowR 49 encA w q l) (hok : ∀ x ∈ l, okA w x) (hlen : l.length ≤ 140737488351232) :
    Calls Try.prog 7 #[.slice q l.length c] w fun e w' => e = .returned (.bool (fewA l)) ∧ Below w.heap.size w w' := by
  have mixed : Try.prog.follows .mixedOrders = true := by kernel_rfl
  obtain ⟨n, hn⟩ : ∃ n, n = l.length := ⟨_, rfl⟩
  rw [← hn] at hlen ⊢
  have HH := Lib.hid (And.intro hr (And.intro hok hn))
  clear hr hok hn
  go_enter Try.func7, Try.ntmps7
  go_wp2_with fail
  go_loopg [7] n (fun g vi wr => ∃ j : Nat, vi = .int .i64 (j : Int) ∧ j ≤ n ∧ n - j ≤ g ∧ Hid (∀ i x, i < j → l[i]? = some x → (fewB x.2.2.2 && decide (x.2.2.2.name.size ≤ 100)) = true) ∧ Hid (Below w.heap.size w wr))
  case atStart => exact ⟨0, rfl, Nat.zero_le _, by omega, fun i x hi => by omega, Below.refl _ _⟩
  case round =>
    obtain ⟨j, rfl, h1, h2, HP, HB⟩ := hrel
    by_cases hlt : j < n
    · obtain ⟨hr, hok, hn⟩ := HH.out
      obtain ⟨x, hx⟩ : ∃ x, l[j]? = some x := ⟨l[j]'(by omega), List.getElem?_eq_getElem (by omega)⟩
      obtain ⟨b, off, rfl, _, _⟩ := hr j x hx
      obtain ⟨hbl, hra⟩ := RowR.rangeAt hr hx
      have LD := Lib.hid (load_act (rangeAt_below hra HB.out hbl))
      obtain ⟨X, hX⟩ : ∃ X, X = cellsA x := ⟨_, rfl⟩
      rw [← hX] at LD
      have hXs : X.size = 49 := by rw [hX]; exact sizeA x
      obtain ⟨th, n0, b3⟩ := act_new wr X hXs
      obtain ⟨w3, hw3⟩ : ∃ W, W = (wr.alloc (.cells zerA AcT)).setCells wr.heap.size 0 X.toList := ⟨_, rfl⟩
      obtain ⟨A, hA⟩ : ∃ A, A = wr.heap.size := ⟨_, rfl⟩
      rw [← hw3] at n0 b3
      rw [← hA] at n0
      have B3 : Below w.heap.size w w3 := HB.out.trans (b3.mono HB.out.size)
      have TH := Lib.hid th
      have IN : Hid ((Try.prog.info? AcT).map (·.size) = some X.size) := by show _ = _; rw [hXs]; exact info_act
      have ON : Hid (X.all (·.oneCell') = true) := by show _ = _; rw [hX]; exact oneA x
      have HW3 : Hid ((wr.alloc (.cells zerA AcT)).setCells wr.heap.size 0 X.toList = w3 ∧ wr.heap.size = A) := ⟨hw3.symm, hA.symm⟩
      have ok := hok x (List.mem_of_getElem? hx)
      obtain ⟨kk, ⟨cs, hcs⟩, r, o⟩ := x
      have n1 : w3.heap[A]? = some (.cells (acC kk cs r) AcT (0, 0)) := by rw [n0, hX]; rfl
      have LB := Lib.hid (load_at47 (c := ⟨cs, hcs⟩) (acC_range n1))
      have CF := Lib.hid (few_any w3 cs o (ok.1.below B3) ok.2.2)
      have q2 : w3.cell? ⟨A, 2, none⟩ = some (.string o.name) := by
        rw [cell_of_block n1]
        exact (acC_at kk cs r 1 (by rw [hcs.1]; decide)).trans ok.1.2.1.2.1
      obtain ⟨nm, hnm⟩ : ∃ s, s = o.name := ⟨_, rfl⟩
      obtain ⟨fb, hfb⟩ : ∃ b, b = fewB o := ⟨_, rfl⟩
      rw [← hnm] at q2
      rw [← hfb] at CF
      have HX : Hid (l[j]? = some (kk, ⟨cs, hcs⟩, r, o) ∧ nm = o.name ∧ fb = fewB o ∧ Below w.heap.size w w3) := ⟨hx, hnm, hfb, B3⟩
      clear hr hok hn hx hbl hra hX hXs th n0 b3 hw3 hA B3 ok n1 hnm hfb
      go_upto_region 4 with (first | (refine wpList_load_by (by kernel_rfl) AcT _ rfl (.pointer (some ⟨b, off + j * 49, none⟩)) (.agg X) (by rfl) LD.out ?_) | (refine wpList_store_mid rfl _ _ _ rfl wr.heap.size 0 X (by rfl) (by rfl) TH.out IN.out ON.out ?_; rw [HW3.out.1, HW3.out.2]))
      go_wp2_with (refine wpList_load_by (by kernel_rfl) OT _ rfl (.pointer (some ⟨A, 1, none⟩)) (.agg cs) (by kernel_rfl) LB.out ?_)
      refine CF.out.mono ?_
      rintro e w4 ⟨rfl, g4⟩
      have q4 : w4.cell? ⟨A, 2, none⟩ = some (.string nm) := g4.cell q2
      have B4 : Hid (Below w.heap.size w w4) := HX.out.2.2.2.trans (g4.below.mono HX.out.2.2.2.size)
      have bad : (fb && decide (nm.size ≤ 100)) = false → fewA l = false := fun hb => by
        obtain ⟨hx, hnm, hfb, _⟩ := HX.out
        unfold fewA
        rw [Bool.and_eq_false_iff]
        refine .inl (Bool.eq_false_iff.2 (fun h => ?_))
        have := List.all_eq_true.1 h _ (List.mem_of_getElem? hx)
        rw [← hnm, ← hfb, hb] at this
        cases this
      have good : (fb && decide (nm.size ≤ 100)) = true → ∀ i x, i < j + 1 → l[i]? = some x → (fewB x.2.2.2 && decide (x.2.2.2.name.size ≤ 100)) = true := fun hb i x hi hx => by
        obtain ⟨hx', hnm, hfb, _⟩ := HX.out
        rcases Nat.lt_or_ge i j with h | h
        · exact HP.out i x h hx
        · obtain rfl : i = j := by omega
          rw [hx'] at hx
          cases hx
          rw [← hnm, ← hfb]
          exact hb
      cases fb with
      | false =>
        have FIN := Lib.hid (bad rfl)
        clear bad good g4 q2 q4 HP HX HH HB TH IN ON HW3 LD LB CF
        go_wp2
        go_ret
        exact ⟨by rw [FIN.out]; rfl, B4.out⟩
      | true =>
        by_cases hs : nm.size ≤ 100
        · have GD := Lib.hid (good (by simp [hs]))
          have t1 : decide (100 < nm.size) = false := decide_eq_false (by omega)
          have t2 : decide ((100 : Int) < (nm.size : Int)) = false := decide_eq_false (by omega)
          clear bad good g4 q2 HP HX HH HB TH IN ON HW3 LD LB CF hs
          go_wp2
          go_roundg (n - (j + 1))
          case measure => omega
          case rel => exact ⟨j + 1, by push_cast; rfl, by omega, by omega, GD.out, B4.out⟩
        · have FIN := Lib.hid (bad (by simp [hs]))
          have t1 : decide (100 < nm.size) = true := decide_eq_true (by omega)
          have t2 : decide ((100 : Int) < (nm.size : Int)) = true := decide_eq_true (by omega)
          clear bad good g4 q2 HP HX HH HB TH IN ON HW3 LD LB CF hs
          go_wp2
          go_ret
          exact ⟨by rw [FIN.out]; rfl, B4.out⟩
    · have FIN : Hid (fewA l = decide (n ≤ 60)) := by
        show _ = _
        unfold fewA
        rw [List.all_eq_true.2 (fun x hx => by
          obtain ⟨i, hi⟩ := List.getElem?_of_mem hx
          exact HP.out i x (by have := (List.getElem?_eq_some_iff.1 hi).1; have := HH.out.2.2; omega) hi), Bool.true_and, HH.out.2.2]
      clear HP HH
      by_cases hs : n ≤ 60
      · have t1 : decide (n ≤ 60) = true := decide_eq_true hs
        have t2 : decide ((n : Int) ≤ 60) = true := decide_eq_true (by omega)
        have F2 : Hid (fewA l = true) := by show _ = _; rw [FIN.out, t1]
        clear FIN hs
        go_wp2
        go_ret
        exact ⟨by rw [F2.out]; first | rfl | (simp only [t2]; rfl), HB.out⟩
      · have t1 : decide (n ≤ 60) = false := decide_eq_false hs
        have t2 : decide ((n : Int) ≤ 60) = false := decide_eq_false (by omega)
        have F2 : Hid (fewA l = false) := by show _ = _; rw [FIN.out, t1]
        clear FIN hs
        go_wp2
        go_ret
        exact ⟨by rw [F2.out]; first | rfl | (simp only [t2]; rfl), HB.out⟩
end Go.Proofs.Ytacgbagcddjlnaa
/- Get, Len and Now of a store that is there. -/
namespace Go.Proofs.Ytacgbagcddjlnaa
open Go.RowKit Go.Shelf Go.Lib Go.Sort
open Go.Joins (cell_of_block unfrozen_of_block block_setCell)
set_option linter.unusedVariables false
set_option linter.unusedSimpArgs false
set_option maxRecDepth 20000

theorem zer_obj (w : World) : ObjV w zerC zerO :=
  ⟨rfl, ⟨rfl, rfl, rfl, by decide⟩, ⟨rfl, rfl, rfl, ⟨none, 0, rfl, RowR.nil _ _ _ _⟩, ⟨none, 0, rfl, RowR.nil _ _ _ _⟩, ⟨none, 0, rfl, RowR.nil _ _ _ _⟩, rfl⟩, ⟨rfl, rfl, rfl, rfl, rfl, rfl, ⟨none, 0, rfl, RowR.nil _ _ _ _⟩, ⟨none, 0, rfl, RowR.nil _ _ _ _⟩, ⟨none, 0, rfl, RowR.nil _ _ _ _⟩, rfl⟩, ⟨rfl, rfl, rfl, ⟨none, 0, rfl, RowR.nil _ _ _ _⟩, ⟨none, 0, rfl, RowR.nil _ _ _ _⟩, rfl, rfl⟩, ⟨rfl, rfl, rfl, rfl, rfl, ⟨none, 0, rfl, RowR.nil _ _ _ _⟩, ⟨none, 0, rfl, RowR.nil _ _ _ _⟩, rfl⟩, ⟨rfl, rfl, rfl, ⟨none, 0, rfl, RowR.nil _ _ _ _⟩, rfl, rfl, rfl, ⟨none, 0, rfl, RowR.nil _ _ _ _⟩, rfl, rfl, ⟨none, 0, rfl, RowR.nil _ _ _ _⟩, ⟨none, 0, rfl, RowR.nil _ _ _ _⟩⟩⟩
theorem zer_nil : NilO zerC := by
  intro i n c hi hc
  simp only [rowsIx, List.mem_cons, List.not_mem_nil, or_false] at hi
  rcases hi with rfl | rfl | rfl | rfl | rfl | rfl | rfl | rfl | rfl | rfl | rfl | rfl | rfl | rfl <;> (simp at hc; exact hc.2.symm)
theorem zer_kept (base : Nat) (w : World) : Kept base w zerC zerO :=
  ⟨fun w' _ => zer_obj w', zer_nil, by unfold TinyO; simp [zerO], by constructor <;> first | rfl | exact Nat.zero_le _⟩

set_option maxHeartbeats 4000000 in
theorem now_any (base : Nat) (w : World) (S : List Nat) (sp : Nat) (most : Int) (l : List Ob) (hist : List Ev) (h : StIs base w S sp most l hist) :
    Calls Try.prog 10 #[.pointer (some ⟨sp, 0, none⟩)] w fun e w' => e = .returned (.int .u64 (hist.length : Int)) ∧ w' = w := by
  obtain ⟨mb, Dm, ev, kept, h⟩ := h
  have c1 : w.cell? ⟨sp, 1, none⟩ = some (.int .u64 (hist.length : Int)) := cell_of_block h.blk 1
  clear h
  go_enter Try.func10, Try.ntmps10
  go_wp2
  go_ret
  exact ⟨rfl, rfl⟩

set_option maxHeartbeats 4000000 in
theorem len_any (base : Nat) (w : World) (S : List Nat) (sp : Nat) (most : Int) (l : List Ob) (hist : List Ev) (h : StIs base w S sp most l hist) :
    Calls Try.prog 13 #[.pointer (some ⟨sp, 0, none⟩)] w fun e w' => e = .returned (.int .i64 (l.length : Int)) ∧ w' = w := by
  obtain ⟨mb, Dm, ev, kept, h⟩ := h
  have c1 : w.cell? ⟨sp, 2, none⟩ = some (.map (some mb)) := cell_of_block h.blk 2
  have hlen := h.map.own.len mapT 3
  rw [h.map.size] at hlen
  clear h
  go_enter Try.func13, Try.ntmps13
  go_wp2
  go_ret
  exact ⟨rfl, rfl⟩

set_option maxHeartbeats 4000000 in
theorem get_any (base : Nat) (w : World) (S : List Nat) (sp : Nat) (most : Int) (l : List Ob) (hist : List Ev) (k : Int) (nm : ByteArray) (h : StIs base w S sp most l hist) (hk : I64 k) (hnm : nm.size ≤ maxLen) :
    Calls Try.prog 12 #[.pointer (some ⟨sp, 0, none⟩), .int .i64 k, .string nm] w fun e w' => (∃ V, e = .returned (.tuple #[.agg V, .bool (l.any (hit k nm))]) ∧ V.size = 47 ∧ V.all (·.oneCell') = true ∧ ∀ x, l.find? (hit k nm) = some x → Kept base w' V x) ∧ Below w.heap.size w w' := by
  obtain ⟨mb, Dm, ev, kept, h⟩ := h
  obtain ⟨th, V, o, hth, hV, LK, hfo⟩ : ∃ th V o, l.any (hit k nm) = th ∧ Kept base w V o ∧ (∀ ws : World, ws.heap[mb]? = w.heap[mb]? → (Instr.lookup MT (.map (some mb)) (thing k nm) true).run Try.prog ws = .ok (.tuple #[.agg V, .bool th]) ws) ∧ (∀ x, l.find? (hit k nm) = some x → x = o) := by
    rcases h.map.look hk hnm with ⟨a1, a2, a3⟩ | ⟨x, cx, a1, a2, a3, a4⟩
    · exact ⟨false, zerC, zerO, a1, zer_kept base w, a3, fun x hx => by rw [a2] at hx; cases hx⟩
    · exact ⟨true, cx, x, a1, a3, a4, fun y hy => by rw [a2] at hy; cases hy; rfl⟩
  rw [hth]
  obtain ⟨B, hB⟩ : ∃ B, B = w.heap.size := ⟨_, rfl⟩
  obtain ⟨wb, hwb⟩ : ∃ wb, wb = w.alloc (.cells zerC OT) := ⟨_, rfl⟩
  have G0 : Gr w wb := hwb ▸ (Gr.refl w).alloc _
  have b1 : wb.heap[B]? = some (.cells zerC OT (0, 0)) := by rw [hwb, hB]; exact heap_alloc_new w _
  have hbs : wb.heap.size = B + 1 := by rw [hwb, hB]; simp
  have hml : mb < w.heap.size := (map_prot h.map h.bmb).2.1
  have c2 : wb.cell? ⟨sp, 2, none⟩ = some (.map (some mb)) := G0.cell (cell_of_block h.blk 2)
  have lk : (Instr.lookup MT (.map (some mb)) (.agg #[.int .i64 k, .string nm]) true).run Try.prog wb = .ok (.tuple #[.agg V, .bool th]) wb := LK wb (G0.heap hml)
  have z0 : (wb.alloc (.cells zerC OT)).heap[wb.heap.size]? = some (.cells zerC OT (0, 0)) := heap_alloc_new wb _
  obtain ⟨th1, n0, fx1, d1⟩ := store_ob (base := wb.heap.size) z0 rfl hV.obj.1 (Nat.le_refl _)
  obtain ⟨wc, hwc⟩ : ∃ W, W = (wb.alloc (.cells zerC OT)).setCells wb.heap.size 0 V.toList := ⟨_, rfl⟩
  obtain ⟨A, hA⟩ : ∃ A, A = wb.heap.size := ⟨_, rfl⟩
  rw [← hwc] at n0 d1
  rw [← hA] at n0 d1
  have bwc : Below wb.heap.size wb wc := by
    have g : Gr wb (wb.alloc (.cells zerC OT)) := (Gr.refl wb).alloc _
    exact ((Xb.ofGr g A).trans ⟨d1.os, d1.tape, d1.output, d1.size, fun k hk hne => d1.block k hk (by simpa using hne)⟩).below (by omega) (Nat.le_refl _)
  have hVc : Kept base wc V o := hV.fx ((Fx.ofBelow G0.below).trans (Fx.ofBelow bwc))
  have CC := Lib.hid (clone_any wc V o hVc.obj hVc.nil hVc.small.small)
  have TH1 := Lib.hid th1
  have IV : Hid ((Try.prog.info? OT).map (·.size) = some V.size) := by show _ = _; rw [hV.obj.1]; exact info_ob47
  have OV := Lib.hid (objV_one hV.obj)
  have HW : Hid ((wb.alloc (.cells zerC OT)).setCells wb.heap.size 0 V.toList = wc ∧ wb.heap.size = A) := ⟨hwc.symm, hA.symm⟩
  have LV := Lib.hid (load_ob n0 hV.obj.1)
  have HH := Lib.hid (And.intro G0 (And.intro b1 (And.intro hbs (And.intro bwc (And.intro hVc (And.intro hfo (And.intro hB h.bw)))))))
  clear h hth hV LK hfo G0 b1 hbs hml z0 th1 n0 fx1 d1 hwc hA bwc hVc hk hnm
  go_enter Try.func12, Try.ntmps12
  go_upto_region 3 with fail
  rw [← hwb, ← hB]
  clear hwb hB
  go_upto_region 4 with (refine wpList_store_mid rfl _ _ _ rfl wb.heap.size 0 V (by rfl) (by rfl) TH1.out IV.out OV.out ?_; rw [HW.out.1, HW.out.2])
  go_wp2_with (refine wpList_load_by (by kernel_rfl) OT _ rfl (.pointer (some ⟨A, 0, none⟩)) (.agg V) (by kernel_rfl) LV.out ?_)
  refine CC.out.mono ?_
  rintro e m ⟨⟨D, rfl, hC⟩, hbl⟩
  obtain ⟨G0, b1, hbs, bwc, hVc, hfo, hB, hbw⟩ := HH.out
  have KD : Kept base m D o := kept_copy hVc hC hVc.small hVc.fits
  have hwcz := bwc.size
  have m1 : m.heap[B]? = some (.cells zerC OT (0, 0)) := ((hbl.block B (by omega)).trans (bwc.block B (by omega))).trans b1
  obtain ⟨th, n0, fx1, c1⟩ := store_ob (base := base) m1 rfl KD.obj.1 (by omega)
  obtain ⟨n, hn⟩ : ∃ n, n = m.setCells B 0 D.toList := ⟨_, rfl⟩
  rw [← hn] at n0 fx1 c1
  have IN : Hid ((Try.prog.info? OT).map (·.size) = some D.size) := by show _ = _; rw [KD.obj.1]; exact info_ob47
  have TH := Lib.hid th
  have ON := Lib.hid (objV_one KD.obj)
  have HN := Lib.hid hn
  have bwn : Below w.heap.size w n := by
    have h1 : Below w.heap.size w m := G0.below.trans ((bwc.mono G0.below.size).trans (hbl.mono (by omega)))
    exact h1.trans (c1.below (fun g hg => by simp at hg; omega) h1.size)
  have FIN : Hid ((∃ V', D = V' ∧ V'.size = 47 ∧ V'.all (·.oneCell') = true ∧ ∀ x, l.find? (hit k nm) = some x → Kept base n V' x) ∧ Below w.heap.size w n) := ⟨⟨D, rfl, KD.obj.1, objV_one KD.obj, fun x hx => by rw [hfo x hx]; exact KD.fx fx1⟩, bwn⟩
  have N0 := Lib.hid n0
  clear G0 b1 hbs bwc hVc hfo hB hbw KD hwcz m1 th n0 fx1 c1 hn bwn hbl hC CC LV HW TH1 IV OV HH
  go_wp2_with (refine wpList_store_mid rfl _ _ _ rfl B 0 D (by rfl) (by rfl) TH.out IN.out ON.out ?_; rw [← HN.out])
  refine bodyPost_ret (results_row_tmp rfl _ _ B OT D (0, 0) _ (by rfl) N0.out Try.underlying56 rfl IN.out) rfl ?_
  obtain ⟨⟨V', rfl, h1, h2, h3⟩, h4⟩ := FIN.out
  exact ⟨⟨_, rfl, h1, h2, h3⟩, h4⟩
end Go.Proofs.Ytacgbagcddjlnaa
/- The names that one goes by: a map of names; what an event does to them; how many there are. -/
namespace Go.Proofs.Ytacgbagcddjlnaa
open Go.RowKit Go.Shelf Go.Lib Go.Sort
open Go.Maps (Keyed IsMap Tidy)
open Go.Joins (cell_of_block unfrozen_of_block block_setCell)
set_option linter.unusedVariables false
set_option linter.unusedSimpArgs false
set_option maxRecDepth 20000

abbrev NK : TypeId := 62
abbrev NT : TypeId := 60
theorem lawN : Keyed Try.prog NK := Keyed.of_law (deep_law_laid laidOut (m := 2) (by omega) (of_decide_eq_true (by kernel_rfl)) (by kernel_rfl) (by kernel_rfl))
theorem mapN : Try.prog.underlying NT = some (.map NK 4) := Try.underlying60
theorem key_atN {k : Int} {nm : ByteArray} (hk : I64 k) (hn : nm.size ≤ maxLen) : keyOf Try.prog NK (thing k nm) = some (kl k nm) := by
  have e1 : Try.prog.keyType NK = true := by kernel_rfl
  have e2 : (thing k nm).formed Try.prog NK = true := by
    simp [Value.formed, thing, Try.underlying62]
    kernel_rfl
  obtain ⟨fs, hfs⟩ : ∃ fs, Try.prog.underlying NK = some (.struct fs) := ⟨_, Try.underlying62⟩
  have e3 : Try.prog.keyLits (Try.prog.types.size + 1) NK [.int .i64 k, .string nm] = some [.int .i64 k, .string nm.data.toList] := by
    obtain ⟨m, hm⟩ : ∃ m, Try.prog.types.size = m + 1 := ⟨Try.prog.types.size - 1, by have : 0 < Try.prog.types.size := of_decide_eq_true (by kernel_rfl); omega⟩
    have c0 : Try.prog.cellsOf NK = 2 := by kernel_rfl
    have c1 : Try.prog.cellsOf 3 = 1 := by kernel_rfl
    have c2 : Try.prog.cellsOf 9 = 1 := by kernel_rfl
    rw [hm]
    simp [Program.keyLits, Try.underlying62, Try.underlying3, Try.underlying9, c0, c1, c2, i64_wf hk, hn]
  unfold keyOf
  rw [hfs]
  simp only
  rw [e1, e2]
  simp only [Bool.and_self, if_true]
  show Option.map _ (Try.prog.keyLits (Try.prog.types.size + 1) NK [.int .i64 k, .string nm]) = _
  rw [e3]
  rfl

/-- The block is a map of names: those of a row of objects are true, others false or not there. -/
structure NmIs (w : World) (mb n : Nat) (D : DataW Value) (l : List Ob) : Prop where
  own : w.ownsMap Try.prog NK hR mb n D
  keys : ∀ z, Maps.has D z = true → ∃ k nm, I64 k ∧ nm.size ≤ maxLen ∧ z = kl k nm
  vals : ∀ k nm, I64 k → nm.size ≤ maxLen → D.atKey (kl k nm) (.held (.bool false)) = .held (.bool (l.any (hit k nm)))
theorem NmIs.stay {w w' : World} {mb n : Nat} {D : DataW Value} {l : List Ob} (h : NmIs w mb n D l) (hb : w'.heap[mb]? = w.heap[mb]?) : NmIs w' mb n D l := by
  obtain ⟨es, c, h1, h2⟩ := h.own
  exact ⟨⟨es, c, hb.trans h1, h2⟩, h.keys, h.vals⟩
theorem NmIs.lt {w : World} {mb n : Nat} {D : DataW Value} {l : List Ob} (h : NmIs w mb n D l) : mb < w.heap.size := by
  obtain ⟨es, c, h1, h2⟩ := h.own
  exact (Array.getElem?_eq_some_iff.1 h1).1
theorem NmIs.made (w : World) : NmIs (w.alloc (.map #[] 0)) w.heap.size 0 (.map []) [] :=
  ⟨World.ownsMap_made w _ _ _, fun z h => (by cases h), fun k nm _ _ => rfl⟩
theorem NmIs.look {w : World} {mb n : Nat} {D : DataW Value} {l : List Ob} (h : NmIs w mb n D l) {k : Int} {nm : ByteArray} (hk : I64 k) (hn : nm.size ≤ maxLen) (ws : World) (hb : ws.heap[mb]? = w.heap[mb]?) :
    (Instr.lookup NT (.map (some mb)) (thing k nm) false).run Try.prog ws = .ok (.bool (l.any (hit k nm))) ws := by
  have hz : (zeroValue 4).run Try.prog ws = .ok (.bool false) ws := by kernel_rfl
  obtain ⟨v, ps, hrun, hv⟩ := (h.stay hb).own.lookup lawN mapN hz (zd := .held (.bool false)) (zp := []) rfl (key_atN hk hn)
  rw [h.vals k nm hk hn] at hv
  simp only [hR, Option.some.injEq, Prod.mk.injEq, DataW.held.injEq] at hv
  rw [hv.1] at hrun
  exact hrun
/-- 'names[k] = b'. -/
theorem NmIs.set {w : World} {mb n : Nat} {D : DataW Value} {l l' : List Ob} (h : NmIs w mb n D l) (hn : n < maxLen) {k : Int} {nm : ByteArray} (hk : I64 k) (hnm : nm.size ≤ maxLen) (b : Bool)
    (hl : ∀ k' nm', I64 k' → nm'.size ≤ maxLen → l'.any (hit k' nm') = if k' = k ∧ nm' = nm then b else l.any (hit k' nm')) :
    ∃ w', (Instr.mapUpdate NT (.map (some mb)) (thing k nm) (.bool b)).run Try.prog w = .ok () w' ∧ NmIs w' mb (n + 1) (D.put (kl k nm) (.held (.bool b))) l' ∧ w.mapTurned w' mb := by
  obtain ⟨w', h1, h2, h3⟩ := h.own.store lawN mapN hn (key_atN hk hnm) (val := .bool b) (d := .held (.bool b)) (ps := []) rfl
  have hm := (h.own.tidy lawN).isMap
  refine ⟨w', h1, ⟨h2, fun z hz => ?_, fun k' nm' hk' hnm' => ?_⟩, h3⟩
  · by_cases e : z = kl k nm
    · exact ⟨k, nm, hk, hnm, e⟩
    · rw [Maps.has_put_other e] at hz
      exact h.keys z hz
  · rw [hl k' nm' hk' hnm']
    by_cases e : k' = k ∧ nm' = nm
    · obtain ⟨rfl, rfl⟩ := e
      rw [if_pos ⟨rfl, rfl⟩]
      exact Maps.atKey_put_same hm (isKey _ _) _ _
    · rw [if_neg e, Maps.atKey_put_other (fun e2 => e (kl_inj hk' hnm' hk hnm e2))]
      exact h.vals k' nm' hk' hnm'
theorem NmIs.has {w : World} {mb n : Nat} {D : DataW Value} {l : List Ob} (h : NmIs w mb n D l) {k : Int} {nm : ByteArray} (hk : I64 k) (hn : nm.size ≤ maxLen) (ha : l.any (hit k nm) = true) : Maps.has D (kl k nm) = true := by
  cases e : Maps.has D (kl k nm) with
  | true => rfl
  | false =>
    have h1 := h.vals k nm hk hn
    rw [Maps.atKey_of_not_has e, ha] at h1
    simp at h1

/-- What an event does. -/
structure Step (l : List Ob) (e : Ev) (l' : List Ob) : Prop where
  kind : I64 e.kind
  name : e.name.size ≤ maxLen
  was : l.any (hit e.kind e.name) = !(decide (e.what = 0))
  now : ∀ k nm, l'.any (hit k nm) = if k = e.kind ∧ nm = e.name then !(decide (e.what = 2)) else l.any (hit k nm)
theorem hit_off {k k' : Int} {nm nm' : ByteArray} {o : Ob} (h : hit k nm o = true) : hit k' nm' o = decide (k' = k ∧ nm' = nm) := by
  obtain ⟨rfl, rfl⟩ := hit_iff.1 h
  rw [Bool.eq_iff_iff, hit_iff, decide_eq_true_eq]
  exact ⟨fun h => ⟨h.1.symm, h.2.symm⟩, fun h => ⟨h.1.symm, h.2.symm⟩⟩
theorem hit_own (o : Ob) (k : Int) (nm : ByteArray) : hit k nm o = decide (k = o.kind ∧ nm = o.name) := hit_off (hit_self o)
theorem step_made {l : List Ob} {d : Ob} {v : Nat} (ha : l.any (hit d.kind d.name) = false) (hd : OkK d) : Step l ⟨0, d.kind, d.name, v⟩ (l ++ [d]) :=
  ⟨hd.1, hd.2, ha, fun k nm => by
    rw [List.any_append]
    simp only [List.any_cons, List.any_nil, Bool.or_false]
    rw [hit_own d]
    by_cases e : k = d.kind ∧ nm = d.name
    · simp [e]
    · simp [e]⟩
theorem step_set {l : List Ob} {d : Ob} {v : Nat} (ha : l.any (hit d.kind d.name) = true) (hd : OkK d) : Step l ⟨1, d.kind, d.name, v⟩ (put l d) :=
  ⟨hd.1, hd.2, by rw [ha]; rfl, fun k nm => by
    by_cases e : k = d.kind ∧ nm = d.name
    · obtain ⟨rfl, rfl⟩ := e
      rw [if_pos ⟨rfl, rfl⟩]
      exact List.any_eq_true.2 ⟨d, put_self l d, hit_self d⟩
    · rw [if_neg e, Bool.eq_iff_iff, List.any_eq_true, List.any_eq_true]
      constructor
      · rintro ⟨x, hx, hp⟩
        rcases put_mem hx with rfl | ⟨hx, _⟩
        · rw [hit_own, decide_eq_true_eq] at hp
          exact absurd hp e
        · exact ⟨x, hx, hp⟩
      · rintro ⟨x, hx, hp⟩
        refine ⟨x, put_keeps hx (fun e2 => e ?_), hp⟩
        obtain ⟨a1, a2⟩ := hit_iff.1 hp
        unfold Key at e2
        rw [Prod.mk.injEq] at e2
        exact ⟨by rw [← a1, e2.1], by rw [← a2]; exact by_inj e2.2⟩⟩
theorem step_gone {l : List Ob} {k : Int} {nm : ByteArray} {v : Nat} (hp : l.Pairwise (fun a b => Key a ≠ Key b)) (hok : ∀ o ∈ l, OkK o) (ha : l.any (hit k nm) = true) : Step l ⟨2, k, nm, v⟩ (del l k nm) := by
  obtain ⟨x, hx, hpx⟩ := List.any_eq_true.1 ha
  obtain ⟨e1, e2⟩ := hit_iff.1 hpx
  refine ⟨e1 ▸ (hok x hx).1, e2 ▸ (hok x hx).2, by rw [ha]; rfl, fun k' nm' => ?_⟩
  by_cases e : k' = k ∧ nm' = nm
  · obtain ⟨rfl, rfl⟩ := e
    rw [if_pos ⟨rfl, rfl⟩]
    show _ = false
    rw [List.any_eq_false]
    intro y hy
    rw [del_mem hp] at hy
    rw [hy.2]
    simp
  · rw [if_neg e, Bool.eq_iff_iff, List.any_eq_true, List.any_eq_true]
    constructor
    · rintro ⟨y, hy, hpy⟩
      exact ⟨y, ((del_mem hp).1 hy).1, hpy⟩
    · rintro ⟨y, hy, hpy⟩
      refine ⟨y, (del_mem hp).2 ⟨hy, ?_⟩, hpy⟩
      cases h : hit k nm y with
      | false => rfl
      | true =>
        obtain ⟨a1, a2⟩ := hit_iff.1 h
        obtain ⟨b1, b2⟩ := hit_iff.1 hpy
        exact absurd ⟨by rw [← b1, a1], by rw [← b2, a2]⟩ e
theorem Move.step {l l' : List Ob} {hist hist' : List Ev} (h : Move l hist l' hist') (hp : l.Pairwise (fun a b => Key a ≠ Key b)) (hok : ∀ o ∈ l, OkK o) : (l' = l ∧ hist' = hist) ∨ ∃ e, hist' = hist ++ [e] ∧ Step l e l' := by
  cases h with
  | stay => exact .inl ⟨rfl, rfl⟩
  | made d h1 h2 => exact .inr ⟨_, rfl, step_made h1 h2⟩
  | set d h1 h2 => exact .inr ⟨_, rfl, step_set h1 h2⟩
  | gone k nm h1 => exact .inr ⟨_, rfl, step_gone hp hok h1⟩
/-- A row of events from one row of objects to another one. -/
def Chain (l0 : List Ob) (ext : List Ev) (l : List Ob) : Prop := ∃ f : Nat → List Ob, f 0 = l0 ∧ f ext.length = l ∧ ∀ i e, ext[i]? = some e → Step (f i) e (f (i + 1))
theorem Chain.nil (l : List Ob) : Chain l [] l := ⟨fun _ => l, rfl, rfl, fun i e h => by simp at h⟩
theorem Chain.snoc {l0 l l' : List Ob} {ext : List Ev} {e : Ev} (h : Chain l0 ext l) (s : Step l e l') : Chain l0 (ext ++ [e]) l' := by
  obtain ⟨f, h0, h1, h2⟩ := h
  refine ⟨fun i => if i ≤ ext.length then f i else l', by simp [h0], by simp only [List.length_append, List.length_singleton]; exact if_neg (by omega), fun i x hx => ?_⟩
  rw [List.getElem?_append] at hx
  split at hx
  · rename_i hlt
    have := h2 i x hx
    simp only
    rw [if_pos (by omega), if_pos (by omega)]
    exact this
  · rename_i hlt
    have hi : i - ext.length = 0 := by
      have := (List.getElem?_eq_some_iff.1 hx).1
      simpa using this
    rw [hi] at hx
    simp at hx
    subst hx
    have : i = ext.length := by omega
    subst this
    simp only
    rw [if_pos (Nat.le_refl _), if_neg (by omega), h1]
    exact s

/-- How many of a row's names are through. -/
def seen (left : Lit → Bool) (l : List Ob) : Nat := (l.filter (fun o => !left (kl o.kind o.name))).length
theorem seen_none {left : Lit → Bool} {l : List Ob} (h : ∀ o ∈ l, left (kl o.kind o.name) = true) : seen left l = 0 := by
  unfold seen
  rw [List.filter_eq_nil_iff.2 (fun o ho => by rw [h o ho]; simp)]
  rfl
theorem seen_all {left : Lit → Bool} {l : List Ob} (h : ∀ z, left z = false) : seen left l = l.length := by
  unfold seen
  rw [List.filter_eq_self.2 (fun o ho => by rw [h]; rfl)]
theorem seen_step {left left' : Lit → Bool} {k : Int} {nm : ByteArray} (hl : left (kl k nm) = true) : ∀ (l : List Ob), l.Pairwise (fun a b => Key a ≠ Key b) → (∀ o ∈ l, left' (kl o.kind o.name) = (left (kl o.kind o.name) && !(hit k nm o))) →
    seen left' l = seen left l + (if l.any (hit k nm) then 1 else 0)
  | [], _, _ => rfl
  | x :: l, hp, h => by
    have hp2 := List.pairwise_cons.1 hp
    have ih := seen_step hl l hp2.2 (fun o ho => h o (List.mem_cons_of_mem _ ho))
    have hx := h x List.mem_cons_self
    unfold seen at ih ⊢
    cases hh : hit k nm x with
    | true =>
      obtain ⟨e1, e2⟩ := hit_iff.1 hh
      have hno : l.any (hit k nm) = false := by
        rw [List.any_eq_false]
        intro y hy hpy
        obtain ⟨b1, b2⟩ := hit_iff.1 hpy
        exact hp2.1 y hy (by unfold Key; rw [e1, e2, b1, b2])
      rw [hno] at ih
      have hlx : left (kl x.kind x.name) = true := by rw [e1, e2]; exact hl
      rw [hh, hlx] at hx
      rw [List.filter_cons, List.filter_cons, hx, hlx]
      simp [hh] at ih ⊢
      exact ih
    | false =>
      rw [hh] at hx
      simp only [Bool.not_false, Bool.and_true] at hx
      rw [List.filter_cons, List.filter_cons, hx]
      cases hl2 : left (kl x.kind x.name) <;> simp [hh, hl2] at ih ⊢ <;> omega
end Go.Proofs.Ytacgbagcddjlnaa
/- Acts played upon a store and its model, one by one. -/
namespace Go.Proofs.Ytacgbagcddjlnaa
open Go.RowKit Go.Shelf Go.Lib Go.Sort
open Go.Joins (cell_of_block unfrozen_of_block block_setCell)
set_option linter.unusedVariables false
set_option linter.unusedSimpArgs false
set_option maxRecDepth 20000

theorem do_any (base : Nat) (w : World) (S T : List Nat) (sp mp : Nat) (most : Int) (l : List Ob) (hist : List Ev) (kk : Int) (cs : Array Value) (r : Bool) (o : Ob) (hs : Sys base w S T sp mp most l hist) (hc : Kept base w cs o) (hn : hist.length < 1000000) (hl : l.length < 1000000) :
    Calls Try.prog 9 #[.pointer (some ⟨sp, 0, none⟩), .pointer (some ⟨mp, 0, none⟩), .int .i64 most, .agg (acC kk cs r)] w fun e w' => e = .returned (.bool true) ∧ ∃ l' hist', Move l hist l' hist' ∧ Next base w w' S T sp mp most l' hist' := by
  by_cases h0 : kk = 0
  · exact do_cre base w S T sp mp most l hist kk cs r o hs hc hn hl h0
  · by_cases h1 : kk = 1
    · exact do_upd base w S T sp mp most l hist kk cs r o hs hc hn hl h1
    · exact do_del base w S T sp mp most l hist kk cs r o hs hc hn hl ⟨h0, h1⟩
theorem Move.len {l l' : List Ob} {hist hist' : List Ev} (h : Move l hist l' hist') : l'.length ≤ l.length + 1 := by
  cases h with
  | stay => omega
  | made d h1 h2 => simp
  | set d h1 h2 => rw [put_len, if_pos h1]; omega
  | gone k nm h1 => have := @del_len l k nm; rw [if_pos h1] at this; omega
/-- A store and its model under way. -/
structure Run (base : Nat) (W wr : World) (sp mp : Nat) (most : Int) (X : Option (Nat × Obj)) (l0 : List Ob) (h0 : List Ev) (l : List Ob) (hist : List Ev) (j k : Nat) : Prop where
  sys : ∃ S T, Sys base wr S T sp mp most l hist ∧ ∀ b o, X = some (b, o) → b ∉ S ++ T ∧ wr.heap[b]? = some o
  chain : ∃ ext, hist = h0 ++ ext ∧ Chain l0 ext l ∧ ext.length ≤ j
  few : l.length ≤ k + j
  low : Below W.heap.size W wr
theorem Run.gr {base : Nat} {W wr w' : World} {sp mp : Nat} {most : Int} {X : Option (Nat × Obj)} {l0 l : List Ob} {h0 hist : List Ev} {j k : Nat} (h : Run base W wr sp mp most X l0 h0 l hist j k) (g : Below wr.heap.size wr w') : Run base W w' sp mp most X l0 h0 l hist j k := by
  obtain ⟨S, T, s, x⟩ := h.sys
  refine ⟨⟨S, T, s.gr g, fun b o e => ⟨(x b o e).1, ?_⟩⟩, h.chain, h.few, h.low.trans (g.mono h.low.size)⟩
  exact (g.block b (Array.getElem?_eq_some_iff.1 (x b o e).2).1).trans (x b o e).2
theorem Run.step {base : Nat} {W wr w' : World} {sp mp : Nat} {most : Int} {X : Option (Nat × Obj)} {l0 l l' : List Ob} {h0 hist hist' : List Ev} {j k : Nat} (hb : base = W.heap.size) (h : Run base W wr sp mp most X l0 h0 l hist j k) (S T : List Nat) (s : Sys base wr S T sp mp most l hist) (x : ∀ b o, X = some (b, o) → b ∉ S ++ T ∧ wr.heap[b]? = some o)
    (m : Move l hist l' hist') (n : Next base wr w' S T sp mp most l' hist') : Run base W w' sp mp most X l0 h0 l' hist' (j + 1) k := by
  obtain ⟨S', T', s', c, i⟩ := n
  obtain ⟨ext, h1, h2, h3⟩ := h.chain
  obtain ⟨mb, D, ev, kept, hst⟩ := s.st
  refine ⟨⟨S', T', s', fun b o e => ?_⟩, ?_, by have := m.len; have := h.few; omega, ?_⟩
  · obtain ⟨x1, x2⟩ := x b o e
    have hlt := (Array.getElem?_eq_some_iff.1 x2).1
    refine ⟨fun hm => ?_, (c.block b hlt x1).trans x2⟩
    rcases i b hm with h | h
    · exact x1 h
    · omega
  · rcases m.step hst.map.apart hst.map.ok with ⟨e1, e2⟩ | ⟨e, e1, e2⟩
    · exact ⟨ext, by rw [e2]; exact h1, by rw [e1]; exact h2, by omega⟩
    · exact ⟨ext ++ [e], by rw [e1, h1, List.append_assoc], h2.snoc e2, by simp; omega⟩
  · refine h.low.trans ?_
    have := c.below (base := base) (fun g hg => (s.prot g hg).1) hst.bw
    rw [← hb]
    exact this
theorem Run.act {base : Nat} {W wr : World} {sp mp : Nat} {most : Int} {X : Option (Nat × Obj)} {l0 l : List Ob} {h0 hist : List Ev} {j k : Nat} (hb : base = W.heap.size) (h : Run base W wr sp mp most X l0 h0 l hist j k) (hn : h0.length + j < 1000000) (hk : k + j < 1000000) (x : Acv) (hx : okA W x) (hf : fewB x.2.2.2 = true) :
    Calls Try.prog 9 #[.pointer (some ⟨sp, 0, none⟩), .pointer (some ⟨mp, 0, none⟩), .int .i64 most, .agg (cellsA x)] wr fun e w' => e = .returned (.bool true) ∧ ∃ l' hist', Run base W w' sp mp most X l0 h0 l' hist' (j + 1) k := by
  obtain ⟨S, T, s, hX⟩ := h.sys
  obtain ⟨ext, h1, h2, h3⟩ := h.chain
  have hfx : Fx base W wr := ⟨h.low.os, h.low.tape, h.low.output, h.low.size, fun g hg _ => h.low.block g hg⟩
  have hc : Kept base wr x.2.1.1 x.2.2.2 := kept_arg hx.1 hb.symm hfx hx.2.1 (tiny_few hf) hx.2.2
  refine (do_any base wr S T sp mp most l hist x.1 x.2.1.1 x.2.2.1 x.2.2.2 s hc (by rw [h1, List.length_append]; omega) (by have := h.few; omega)).mono ?_
  rintro e w' ⟨he, l', hist', m, n⟩
  exact ⟨he, l', hist', h.step hb S T s hX m n⟩
/-- A new model. -/
theorem Run.made {base : Nat} {W w : World} {S : List Nat} {sp : Nat} {most : Int} (hb : base = W.heap.size) (h : StIs base w S sp most [] []) (hl : Below W.heap.size W w) : Run base W (w.alloc (.cells #[.slice none 0 0, .int .u64 0, .slice none 0 0] MoT)) sp w.heap.size most none [] [] [] [] 0 0 := by
  have g : Gr w (w.alloc (.cells #[.slice none 0 0, .int .u64 0, .slice none 0 0] MoT)) := (Gr.refl w).alloc _
  refine ⟨⟨S, [w.heap.size], ⟨h.gr g.below, ⟨.slice none 0 0, .slice none 0 0, [], rfl, by have := hl.size; omega, by have := hl.size; have := g.below.size; omega, heap_alloc_new w _, World.ownsRow_nil _ _ _ _, rfl, fun i o hi => by simp at hi, World.ownsRow_nil _ _ _ _⟩, fun k hk hm => ?_⟩, fun b o e => by cases e⟩, ⟨[], rfl, Chain.nil _, Nat.le_refl _⟩, Nat.le_refl _, hl.trans (g.below.mono hl.size)⟩
  simp at hm
  have := (h.prot k hk).2.1
  omega
/-- .. beside a block of one's own. -/
theorem Run.have_ {base : Nat} {W wr : World} {sp mp : Nat} {most : Int} {l0 l : List Ob} {h0 hist : List Ev} {j k : Nat} (h : Run base W wr sp mp most none l0 h0 l hist j k) (o : Obj) : Run base W (wr.alloc o) sp mp most (some (wr.heap.size, o)) l0 h0 l hist j k := by
  have h' := h.gr ((Gr.refl wr).alloc o).below
  obtain ⟨S, T, s, _⟩ := h.sys
  refine ⟨⟨S, T, s.gr ((Gr.refl wr).alloc o).below, fun b o' e => ?_⟩, h.chain, h.few, h'.low⟩
  cases e
  exact ⟨fun hm => by have := (s.prot _ hm).2.1; omega, heap_alloc_new wr o⟩
theorem Run.chg {base : Nat} {W w w' : World} {sp mp mb : Nat} {o : Obj} {most : Int} {l0 l : List Ob} {h0 hist : List Ev} {j k : Nat} (h : Run base W w sp mp most (some (mb, o)) l0 h0 l hist j k) (hb : base = W.heap.size) (hmb : base ≤ mb) (hp : ¬ Prot base w mb) (c : Chg [mb] w w') (o' : Obj) (ho : w'.heap[mb]? = some o') : Run base W w' sp mp most (some (mb, o')) l0 h0 l hist j k := by
  obtain ⟨S, T, s, x⟩ := h.sys
  obtain ⟨x1, x2⟩ := x mb o rfl
  refine ⟨⟨S, T, s.chg c (fun g hg hm => by simp at hm; subst hm; exact x1 hg) (fun g hg _ => by simp at hg; subst hg; exact hp), fun b o2 e => by cases e; exact ⟨x1, ho⟩⟩, h.chain, h.few, ?_⟩
  refine h.low.trans ?_
  have := c.below (base := base) (fun g hg => by simp at hg; omega) (by have := h.low.size; omega)
  rw [← hb]
  exact this
theorem NmIs.unprot {base : Nat} {w : World} {mb n : Nat} {D : DataW Value} {l : List Ob} (h : NmIs w mb n D l) (hb : base ≤ mb) : ¬ Prot base w mb := by
  obtain ⟨es, c, h1, _⟩ := h.own
  rintro (hp | ⟨cs, T, fz, h3, h4⟩)
  · omega
  · rw [h1] at h3; cases h3
theorem NmIs.obj {w : World} {mb n : Nat} {D : DataW Value} {l : List Ob} (h : NmIs w mb n D l) : ∃ o, w.heap[mb]? = some o := by
  obtain ⟨es, c, h1, _⟩ := h.own
  exact ⟨_, h1⟩
theorem turned_chg {w w' : World} {mb : Nat} (h : w.mapTurned w' mb) : Chg [mb] w w' :=
  Chg.ofGrown (S := [mb]) (World.mapTurned.grown h) (fun g e => .inl (by simp at e; simp [e]))
theorem Run.again {base : Nat} {W wr : World} {sp mp : Nat} {most : Int} {X : Option (Nat × Obj)} {l0 l : List Ob} {h0 hist : List Ev} {j k : Nat} (h : Run base W wr sp mp most X l0 h0 l hist j k) : Run base W wr sp mp most X l hist l hist 0 (k + j) :=
  ⟨h.sys, ⟨[], by simp, Chain.nil _, Nat.le_refl _⟩, by have := h.few; omega, h.low⟩
theorem Run.st {base : Nat} {W wr : World} {sp mp : Nat} {most : Int} {X : Option (Nat × Obj)} {l0 l : List Ob} {h0 hist : List Ev} {j k : Nat} (h : Run base W wr sp mp most X l0 h0 l hist j k) : ∃ S, StIs base wr S sp most l hist := by
  obtain ⟨S, T, s, _⟩ := h.sys
  exact ⟨S, s.st⟩
theorem Run.hist {base : Nat} {W wr : World} {sp mp : Nat} {most : Int} {X : Option (Nat × Obj)} {l0 l : List Ob} {h0 hist : List Ev} {j k : Nat} (h : Run base W wr sp mp most X l0 h0 l hist j k) : h0.length ≤ hist.length ∧ hist.length ≤ h0.length + j := by
  obtain ⟨ext, e, _, h3⟩ := h.chain
  rw [e, List.length_append]
  omega
theorem Run.fine {base : Nat} {W wr : World} {sp mp : Nat} {most : Int} {X : Option (Nat × Obj)} {l0 l : List Ob} {h0 hist : List Ev} {j k : Nat} (h : Run base W wr sp mp most X l0 h0 l hist j k) : l.Pairwise (fun a b => Key a ≠ Key b) ∧ ∀ o ∈ l, OkK o := by
  obtain ⟨S, mb, D, ev, kept, s⟩ := h.st
  exact ⟨s.map.apart, s.map.ok⟩
/-- The model's row, as the program reads it. -/
theorem Run.row {base : Nat} {W wr : World} {sp mp : Nat} {most : Int} {X : Option (Nat × Obj)} {l0 l : List Ob} {h0 hist : List Ev} {j k : Nat} (h : Run base W wr sp mp most X l0 h0 l hist j k) : ∃ q c, wr.cell? ⟨mp, 0, none⟩ = some (.slice q l.length c) ∧
    ∀ i x, l[i]? = some x → ∃ g : Nat, ∃ y : Cs, q = some ⟨g, 0, none⟩ ∧ g < wr.heap.size ∧ (∀ b o, X = some (b, o) → g ≠ b) ∧ wr.rangeAt g (i * 47) y.1.toList ∧ ObjV wr y.1 x := by
  obtain ⟨S, T, s, hX⟩ := h.sys
  obtain ⟨lv, mev, csl, hm⟩ := s.mo
  obtain ⟨q, c, rfl⟩ := own_slice hm.row
  refine ⟨q, c, by rw [← hm.len]; exact cell_of_block hm.blk 0, fun i x hx => ?_⟩
  obtain ⟨y, hy, hk⟩ := hm.objs i x hx
  have hi : i < csl.length := (List.getElem?_eq_some_iff.1 hy).1
  obtain ⟨g, cap, cur, hgq, hgh⟩ : ∃ g cap cur, Value.slice q csl.length c = .slice (some ⟨g, 0, none⟩) csl.length cap ∧ wr.heap[g]? = some (.cells cur OT (0, 0)) := by
    rcases hm.row.2 with ⟨_, h0⟩ | ⟨g, cap, cur, e1, e2, e3, _⟩
    · omega
    · exact ⟨g, cap, cur, e1, e3⟩
  have hr := hm.row
  simp only [Value.slice.injEq, true_and] at hgq
  obtain ⟨rfl, rfl⟩ := hgq
  refine ⟨g, y, rfl, (Array.getElem?_eq_some_iff.1 hgh).1, fun b o e hgb => ?_, rangeAt_own hr hy, hk.obj⟩
  subst hgb
  exact (hX g o e).1 (List.mem_append_right _ (by rw [hm.fp]; simp [Value.ownBlock]))
end Go.Proofs.Ytacgbagcddjlnaa
