/- A row of objects that came in, for whatever layer: how it lies; how long its objects' rows can be. -/
import Derived.Test.YtajkhbdniadkkaaObNil
import Derived.Test.YtajkhbdniadkkaaObOwn
import Derived.Test.YtajkhbdniadkkaaObD
namespace Go.Proofs.Ytajkhbdniadkkaa.Ow
open Go.ChangeShapes Go.WideShapes Go.ChangeAt Go.RowKit Go.Deep Go.Lib Go.Shelf
open Go.Joins (cell_of_block unfrozen_of_block block_setCell)
set_option linter.unusedVariables false
set_option maxRecDepth 20000

/-- The cells of an object. -/
abbrev Cs := { a : Array Value // a.size = 47 ∧ a.all (·.oneCell') = true }
abbrev Obv := Cs × Ob
def encOb (x : Obv) : List Value := x.1.1.toList
theorem lenOb (x : Obv) : (encOb x).length = 47 := by unfold encOb; rw [Array.length_toList]; exact x.1.2.1
theorem oneOb (x : Obv) : ∀ u ∈ encOb x, u.oneCell' = true := by
  intro u hu
  have h := x.1.2.2
  rw [← Array.all_toList] at h
  exact List.all_eq_true.1 h u hu
instance : Inhabited Cs := ⟨⟨zerC, rfl, by kernel_rfl⟩⟩
instance : Inhabited Ob := ⟨zerO⟩
/-- None of its rows is longer than memory. -/
def FitR (cs : Array Value) (i b : Nat) : Prop := ∀ q n c, cs[i]? = some (.slice q n c) → n * b ≤ 140737488351232
def FitH (cs : Array Value) : Prop := FitR cs 38 32 ∧ FitR cs 42 24 ∧ FitR cs 45 24 ∧ FitR cs 46 24
/-- .. told of the object. -/
def FitO (o : Ob) : Prop := o.h.met.length * 32 ≤ 140737488351232 ∧ o.h.upol.length * 24 ≤ 140737488351232 ∧ o.h.dpol.length * 24 ≤ 140737488351232 ∧ o.h.past.length * 24 ≤ 140737488351232
theorem FitH.ob {W : World} {cs : Array Value} {o : Ob} (h : FitH cs) (hv : ObjV W cs o) : FitO o := by
  obtain ⟨hsz, _, _, _, _, _, hH⟩ := hv
  obtain ⟨_, _, _, ⟨q1, k1, e1, r1⟩, _, _, _, ⟨q2, k2, e2, r2⟩, _, _, ⟨q3, k3, e3, r3⟩, ⟨q4, k4, e4, r4⟩⟩ := hH
  exact ⟨h.1 _ _ _ e1, h.2.1 _ _ _ e2, h.2.2.1 _ _ _ e3, h.2.2.2 _ _ _ e4⟩
def okOb (W : World) (x : Obv) : Prop := ObjV W x.1.1 x.2 ∧ NilO x.1.1 ∧ FitsO x.2 ∧ I64 x.2.kind ∧ FitO x.2
theorem fit_leaf {H : Type} {enc : TypeId × Value → H} {W : World} {S E : TypeId} {n o b : Nat} {cs : List Value} {y : DataW H × List MemPlace} (hS : Try.prog.underlying S = some (.slice E)) (hb : Try.prog.bytesOf E = b)
    (h : DataW.trod enc Try.prog W 0 (fun _ => true) true n S ((cs.drop o).take 1) = some y) (wt : Wt S y.1) : ∀ q m c, cs[o]? = some (.slice q m c) → m * b ≤ 140737488351232 := by
  intro q m0 c0 hc
  rcases open_slice hS h with ⟨hcs, hx⟩ | ⟨a, len, cap, m, n', D, Pl, hcs, _, hl, hm, hmm, hx, hcell⟩
  · have := at1 hcs
    rw [hc] at this
    injection this with this
    injection this with _ e _
    rw [e]
    omega
  · have e0 := at1 hcs
    rw [hc] at e0
    injection e0 with e0
    injection e0 with _ e _
    have h1 := wt ((((List.range len).map D).length + ((List.range (m - len)).map fun j => D (len + j)).length) * Try.prog.bytesOf E) (by rw [hx, DataW.weights, hS]; exact List.mem_cons_self)
    rw [reach_eq, hb] at h1
    simp only [List.length_map, List.length_range] at h1
    rw [e]
    exact Nat.le_trans (Nat.mul_le_mul_right b (by omega)) h1
theorem open_fit {H : Type} {enc : TypeId × Value → H} {W : World} {cs : Array Value} {d : DataW H} {p : List MemPlace} {fuel : Nat}
    (hf : DataW.trod enc Try.prog W 0 (fun _ => true) true fuel 99 cs.toList = some (d, p)) (wt : Wt 99 d) : FitH cs := by
  obtain ⟨_, _, t4, z4⟩ := fld (F := 97) (off := 35) (k := 12) 7 Try.underlying99 (by kernel_rfl) hf wt
  obtain ⟨_, _, r38, z38⟩ := fld (F := 91) (off := 3) (k := 1) 3 Try.underlying97 (by kernel_rfl) t4 z4
  obtain ⟨_, _, tu, zu⟩ := fld (F := 94) (off := 5) (k := 3) 5 Try.underlying97 (by kernel_rfl) t4 z4
  obtain ⟨_, _, r42, z42⟩ := fld (F := 92) (off := 2) (k := 1) 2 Try.underlying94 (by kernel_rfl) tu zu
  obtain ⟨_, _, td, zd⟩ := fld (F := 94) (off := 8) (k := 3) 6 Try.underlying97 (by kernel_rfl) t4 z4
  obtain ⟨_, _, r45, z45⟩ := fld (F := 92) (off := 2) (k := 1) 2 Try.underlying94 (by kernel_rfl) td zd
  obtain ⟨_, _, r46, z46⟩ := fld (F := 95) (off := 11) (k := 1) 7 Try.underlying97 (by kernel_rfl) t4 z4
  refine ⟨fun q n c hc => ?_, fun q n c hc => ?_, fun q n c hc => ?_, fun q n c hc => ?_⟩
  · exact fit_leaf Try.underlying91 (by kernel_rfl) r38 z38 q n c (into (o := 35) (m := 12) (j := 3) (by decide) (by rw [Array.getElem?_toList]; exact hc))
  · exact fit_leaf Try.underlying92 (by kernel_rfl) r42 z42 q n c (into (o := 5) (m := 3) (j := 2) (by decide) (into (o := 35) (m := 12) (j := 7) (by decide) (by rw [Array.getElem?_toList]; exact hc)))
  · exact fit_leaf Try.underlying92 (by kernel_rfl) r45 z45 q n c (into (o := 8) (m := 3) (j := 2) (by decide) (into (o := 35) (m := 12) (j := 10) (by decide) (by rw [Array.getElem?_toList]; exact hc)))
  · exact fit_leaf Try.underlying95 (by kernel_rfl) r46 z46 q n c (into (o := 35) (m := 12) (j := 11) (by decide) (by rw [Array.getElem?_toList]; exact hc))
theorem open_rowK {α : Type} [Inhabited α] {H : Type} {enc : TypeId × Value → H} {W : World} {S E : TypeId} {k n o : Nat} (e : α → List Value) (ok : α → Prop) (hS : Try.prog.underlying S = some (.slice E)) (hk : Try.prog.cellsOf E = k) (h0 : 0 < k)
    (hb : 0 < Try.prog.bytesOf E) (each : ∀ n cs y, cs.length = k → DataW.trod enc Try.prog W 0 (fun _ => true) true n E cs = some y → Wt E y.1 → ∃ x, (∀ (t : Nat) (v : Value), (e x)[t]? = some v → cs[t]? = some v) ∧ ok x) {cs : List Value} {y : DataW H × List MemPlace} (h : DataW.trod enc Try.prog W 0 (fun _ => true) true n S ((cs.drop o).take 1) = some y) (wt : Wt S y.1) :
    ∃ l : List α, SlR k e W cs[o]? l ∧ (∀ x ∈ l, ok x) ∧ l.length ≤ 140737488351232 := by
  rcases open_slice hS h with ⟨hcs, hx⟩ | ⟨a, len, cap, m, n', D, Pl, hcs, _, hl, hm, hmm, hx, hcell⟩
  · exact ⟨[], ⟨none, 0, at1 hcs, RowR.nil _ _ _ _⟩, by simp, by simp⟩
  · simp only [if_true] at hmm
    have each2 : ∀ i, i < len → ∃ x : α, ∃ b off, a = ⟨b, off, none⟩ ∧ b < W.heap.size ∧ ok x ∧ ∀ (t : Nat) (u : Value), (e x)[t]? = some u → W.cell? ⟨b, off + i * k + t, none⟩ = some u := by
      intro i hi
      obtain ⟨c0, g1, g2⟩ := hcell 0 (by omega)
      rw [hk] at g1
      obtain ⟨l0, p0⟩ := cells_at g1
      obtain ⟨b, off, ha, hbl⟩ := spot_none' (by have := p0 0 (c0[0]'(by omega)) (List.getElem?_eq_getElem (by omega)); simpa [Addr.add] using this)
      subst ha
      obtain ⟨c1, g3, g4⟩ := hcell i (by omega)
      rw [hk] at g3
      obtain ⟨l1, p1⟩ := cells_at g3
      obtain ⟨x, hx1, hx2⟩ := each _ _ _ l1 g4 (fun n hn => wt n (by rw [hx, DataW.weights, hS]; exact List.mem_cons_of_mem _ (List.mem_append_left _ (wt_mem hi hn))))
      refine ⟨x, b, off, rfl, hbl, hx2, fun t u hu => ?_⟩
      have := p1 t u (hx1 t u hu)
      rw [add_none', add_none'] at this
      exact this
    obtain ⟨f, hf⟩ := choose_lt each2
    have hlen : len ≤ 140737488351232 := by
      have h1 := wt ((((List.range len).map D).length + ((List.range (m - len)).map fun j => D (len + j)).length) * Try.prog.bytesOf E) (by rw [hx, DataW.weights, hS]; exact List.mem_cons_self)
      rw [reach_eq] at h1
      simp only [List.length_map, List.length_range] at h1
      have h2 : len + (m - len) ≤ (len + (m - len)) * Try.prog.bytesOf E := Nat.le_mul_of_pos_right _ hb
      omega
    refine ⟨(List.range len).map f, ⟨some a, cap, by rw [at1 hcs]; simp, ?_⟩, ?_, by simp; exact hlen⟩
    · intro j x hj
      rw [List.getElem?_map, Option.map_eq_some_iff] at hj
      obtain ⟨i, hi, rfl⟩ := hj
      obtain ⟨hlt, rfl⟩ := List.getElem?_eq_some_iff.1 hi
      rw [List.getElem_range] at *
      obtain ⟨b, off, e, h1, _, h3⟩ := hf j (by simpa using hlt)
      exact ⟨b, off, by rw [e], h1, h3⟩
    · intro x hx
      obtain ⟨i, hi, rfl⟩ := List.mem_map.1 hx
      obtain ⟨b, off, e, h1, h2, h3⟩ := hf i (by simpa using hi)
      exact h2
theorem open_ob2 {H : Type} {enc : TypeId × Value → H} {W : World} {cs : Array Value} {d : DataW H} {p : List MemPlace} {fuel : Nat} (hs : cs.size = 47)
    (hf : DataW.trod enc Try.prog W 0 (fun _ => true) true fuel 99 cs.toList = some (d, p)) (wt : Wt 99 d) : ∃ o, ObjV W cs o ∧ FitsO o := by
  obtain ⟨nk, yk, tk, zk⟩ := fld (F := 3) (off := 0) (k := 1) 0 Try.underlying99 (by kernel_rfl) hf wt
  obtain ⟨k, a0, w0⟩ := leaf_i Try.underlying3 tk
  obtain ⟨ns, ys, ts, zs⟩ := fld (F := 9) (off := 1) (k := 1) 1 Try.underlying99 (by kernel_rfl) hf wt
  obtain ⟨s, a1, w1⟩ := leaf_s Try.underlying9 ts zs
  obtain ⟨nu, yu, tu, zu⟩ := fld (F := 61) (off := 2) (k := 1) 2 Try.underlying99 (by kernel_rfl) hf wt
  obtain ⟨u, a2, w2⟩ := leaf_u Try.underlying61 tu
  obtain ⟨nx0, yx0, tx0, zx0⟩ := fld (F := 84) (off := 3) (k := 7) 3 Try.underlying99 (by kernel_rfl) hf wt
  obtain ⟨x0, ⟨r0_0, r0_1, r0_2⟩, ⟨m0_0, m0_1, m0_2⟩, f0_0, f0_1, f0_2, f0_3, f0_4, f0_5, f0_6⟩ := open_wl tx0 zx0
  obtain ⟨nx1, yx1, tx1, zx1⟩ := fld (F := 86) (off := 10) (k := 10) 4 Try.underlying99 (by kernel_rfl) hf wt
  obtain ⟨x1, ⟨r1_0, r1_1, r1_2, r1_3, r1_4⟩, ⟨m1_0, m1_1, m1_2⟩, f1_0, f1_1, f1_2, f1_3, f1_4, f1_5, f1_6, f1_7, f1_8, f1_9⟩ := open_pd tx1 zx1
  obtain ⟨nx2, yx2, tx2, zx2⟩ := fld (F := 88) (off := 20) (k := 7) 5 Try.underlying99 (by kernel_rfl) hf wt
  obtain ⟨x2, ⟨r2_0, r2_1, r2_2⟩, ⟨m2_0, m2_1⟩, f2_0, f2_1, f2_2, f2_3, f2_4, f2_5, f2_6⟩ := open_nd tx2 zx2
  obtain ⟨nx3, yx3, tx3, zx3⟩ := fld (F := 90) (off := 27) (k := 8) 6 Try.underlying99 (by kernel_rfl) hf wt
  obtain ⟨x3, ⟨r3_0, r3_1⟩, ⟨m3_0, m3_1⟩, f3_0, f3_1, f3_2, f3_3, f3_4, f3_5, f3_6, f3_7⟩ := open_gp tx3 zx3
  obtain ⟨nx4, yx4, tx4, zx4⟩ := fld (F := 97) (off := 35) (k := 12) 7 Try.underlying99 (by kernel_rfl) hf wt
  obtain ⟨x4, ⟨r4_0, r4_1⟩, ⟨m4_0, m4_1, m4_2, m4_3⟩, f4_0, f4_1, f4_2, f4_3, f4_4, f4_5, f4_6, f4_7, f4_8, f4_9, f4_10, f4_11⟩ := open_hp tx4 zx4
  have e0 : cs[0]? = some (.int .i64 k) := by rw [← Array.getElem?_toList]; exact a0
  have e1 : cs[1]? = some (.string s) := by rw [← Array.getElem?_toList]; exact a1
  have e2 : cs[2]? = some (.int .u64 (u : Int)) := by rw [← Array.getElem?_toList]; exact a2
  exact ⟨⟨k, s, u, x0, x1, x2, x3, x4⟩, ⟨hs, ⟨e0, e1, e2, w2⟩, ⟨el_at f0_0, el_at f0_1, el_at f0_2, slr_at f0_3, slr_at f0_4, slr_at f0_5, el_at f0_6⟩, ⟨el_at f1_0, el_at f1_1, el_at f1_2, el_at f1_3, el_at f1_4, el_at f1_5, slr_at f1_6, slr_at f1_7, slr_at f1_8, el_at f1_9⟩, ⟨el_at f2_0, el_at f2_1, el_at f2_2, slr_at f2_3, slr_at f2_4, el_at f2_5, el_at f2_6⟩, ⟨el_at f3_0, el_at f3_1, el_at f3_2, el_at f3_3, el_at f3_4, slr_at f3_5, slr_at f3_6, el_at f3_7⟩, ⟨el_at f4_0, el_at f4_1, el_at f4_2, slr_at f4_3, el_at f4_4, el_at f4_5, el_at f4_6, slr_at f4_7, el_at f4_8, el_at f4_9, slr_at f4_10, slr_at f4_11⟩⟩, { name := w1, w_lab := List.all_eq_true.2 r0_0, w_sel := List.all_eq_true.2 r0_1, w_tol := List.all_eq_true.2 r0_2, w_lab_r := m0_0, w_sel_r := m0_1, w_tol_r := m0_2, p_own := r1_0, p_node := r1_1, p_lab := List.all_eq_true.2 r1_2, p_sel := List.all_eq_true.2 r1_3, p_tol := List.all_eq_true.2 r1_4, p_lab_r := m1_0, p_sel_r := m1_1, p_tol_r := m1_2, n_grp := r2_0, n_lab := List.all_eq_true.2 r2_1, n_tnt := List.all_eq_true.2 r2_2, n_lab_r := m2_0, n_tnt_r := m2_1, g_lab := List.all_eq_true.2 r3_0, g_tnt := List.all_eq_true.2 r3_1, g_lab_r := m3_0, g_tnt_r := m3_1, h_tg := r4_0, h_met := List.all_eq_true.2 r4_1, h_met_r := m4_0, h_upol_r := m4_1, h_dpol_r := m4_2, h_past_r := m4_3 }⟩
theorem open_one {H : Type} {enc : TypeId × Value → H} {W : World} {n : Nat} {cs : List Value} {y : DataW H × List MemPlace} (hl : cs.length = 47) (h : DataW.trod enc Try.prog W 0 (fun _ => true) true n 99 cs = some y) (wt : Wt 99 y.1) :
    ∃ x : Obv, (∀ (t : Nat) (v : Value), (encOb x)[t]? = some v → cs[t]? = some v) ∧ okOb W x := by
  obtain ⟨d, p⟩ := y
  have hs : cs.toArray.size = 47 := by simpa using hl
  obtain ⟨o, hv, F⟩ := open_ob2 (cs := cs.toArray) hs h wt
  have hn : NilO cs.toArray := open_nil (H := H) (enc := enc) (W := W) (d := d) (p := p) ⟨n, h⟩ wt
  obtain ⟨_, _, t3, z3⟩ := fld (F := 3) (off := 0) (k := 1) 0 Try.underlying99 (by kernel_rfl) h wt
  obtain ⟨ok, a3, w3⟩ := leaf_i Try.underlying3 t3
  refine ⟨⟨⟨cs.toArray, hs, objV_one hv⟩, o⟩, fun t v ht => ht, hv, hn, F, ?_, FitH.ob (open_fit (cs := cs.toArray) h wt) hv⟩
  have e2 : cs[0]? = some (.int .i64 o.kind) := by
    have := hv.2.1.1
    simpa using this
  rw [e2] at a3
  injection a3 with a3
  injection a3 with _ a3
  show I64 o.kind
  rw [a3]
  exact w3
theorem open_objs {H : Type} {enc : TypeId × Value → H} {W : World} {base : Nat} {v : Value} {d : DataW H} {p : List MemPlace} (ok : Value.okWide Try.prog W .any base 33 v)
    (h : DataW.Trod enc Try.prog W 0 (fun _ => true) true 33 v d p) (wt : Wt 33 d) : ∃ q c l, v = .slice q l.length c ∧ RowR 47 encOb W q l ∧ (∀ x ∈ l, okOb W x) ∧ l.length ≤ 140737488351232 := by
  obtain ⟨a0, len, cap, rfl⟩ := okWide_slice Try.underlying33 ok
  obtain ⟨fuel, hf⟩ := h
  have hf : DataW.trod enc Try.prog W 0 (fun _ => true) true fuel 33 (([Value.slice a0 len cap].drop 0).take 1) = some (d, p) := hf
  obtain ⟨l, ⟨q, c, h1, h2⟩, h3, h4⟩ := open_rowK (k := 47) encOb (okOb W) Try.underlying33 (by kernel_rfl) (by decide) (of_decide_eq_true (by kernel_rfl)) (fun n cs y hl h wt => open_one hl h wt) hf wt
  simp at h1
  obtain ⟨rfl, rfl, rfl⟩ := h1
  exact ⟨a0, cap, l, rfl, h2, h3, h4⟩
theorem rangeAt_obs {W : World} {b off : Nat} {l : List Obv} {j : Nat} {x : Obv} (h : RowR 47 encOb W (some ⟨b, off, none⟩) l) (hx : l[j]? = some x) : b < W.heap.size ∧ W.rangeAt b (off + j * 47) (encOb x) := by
  obtain ⟨b', off', e, h1, h2⟩ := h j x hx
  simp only [Option.some.injEq, Addr.mk.injEq] at e
  obtain ⟨rfl, rfl, _⟩ := e
  exact ⟨h1, fun t v hv => h2 t v hv⟩
theorem load_at {w : World} {g o : Nat} {x : Obv} (h : w.rangeAt g o (encOb x)) : (Instr.loadAt 99 (.pointer (some ⟨g, o, none⟩))).run Try.prog w = .ok (.agg x.1.1) w :=
  run_loadAt_mid (P := Try.prog) w g o 99 x.1.1.toList _ h Try.underlying99 rfl (by rw [Array.length_toList, x.1.2.1]; exact info_ob47)
end Go.Proofs.Ytajkhbdniadkkaa.Ow
