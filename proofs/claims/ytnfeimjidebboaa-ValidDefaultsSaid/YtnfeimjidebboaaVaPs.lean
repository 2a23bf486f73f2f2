/- An Hpa by itself: Shape. -/
import Derived.Test.YtnfeimjidebboaaVaP
namespace Go.Proofs.Ytnfeimjidebboaa
open Go.RowKit Go.Shelf Go.Lib Go.Sort Go.Deep
open Go.Joins (cell_of_block unfrozen_of_block block_setCell)
set_option linter.unusedVariables false
set_option linter.unusedSimpArgs false
set_option maxRecDepth 20000
def HpS (w : World) (H : Array Value) (x : Hp) : Prop := H.size = 12 ∧ H[0]? = some (.string x.tg) ∧ H[1]? = some (.int .i64 x.mn) ∧ H[2]? = some (.int .i64 x.mx) ∧ SlR 3 encM w H[3]? x.met ∧ H[4]? = some (.int .i64 x.tol) ∧ H[5]? = some (.int .i64 x.uw) ∧ H[6]? = some (.int .i64 x.up) ∧ SlR 3 encP w H[7]? x.upol ∧ H[8]? = some (.int .i64 x.dw) ∧ H[9]? = some (.int .i64 x.dp) ∧ SlR 3 encP w H[10]? x.dpol ∧ SlR 3 encS w H[11]? x.past
/-- Its rows are of a call's own. -/
def HpO (N : Nat) (w : World) (D : Array Value) (x : Hp) : Prop := OwnC N w 62 3 encM D 3 x.met ∧ OwnC N w 51 3 encP D 7 x.upol ∧ OwnC N w 51 3 encP D 10 x.dpol ∧ OwnC N w 65 3 encS D 11 x.past
def NilH (H : Array Value) : Prop := ∀ i n c, i ∈ ([3, 7, 10, 11] : List Nat) → H[i]? = some (.slice none n c) → c = 0
def fillH (x : Hp) : Hp := { x with upol := wayR x.upol x.up [dblP, fourP], dpol := wayR x.dpol x.dp [dblP] }
abbrev zerH : Array Value := #[.string { data := #[] }, .int .i64 0, .int .i64 0, .slice none 0 0, .int .i64 0, .int .i64 0, .int .i64 0, .slice none 0 0, .int .i64 0, .int .i64 0, .slice none 0 0, .slice none 0 0]
theorem info_hp : (Try.prog.info? 42).map (·.size) = some 12 := by kernel_rfl
theorem load_hp {w : World} {b : Nat} {cs : Array Value} {T : TypeId} {fz : Nat × Nat} (h : w.heap[b]? = some (.cells cs T fz)) (hs : cs.size = 12) :
    (Instr.loadAt 42 (.pointer (some ⟨b, 0, none⟩))).run Try.prog w = .ok (.agg cs) w := by
  have h1 := run_loadAt_mid (P := Try.prog) w b 0 42 cs.toList _ (rangeAt_block h) Try.underlying42 rfl (by rw [Array.length_toList, hs]; exact info_hp)
  simpa using h1
theorem hp_end {w0 w : World} {N : Nat} {H D : Array Value} {x : Hp} (hv : HpS w0 H x) (hs : D.size = H.size) (ho : ∀ i, i ∉ ([3, 7, 10, 11] : List Nat) → D[i]? = H[i]?) (r3 : OwnC N w 62 3 encM D 3 x.met) (r7 : OwnC N w 51 3 encP D 7 (wayR x.upol x.up [dblP, fourP])) (r10 : OwnC N w 51 3 encP D 10 (wayR x.dpol x.dp [dblP])) (r11 : OwnC N w 65 3 encS D 11 x.past) : HpS w D (fillH x) := by
  obtain ⟨hsz, c0, c1, c2, c3, c4, c5, c6, c7, c8, c9, c10, c11⟩ := hv
  exact ⟨hs.trans hsz, (ho 0 (by decide)).trans c0, (ho 1 (by decide)).trans c1, (ho 2 (by decide)).trans c2, r3.slr lenM, (ho 4 (by decide)).trans c4, (ho 5 (by decide)).trans c5, (ho 6 (by decide)).trans c6, r7.slr lenP, (ho 8 (by decide)).trans c8, (ho 9 (by decide)).trans c9, r10.slr lenP, r11.slr lenS⟩
theorem hp_one {w : World} {H : Array Value} {x : Hp} (hv : HpS w H x) : H.all (·.oneCell') = true := by
  obtain ⟨hsz, c0, c1, c2, c3, c4, c5, c6, c7, c8, c9, c10, c11⟩ := hv
  obtain ⟨q3, k3, e3, _⟩ := c3
  obtain ⟨q7, k7, e7, _⟩ := c7
  obtain ⟨q10, k10, e10, _⟩ := c10
  obtain ⟨q11, k11, e11, _⟩ := c11
  rw [Array.all_eq_true]
  intro i hi
  have h12 : i = 0 ∨ i = 1 ∨ i = 2 ∨ i = 3 ∨ i = 4 ∨ i = 5 ∨ i = 6 ∨ i = 7 ∨ i = 8 ∨ i = 9 ∨ i = 10 ∨ i = 11 := by omega
  have key : ∀ v, H[i]? = some v → v.oneCell' = true → (H[i]'hi).oneCell' = true := fun v hv h1 => by
    rw [Array.getElem?_eq_getElem hi] at hv
    cases hv
    exact h1
  rcases h12 with rfl | rfl | rfl | rfl | rfl | rfl | rfl | rfl | rfl | rfl | rfl | rfl
  · exact key _ c0 rfl
  · exact key _ c1 rfl
  · exact key _ c2 rfl
  · exact key _ e3 rfl
  · exact key _ c4 rfl
  · exact key _ c5 rfl
  · exact key _ c6 rfl
  · exact key _ e7 rfl
  · exact key _ c8 rfl
  · exact key _ c9 rfl
  · exact key _ e10 rfl
  · exact key _ e11 rfl
set_option maxHeartbeats 8000000 in
theorem shape_any (w0 : World) (H0 : Array Value) (x : Hp) (hv : HpS w0 H0 x) (hn : NilH H0) (hs : x.met.length ≤ 1000 ∧ x.upol.length ≤ 1000 ∧ x.dpol.length ≤ 1000 ∧ x.past.length ≤ 1000) :
    Calls Try.prog 12 #[.agg H0] w0 fun e w' => (∃ D, e = .returned (.agg D) ∧ HpS w' D (fillH x) ∧ HpO w0.heap.size w' D (fillH x)) ∧ Below w0.heap.size w0 w' := by
  have mixed : Try.prog.follows .mixedOrders = true := by kernel_rfl
  obtain ⟨B, hB⟩ : ∃ B, B = w0.heap.size := ⟨_, rfl⟩
  obtain ⟨w, hw⟩ : ∃ W, W = (w0.alloc (.cells H0 42)).alloc (.cells zerH 42) := ⟨_, rfl⟩
  have G0 : Gr w0 w := hw ▸ ((Gr.refl w0).alloc _).alloc _
  have b0 : w.heap[B]? = some (.cells H0 42 (0, 0)) := by
    rw [hw, hB, ((Gr.refl (w0.alloc (.cells H0 42))).alloc _).heap (by simp)]
    exact heap_alloc_new w0 _
  have b1 : w.heap[B + 1]? = some (.cells zerH 42 (0, 0)) := by
    rw [hw, hB]
    have := heap_alloc_new (w0.alloc (.cells H0 42)) (.cells zerH 42)
    simpa using this
  have hws : w.heap.size = B + 2 := by rw [hw, hB]; simp
  have hv0 := hv
  obtain ⟨hsz, c0, c1, c2, c3, c4, c5, c6, c7, c8, c9, c10, c11⟩ := hv0
  have CH := Lib.hid (hpa_sh w0 w B H0 x (by omega) G0.below b0 (c3.at (fun n c => hn 3 n c (by decide)) (by decide) hs.1) (c7.at (fun n c => hn 7 n c (by decide)) (by decide) hs.2.1) (c10.at (fun n c => hn 10 n c (by decide)) (by decide) hs.2.2.1) (c11.at (fun n c => hn 11 n c (by decide)) (by decide) hs.2.2.2))
  have HW := Lib.hid (And.intro hw (And.intro hB (And.intro hws (And.intro b1 (And.intro G0 (And.intro hv (And.intro hs (And.intro c6 c9))))))))
  clear hv hn hs hw hB hws b0 b1 G0 c0 c1 c2 c3 c4 c5 c6 c7 c8 c9 c10 c11 hsz
  go_enter Try.func12, Try.ntmps12
  go_upto_region 1 with fail
  rw [← HW.out.1, ← HW.out.2.1]
  go_wp2_with fail
  refine CH.out.mono ?_
  rintro e n ⟨rfl, ⟨D, g1, g2, g3, p3, p7, p10, p11⟩, xx⟩
  obtain ⟨hw, hB, hws, b1, G0, hv, hs, c6, c9⟩ := HW.out
  have CF := Lib.hid (fill_sh n B (B + 2) D x (by omega) (by have := xx.size; omega) g1 ((g3 6 (by decide)).trans c6) ((g3 9 (by decide)).trans c9) (p7.less (by omega)) (p10.less (by omega)) hs.2.1 hs.2.2.1)
  have HX := Lib.hid (And.intro g2 (And.intro g3 (And.intro p3 (And.intro p11 xx))))
  clear hw hB hws b1 G0 hv hs c6 c9 g1 g2 g3 p3 p7 p10 p11 xx CH
  go_wp2_with fail
  refine CF.out.mono ?_
  rintro e m ⟨rfl, ⟨E, k1, k2, k3, r7, r10⟩, yy⟩
  obtain ⟨hw, hB, hws, b1, G0, hv, hs, c6, c9⟩ := HW.out
  obtain ⟨g2, g3, p3, p11, xx⟩ := HX.out
  have kp : ∀ g, B + 2 ≤ g → g < n.heap.size → m.heap[g]? = n.heap[g]? := fun g h1 h2 => yy.block g h2 (by omega)
  have q3 := (p3.less (M := B + 2) (by omega)).keep kp (k3 3 (by decide))
  have q11 := (p11.less (M := B + 2) (by omega)).keep kp (k3 11 (by decide))
  have ho : ∀ i, i ∉ ([3, 7, 10, 11] : List Nat) → E[i]? = H0[i]? := fun i hi => (k3 i (fun h => hi (by revert h; simp only [List.mem_cons, List.not_mem_nil, or_false]; omega))).trans (g3 i hi)
  have hE : E.size = H0.size := k2.trans g2
  have hz : E.size = 12 := hE.trans hv.1
  have v : HpS m E (fillH x) := hp_end hv hE ho q3 r7 r10 q11
  have XX := xx.trans yy
  have mb1 : m.heap[B + 1]? = some (.cells zerH 42 (0, 0)) := (XX.block (B + 1) (by omega) (by omega)).trans b1
  have EL := Lib.hid (load_hp k1 hz)
  have ET : Hid (m.there (B + 1) 0 E.size) := by
    intro j hj
    rw [Nat.zero_add, cell_of_block mb1, unfrozen_of_block mb1]
    refine ⟨?_, rfl⟩
    have hzz : (zerH : Array Value).size = 12 := rfl
    rw [Array.getElem?_eq_getElem (by omega)]
    rfl
  have EI : Hid ((Try.prog.info? 42).map (·.size) = some E.size) := by show _ = _; rw [hz]; exact info_hp
  have EO := Lib.hid (hp_one v)
  have EB : Hid ((m.setCells (B + 1) 0 E.toList).heap[B + 1]? = some (.cells E 42 (0, 0))) := by
    show _ = _
    rw [setCells_block _ _ _ _ _ _ _ mb1, setAt_full (by rw [hz]; rfl)]
  have EF : Hid ((∃ D', Ending.returned (.agg E) = .returned (.agg D') ∧ HpS (m.setCells (B + 1) 0 E.toList) D' (fillH x) ∧ HpO w0.heap.size (m.setCells (B + 1) 0 E.toList) D' (fillH x)) ∧ Below w0.heap.size w0 (m.setCells (B + 1) 0 E.toList)) := by
    have kk : ∀ g, B + 2 ≤ g → g < m.heap.size → (m.setCells (B + 1) 0 E.toList).heap[g]? = m.heap[g]? := fun g h1 h2 => setCells_out _ _ _ _ _ (by omega)
    refine ⟨⟨E, rfl, hp_end hv hE ho (q3.keep kk rfl) (r7.keep kk rfl) (r10.keep kk rfl) (q11.keep kk rfl), (q3.keep kk rfl).less (by omega), (r7.keep kk rfl).less (by omega), (r10.keep kk rfl).less (by omega), (q11.keep kk rfl).less (by omega)⟩, ?_⟩
    have hx := (Xb.ofGr G0 B |>.trans XX).below (N := w0.heap.size) (by omega) (Nat.le_refl _)
    obtain ⟨r1, r2, r3⟩ := setCells_rest E.toList m (B + 1) 0
    exact ⟨r1.trans hx.os, r2.trans hx.tape, r3.trans hx.output, by rw [setCells_size]; exact hx.size, fun k hk => by rw [setCells_out _ _ _ _ _ (by omega)]; exact hx.block k hk⟩
  clear hw hB hws b1 G0 hv hs c6 c9 g2 g3 p3 p11 xx kp q3 q11 ho hE hz v XX mb1 k1 k2 k3 r7 r10 yy CF HX
  go_wp2_with (first | (refine wpList_load_by (by kernel_rfl) 42 _ rfl (.pointer (some ⟨B, 0, none⟩)) (.agg E) (by kernel_rfl) EL.out ?_) | (refine wpList_store_mid rfl _ _ _ rfl (B + 1) 0 E (by rfl) (by rfl) ET.out EI.out EO.out ?_))
  refine bodyPost_ret (results_cell_row rfl _ _ (B + 1) 42 E (0, 0) _ (by rfl) EB.out Try.underlying42 rfl EI.out) rfl ?_
  exact EF.out
end Go.Proofs.Ytnfeimjidebboaa
