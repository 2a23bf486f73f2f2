/- The document's Empty, of objects whose shapes of other kinds are of zeros. -/
import Derived.Test.YtlajiochpdlhaaaOctEa
import Derived.Test.YtlajiochpdlhaaaOctUi
import Derived.BigRegion
import Derived.Deep.DeepCutAuto
import Derived.Deep.CutRange
import Derived.Deep.Light
namespace Go.Proofs.Ytlajiochpdlhaaa
open Go.RowKit Go.Shelf Go.Lib Go.Sort
set_option linter.unusedVariables false
set_option linter.unusedSimpArgs false
set_option maxRecDepth 20000

/-- Taken first, with the place that it writes told. -/
theorem wpAnyH_takeD {P : Program} {ops : Array Oper} {Q : Exit → Act → World → Prop} {md : Region.Mode} {S : World → Prop} {i : Nat} {d : Tmp} {v : Value} {fuel : Nat} {listed : Array Bool} {a : Act} {w : World} (oi : Oper) (hi : ops[i]? = some oi) (hd : oi.dst = some d)
    (hs : Region.noSelect ops = true) (hf : Region.free md ops listed i = true) (hr : (Region.ready md ops listed).contains i = true)
    (hQ : ∀ c a w, Q (.panic c) (a.put oi.dst v) w → Q (.panic c) a w) (hy : YieldsIf P ops S oi v a) (hS : S w)
    (h : wpAnyH P md ops Q S fuel (listed.setIfInBounds i true) (a.put (some d) v) w) : wpAnyH P md ops Q S (fuel + 1) listed a w :=
  wpAnyH_take hi hs hf hr hQ hy hS (by rw [hd]; exact h)

theorem rows_short {ob : Ob} (hk : 0 ≤ ob.kind ∧ ob.kind ≤ 4) (ho : okO ob = true) (hz : OthZ ob) : ob.w.lab.length ≤ 1000 ∧ ob.w.sel.length ≤ 1000 ∧ ob.w.tol.length ≤ 1000 ∧ ob.p.lab.length ≤ 1000 ∧ ob.p.sel.length ≤ 1000 ∧ ob.p.tol.length ≤ 1000 ∧ ob.n.lab.length ≤ 1000 ∧ ob.n.tnt.length ≤ 1000 ∧ ob.g.lab.length ≤ 1000 ∧ ob.g.tnt.length ≤ 1000 ∧ ob.h.met.length ≤ 1000 ∧ ob.h.upol.length ≤ 1000 ∧ ob.h.dpol.length ≤ 1000 ∧ ob.h.past.length ≤ 1000 := by
  obtain ⟨z0, z1, z2, z3, z4⟩ := hz
  simp only [okO, Bool.and_eq_true] at ho
  have hs := ho.2
  unfold okS at hs
  have h : ob.kind = 0 ∨ ob.kind = 1 ∨ ob.kind = 2 ∨ ob.kind = 3 ∨ ob.kind = 4 := by omega
  rcases h with h | h | h | h | h
  · have s : okW ob.w = true := by simpa [h] using hs
    simp only [okW, Bool.and_eq_true, okRow_iff, decide_eq_true_eq] at s
    obtain ⟨⟨⟨_, g0⟩, ⟨_, g1⟩⟩, ⟨_, g2⟩⟩ := s
    have y1 := z1 (by omega)
    have y2 := z2 (by omega)
    have y3 := z3 (by omega)
    have y4 := z4 (by omega)
    exact ⟨by omega, by omega, by omega, by rw [y1]; decide, by rw [y1]; decide, by rw [y1]; decide, by rw [y2]; decide, by rw [y2]; decide, by rw [y3]; decide, by rw [y3]; decide, by rw [y4]; decide, by rw [y4]; decide, by rw [y4]; decide, by rw [y4]; decide⟩
  · have s : okP ob.p = true := by simpa [h] using hs
    simp only [okP, Bool.and_eq_true, okRow_iff, decide_eq_true_eq] at s
    obtain ⟨⟨⟨⟨_, _⟩, ⟨_, g0⟩⟩, ⟨_, g1⟩⟩, ⟨_, g2⟩⟩ := s
    have y0 := z0 (by omega)
    have y2 := z2 (by omega)
    have y3 := z3 (by omega)
    have y4 := z4 (by omega)
    exact ⟨by rw [y0]; decide, by rw [y0]; decide, by rw [y0]; decide, by omega, by omega, by omega, by rw [y2]; decide, by rw [y2]; decide, by rw [y3]; decide, by rw [y3]; decide, by rw [y4]; decide, by rw [y4]; decide, by rw [y4]; decide, by rw [y4]; decide⟩
  · have s : okN ob.n = true := by simpa [h] using hs
    simp only [okN, Bool.and_eq_true, okRow_iff, decide_eq_true_eq] at s
    obtain ⟨⟨_, ⟨_, g0⟩⟩, ⟨_, g1⟩⟩ := s
    have y0 := z0 (by omega)
    have y1 := z1 (by omega)
    have y3 := z3 (by omega)
    have y4 := z4 (by omega)
    exact ⟨by rw [y0]; decide, by rw [y0]; decide, by rw [y0]; decide, by rw [y1]; decide, by rw [y1]; decide, by rw [y1]; decide, by omega, by omega, by rw [y3]; decide, by rw [y3]; decide, by rw [y4]; decide, by rw [y4]; decide, by rw [y4]; decide, by rw [y4]; decide⟩
  · have s : okG ob.g = true := by simpa [h] using hs
    simp only [okG, Bool.and_eq_true, okRow_iff, decide_eq_true_eq] at s
    obtain ⟨⟨_, g0⟩, ⟨_, g1⟩⟩ := s
    have y0 := z0 (by omega)
    have y1 := z1 (by omega)
    have y2 := z2 (by omega)
    have y4 := z4 (by omega)
    exact ⟨by rw [y0]; decide, by rw [y0]; decide, by rw [y0]; decide, by rw [y1]; decide, by rw [y1]; decide, by rw [y1]; decide, by rw [y2]; decide, by rw [y2]; decide, by omega, by omega, by rw [y4]; decide, by rw [y4]; decide, by rw [y4]; decide, by rw [y4]; decide⟩
  · have s : okH ob.h = true := by simpa [h] using hs
    simp only [okH, Bool.and_eq_true, okRow_iff, decide_eq_true_eq] at s
    obtain ⟨⟨⟨⟨⟨_, _⟩, g0⟩, g3⟩, g1⟩, g2⟩ := s
    have y0 := z0 (by omega)
    have y1 := z1 (by omega)
    have y2 := z2 (by omega)
    have y3 := z3 (by omega)
    exact ⟨by rw [y0]; decide, by rw [y0]; decide, by rw [y0]; decide, by rw [y1]; decide, by rw [y1]; decide, by rw [y1]; decide, by rw [y2]; decide, by rw [y2]; decide, by rw [y3]; decide, by rw [y3]; decide, by omega, by omega, by omega, by omega⟩

set_option maxHeartbeats 16000000 in
theorem rempty_any (w : World) (cs : Array Value) (ob : Ob) (hv : ObjV w cs ob) (hk : 0 ≤ ob.kind ∧ ob.kind ≤ 4) (ho : okO ob = true) (hz : OthZ ob) :
    Calls Try.prog 28 #[.agg cs] w fun e w' => e = .returned (.bool true) ∧ Gr w w' := by
  have mixed : Try.prog.follows .mixedOrders = true := by kernel_rfl
  have hrs := rows_short hk ho hz
  obtain ⟨kk, name, ver, W, P, N, G, H⟩ := ob
  obtain ⟨hsz, ⟨c0, c1, c2, hver⟩, hW, hP, hN, hG, hH⟩ := hv
  obtain ⟨z0, z1, z2, z3, z4⟩ := hz
  clear ho
  obtain ⟨v3, v4, v5, l6, l7, l8, v9⟩ := W
  obtain ⟨v10, v11, v12, v13, v14, v15, l16, l17, l18, v19⟩ := P
  obtain ⟨v20, v21, v22, l23, l24, v25, v26⟩ := N
  obtain ⟨v27, v28, v29, v30, v31, l32, l33, v34⟩ := G
  obtain ⟨v35, v36, v37, l38, v39, v40, v41, l42, v43, v44, l45, l46⟩ := H
  obtain ⟨c3, c4, c5, ⟨q6, k6, c6, r6⟩, ⟨q7, k7, c7, r7⟩, ⟨q8, k8, c8, r8⟩, c9⟩ := hW
  obtain ⟨c10, c11, c12, c13, c14, c15, ⟨q16, k16, c16, r16⟩, ⟨q17, k17, c17, r17⟩, ⟨q18, k18, c18, r18⟩, c19⟩ := hP
  obtain ⟨c20, c21, c22, ⟨q23, k23, c23, r23⟩, ⟨q24, k24, c24, r24⟩, c25, c26⟩ := hN
  obtain ⟨c27, c28, c29, c30, c31, ⟨q32, k32, c32, r32⟩, ⟨q33, k33, c33, r33⟩, c34⟩ := hG
  obtain ⟨c35, c36, c37, ⟨q38, k38, c38, r38⟩, c39, c40, c41, ⟨q42, k42, c42, r42⟩, c43, c44, ⟨q45, k45, c45, r45⟩, ⟨q46, k46, c46, r46⟩⟩ := hH
  dsimp only at *
  obtain ⟨b6, b7, b8, b16, b17, b18, b23, b24, b32, b33, b38, b42, b45, b46⟩ := hrs
  have Z0 : kk ≠ 0 → (v3 = 0) ∧ (v4 = 0 ∧ v5 = 0) ∧ (l6.length = 0 ∧ l7.length = 0 ∧ l8.length = 0) ∧ (v9 = 0) := fun h => by
    have e := z0 h
    exact ⟨congrArg Wl.rep e, ⟨congrArg Wl.cpu e, congrArg Wl.mem e⟩, ⟨congrArg (fun x => x.lab.length) e, congrArg (fun x => x.sel.length) e, congrArg (fun x => x.tol.length) e⟩, congrArg Wl.warm e⟩
  have Z1 : kk ≠ 1 → (v10 = ⟨#[]⟩) ∧ (v11 = ⟨#[]⟩) ∧ (v12 = 0) ∧ (v13 = 0) ∧ (v14 = 0 ∧ v15 = 0) ∧ (l16.length = 0 ∧ l17.length = 0 ∧ l18.length = 0) ∧ (v19 = 0) := fun h => by
    have e := z1 h
    exact ⟨congrArg Pd.own e, congrArg Pd.node e, congrArg Pd.ph e, congrArg Pd.since e, ⟨congrArg Pd.cpu e, congrArg Pd.mem e⟩, ⟨congrArg (fun x => x.lab.length) e, congrArg (fun x => x.sel.length) e, congrArg (fun x => x.tol.length) e⟩, congrArg Pd.warm e⟩
  have Z2 : kk ≠ 2 → (v20 = ⟨#[]⟩) ∧ (v21 = 0 ∧ v22 = 0) ∧ (l23.length = 0 ∧ l24.length = 0) ∧ (v25 = 0) ∧ (v26 = false) := fun h => by
    have e := z2 h
    exact ⟨congrArg Nd.grp e, ⟨congrArg Nd.cpu e, congrArg Nd.mem e⟩, ⟨congrArg (fun x => x.lab.length) e, congrArg (fun x => x.tnt.length) e⟩, congrArg Nd.since e, congrArg Nd.closed e⟩
  have Z3 : kk ≠ 3 → (v27 = 0) ∧ (v28 = 0) ∧ (v29 = 0) ∧ (v30 = 0 ∧ v31 = 0) ∧ (l32.length = 0 ∧ l33.length = 0) ∧ (v34 = 0) := fun h => by
    have e := z3 h
    exact ⟨congrArg Gp.mn e, congrArg Gp.mx e, congrArg Gp.tg e, ⟨congrArg Gp.cpu e, congrArg Gp.mem e⟩, ⟨congrArg (fun x => x.lab.length) e, congrArg (fun x => x.tnt.length) e⟩, congrArg Gp.prio e⟩
  have Z4 : kk ≠ 4 → (v35 = ⟨#[]⟩) ∧ (v36 = 0) ∧ (v37 = 0) ∧ (l38.length = 0 ∧ l46.length = 0) ∧ (v39 = 0) ∧ (v40 = 0) ∧ (v41 = 0) ∧ (l42.length = 0) ∧ (v43 = 0) ∧ (v44 = 0) ∧ (l45.length = 0) := fun h => by
    have e := z4 h
    exact ⟨congrArg Hp.tg e, congrArg Hp.mn e, congrArg Hp.mx e, ⟨congrArg (fun x => x.met.length) e, congrArg (fun x => x.past.length) e⟩, congrArg Hp.tol e, congrArg Hp.uw e, congrArg Hp.up e, congrArg (fun x => x.upol.length) e, congrArg Hp.dw e, congrArg Hp.dp e, congrArg (fun x => x.dpol.length) e⟩
  generalize l6.length = n6 at *
  generalize l7.length = n7 at *
  generalize l8.length = n8 at *
  generalize l16.length = n16 at *
  generalize l17.length = n17 at *
  generalize l18.length = n18 at *
  generalize l23.length = n23 at *
  generalize l24.length = n24 at *
  generalize l32.length = n32 at *
  generalize l33.length = n33 at *
  generalize l38.length = n38 at *
  generalize l42.length = n42 at *
  generalize l45.length = n45 at *
  generalize l46.length = n46 at *
  clear c1 c2 hver z0 z1 z2 z3 z4 r6 r7 r8 r16 r17 r18 r23 r24 r32 r33 r38 r42 r45 r46
  have ZZ0 := Lib.hid Z0
  have ZZ1 := Lib.hid Z1
  have ZZ2 := Lib.hid Z2
  have ZZ3 := Lib.hid Z3
  have ZZ4 := Lib.hid Z4
  clear Z0 Z1 Z2 Z3 Z4
  have HK := Lib.hid hk
  clear hk
  obtain ⟨B, hB⟩ : ∃ B, B = w.heap.size := ⟨_, rfl⟩
  obtain ⟨wb, hwb⟩ : ∃ wb, wb = w.alloc (.cells cs 66) := ⟨_, rfl⟩
  have GB : Gr w wb := hwb ▸ (Gr.refl w).alloc _
  have hz : B < wb.heap.size := by rw [hwb, hB]; simp
  have d0 : wb.cell? ⟨B, 0, none⟩ = some (.int .i64 kk) := by rw [hwb, hB]; simp [c0]
  obtain ⟨L0, hL0⟩ : ∃ L : List Value, L = [.int .i64 v3, .int .i64 v4, .int .i64 v5, .slice q6 n6 k6, .slice q7 n7 k7, .slice q8 n8 k8, .int .i64 v9] := ⟨_, rfl⟩
  have r0 : wb.rangeAt B 3 L0 := by rw [hwb, hB, hL0]; exact Rg.laid (Rg.cons c3 (Rg.cons c4 (Rg.cons c5 (Rg.cons c6 (Rg.cons c7 (Rg.cons c8 (Rg.cons c9 (Rg.nil _ _)))))))) w _
  obtain ⟨L1, hL1⟩ : ∃ L : List Value, L = [.string v10, .string v11, .int .i64 v12, .int .i64 v13, .int .i64 v14, .int .i64 v15, .slice q16 n16 k16, .slice q17 n17 k17, .slice q18 n18 k18, .int .i64 v19] := ⟨_, rfl⟩
  have r1 : wb.rangeAt B 10 L1 := by rw [hwb, hB, hL1]; exact Rg.laid (Rg.cons c10 (Rg.cons c11 (Rg.cons c12 (Rg.cons c13 (Rg.cons c14 (Rg.cons c15 (Rg.cons c16 (Rg.cons c17 (Rg.cons c18 (Rg.cons c19 (Rg.nil _ _))))))))))) w _
  obtain ⟨L2, hL2⟩ : ∃ L : List Value, L = [.string v20, .int .i64 v21, .int .i64 v22, .slice q23 n23 k23, .slice q24 n24 k24, .int .i64 v25, .bool v26] := ⟨_, rfl⟩
  have r2 : wb.rangeAt B 20 L2 := by rw [hwb, hB, hL2]; exact Rg.laid (Rg.cons c20 (Rg.cons c21 (Rg.cons c22 (Rg.cons c23 (Rg.cons c24 (Rg.cons c25 (Rg.cons c26 (Rg.nil _ _)))))))) w _
  obtain ⟨L3, hL3⟩ : ∃ L : List Value, L = [.int .i64 v27, .int .i64 v28, .int .i64 v29, .int .i64 v30, .int .i64 v31, .slice q32 n32 k32, .slice q33 n33 k33, .int .i64 v34] := ⟨_, rfl⟩
  have r3 : wb.rangeAt B 27 L3 := by rw [hwb, hB, hL3]; exact Rg.laid (Rg.cons c27 (Rg.cons c28 (Rg.cons c29 (Rg.cons c30 (Rg.cons c31 (Rg.cons c32 (Rg.cons c33 (Rg.cons c34 (Rg.nil _ _))))))))) w _
  obtain ⟨L4, hL4⟩ : ∃ L : List Value, L = [.string v35, .int .i64 v36, .int .i64 v37, .slice q38 n38 k38, .int .i64 v39, .int .i64 v40, .int .i64 v41, .slice q42 n42 k42, .int .i64 v43, .int .i64 v44, .slice q45 n45 k45, .slice q46 n46 k46] := ⟨_, rfl⟩
  have r4 : wb.rangeAt B 35 L4 := by rw [hwb, hB, hL4]; exact Rg.laid (Rg.cons c35 (Rg.cons c36 (Rg.cons c37 (Rg.cons c38 (Rg.cons c39 (Rg.cons c40 (Rg.cons c41 (Rg.cons c42 (Rg.cons c43 (Rg.cons c44 (Rg.cons c45 (Rg.cons c46 (Rg.nil _ _))))))))))))) w _
  have HL := Lib.hid (And.intro hL0 (And.intro hL1 (And.intro hL2 (And.intro hL3 hL4))))
  have l0 : L0.length = 7 := by rw [hL0]; rfl
  have o0 : Ones L0 := by rw [hL0]; exact (Ones.cons rfl (Ones.cons rfl (Ones.cons rfl (Ones.cons rfl (Ones.cons rfl (Ones.cons rfl (Ones.cons rfl Ones.nil)))))))
  have l1 : L1.length = 10 := by rw [hL1]; rfl
  have o1 : Ones L1 := by rw [hL1]; exact (Ones.cons rfl (Ones.cons rfl (Ones.cons rfl (Ones.cons rfl (Ones.cons rfl (Ones.cons rfl (Ones.cons rfl (Ones.cons rfl (Ones.cons rfl (Ones.cons rfl Ones.nil))))))))))
  have l2 : L2.length = 7 := by rw [hL2]; rfl
  have o2 : Ones L2 := by rw [hL2]; exact (Ones.cons rfl (Ones.cons rfl (Ones.cons rfl (Ones.cons rfl (Ones.cons rfl (Ones.cons rfl (Ones.cons rfl Ones.nil)))))))
  have l3 : L3.length = 8 := by rw [hL3]; rfl
  have o3 : Ones L3 := by rw [hL3]; exact (Ones.cons rfl (Ones.cons rfl (Ones.cons rfl (Ones.cons rfl (Ones.cons rfl (Ones.cons rfl (Ones.cons rfl (Ones.cons rfl Ones.nil))))))))
  have l4 : L4.length = 12 := by rw [hL4]; rfl
  have o4 : Ones L4 := by rw [hL4]; exact (Ones.cons rfl (Ones.cons rfl (Ones.cons rfl (Ones.cons rfl (Ones.cons rfl (Ones.cons rfl (Ones.cons rfl (Ones.cons rfl (Ones.cons rfl (Ones.cons rfl (Ones.cons rfl (Ones.cons rfl Ones.nil))))))))))))
  have HW := Lib.hid (And.intro hwb hB)
  have GB0 := Lib.hid GB
  clear GB hwb hB hsz hL0 hL1 hL2 hL3 hL4 c0 c3 c4 c5 c6 c7 c8 c9 c10 c11 c12 c13 c14 c15 c16 c17 c18 c19 c20 c21 c22 c23 c24 c25 c26 c27 c28 c29 c30 c31 c32 c33 c34 c35 c36 c37 c38 c39 c40 c41 c42 c43 c44 c45 c46
  have H0 := Lib.hid (And.intro d0 hz)
  have HR := Lib.hid (And.intro r0 (And.intro r1 (And.intro r2 (And.intro r3 r4))))
  clear d0 hz r0 r1 r2 r3 r4
  go_enter Try.func28, Try.ntmps28
  go_wp2_with fail
  rw [← HW.out.1, ← HW.out.2]
  refine wp_region_held_drew (S := fun w' => Bd wb.heap.size wb w') mixed (Bd.refl _ wb).drew (fun hHeld => ?_)
  refine wpAnyH_takeD (i := 0) (d := 13) (v := .pointer (some ⟨B, 3, none⟩)) _ rfl rfl (by kernel_rfl) (by kernel_rfl) (by kernel_rfl) (fun _ _ _ h => h) (Or.inl ⟨by kernel_rfl, fun ws hSw => by go_simp⟩) hHeld ?_
  simp only [Act.put, List.setIfInBounds_toArray, List.set_cons_zero, List.set_cons_succ]
  refine wpAnyH_takeD (i := 1) (d := 14) (v := .agg L0.toArray) _ rfl rfl (by kernel_rfl) (by kernel_rfl) (by kernel_rfl) (fun _ _ _ h => h) (yieldsIf_load_mid (by kernel_rfl) _ _ rfl B 3 (by kernel_rfl) L0 _ (fun ws hSw => rangeAt_below HR.out.1 hSw.below H0.out.2) Try.underlying51 rfl (by rw [l0]; kernel_rfl)) hHeld ?_
  simp only [Act.put, List.setIfInBounds_toArray, List.set_cons_zero, List.set_cons_succ]
  refine wpAnyH_takeD (i := 2) (d := 15) (v := .pointer (some ⟨B, 10, none⟩)) _ rfl rfl (by kernel_rfl) (by kernel_rfl) (by kernel_rfl) (fun _ _ _ h => h) (Or.inl ⟨by kernel_rfl, fun ws hSw => by go_simp⟩) hHeld ?_
  simp only [Act.put, List.setIfInBounds_toArray, List.set_cons_zero, List.set_cons_succ]
  refine wpAnyH_takeD (i := 3) (d := 16) (v := .agg L1.toArray) _ rfl rfl (by kernel_rfl) (by kernel_rfl) (by kernel_rfl) (fun _ _ _ h => h) (yieldsIf_load_mid (by kernel_rfl) _ _ rfl B 10 (by kernel_rfl) L1 _ (fun ws hSw => rangeAt_below HR.out.2.1 hSw.below H0.out.2) Try.underlying53 rfl (by rw [l1]; kernel_rfl)) hHeld ?_
  simp only [Act.put, List.setIfInBounds_toArray, List.set_cons_zero, List.set_cons_succ]
  refine wpAnyH_takeD (i := 4) (d := 17) (v := .pointer (some ⟨B, 20, none⟩)) _ rfl rfl (by kernel_rfl) (by kernel_rfl) (by kernel_rfl) (fun _ _ _ h => h) (Or.inl ⟨by kernel_rfl, fun ws hSw => by go_simp⟩) hHeld ?_
  simp only [Act.put, List.setIfInBounds_toArray, List.set_cons_zero, List.set_cons_succ]
  refine wpAnyH_takeD (i := 5) (d := 18) (v := .agg L2.toArray) _ rfl rfl (by kernel_rfl) (by kernel_rfl) (by kernel_rfl) (fun _ _ _ h => h) (yieldsIf_load_mid (by kernel_rfl) _ _ rfl B 20 (by kernel_rfl) L2 _ (fun ws hSw => rangeAt_below HR.out.2.2.1 hSw.below H0.out.2) Try.underlying55 rfl (by rw [l2]; kernel_rfl)) hHeld ?_
  simp only [Act.put, List.setIfInBounds_toArray, List.set_cons_zero, List.set_cons_succ]
  refine wpAnyH_takeD (i := 6) (d := 19) (v := .pointer (some ⟨B, 27, none⟩)) _ rfl rfl (by kernel_rfl) (by kernel_rfl) (by kernel_rfl) (fun _ _ _ h => h) (Or.inl ⟨by kernel_rfl, fun ws hSw => by go_simp⟩) hHeld ?_
  simp only [Act.put, List.setIfInBounds_toArray, List.set_cons_zero, List.set_cons_succ]
  refine wpAnyH_takeD (i := 7) (d := 20) (v := .agg L3.toArray) _ rfl rfl (by kernel_rfl) (by kernel_rfl) (by kernel_rfl) (fun _ _ _ h => h) (yieldsIf_load_mid (by kernel_rfl) _ _ rfl B 27 (by kernel_rfl) L3 _ (fun ws hSw => rangeAt_below HR.out.2.2.2.1 hSw.below H0.out.2) Try.underlying57 rfl (by rw [l3]; kernel_rfl)) hHeld ?_
  simp only [Act.put, List.setIfInBounds_toArray, List.set_cons_zero, List.set_cons_succ]
  refine wpAnyH_takeD (i := 8) (d := 21) (v := .pointer (some ⟨B, 35, none⟩)) _ rfl rfl (by kernel_rfl) (by kernel_rfl) (by kernel_rfl) (fun _ _ _ h => h) (Or.inl ⟨by kernel_rfl, fun ws hSw => by go_simp⟩) hHeld ?_
  simp only [Act.put, List.setIfInBounds_toArray, List.set_cons_zero, List.set_cons_succ]
  refine wpAnyH_takeD (i := 9) (d := 22) (v := .agg L4.toArray) _ rfl rfl (by kernel_rfl) (by kernel_rfl) (by kernel_rfl) (fun _ _ _ h => h) (yieldsIf_load_mid (by kernel_rfl) _ _ rfl B 35 (by kernel_rfl) L4 _ (fun ws hSw => rangeAt_below HR.out.2.2.2.2 hSw.below H0.out.2) Try.underlying64 rfl (by rw [l4]; kernel_rfl)) hHeld ?_
  simp only [Act.put, List.setIfInBounds_toArray, List.set_cons_zero, List.set_cons_succ]
  refine five_all (N := wb.heap.size) _ (Nat.le_refl _)
    ⟨⟨_, rfl, rfl, fun _ => rfl, fun a ws => by go_simp; rfl⟩⟩ ⟨⟨_, rfl, rfl, fun _ => rfl, fun a ws => by go_simp; rfl⟩⟩ ⟨⟨_, rfl, rfl, fun _ => rfl, fun a ws => by go_simp; rfl⟩⟩ ⟨⟨_, rfl, rfl, fun _ => rfl, fun a ws => by go_simp; rfl⟩⟩ ⟨⟨_, rfl, rfl, fun _ => rfl, fun a ws => by go_simp; rfl⟩⟩
    (by intro t0 t1 t2 t3 t4 hf; cases t0 <;> cases t1 <;> cases t2 <;> cases t3 <;> cases t4 <;> first | (cases hf; done) | kernel_rfl)
    ⟨⟨_, _, rfl, rfl, fun _ => rfl, rfl, by kernel_rfl⟩⟩ ⟨⟨_, _, rfl, rfl, fun _ => rfl, rfl, by kernel_rfl⟩⟩ ⟨⟨_, _, rfl, rfl, fun _ => rfl, rfl, by kernel_rfl⟩⟩ ⟨⟨_, _, rfl, rfl, fun _ => rfl, rfl, by kernel_rfl⟩⟩ ⟨⟨_, _, rfl, rfl, fun _ => rfl, rfl, by kernel_rfl⟩⟩
    (by kernel_rfl) (by kernel_rfl) (by kernel_rfl) (by kernel_rfl) (by kernel_rfl) (by kernel_rfl)
    (by decide) l0 l1 l2 l3 l4 o0 o1 o2 o3 o4
    (fun _ _ _ _ _ => ⟨by kernel_rfl, by kernel_rfl, by kernel_rfl, by kernel_rfl, by kernel_rfl⟩) (fun _ _ _ _ _ => ⟨by kernel_rfl, by kernel_rfl, by kernel_rfl, by kernel_rfl, by kernel_rfl⟩) ?_ (by kernel_rfl) hHeld
  clear hHeld l0 l1 l2 l3 l4 o0 o1 o2 o3 o4
  intro b0 b1 b2 b3 b4 w1 hb p0 p1 p2 p3 p4 r0 r1 r2 r3 r4
  simp only [act5, Act.put, List.setIfInBounds_toArray, List.set_cons_zero, List.set_cons_succ]
  have HB : Hid (Gr w w1) := GB0.out.trans hb.gr
  have E0 : Hid (w1.cell? ⟨B, 0, none⟩ = some (.int .i64 kk)) := by show _ = _; rw [World.cell?_of_block (hb.below.block B H0.out.2)]; exact H0.out.1
  rw [HL.out.1] at r0
  have R0 := Lib.hid r0
  rw [HL.out.2.1] at r1
  have R1 := Lib.hid r1
  rw [HL.out.2.2.1] at r2
  have R2 := Lib.hid r2
  rw [HL.out.2.2.2.1] at r3
  have R3 := Lib.hid r3
  rw [HL.out.2.2.2.2] at r4
  have R4 := Lib.hid r4
  clear r0 r1 r2 r3 r4 hb p0 p1 p2 p3 p4 HL HR H0 HW GB0
  go_upto_region 2 with fail
  go_cut [8] from 23 to 50 (fun v wx => ∃ b, v = .bool b ∧ (kk ≠ 0 → b = true) ∧ wx = w1)
  case first =>
    have f3 : w1.cell? ⟨b0, 0, none⟩ = some (.int .i64 v3) := range_cell R0.out rfl
    have f4 : w1.cell? ⟨b0, 1, none⟩ = some (.int .i64 v4) := range_cell R0.out rfl
    have f5 : w1.cell? ⟨b0, 2, none⟩ = some (.int .i64 v5) := range_cell R0.out rfl
    have f6 : w1.cell? ⟨b0, 3, none⟩ = some (.slice q6 n6 k6) := range_cell R0.out rfl
    have f7 : w1.cell? ⟨b0, 4, none⟩ = some (.slice q7 n7 k7) := range_cell R0.out rfl
    have f8 : w1.cell? ⟨b0, 5, none⟩ = some (.slice q8 n8 k8) := range_cell R0.out rfl
    have f9 : w1.cell? ⟨b0, 6, none⟩ = some (.int .i64 v9) := range_cell R0.out rfl
    go_wp2_with fail
    all_goals
      go_meet
      case rel =>
        refine ⟨_, rfl, fun h => ?_, rfl⟩
        obtain ⟨z3, ⟨z4, z5⟩, ⟨z6, z7, z8⟩, z9⟩ := ZZ0.out h
        go_light
        first | rfl | (exfalso; omega) | simp_all
  obtain ⟨t0, rfl, e0, hw0⟩ := hcut
  replace hw0 := hw0.symm
  subst hw0
  have EE0 := Lib.hid e0
  clear e0 R0 ZZ0
  go_upto_region 3 with fail
  go_cut [9] from 51 to 93 (fun v wx => ∃ b, v = .bool b ∧ (kk ≠ 1 → b = true) ∧ wx = w1)
  case first =>
    have f10 : w1.cell? ⟨b1, 0, none⟩ = some (.string v10) := range_cell R1.out rfl
    have f11 : w1.cell? ⟨b1, 1, none⟩ = some (.string v11) := range_cell R1.out rfl
    have f12 : w1.cell? ⟨b1, 2, none⟩ = some (.int .i64 v12) := range_cell R1.out rfl
    have f13 : w1.cell? ⟨b1, 3, none⟩ = some (.int .i64 v13) := range_cell R1.out rfl
    have f14 : w1.cell? ⟨b1, 4, none⟩ = some (.int .i64 v14) := range_cell R1.out rfl
    have f15 : w1.cell? ⟨b1, 5, none⟩ = some (.int .i64 v15) := range_cell R1.out rfl
    have f16 : w1.cell? ⟨b1, 6, none⟩ = some (.slice q16 n16 k16) := range_cell R1.out rfl
    have f17 : w1.cell? ⟨b1, 7, none⟩ = some (.slice q17 n17 k17) := range_cell R1.out rfl
    have f18 : w1.cell? ⟨b1, 8, none⟩ = some (.slice q18 n18 k18) := range_cell R1.out rfl
    have f19 : w1.cell? ⟨b1, 9, none⟩ = some (.int .i64 v19) := range_cell R1.out rfl
    go_wp2_with fail
    all_goals
      go_meet
      case rel =>
        refine ⟨_, rfl, fun h => ?_, rfl⟩
        obtain ⟨z10, z11, z12, z13, ⟨z14, z15⟩, ⟨z16, z17, z18⟩, z19⟩ := ZZ1.out h
        go_light
        first | rfl | (exfalso; omega) | simp_all
  obtain ⟨t1, rfl, e1, hw1⟩ := hcut
  replace hw1 := hw1.symm
  subst hw1
  have EE1 := Lib.hid e1
  clear e1 R1 ZZ1
  go_upto_region 4 with fail
  go_cut [10] from 94 to 122 (fun v wx => ∃ b, v = .bool b ∧ (kk ≠ 2 → b = true) ∧ wx = w1)
  case first =>
    have f20 : w1.cell? ⟨b2, 0, none⟩ = some (.string v20) := range_cell R2.out rfl
    have f21 : w1.cell? ⟨b2, 1, none⟩ = some (.int .i64 v21) := range_cell R2.out rfl
    have f22 : w1.cell? ⟨b2, 2, none⟩ = some (.int .i64 v22) := range_cell R2.out rfl
    have f23 : w1.cell? ⟨b2, 3, none⟩ = some (.slice q23 n23 k23) := range_cell R2.out rfl
    have f24 : w1.cell? ⟨b2, 4, none⟩ = some (.slice q24 n24 k24) := range_cell R2.out rfl
    have f25 : w1.cell? ⟨b2, 5, none⟩ = some (.int .i64 v25) := range_cell R2.out rfl
    have f26 : w1.cell? ⟨b2, 6, none⟩ = some (.bool v26) := range_cell R2.out rfl
    go_wp2_with fail
    all_goals
      go_meet
      case rel =>
        refine ⟨_, rfl, fun h => ?_, rfl⟩
        obtain ⟨z20, ⟨z21, z22⟩, ⟨z23, z24⟩, z25, z26⟩ := ZZ2.out h
        go_light
        first | rfl | (exfalso; omega) | simp_all
  obtain ⟨t2, rfl, e2, hw2⟩ := hcut
  replace hw2 := hw2.symm
  subst hw2
  have EE2 := Lib.hid e2
  clear e2 R2 ZZ2
  go_upto_region 5 with fail
  go_cut [11] from 123 to 156 (fun v wx => ∃ b, v = .bool b ∧ (kk ≠ 3 → b = true) ∧ wx = w1)
  case first =>
    have f27 : w1.cell? ⟨b3, 0, none⟩ = some (.int .i64 v27) := range_cell R3.out rfl
    have f28 : w1.cell? ⟨b3, 1, none⟩ = some (.int .i64 v28) := range_cell R3.out rfl
    have f29 : w1.cell? ⟨b3, 2, none⟩ = some (.int .i64 v29) := range_cell R3.out rfl
    have f30 : w1.cell? ⟨b3, 3, none⟩ = some (.int .i64 v30) := range_cell R3.out rfl
    have f31 : w1.cell? ⟨b3, 4, none⟩ = some (.int .i64 v31) := range_cell R3.out rfl
    have f32 : w1.cell? ⟨b3, 5, none⟩ = some (.slice q32 n32 k32) := range_cell R3.out rfl
    have f33 : w1.cell? ⟨b3, 6, none⟩ = some (.slice q33 n33 k33) := range_cell R3.out rfl
    have f34 : w1.cell? ⟨b3, 7, none⟩ = some (.int .i64 v34) := range_cell R3.out rfl
    go_wp2_with fail
    all_goals
      go_meet
      case rel =>
        refine ⟨_, rfl, fun h => ?_, rfl⟩
        obtain ⟨z27, z28, z29, ⟨z30, z31⟩, ⟨z32, z33⟩, z34⟩ := ZZ3.out h
        go_light
        first | rfl | (exfalso; omega) | simp_all
  obtain ⟨t3, rfl, e3, hw3⟩ := hcut
  replace hw3 := hw3.symm
  subst hw3
  have EE3 := Lib.hid e3
  clear e3 R3 ZZ3
  go_upto_region 6 with fail
  go_cut [12] from 157 to 222 (fun v wx => ∃ b, v = .bool b ∧ (kk ≠ 4 → b = true) ∧ wx = w1)
  case first =>
    have f35 : w1.cell? ⟨b4, 0, none⟩ = some (.string v35) := range_cell R4.out rfl
    have f36 : w1.cell? ⟨b4, 1, none⟩ = some (.int .i64 v36) := range_cell R4.out rfl
    have f37 : w1.cell? ⟨b4, 2, none⟩ = some (.int .i64 v37) := range_cell R4.out rfl
    have f38 : w1.cell? ⟨b4, 3, none⟩ = some (.slice q38 n38 k38) := range_cell R4.out rfl
    have f39 : w1.cell? ⟨b4, 4, none⟩ = some (.int .i64 v39) := range_cell R4.out rfl
    have f40 : w1.cell? ⟨b4, 5, none⟩ = some (.int .i64 v40) := range_cell R4.out rfl
    have f41 : w1.cell? ⟨b4, 6, none⟩ = some (.int .i64 v41) := range_cell R4.out rfl
    have f42 : w1.cell? ⟨b4, 7, none⟩ = some (.slice q42 n42 k42) := range_cell R4.out rfl
    have f43 : w1.cell? ⟨b4, 8, none⟩ = some (.int .i64 v43) := range_cell R4.out rfl
    have f44 : w1.cell? ⟨b4, 9, none⟩ = some (.int .i64 v44) := range_cell R4.out rfl
    have f45 : w1.cell? ⟨b4, 10, none⟩ = some (.slice q45 n45 k45) := range_cell R4.out rfl
    have f46 : w1.cell? ⟨b4, 11, none⟩ = some (.slice q46 n46 k46) := range_cell R4.out rfl
    simp only [List.append_eq, List.cons_append, List.nil_append]
    go_wp2_with fail
    all_goals
      go_meet
      case rel =>
        refine ⟨_, rfl, fun h => ?_, rfl⟩
        obtain ⟨z35, z36, z37, ⟨z38, z46⟩, z39, z40, z41, z42, z43, z44, z45⟩ := ZZ4.out h
        go_light
        first | rfl | (exfalso; omega) | simp_all
  obtain ⟨t4, rfl, e4, hw4⟩ := hcut
  replace hw4 := hw4.symm
  subst hw4
  have EE4 := Lib.hid e4
  clear e4 R4 ZZ4
  have f0 := E0.out
  have hk5 : kk = 0 ∨ kk = 1 ∨ kk = 2 ∨ kk = 3 ∨ kk = 4 := by have := HK.out; omega
  rcases hk5 with rfl | rfl | rfl | rfl | rfl
  · obtain rfl := EE1.out (by decide); obtain rfl := EE2.out (by decide); obtain rfl := EE3.out (by decide); obtain rfl := EE4.out (by decide)
    cases t0 <;>
    · go_wp2_with fail
      go_ret
      exact ⟨rfl, HB.out⟩
  · obtain rfl := EE0.out (by decide); obtain rfl := EE2.out (by decide); obtain rfl := EE3.out (by decide); obtain rfl := EE4.out (by decide)
    cases t1 <;>
    · go_wp2_with fail
      go_ret
      exact ⟨rfl, HB.out⟩
  · obtain rfl := EE0.out (by decide); obtain rfl := EE1.out (by decide); obtain rfl := EE3.out (by decide); obtain rfl := EE4.out (by decide)
    cases t2 <;>
    · go_wp2_with fail
      go_ret
      exact ⟨rfl, HB.out⟩
  · obtain rfl := EE0.out (by decide); obtain rfl := EE1.out (by decide); obtain rfl := EE2.out (by decide); obtain rfl := EE4.out (by decide)
    cases t3 <;>
    · go_wp2_with fail
      go_ret
      exact ⟨rfl, HB.out⟩
  · obtain rfl := EE0.out (by decide); obtain rfl := EE1.out (by decide); obtain rfl := EE2.out (by decide); obtain rfl := EE3.out (by decide)
    cases t4 <;>
    · go_wp2_with fail
      go_ret
      exact ⟨rfl, HB.out⟩
end Go.Proofs.Ytlajiochpdlhaaa
