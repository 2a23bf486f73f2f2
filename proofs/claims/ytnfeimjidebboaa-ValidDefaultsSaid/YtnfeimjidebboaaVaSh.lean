/- An object that is shaped anew: its Hpa by itself, with policies. -/
import Derived.Test.YtnfeimjidebboaaVaDp
import Derived.Test.YtnfeimjidebboaaVaPs
import Derived.Laws.Tables
namespace Go.Proofs.Ytnfeimjidebboaa
open Go.RowKit Go.Shelf Go.Lib Go.Sort Go.Deep
open Go.Joins (cell_of_block unfrozen_of_block block_setCell)
set_option linter.unusedVariables false
set_option linter.unusedSimpArgs false
set_option maxRecDepth 20000

def shp (o : Ob) : Ob := { zerO with kind := 4, name := o.name, ver := o.ver, h := fillH o.h }
theorem ext12 {cs : Array Value} (hs : cs.size = 47) (i : Nat) (hi : i < 12) : (cs.extract 35 47)[i]? = cs[35 + i]? := by
  rw [Array.getElem?_extract, if_pos (by omega)]
theorem ext_size {cs : Array Value} (hs : cs.size = 47) : (cs.extract 35 47).size = 12 := by simp; omega
theorem ext_hp {w : World} {cs : Array Value} {o : Ob} (hv : ObjV w cs o) : HpS w (cs.extract 35 47) o.h := by
  obtain ⟨hsz, _, _, _, _, _, c35, c36, c37, c38, c39, c40, c41, c42, c43, c44, c45, c46⟩ := hv
  refine ⟨ext_size hsz, ?_, ?_, ?_, ?_, ?_, ?_, ?_, ?_, ?_, ?_, ?_, ?_⟩ <;> rw [ext12 hsz _ (by decide)] <;> assumption
theorem ext_nil {cs : Array Value} (hsz : cs.size = 47) (hn : NilO cs) : NilH (cs.extract 35 47) := by
  intro i n c hi h
  simp only [List.mem_cons, List.not_mem_nil, or_false] at hi
  rcases hi with rfl | rfl | rfl | rfl <;> rw [ext12 hsz _ (by decide)] at h
  · exact hn 38 n c (by decide) h
  · exact hn 42 n c (by decide) h
  · exact hn 45 n c (by decide) h
  · exact hn 46 n c (by decide) h
theorem ext_range {w : World} {b : Nat} {cs : Array Value} {T : TypeId} {fz : Nat × Nat} (hsz : cs.size = 47) (h : w.heap[b]? = some (.cells cs T fz)) : w.rangeAt b 35 (cs.extract 35 47).toList := fun j v hv => by
  have hj : j < 12 := by
    have := (List.getElem?_eq_some_iff.1 hv).1
    rw [Array.length_toList, ext_size hsz] at this
    exact this
  rw [Array.getElem?_toList, ext12 hsz j hj] at hv
  rw [cell_of_block h]
  exact hv
theorem arr12 {D : Array Value} (h : D.size = 12) : ∃ d0 d1 d2 d3 d4 d5 d6 d7 d8 d9 d10 d11, D = #[d0, d1, d2, d3, d4, d5, d6, d7, d8, d9, d10, d11] := by
  obtain ⟨l⟩ := D
  match l, h with
  | [d0, d1, d2, d3, d4, d5, d6, d7, d8, d9, d10, d11], _ => exact ⟨d0, d1, d2, d3, d4, d5, d6, d7, d8, d9, d10, d11, rfl⟩
/-- Its cells. -/
def shpC (nm : ByteArray) (v : Int) (D : Array Value) : Array Value := #[.int .i64 4, .string nm, .int .u64 v] ++ (zerC.extract 3 35 ++ D)
theorem built_shp (nm : ByteArray) (v : Int) {D : Array Value} (h : D.size = 12) : Try.prog.built 44 [(0, .int .i64 4), (1, .string nm), (2, .int .u64 v), (7, .agg D)] = some (shpC nm v D) := by
  obtain ⟨d0, d1, d2, d3, d4, d5, d6, d7, d8, d9, d10, d11, rfl⟩ := arr12 h
  kernel_rfl
theorem obj_shp {w : World} {o : Ob} {D : Array Value} (hv : HpS w D (fillH o.h)) (hver : o.ver < 18446744073709551616) : ObjV w (shpC o.name o.ver D) (shp o) := by
  obtain ⟨hsz, c0, c1, c2, c3, c4, c5, c6, c7, c8, c9, c10, c11⟩ := hv
  obtain ⟨d0, d1, d2, d3, d4, d5, d6, d7, d8, d9, d10, d11, rfl⟩ := arr12 hsz
  have e : shpC o.name (o.ver : Int) #[d0, d1, d2, d3, d4, d5, d6, d7, d8, d9, d10, d11] = #[.int .i64 4, .string o.name, .int .u64 (o.ver : Int), .int .i64 0, .int .i64 0, .int .i64 0, .slice none 0 0, .slice none 0 0, .slice none 0 0, .int .i64 0, .string { data := #[] }, .string { data := #[] }, .int .i64 0, .int .i64 0, .int .i64 0, .int .i64 0, .slice none 0 0, .slice none 0 0, .slice none 0 0, .int .i64 0, .string { data := #[] }, .int .i64 0, .int .i64 0, .slice none 0 0, .slice none 0 0, .int .i64 0, .bool false, .int .i64 0, .int .i64 0, .int .i64 0, .int .i64 0, .int .i64 0, .slice none 0 0, .slice none 0 0, .int .i64 0, d0, d1, d2, d3, d4, d5, d6, d7, d8, d9, d10, d11] := by kernel_rfl
  rw [e]
  have rL : SlR 2 encL w (some (.slice none 0 0)) [] := ⟨none, 0, rfl, RowR.nil _ _ _ _⟩
  have rR : SlR 3 encR w (some (.slice none 0 0)) [] := ⟨none, 0, rfl, RowR.nil _ _ _ _⟩
  exact ⟨rfl, ⟨rfl, rfl, rfl, hver⟩, ⟨rfl, rfl, rfl, rL, rR, rL, rfl⟩, ⟨rfl, rfl, rfl, rfl, rfl, rfl, rL, rR, rL, rfl⟩, ⟨rfl, rfl, rfl, rL, rL, rfl, rfl⟩, ⟨rfl, rfl, rfl, rfl, rfl, rL, rL, rfl⟩, ⟨c0, c1, c2, c3, c4, c5, c6, c7, c8, c9, c10, c11⟩⟩
theorem same_shp (w : World) (SH ds : Array Value) (o : Ob) (h4 : o.kind = 4) (hv : ObjV w SH (shp o)) (hw : ObjV w ds (dfl o)) (F : FitsO o) (T : TinyO o) :
    Calls Try.prog 11 #[.agg SH, .agg ds] w fun e w' => e = .returned (.bool true) ∧ Gr w w' := by
  have e : dfl o = setH o (wayR o.h.upol o.h.up [dblP, fourP]) (wayR o.h.dpol o.h.dp [dblP]) := (if_neg (by omega)).trans (if_pos h4)
  have ft := fto_of (fits_dfl F T) (tiny_dfl T)
  have hk : (shp o).kind = 4 := rfl
  rw [e] at hw ft
  generalize hs : setH o (wayR o.h.upol o.h.up [dblP, fourP]) (wayR o.h.dpol o.h.dp [dblP]) = s at hw ft
  have k4 : s.kind = 4 := by rw [← hs]; exact h4
  have e1 : s.name = (shp o).name := by rw [← hs]; rfl
  have e2 : s.ver = (shp o).ver := by rw [← hs]; rfl
  have e3 : s.h = (shp o).h := by rw [← hs]; rfl
  have hft : ftO (shp o) = ftO s := by unfold ftO ftS; rw [k4, hk, e1, e3]; rfl
  have hb : objB (shp o) = objB s := by unfold objB hdB shB; rw [k4, hk, e1, e2, e3]; rfl
  exact rsame_any w SH ds (shp o) s hv hw (by rw [hk]; decide) (by rw [k4, hk]) (hft.trans ft) ft hb

theorem set_alloc (w : World) {d : Nat} (h : d < w.heap.size) (i : Nat) (v : Value) (o : Obj) : (w.setCell ⟨d, i, none⟩ v).alloc o = (w.alloc o).setCell ⟨d, i, none⟩ v := by
  first | exact (World.setCell_alloc_past o d i v h).symm | (rw [World.setCell_alloc_past]; exact h)
theorem zerC_size : (zerC : Array Value).size = 47 := rfl
/-- Shaped ahead of its variable; behind it. -/
theorem shp_a {w7 w8 : World} {o : Ob} {D : Array Value} (b : Below w7.heap.size w7 w8) (hD : HpS w8 D (fillH o.h)) (hver : o.ver < 18446744073709551616) :
    (∃ SH, ((w8.alloc (.cells zerC 44)).setCells w8.heap.size 0 (shpC o.name o.ver D).toList).heap[w8.heap.size]? = some (.cells SH 44 (0, 0)) ∧ ObjV ((w8.alloc (.cells zerC 44)).setCells w8.heap.size 0 (shpC o.name o.ver D).toList) SH (shp o)) ∧ Below w7.heap.size w7 ((w8.alloc (.cells zerC 44)).setCells w8.heap.size 0 (shpC o.name o.ver D).toList) := by
  have hv := obj_shp hD hver
  obtain ⟨l1, l2⟩ := laid_ob w8 hv.1
  exact ⟨⟨_, l1, hv.below l2.below⟩, ((Xb.ofBelow b w7.heap.size).trans (Xb.ofGr l2 _)).below (Nat.le_refl _) (Nat.le_refl _)⟩
theorem shp_b {w7 w8 w9 : World} {d5 : Nat} {o : Ob} {D : Array Value} (b8 : Below w7.heap.size w7 w8) (h7 : w7.heap.size ≤ d5) (h5 : w8.heap[d5]? = some (.cells zerC 44 (0, 0))) (b9 : Below w8.heap.size w8 w9) (hD : HpS w9 D (fillH o.h)) (hO : HpO w8.heap.size w9 D (fillH o.h)) (hver : o.ver < 18446744073709551616) :
    (∃ SH, (w9.setCells d5 0 (shpC o.name o.ver D).toList).heap[d5]? = some (.cells SH 44 (0, 0)) ∧ ObjV (w9.setCells d5 0 (shpC o.name o.ver D).toList) SH (shp o)) ∧ Below w7.heap.size w7 (w9.setCells d5 0 (shpC o.name o.ver D).toList) := by
  have hlt : d5 < w8.heap.size := (Array.getElem?_eq_some_iff.1 h5).1
  have h59 : w9.heap[d5]? = some (.cells zerC 44 (0, 0)) := (b9.block d5 hlt).trans h5
  have hs : (shpC o.name o.ver D).size = 47 := (obj_shp hD hver).1
  have kk : ∀ g, w8.heap.size ≤ g → g < w9.heap.size → (w9.setCells d5 0 (shpC o.name o.ver D).toList).heap[g]? = w9.heap[g]? := fun g h1 h2 => setCells_out _ _ _ _ _ (by omega)
  obtain ⟨r3, r7, r10, r11⟩ := hO
  obtain ⟨hsz, c0, c1, c2, _, c4, c5, c6, _, c8, c9, _, _⟩ := hD
  have hD' : HpS (w9.setCells d5 0 (shpC o.name o.ver D).toList) D (fillH o.h) := ⟨hsz, c0, c1, c2, (r3.keep kk rfl).slr lenM, c4, c5, c6, (r7.keep kk rfl).slr lenP, c8, c9, (r10.keep kk rfl).slr lenP, (r11.keep kk rfl).slr lenS⟩
  refine ⟨⟨_, ?_, obj_shp hD' hver⟩, ?_⟩
  · rw [setCells_block _ _ _ _ _ _ _ h59, setAt_full (by rw [hs]; rfl)]
  · exact below_setCells (((Xb.ofBelow b8 w7.heap.size).trans (Xb.ofBelow b9 _)).below (Nat.le_refl _) (Nat.le_refl _)) d5 0 h7 _
theorem shp_ones {w : World} {o : Ob} {D : Array Value} (hD : HpS w D (fillH o.h)) (hver : o.ver < 18446744073709551616) : (shpC o.name o.ver D).toList.length = 47 ∧ ∀ v ∈ (shpC o.name o.ver D).toList, v.oneCell' = true := by
  have hv := obj_shp hD hver
  refine ⟨by rw [Array.length_toList]; exact hv.1, ?_⟩
  have h := objV_one hv
  rw [← Array.all_toList] at h
  exact List.all_eq_true.1 h
theorem run_shp {o : Oper} {ev : Operand → Value} {parts : Array (Nat × Operand)} {nm : ByteArray} {v : Int} {D : Array Value} (ho : o.op = .build 44 parts) (hp : (parts.map fun (i, x) => (i, ev x)).toList = [(0, .int .i64 4), (1, .string nm), (2, .int .u64 v), (7, .agg D)]) (hD : D.size = 12) (w : World) :
    (execOp ev o).run Try.prog w = .ok (.value (.agg (shpC nm v D))) w := by
  have hc := built_shp nm v hD
  rw [← hp] at hc
  unfold execOp
  simp only [ho, Sem.run_bind, run_build w _ _ _ hc, Result.andThen_ok]
  rfl
end Go.Proofs.Ytnfeimjidebboaa
