/- The law's model: where one is; an event. -/
import Derived.Test.YtcfilaiejccfkaaGreatStA
import Derived.Test.YtcfilaiejccfkaaGreatVaT
import Derived.Test.YtcfilaiejccfkaaGreatVaR
import Derived.BigRegion
import Derived.Deep.DeepCutAuto
import Derived.Deep.CutRange
import Derived.Deep.Light
import Derived.Test.YtcfilaiejccfkaaGreatVaR4
import Derived.BigQuiet
import Derived.Great.BuildSlice
import Derived.Deep.AppendLies
import Derived.Test.YtcfilaiejccfkaaGreatObNil
import Derived.Test.YtcfilaiejccfkaaGreatVaW
namespace Go.Proofs.YtcfilaiejccfkaaGreat
open Go.RowKit Go.Shelf Go.Lib Go.Sort
open Go.Joins (cell_of_block unfrozen_of_block block_setCell)
set_option linter.unusedVariables false
set_option linter.unusedSimpArgs false
set_option maxRecDepth 20000

/-- The cells of an object. -/
abbrev Cs := { a : Array Value // a.size = 47 ∧ a.all (·.oneCell') = true }
def encC (c : Cs) : List Value := c.1.toList
theorem lenC (c : Cs) : (encC c).length = 47 := by unfold encC; rw [Array.length_toList]; exact c.2.1
theorem oneC (c : Cs) : ∀ u ∈ encC c, u.oneCell' = true := by
  intro u hu
  have h := c.2.2
  rw [← Array.all_toList] at h
  exact List.all_eq_true.1 h u hu
def mkC {base : Nat} {w : World} {cs : Array Value} {o : Ob} (h : Kept base w cs o) : Cs := ⟨cs, h.obj.1, objV_one h.obj⟩
abbrev SlO : TypeId := 22
def moC (lv : Value) (now : Nat) (mev : Value) : Array Value := #[lv, .int .u64 (now : Int), mev]

/-- Where one is, -1: it isn't. -/
def idx (l : List Ob) (k : Int) (nm : ByteArray) : Int := if l.any (hit k nm) then (l.findIdx (hit k nm) : Int) else -1
theorem rangeAt_own {w : World} {base g n cap : Nat} {csl : List Cs} {i : Nat} {c : Cs} (h : w.ownsRow base OT 47 (.slice (some ⟨g, 0, none⟩) n cap) csl.length (flat encC csl)) (hc : csl[i]? = some c) : w.rangeAt g (i * 47) c.1.toList := by
  intro j v hv
  have hj : j < 47 := by
    have := (List.getElem?_eq_some_iff.1 hv).1
    rw [Array.length_toList, c.2.1] at this
    exact this
  have := h.cells (g := g) rfl (i * 47 + j) v (by rw [flat_at lenC csl i j c hc hj]; exact hv)
  rwa [add_none', Nat.zero_add] at this
theorem load_at47 {w : World} {g o : Nat} {c : Cs} (h : w.rangeAt g o c.1.toList) : (Instr.loadAt OT (.pointer (some ⟨g, o, none⟩))).run Tryz.prog w = .ok (.agg c.1) w :=
  run_loadAt_mid (P := Tryz.prog) w g o OT c.1.toList _ h Tryz.underlying57 rfl (by rw [Array.length_toList, c.2.1]; exact info_ob47)

theorem name_test (a b : ByteArray) : (a.toList == b.toList) = decide (a = b) := by
  rw [ByteArray.toList_eq, ByteArray.toList_eq, Bool.eq_iff_iff, beq_iff_eq, decide_eq_true_eq]
  exact ⟨fun h => by_inj h, fun h => by rw [h]⟩
theorem hit_eq (k : Int) (nm : ByteArray) (o : Ob) : hit k nm o = ((o.kind == k) && (o.name.toList == nm.toList)) := by
  rw [name_test, Bool.eq_iff_iff, hit_iff, Bool.and_eq_true, beq_iff_eq, decide_eq_true_eq]
theorem idx_at {l : List Ob} {k : Int} {nm : ByteArray} {j : Nat} {o : Ob} (h : l[j]? = some o) (hh : hit k nm o = true) (hb : ∀ i x, i < j → l[i]? = some x → hit k nm x = false) : idx l k nm = (j : Int) := by
  have hj := (List.getElem?_eq_some_iff.1 h)
  obtain ⟨hlt, he⟩ := hj
  have ha : l.any (hit k nm) = true := List.any_eq_true.2 ⟨o, List.mem_of_getElem? h, hh⟩
  unfold idx
  rw [if_pos ha]
  have : l.findIdx (hit k nm) = j := by
    rw [List.findIdx_eq hlt]
    refine ⟨by rw [he]; exact hh, fun i hi => ?_⟩
    exact hb i _ hi (List.getElem?_eq_getElem (by omega))
  rw [this]
theorem idx_none {l : List Ob} {k : Int} {nm : ByteArray} (hb : ∀ i x, i < l.length → l[i]? = some x → hit k nm x = false) : idx l k nm = -1 := by
  unfold idx
  rw [if_neg]
  intro h
  obtain ⟨x, hx, hp⟩ := List.any_eq_true.1 h
  obtain ⟨i, hi⟩ := List.getElem?_of_mem hx
  rw [hb i x (List.getElem?_eq_some_iff.1 hi).1 hi] at hp
  cases hp

end Go.Proofs.YtcfilaiejccfkaaGreat
/- Objects deleted. -/
namespace Go.Proofs.YtcfilaiejccfkaaGreat
open Go.RowKit Go.Shelf Go.Lib Go.Sort
open Go.Joins (cell_of_block unfrozen_of_block block_setCell)
set_option linter.unusedVariables false
set_option linter.unusedSimpArgs false
set_option maxRecDepth 20000

/-- What Delete is refused with; 0: it isn't. -/
def delE (k : Int) (nm : ByteArray) (ver : Nat) (l : List Ob) : Int := if k < 0 ∨ 5 ≤ k then 17 else match l.find? (hit k nm) with | none => 7 | some x => if ver ≠ 0 ∧ ver ≠ x.ver then 9 else 0

end Go.Proofs.YtcfilaiejccfkaaGreat
/- An act upon a store and its model: what they have in common. -/
namespace Go.Proofs.YtcfilaiejccfkaaGreat
open Go.RowKit Go.Shelf Go.Lib Go.Sort
open Go.Joins (cell_of_block unfrozen_of_block block_setCell)
set_option linter.unusedVariables false
set_option linter.unusedSimpArgs false
set_option maxRecDepth 20000

/-- What an act does. -/
inductive Move (l : List Ob) (hist : List Ev) : List Ob → List Ev → Prop
  | stay : Move l hist l hist
  | made (d : Ob) : l.any (hit d.kind d.name) = false → OkK d → Move l hist (l ++ [d]) (hist ++ [⟨0, d.kind, d.name, hist.length + 1⟩])
  | set (d : Ob) : l.any (hit d.kind d.name) = true → OkK d → Move l hist (put l d) (hist ++ [⟨1, d.kind, d.name, hist.length + 1⟩])
  | gone (k : Int) (nm : ByteArray) : l.any (hit k nm) = true → Move l hist (del l k nm) (hist ++ [⟨2, k, nm, hist.length + 1⟩])

def acC (kk : Int) (cs : Array Value) (r : Bool) : Array Value := (#[Value.int .i64 kk] ++ cs).push (.bool r)
theorem acC_0 (kk : Int) (cs : Array Value) (r : Bool) : (acC kk cs r)[0]? = some (.int .i64 kk) := by
  unfold acC
  rw [Array.getElem?_push_lt (by simp; omega)]
  simp
theorem acC_at (kk : Int) (cs : Array Value) (r : Bool) (j : Nat) (hj : j < cs.size) : (acC kk cs r)[1 + j]? = cs[j]? := by
  unfold acC
  rw [Array.getElem?_push, if_neg (by simp; omega), Array.getElem?_append_right (by simp)]
  simp
theorem acC_r (kk : Int) (cs : Array Value) (r : Bool) (h : cs.size = 47) : (acC kk cs r)[48]? = some (.bool r) := by
  unfold acC
  rw [Array.getElem?_push, if_pos (by simp; omega)]
theorem acC_set (kk : Int) (cs : Array Value) (r : Bool) (h : cs.size = 47) (v : Value) : (acC kk cs r).setIfInBounds 3 v = acC kk (cs.setIfInBounds 2 v) r := by
  apply Array.ext_getElem?
  intro i
  by_cases h3 : i = 3
  · subst h3
    rw [Array.getElem?_setIfInBounds_self_of_lt (by simp [acC]; omega)]
    have := acC_at kk (cs.setIfInBounds 2 v) r 2 (by simp; omega)
    rw [show 1 + 2 = 3 from rfl] at this
    rw [this, Array.getElem?_setIfInBounds_self_of_lt (by omega)]
  · rw [Array.getElem?_setIfInBounds_ne (fun e => h3 e.symm)]
    rcases Nat.eq_zero_or_pos i with h0 | h0
    · subst h0
      rw [acC_0, acC_0]
    · obtain ⟨j, rfl⟩ : ∃ j, i = 1 + j := ⟨i - 1, by omega⟩
      by_cases hj : j < 47
      · rw [acC_at _ _ _ _ (by omega), acC_at _ _ _ _ (by simp; omega), Array.getElem?_setIfInBounds_ne (by omega)]
      · by_cases h48 : j = 47
        · subst h48
          rw [show 1 + 47 = 48 from rfl, acC_r _ _ _ h, acC_r _ _ _ (by simpa using h)]
        · rw [Array.getElem?_eq_none (by simp [acC]; omega), Array.getElem?_eq_none (by simp [acC]; omega)]
theorem acC_range {w : World} {B : Nat} {kk : Int} {cs : Array Value} {r : Bool} {T : TypeId} {fz : Nat × Nat} (h : w.heap[B]? = some (.cells (acC kk cs r) T fz)) : w.rangeAt B 1 cs.toList := by
  intro j v hv
  rw [cell_of_block h, acC_at _ _ _ _ (by have := (List.getElem?_eq_some_iff.1 hv).1; simpa using this), ← Array.getElem?_toList]
  exact hv
end Go.Proofs.YtcfilaiejccfkaaGreat
/- An act upon a store and its model: how they go on. -/
namespace Go.Proofs.YtcfilaiejccfkaaGreat
open Go.RowKit Go.Shelf Go.Lib Go.Sort
open Go.Joins (cell_of_block unfrozen_of_block block_setCell)
set_option linter.unusedVariables false
set_option linter.unusedSimpArgs false
set_option maxRecDepth 20000

section
variable {P : Program} {ops : Array Oper} {Q : Exit → Act → World → Prop} {w : World} {o : Oper} {a : Act} {K : Act → World → Prop}
/-- A slice literal of one whole struct. -/
theorem step_build (hw : Region.wanted o (yielded ops a.tmps) = true) (t e : TypeId) (x : Operand) (ho : o.op = .buildSlice t 1 #[(0, x)]) (z : Value) (s : Nat) (X : Array Value) (hx : a.eval x = .agg X) (hX : X.size = s) (h0 : 0 < s) (h1 : s ≤ 1000000)
    (hu : P.underlying t = some (.slice e)) (hinfo : (P.info? e).map (fun i => (i.zero, i.size)) = some (some z, s)) (k : K (a.put o.dst (.slice (some ⟨w.heap.size, 0, none⟩) 1 1)) (w.alloc (.cells X e))) :
    if Region.wanted o (yielded ops a.tmps) = true then Oper.wp P o a w K Q else K (a.put o.dst undef) w := by
  rw [if_pos hw]
  cases hie : P.info? e with
  | none => rw [hie] at hinfo; cases hinfo
  | some i =>
    rw [hie] at hinfo
    simp only [Option.map_some, Option.some.injEq, Prod.mk.injEq] at hinfo
    obtain ⟨hz, hs⟩ := hinfo
    refine wp_buildSlice t e 1 _ ho X i z hu hie hz (by rw [hs]; omega) (by rw [hs]; omega) ?_ k
    have hc : (Value.agg X).cells = X := rfl
    have := Great.fill_whole h0 [Value.agg X] ((Array.range (1 * i.size)).map (z.cells[· % z.cells.size]!)) (fun v hv => by rw [List.mem_singleton.1 hv, hc]; exact hX) (by simp [hs])
    rw [hs] at this ⊢
    simp [hx, hc] at this ⊢
    exact this
end
theorem name_dfl (o : Ob) : (dfl o).name = o.name := by
  unfold dfl
  split
  · rfl
  · split <;> rfl
theorem own_at {w : World} {N n k : Nat} {E : TypeId} {v : Value} {xs : List Value} (h : w.ownsRow N E k v n xs) {g : Nat} (hg : v.ownBlock = some g) : ∃ cur, w.heap[g]? = some (.cells cur E (0, 0)) := by
  rcases h.2 with ⟨rfl, _⟩ | ⟨g', cap, cur, rfl, _, h2, _⟩
  · cases hg
  · simp [Value.ownBlock] at hg
    subst hg
    exact ⟨cur, h2⟩
theorem flat_take {csl : List Cs} {j t : Nat} {u : Value} (h : (flat encC (csl.take j))[t]? = some u) : (flat encC csl)[t]? = some u := by
  have e : flat encC csl = flat encC (csl.take j) ++ flat encC (csl.drop j) := by
    unfold flat
    rw [← List.flatMap_append, List.take_append_drop]
  rw [e, List.getElem?_append_left (List.getElem?_eq_some_iff.1 h).1]
  exact h
theorem flat_drop {csl : List Cs} {k t : Nat} {u : Value} (hk : k ≤ csl.length) (h : (flat encC (csl.drop k))[t]? = some u) : (flat encC csl)[k * 47 + t]? = some u := by
  have e : flat encC csl = flat encC (csl.take k) ++ flat encC (csl.drop k) := by
    unfold flat
    rw [← List.flatMap_append, List.take_append_drop]
  have hl : (flat encC (csl.take k)).length = k * 47 := by rw [flat_length lenC, List.length_take, Nat.min_eq_left hk]
  rw [e, List.getElem?_append_right (by omega), hl, Nat.add_sub_cancel_left]
  exact h
theorem flat_erase (csl : List Cs) (j : Nat) : flat encC (csl.take j) ++ flat encC (csl.drop (j + 1)) = flat encC (csl.eraseIdx j) := by
  unfold flat
  rw [← List.flatMap_append, List.eraseIdx_eq_take_drop_succ]
theorem erase_objs {base : Nat} {w : World} {l : List Ob} {csl : List Cs} (h : ∀ (i : Nat) (o : Ob), l[i]? = some o → ∃ c : Cs, csl[i]? = some c ∧ Kept base w c.1 o) (j : Nat) : ∀ (i : Nat) (o : Ob), (l.eraseIdx j)[i]? = some o → ∃ c : Cs, (csl.eraseIdx j)[i]? = some c ∧ Kept base w c.1 o := by
  intro i o hi
  rw [List.getElem?_eraseIdx] at hi ⊢
  split at hi
  · rename_i hlt; rw [if_pos hlt]; exact h i o hi
  · rename_i hlt; rw [if_neg hlt]; exact h _ o hi
theorem info_OT : ∃ b, (Tryz.prog.info? OT).map (fun i => (i.zero, i.size, i.bytes)) = some (some (.agg zerC), 47, b) ∧ b ≤ 10000 := by
  have h1 : (Tryz.prog.info? OT).map (fun i => (i.zero, i.size)) = some (some (.agg zerC), 47) := by kernel_rfl
  have h2 : (Tryz.prog.info? OT).map (fun i => decide (i.bytes ≤ 10000)) = some true := by kernel_rfl
  cases h : Tryz.prog.info? OT with
  | none => rw [h] at h1; cases h1
  | some i =>
    rw [h] at h1 h2
    simp only [Option.map_some, Option.some.injEq, Prod.mk.injEq, decide_eq_true_eq] at h1 h2
    exact ⟨i.bytes, by simp [h1.1, h1.2], h2⟩
end Go.Proofs.YtcfilaiejccfkaaGreat
/- An act upon a store and its model: Delete (by wip/tools/genstdo.py). -/
namespace Go.Proofs.YtcfilaiejccfkaaGreat
open Go.RowKit Go.Shelf Go.Lib Go.Sort
open Go.Joins (cell_of_block unfrozen_of_block block_setCell)
set_option linter.unusedVariables false
set_option linter.unusedSimpArgs false
set_option maxRecDepth 20000

end Go.Proofs.YtcfilaiejccfkaaGreat
/- An act upon a store and its model: Create (by wip/tools/genstdo.py). -/
namespace Go.Proofs.YtcfilaiejccfkaaGreat
open Go.RowKit Go.Shelf Go.Lib Go.Sort
open Go.Joins (cell_of_block unfrozen_of_block block_setCell)
set_option linter.unusedVariables false
set_option linter.unusedSimpArgs false
set_option maxRecDepth 20000

end Go.Proofs.YtcfilaiejccfkaaGreat
/- An act upon a store and its model: Update (by wip/tools/genstdo.py). -/
namespace Go.Proofs.YtcfilaiejccfkaaGreat
open Go.RowKit Go.Shelf Go.Lib Go.Sort
open Go.Joins (cell_of_block unfrozen_of_block block_setCell)
set_option linter.unusedVariables false
set_option linter.unusedSimpArgs false
set_option maxRecDepth 20000

end Go.Proofs.YtcfilaiejccfkaaGreat
/- Acts that came in: opened; few. -/
namespace Go.Proofs.YtcfilaiejccfkaaGreat
open Go.ChangeShapes Go.WideShapes Go.ChangeAt Go.RowKit Go.Deep Go.Lib Go.Shelf
open Go.Joins (cell_of_block unfrozen_of_block block_setCell)
set_option linter.unusedVariables false
set_option linter.unusedSimpArgs false
set_option maxRecDepth 20000

abbrev Acv := Int × Cs × Bool × Ob
instance : Inhabited Cs := ⟨⟨zerC, by kernel_rfl, zer_all⟩⟩
instance : Inhabited Ob := ⟨nnO ⟨#[]⟩ 0⟩
def cellsA (a : Acv) : Array Value := acC a.1 a.2.1.1 a.2.2.1
def encA (a : Acv) : List Value := (cellsA a).toList
theorem sizeA (a : Acv) : (cellsA a).size = 49 := by
  unfold cellsA acC
  simp [a.2.1.2.1]
def okA (W : World) (a : Acv) : Prop := ObjV W a.2.1.1 a.2.2.2 ∧ NilO a.2.1.1 ∧ FitsO a.2.2.2

theorem open_ob2 {H : Type} {enc : TypeId × Value → H} {W : World} {cs : Array Value} {d : DataW H} {p : List MemPlace} {fuel : Nat} (hs : cs.size = 47)
    (hf : DataW.trod enc Tryz.prog W 0 (fun _ => true) true fuel 57 cs.toList = some (d, p)) (wt : Wt 57 d) : ∃ o, ObjV W cs o ∧ FitsO o := by
  obtain ⟨nk, yk, tk, zk⟩ := fld (F := 3) (off := 0) (k := 1) 0 Tryz.underlying57 (by kernel_rfl) hf wt
  obtain ⟨k, a0, w0⟩ := leaf_i Tryz.underlying3 tk
  obtain ⟨ns, ys, ts, zs⟩ := fld (F := 9) (off := 1) (k := 1) 1 Tryz.underlying57 (by kernel_rfl) hf wt
  obtain ⟨s, a1, w1⟩ := leaf_s Tryz.underlying9 ts zs
  obtain ⟨nu, yu, tu, zu⟩ := fld (F := 27) (off := 2) (k := 1) 2 Tryz.underlying57 (by kernel_rfl) hf wt
  obtain ⟨u, a2, w2⟩ := leaf_u Tryz.underlying27 tu
  obtain ⟨nx0, yx0, tx0, zx0⟩ := fld (F := 42) (off := 3) (k := 7) 3 Tryz.underlying57 (by kernel_rfl) hf wt
  obtain ⟨x0, ⟨r0_0, r0_1, r0_2⟩, ⟨m0_0, m0_1, m0_2⟩, f0_0, f0_1, f0_2, f0_3, f0_4, f0_5, f0_6⟩ := open_wl tx0 zx0
  obtain ⟨nx1, yx1, tx1, zx1⟩ := fld (F := 44) (off := 10) (k := 10) 4 Tryz.underlying57 (by kernel_rfl) hf wt
  obtain ⟨x1, ⟨r1_0, r1_1, r1_2, r1_3, r1_4⟩, ⟨m1_0, m1_1, m1_2⟩, f1_0, f1_1, f1_2, f1_3, f1_4, f1_5, f1_6, f1_7, f1_8, f1_9⟩ := open_pd tx1 zx1
  obtain ⟨nx2, yx2, tx2, zx2⟩ := fld (F := 46) (off := 20) (k := 7) 5 Tryz.underlying57 (by kernel_rfl) hf wt
  obtain ⟨x2, ⟨r2_0, r2_1, r2_2⟩, ⟨m2_0, m2_1⟩, f2_0, f2_1, f2_2, f2_3, f2_4, f2_5, f2_6⟩ := open_nd tx2 zx2
  obtain ⟨nx3, yx3, tx3, zx3⟩ := fld (F := 48) (off := 27) (k := 8) 6 Tryz.underlying57 (by kernel_rfl) hf wt
  obtain ⟨x3, ⟨r3_0, r3_1⟩, ⟨m3_0, m3_1⟩, f3_0, f3_1, f3_2, f3_3, f3_4, f3_5, f3_6, f3_7⟩ := open_gp tx3 zx3
  obtain ⟨nx4, yx4, tx4, zx4⟩ := fld (F := 55) (off := 35) (k := 12) 7 Tryz.underlying57 (by kernel_rfl) hf wt
  obtain ⟨x4, ⟨r4_0, r4_1⟩, ⟨m4_0, m4_1, m4_2, m4_3⟩, f4_0, f4_1, f4_2, f4_3, f4_4, f4_5, f4_6, f4_7, f4_8, f4_9, f4_10, f4_11⟩ := open_hp tx4 zx4
  have e0 : cs[0]? = some (.int .i64 k) := by rw [← Array.getElem?_toList]; exact a0
  have e1 : cs[1]? = some (.string s) := by rw [← Array.getElem?_toList]; exact a1
  have e2 : cs[2]? = some (.int .u64 (u : Int)) := by rw [← Array.getElem?_toList]; exact a2
  exact ⟨⟨k, s, u, x0, x1, x2, x3, x4⟩, ⟨hs, ⟨e0, e1, e2, w2⟩, ⟨el_at f0_0, el_at f0_1, el_at f0_2, slr_at f0_3, slr_at f0_4, slr_at f0_5, el_at f0_6⟩, ⟨el_at f1_0, el_at f1_1, el_at f1_2, el_at f1_3, el_at f1_4, el_at f1_5, slr_at f1_6, slr_at f1_7, slr_at f1_8, el_at f1_9⟩, ⟨el_at f2_0, el_at f2_1, el_at f2_2, slr_at f2_3, slr_at f2_4, el_at f2_5, el_at f2_6⟩, ⟨el_at f3_0, el_at f3_1, el_at f3_2, el_at f3_3, el_at f3_4, slr_at f3_5, slr_at f3_6, el_at f3_7⟩, ⟨el_at f4_0, el_at f4_1, el_at f4_2, slr_at f4_3, el_at f4_4, el_at f4_5, el_at f4_6, slr_at f4_7, el_at f4_8, el_at f4_9, slr_at f4_10, slr_at f4_11⟩⟩, { name := w1, w_lab := List.all_eq_true.2 r0_0, w_sel := List.all_eq_true.2 r0_1, w_tol := List.all_eq_true.2 r0_2, w_lab_r := m0_0, w_sel_r := m0_1, w_tol_r := m0_2, p_own := r1_0, p_node := r1_1, p_lab := List.all_eq_true.2 r1_2, p_sel := List.all_eq_true.2 r1_3, p_tol := List.all_eq_true.2 r1_4, p_lab_r := m1_0, p_sel_r := m1_1, p_tol_r := m1_2, n_grp := r2_0, n_lab := List.all_eq_true.2 r2_1, n_tnt := List.all_eq_true.2 r2_2, n_lab_r := m2_0, n_tnt_r := m2_1, g_lab := List.all_eq_true.2 r3_0, g_tnt := List.all_eq_true.2 r3_1, g_lab_r := m3_0, g_tnt_r := m3_1, h_tg := r4_0, h_met := List.all_eq_true.2 r4_1, h_met_r := m4_0, h_upol_r := m4_1, h_dpol_r := m4_2, h_past_r := m4_3 }⟩
theorem sub_take {cs : List Value} {o m j : Nat} (h : j < m) : ((cs.drop o).take m)[j]? = cs[o + j]? := by
  rw [List.getElem?_take_of_lt h, List.getElem?_drop]
abbrev zerA : Array Value := #[.int .i64 0, .int .i64 0, .string { data := #[] }, .int .u64 0, .int .i64 0, .int .i64 0, .int .i64 0, .slice none 0 0, .slice none 0 0, .slice none 0 0, .int .i64 0, .string { data := #[] }, .string { data := #[] }, .int .i64 0, .int .i64 0, .int .i64 0, .int .i64 0, .slice none 0 0, .slice none 0 0, .slice none 0 0, .int .i64 0, .string { data := #[] }, .int .i64 0, .int .i64 0, .slice none 0 0, .slice none 0 0, .int .i64 0, .bool false, .int .i64 0, .int .i64 0, .int .i64 0, .int .i64 0, .int .i64 0, .slice none 0 0, .slice none 0 0, .int .i64 0, .string { data := #[] }, .int .i64 0, .int .i64 0, .slice none 0 0, .int .i64 0, .int .i64 0, .int .i64 0, .slice none 0 0, .int .i64 0, .int .i64 0, .slice none 0 0, .slice none 0 0, .bool false]
theorem oneA (a : Acv) : (cellsA a).all (·.oneCell') = true := by
  rw [← Array.all_toList]
  refine List.all_eq_true.2 (fun u hu => ?_)
  obtain ⟨t, ht⟩ := List.getElem?_of_mem hu
  rw [Array.getElem?_toList] at ht
  have hlt : t < 49 := by have := (Array.getElem?_eq_some_iff.1 ht).1; rw [sizeA] at this; exact this
  unfold cellsA at ht
  rcases Nat.eq_zero_or_pos t with rfl | h0
  · rw [acC_0] at ht; cases ht; rfl
  · by_cases h48 : t = 48
    · subst h48
      rw [acC_r _ _ _ a.2.1.2.1] at ht; cases ht; rfl
    · obtain ⟨j, rfl⟩ : ∃ j, t = 1 + j := ⟨t - 1, by omega⟩
      rw [acC_at _ _ _ _ (by rw [a.2.1.2.1]; omega)] at ht
      exact oneC a.2.1 u (by unfold encC; exact List.mem_of_getElem? (by rw [Array.getElem?_toList]; exact ht))

/-- Acts that a law takes. -/
def fewA (l : List Acv) : Bool := l.all (fun a => fewB a.2.2.2 && decide (a.2.2.2.name.size ≤ 100)) && decide (l.length ≤ 60)
theorem RowR.rangeAt {W : World} {b off : Nat} {l : List Acv} {j : Nat} {x : Acv} (h : RowR 49 encA W (some ⟨b, off, none⟩) l) (hx : l[j]? = some x) : b < W.heap.size ∧ W.rangeAt b (off + j * 49) (encA x) := by
  obtain ⟨b', off', e, h1, h2⟩ := h j x hx
  simp only [Option.some.injEq, Addr.mk.injEq] at e
  obtain ⟨rfl, rfl, _⟩ := e
  exact ⟨h1, fun t v hv => h2 t v hv⟩
theorem cellsA_obj {W : World} {x : Acv} (h : okA W x) : ObjV W x.2.1.1 x.2.2.2 := h.1

end Go.Proofs.YtcfilaiejccfkaaGreat
/- Get, Len and Now of a store that is there. -/
namespace Go.Proofs.YtcfilaiejccfkaaGreat
open Go.RowKit Go.Shelf Go.Lib Go.Sort
open Go.Joins (cell_of_block unfrozen_of_block block_setCell)
set_option linter.unusedVariables false
set_option linter.unusedSimpArgs false
set_option maxRecDepth 20000

theorem zer_obj (w : World) : ObjV w zerC zerO :=
  ⟨rfl, ⟨rfl, rfl, rfl, by decide⟩, ⟨rfl, rfl, rfl, ⟨none, 0, rfl, RowR.nil _ _ _ _⟩, ⟨none, 0, rfl, RowR.nil _ _ _ _⟩, ⟨none, 0, rfl, RowR.nil _ _ _ _⟩, rfl⟩, ⟨rfl, rfl, rfl, rfl, rfl, rfl, ⟨none, 0, rfl, RowR.nil _ _ _ _⟩, ⟨none, 0, rfl, RowR.nil _ _ _ _⟩, ⟨none, 0, rfl, RowR.nil _ _ _ _⟩, rfl⟩, ⟨rfl, rfl, rfl, ⟨none, 0, rfl, RowR.nil _ _ _ _⟩, ⟨none, 0, rfl, RowR.nil _ _ _ _⟩, rfl, rfl⟩, ⟨rfl, rfl, rfl, rfl, rfl, ⟨none, 0, rfl, RowR.nil _ _ _ _⟩, ⟨none, 0, rfl, RowR.nil _ _ _ _⟩, rfl⟩, ⟨rfl, rfl, rfl, ⟨none, 0, rfl, RowR.nil _ _ _ _⟩, rfl, rfl, rfl, ⟨none, 0, rfl, RowR.nil _ _ _ _⟩, rfl, rfl, ⟨none, 0, rfl, RowR.nil _ _ _ _⟩, ⟨none, 0, rfl, RowR.nil _ _ _ _⟩⟩⟩
theorem zer_nil : NilO zerC := by
  intro i n c hi hc
  simp only [rowsIx, List.mem_cons, List.not_mem_nil, or_false] at hi
  rcases hi with rfl | rfl | rfl | rfl | rfl | rfl | rfl | rfl | rfl | rfl | rfl | rfl | rfl | rfl <;> (simp at hc; exact hc.2.symm)
theorem zer_kept (base : Nat) (w : World) : Kept base w zerC zerO :=
  ⟨fun w' _ => zer_obj w', zer_nil, by unfold TinyO; simp [zerO], by constructor <;> first | rfl | exact Nat.zero_le _⟩

set_option maxHeartbeats 4000000 in
theorem now_any (base : Nat) (w : World) (S : List Nat) (sp : Nat) (most : Int) (l : List Ob) (hist : List Ev) (h : StIs base w S sp most l hist) :
    Calls Tryz.prog 7 #[.pointer (some ⟨sp, 0, none⟩)] w fun e w' => e = .returned (.int .u64 (hist.length : Int)) ∧ w' = w := by
  obtain ⟨mb, Dm, ev, kept, h⟩ := h
  have c1 : w.cell? ⟨sp, 1, none⟩ = some (.int .u64 (hist.length : Int)) := cell_of_block h.blk 1
  clear h
  go_enter Tryz.func7, Tryz.ntmps7
  go_wp2
  go_ret
  exact ⟨rfl, rfl⟩

set_option maxHeartbeats 4000000 in
theorem len_any (base : Nat) (w : World) (S : List Nat) (sp : Nat) (most : Int) (l : List Ob) (hist : List Ev) (h : StIs base w S sp most l hist) :
    Calls Tryz.prog 13 #[.pointer (some ⟨sp, 0, none⟩)] w fun e w' => e = .returned (.int .i64 (l.length : Int)) ∧ w' = w := by
  obtain ⟨mb, Dm, ev, kept, h⟩ := h
  have c1 : w.cell? ⟨sp, 2, none⟩ = some (.map (some mb)) := cell_of_block h.blk 2
  have hlen := h.map.own.len mapT 3
  rw [h.map.size] at hlen
  clear h
  go_enter Tryz.func13, Tryz.ntmps13
  go_wp2
  go_ret
  exact ⟨rfl, rfl⟩

set_option maxHeartbeats 4000000 in
theorem get_any (base : Nat) (w : World) (S : List Nat) (sp : Nat) (most : Int) (l : List Ob) (hist : List Ev) (k : Int) (nm : ByteArray) (h : StIs base w S sp most l hist) (hk : I64 k) (hnm : nm.size ≤ maxLen) :
    Calls Tryz.prog 10 #[.pointer (some ⟨sp, 0, none⟩), .int .i64 k, .string nm] w fun e w' => (∃ V, e = .returned (.tuple #[.agg V, .bool (l.any (hit k nm))]) ∧ V.size = 47 ∧ V.all (·.oneCell') = true ∧ ∀ x, l.find? (hit k nm) = some x → Kept base w' V x) ∧ Below w.heap.size w w' := by
  obtain ⟨mb, Dm, ev, kept, h⟩ := h
  obtain ⟨th, V, o, hth, hV, LK, hfo⟩ : ∃ th V o, l.any (hit k nm) = th ∧ Kept base w V o ∧ (∀ ws : World, ws.heap[mb]? = w.heap[mb]? → (Instr.lookup MT (.map (some mb)) (thing k nm) true).run Tryz.prog ws = .ok (.tuple #[.agg V, .bool th]) ws) ∧ (∀ x, l.find? (hit k nm) = some x → x = o) := by
    rcases h.map.look hk hnm with ⟨a1, a2, a3⟩ | ⟨x, cx, a1, a2, a3, a4⟩
    · exact ⟨false, zerC, zerO, a1, zer_kept base w, a3, fun x hx => by rw [a2] at hx; cases hx⟩
    · exact ⟨true, cx, x, a1, a3, a4, fun y hy => by rw [a2] at hy; cases hy; rfl⟩
  rw [hth]
  obtain ⟨B, hB⟩ : ∃ B, B = w.heap.size := ⟨_, rfl⟩
  obtain ⟨wb, hwb⟩ : ∃ wb, wb = w.alloc (.cells zerC OT) := ⟨_, rfl⟩
  have G0 : Gr w wb := hwb ▸ (Gr.refl w).alloc _
  have b1 : wb.heap[B]? = some (.cells zerC OT (0, 0)) := by rw [hwb, hB]; exact heap_alloc_new w _
  have hbs : wb.heap.size = B + 1 := by rw [hwb, hB]; simp
  have hml : mb < w.heap.size := (map_prot h.map h.bmb).2.1
  have c2 : wb.cell? ⟨sp, 2, none⟩ = some (.map (some mb)) := G0.cell (cell_of_block h.blk 2)
  have lk : (Instr.lookup MT (.map (some mb)) (.agg #[.int .i64 k, .string nm]) true).run Tryz.prog wb = .ok (.tuple #[.agg V, .bool th]) wb := LK wb (G0.heap hml)
  have z0 : (wb.alloc (.cells zerC OT)).heap[wb.heap.size]? = some (.cells zerC OT (0, 0)) := heap_alloc_new wb _
  obtain ⟨th1, n0, fx1, d1⟩ := store_ob (base := wb.heap.size) z0 rfl hV.obj.1 (Nat.le_refl _)
  obtain ⟨wc, hwc⟩ : ∃ W, W = (wb.alloc (.cells zerC OT)).setCells wb.heap.size 0 V.toList := ⟨_, rfl⟩
  obtain ⟨A, hA⟩ : ∃ A, A = wb.heap.size := ⟨_, rfl⟩
  rw [← hwc] at n0 d1
  rw [← hA] at n0 d1
  have bwc : Below wb.heap.size wb wc := by
    have g : Gr wb (wb.alloc (.cells zerC OT)) := (Gr.refl wb).alloc _
    exact ((Xb.ofGr g A).trans ⟨d1.os, d1.tape, d1.output, d1.size, fun k hk hne => d1.block k hk (by simpa using hne)⟩).below (by omega) (Nat.le_refl _)
  have hVc : Kept base wc V o := hV.fx ((Fx.ofBelow G0.below).trans (Fx.ofBelow bwc))
  have CC := Lib.hid (clone_any wc V o hVc.obj hVc.nil hVc.small.small)
  have TH1 := Lib.hid th1
  have IV : Hid ((Tryz.prog.info? OT).map (·.size) = some V.size) := by show _ = _; rw [hV.obj.1]; exact info_ob47
  have OV := Lib.hid (objV_one hV.obj)
  have HW : Hid ((wb.alloc (.cells zerC OT)).setCells wb.heap.size 0 V.toList = wc ∧ wb.heap.size = A) := ⟨hwc.symm, hA.symm⟩
  have LV := Lib.hid (load_ob n0 hV.obj.1)
  have HH := Lib.hid (And.intro G0 (And.intro b1 (And.intro hbs (And.intro bwc (And.intro hVc (And.intro hfo (And.intro hB h.bw)))))))
  clear h hth hV LK hfo G0 b1 hbs hml z0 th1 n0 fx1 d1 hwc hA bwc hVc hk hnm
  go_enter Tryz.func10, Tryz.ntmps10
  go_upto_region 3 with fail
  rw [← hwb, ← hB]
  clear hwb hB
  go_upto_region 4 with (refine wpList_store_mid rfl _ _ _ rfl wb.heap.size 0 V (by rfl) (by rfl) TH1.out IV.out OV.out ?_; rw [HW.out.1, HW.out.2])
  go_wp2_with (refine wpList_load_by (by kernel_rfl) OT _ rfl (.pointer (some ⟨A, 0, none⟩)) (.agg V) (by kernel_rfl) LV.out ?_)
  refine CC.out.mono ?_
  rintro e m ⟨⟨D, rfl, hC⟩, hbl⟩
  obtain ⟨G0, b1, hbs, bwc, hVc, hfo, hB, hbw⟩ := HH.out
  have KD : Kept base m D o := kept_copy hVc hC hVc.small hVc.fits
  have hwcz := bwc.size
  have m1 : m.heap[B]? = some (.cells zerC OT (0, 0)) := ((hbl.block B (by omega)).trans (bwc.block B (by omega))).trans b1
  obtain ⟨th, n0, fx1, c1⟩ := store_ob (base := base) m1 rfl KD.obj.1 (by omega)
  obtain ⟨n, hn⟩ : ∃ n, n = m.setCells B 0 D.toList := ⟨_, rfl⟩
  rw [← hn] at n0 fx1 c1
  have IN : Hid ((Tryz.prog.info? OT).map (·.size) = some D.size) := by show _ = _; rw [KD.obj.1]; exact info_ob47
  have TH := Lib.hid th
  have ON := Lib.hid (objV_one KD.obj)
  have HN := Lib.hid hn
  have bwn : Below w.heap.size w n := by
    have h1 : Below w.heap.size w m := G0.below.trans ((bwc.mono G0.below.size).trans (hbl.mono (by omega)))
    exact h1.trans (c1.below (fun g hg => by simp at hg; omega) h1.size)
  have FIN : Hid ((∃ V', D = V' ∧ V'.size = 47 ∧ V'.all (·.oneCell') = true ∧ ∀ x, l.find? (hit k nm) = some x → Kept base n V' x) ∧ Below w.heap.size w n) := ⟨⟨D, rfl, KD.obj.1, objV_one KD.obj, fun x hx => by rw [hfo x hx]; exact KD.fx fx1⟩, bwn⟩
  have N0 := Lib.hid n0
  clear G0 b1 hbs bwc hVc hfo hB hbw KD hwcz m1 th n0 fx1 c1 hn bwn hbl hC CC LV HW TH1 IV OV HH
  go_wp2_with (refine wpList_store_mid rfl _ _ _ rfl B 0 D (by rfl) (by rfl) TH.out IN.out ON.out ?_; rw [← HN.out])
  refine bodyPost_ret (results_row_tmp rfl _ _ B OT D (0, 0) _ (by rfl) N0.out Tryz.underlying57 rfl IN.out) rfl ?_
  obtain ⟨⟨V', rfl, h1, h2, h3⟩, h4⟩ := FIN.out
  exact ⟨⟨_, rfl, h1, h2, h3⟩, h4⟩
end Go.Proofs.YtcfilaiejccfkaaGreat
/- The names that one goes by: a map of names; what an event does to them; how many there are. -/
namespace Go.Proofs.YtcfilaiejccfkaaGreat
open Go.RowKit Go.Shelf Go.Lib Go.Sort
open Go.Maps (Keyed IsMap Tidy)
open Go.Joins (cell_of_block unfrozen_of_block block_setCell)
set_option linter.unusedVariables false
set_option linter.unusedSimpArgs false
set_option maxRecDepth 20000

/-- What an event does. -/
structure Step (l : List Ob) (e : Ev) (l' : List Ob) : Prop where
  kind : I64 e.kind
  name : e.name.size ≤ maxLen
  was : l.any (hit e.kind e.name) = !(decide (e.what = 0))
  now : ∀ k nm, l'.any (hit k nm) = if k = e.kind ∧ nm = e.name then !(decide (e.what = 2)) else l.any (hit k nm)
theorem hit_off {k k' : Int} {nm nm' : ByteArray} {o : Ob} (h : hit k nm o = true) : hit k' nm' o = decide (k' = k ∧ nm' = nm) := by
  obtain ⟨rfl, rfl⟩ := hit_iff.1 h
  rw [Bool.eq_iff_iff, hit_iff, decide_eq_true_eq]
  exact ⟨fun h => ⟨h.1.symm, h.2.symm⟩, fun h => ⟨h.1.symm, h.2.symm⟩⟩
theorem hit_own (o : Ob) (k : Int) (nm : ByteArray) : hit k nm o = decide (k = o.kind ∧ nm = o.name) := hit_off (hit_self o)
theorem step_made {l : List Ob} {d : Ob} {v : Nat} (ha : l.any (hit d.kind d.name) = false) (hd : OkK d) : Step l ⟨0, d.kind, d.name, v⟩ (l ++ [d]) :=
  ⟨hd.1, hd.2, ha, fun k nm => by
    rw [List.any_append]
    simp only [List.any_cons, List.any_nil, Bool.or_false]
    rw [hit_own d]
    by_cases e : k = d.kind ∧ nm = d.name
    · simp [e]
    · simp [e]⟩
theorem step_set {l : List Ob} {d : Ob} {v : Nat} (ha : l.any (hit d.kind d.name) = true) (hd : OkK d) : Step l ⟨1, d.kind, d.name, v⟩ (put l d) :=
  ⟨hd.1, hd.2, by rw [ha]; rfl, fun k nm => by
    by_cases e : k = d.kind ∧ nm = d.name
    · obtain ⟨rfl, rfl⟩ := e
      rw [if_pos ⟨rfl, rfl⟩]
      exact List.any_eq_true.2 ⟨d, put_self l d, hit_self d⟩
    · rw [if_neg e, Bool.eq_iff_iff, List.any_eq_true, List.any_eq_true]
      constructor
      · rintro ⟨x, hx, hp⟩
        rcases put_mem hx with rfl | ⟨hx, _⟩
        · rw [hit_own, decide_eq_true_eq] at hp
          exact absurd hp e
        · exact ⟨x, hx, hp⟩
      · rintro ⟨x, hx, hp⟩
        refine ⟨x, put_keeps hx (fun e2 => e ?_), hp⟩
        obtain ⟨a1, a2⟩ := hit_iff.1 hp
        unfold Key at e2
        rw [Prod.mk.injEq] at e2
        exact ⟨by rw [← a1, e2.1], by rw [← a2]; exact by_inj e2.2⟩⟩
theorem step_gone {l : List Ob} {k : Int} {nm : ByteArray} {v : Nat} (hp : l.Pairwise (fun a b => Key a ≠ Key b)) (hok : ∀ o ∈ l, OkK o) (ha : l.any (hit k nm) = true) : Step l ⟨2, k, nm, v⟩ (del l k nm) := by
  obtain ⟨x, hx, hpx⟩ := List.any_eq_true.1 ha
  obtain ⟨e1, e2⟩ := hit_iff.1 hpx
  refine ⟨e1 ▸ (hok x hx).1, e2 ▸ (hok x hx).2, by rw [ha]; rfl, fun k' nm' => ?_⟩
  by_cases e : k' = k ∧ nm' = nm
  · obtain ⟨rfl, rfl⟩ := e
    rw [if_pos ⟨rfl, rfl⟩]
    show _ = false
    rw [List.any_eq_false]
    intro y hy
    rw [del_mem hp] at hy
    rw [hy.2]
    simp
  · rw [if_neg e, Bool.eq_iff_iff, List.any_eq_true, List.any_eq_true]
    constructor
    · rintro ⟨y, hy, hpy⟩
      exact ⟨y, ((del_mem hp).1 hy).1, hpy⟩
    · rintro ⟨y, hy, hpy⟩
      refine ⟨y, (del_mem hp).2 ⟨hy, ?_⟩, hpy⟩
      cases h : hit k nm y with
      | false => rfl
      | true =>
        obtain ⟨a1, a2⟩ := hit_iff.1 h
        obtain ⟨b1, b2⟩ := hit_iff.1 hpy
        exact absurd ⟨by rw [← b1, a1], by rw [← b2, a2]⟩ e
theorem Move.step {l l' : List Ob} {hist hist' : List Ev} (h : Move l hist l' hist') (hp : l.Pairwise (fun a b => Key a ≠ Key b)) (hok : ∀ o ∈ l, OkK o) : (l' = l ∧ hist' = hist) ∨ ∃ e, hist' = hist ++ [e] ∧ Step l e l' := by
  cases h with
  | stay => exact .inl ⟨rfl, rfl⟩
  | made d h1 h2 => exact .inr ⟨_, rfl, step_made h1 h2⟩
  | set d h1 h2 => exact .inr ⟨_, rfl, step_set h1 h2⟩
  | gone k nm h1 => exact .inr ⟨_, rfl, step_gone hp hok h1⟩
/-- A row of events from one row of objects to another one. -/
def Chain (l0 : List Ob) (ext : List Ev) (l : List Ob) : Prop := ∃ f : Nat → List Ob, f 0 = l0 ∧ f ext.length = l ∧ ∀ i e, ext[i]? = some e → Step (f i) e (f (i + 1))
theorem Chain.nil (l : List Ob) : Chain l [] l := ⟨fun _ => l, rfl, rfl, fun i e h => by simp at h⟩
theorem Chain.snoc {l0 l l' : List Ob} {ext : List Ev} {e : Ev} (h : Chain l0 ext l) (s : Step l e l') : Chain l0 (ext ++ [e]) l' := by
  obtain ⟨f, h0, h1, h2⟩ := h
  refine ⟨fun i => if i ≤ ext.length then f i else l', by simp [h0], by simp only [List.length_append, List.length_singleton]; exact if_neg (by omega), fun i x hx => ?_⟩
  rw [List.getElem?_append] at hx
  split at hx
  · rename_i hlt
    have := h2 i x hx
    simp only
    rw [if_pos (by omega), if_pos (by omega)]
    exact this
  · rename_i hlt
    have hi : i - ext.length = 0 := by
      have := (List.getElem?_eq_some_iff.1 hx).1
      simpa using this
    rw [hi] at hx
    simp at hx
    subst hx
    have : i = ext.length := by omega
    subst this
    simp only
    rw [if_pos (Nat.le_refl _), if_neg (by omega), h1]
    exact s

/-- How many of a row's names are through. -/
def seen (left : Lit → Bool) (l : List Ob) : Nat := (l.filter (fun o => !left (kl o.kind o.name))).length
theorem seen_none {left : Lit → Bool} {l : List Ob} (h : ∀ o ∈ l, left (kl o.kind o.name) = true) : seen left l = 0 := by
  unfold seen
  rw [List.filter_eq_nil_iff.2 (fun o ho => by rw [h o ho]; simp)]
  rfl
theorem seen_all {left : Lit → Bool} {l : List Ob} (h : ∀ z, left z = false) : seen left l = l.length := by
  unfold seen
  rw [List.filter_eq_self.2 (fun o ho => by rw [h]; rfl)]
theorem seen_step {left left' : Lit → Bool} {k : Int} {nm : ByteArray} (hl : left (kl k nm) = true) : ∀ (l : List Ob), l.Pairwise (fun a b => Key a ≠ Key b) → (∀ o ∈ l, left' (kl o.kind o.name) = (left (kl o.kind o.name) && !(hit k nm o))) →
    seen left' l = seen left l + (if l.any (hit k nm) then 1 else 0)
  | [], _, _ => rfl
  | x :: l, hp, h => by
    have hp2 := List.pairwise_cons.1 hp
    have ih := seen_step hl l hp2.2 (fun o ho => h o (List.mem_cons_of_mem _ ho))
    have hx := h x List.mem_cons_self
    unfold seen at ih ⊢
    cases hh : hit k nm x with
    | true =>
      obtain ⟨e1, e2⟩ := hit_iff.1 hh
      have hno : l.any (hit k nm) = false := by
        rw [List.any_eq_false]
        intro y hy hpy
        obtain ⟨b1, b2⟩ := hit_iff.1 hpy
        exact hp2.1 y hy (by unfold Key; rw [e1, e2, b1, b2])
      rw [hno] at ih
      have hlx : left (kl x.kind x.name) = true := by rw [e1, e2]; exact hl
      rw [hh, hlx] at hx
      rw [List.filter_cons, List.filter_cons, hx, hlx]
      simp [hh] at ih ⊢
      exact ih
    | false =>
      rw [hh] at hx
      simp only [Bool.not_false, Bool.and_true] at hx
      rw [List.filter_cons, List.filter_cons, hx]
      cases hl2 : left (kl x.kind x.name) <;> simp [hh, hl2] at ih ⊢ <;> omega
end Go.Proofs.YtcfilaiejccfkaaGreat
/- Acts played upon a store and its model, one by one. -/
namespace Go.Proofs.YtcfilaiejccfkaaGreat
open Go.RowKit Go.Shelf Go.Lib Go.Sort
open Go.Joins (cell_of_block unfrozen_of_block block_setCell)
set_option linter.unusedVariables false
set_option linter.unusedSimpArgs false
set_option maxRecDepth 20000

theorem Move.len {l l' : List Ob} {hist hist' : List Ev} (h : Move l hist l' hist') : l'.length ≤ l.length + 1 := by
  cases h with
  | stay => omega
  | made d h1 h2 => simp
  | set d h1 h2 => rw [put_len, if_pos h1]; omega
  | gone k nm h1 => have := @del_len l k nm; rw [if_pos h1] at this; omega
theorem turned_chg {w w' : World} {mb : Nat} (h : w.mapTurned w' mb) : Chg [mb] w w' :=
  Chg.ofGrown (S := [mb]) (World.mapTurned.grown h) (fun g e => .inl (by simp at e; simp [e]))
end Go.Proofs.YtcfilaiejccfkaaGreat
