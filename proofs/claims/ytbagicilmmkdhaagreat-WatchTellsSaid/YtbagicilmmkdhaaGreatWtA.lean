/- Kinds: rows of numbers; a watch made. -/
import Derived.Test.YtbagicilmmkdhaaGreatStA
import Derived.Test.YtbagicilmmkdhaaGreatStO
import Derived.Laws.OwnMore
import Derived.Test.YtbagicilmmkdhaaGreatLsB
import Derived.Test.YtbagicilmmkdhaaGreatVLawBase
namespace Go.Proofs.YtbagicilmmkdhaaGreat
open Go.RowKit Go.Shelf Go.Lib Go.Sort
open Go.Joins (cell_of_block unfrozen_of_block block_setCell)
set_option linter.unusedVariables false
set_option linter.unusedSimpArgs false
set_option maxRecDepth 20000

def encI (k : Int) : List Value := [.int .i64 k]
/-- A row of numbers that came in. -/
structure Ints (W : World) (q : Option Addr) (ks : List Int) : Prop where
  row : RowR 1 encI W q ks
  len : ks.length ≤ 140737488351232
theorem Ints.below {W w : World} {q : Option Addr} {ks : List Int} (h : Ints W q ks) (b : Below W.heap.size W w) : Ints w q ks := ⟨h.row.below b, h.len⟩
theorem Ints.nil (W : World) (q : Option Addr) : Ints W q [] := ⟨RowR.nil _ _ _ _, by simp⟩
theorem Ints.at {W : World} {q : Option Addr} {ks : List Int} (h : Ints W q ks) {j : Nat} {x : Int} (hx : ks[j]? = some x) : ∃ b off, q = some ⟨b, off, none⟩ ∧ b < W.heap.size ∧ W.cell? ⟨b, off + j, none⟩ = some (.int .i64 x) := by
  obtain ⟨b, off, e, h1, h2⟩ := h.row j x hx
  exact ⟨b, off, e, h1, by have := h2 0 _ rfl; rwa [Nat.mul_one, Nat.add_zero] at this⟩
/-- Does a watch of these kinds look for that kind? -/
def sees (ks : List Int) (k : Int) : Bool := ks.isEmpty || ks.contains k

set_option maxHeartbeats 2000000 in
theorem ints_index (w : World) (q : Option Addr) (c : Nat) (ks : List Int) (h : Ints w q ks) (k : Int) :
    Calls Tryz.prog 75 #[.slice q ks.length c, .int .i64 k] w fun e w' => (∃ r, e = .returned (.int .i64 r) ∧ decide (0 ≤ r) = ks.contains k) ∧ w' = w := by
  obtain ⟨n, hn⟩ : ∃ n, n = ks.length := ⟨_, rfl⟩
  rw [← hn]
  have hl := h.len
  have H := Lib.hid (And.intro h hn)
  clear h
  rw [← hn] at hl
  clear hn
  go_enter Tryz.func75, Tryz.ntmps75
  go_wp2_with fail
  go_loopg [8] n (fun gg vi wr => ∃ j : Nat, vi = .int .i64 (j : Int) ∧ j ≤ n ∧ n - j ≤ gg ∧ wr = w ∧ Hid (∀ i x, i < j → ks[i]? = some x → x ≠ k))
  case atStart => exact ⟨0, rfl, by omega, by omega, rfl, fun i x hi => by omega⟩
  case round =>
    obtain ⟨j, rfl, h1, h2, rfl, HN⟩ := hrel
    by_cases hj : j < n
    · obtain ⟨h, hn⟩ := H.out
      obtain ⟨x, hx⟩ : ∃ x, ks[j]? = some x := ⟨ks[j]'(by omega), List.getElem?_eq_getElem (by omega)⟩
      obtain ⟨b, off, rfl, hb, hc⟩ := h.at hx
      clear h hn
      by_cases he : x = k
      · have FIN : Hid (decide (0 ≤ (j : Int)) = ks.contains k) := by
          rw [decide_eq_true (by omega)]
          exact (List.contains_iff_mem.2 (he ▸ List.mem_of_getElem? hx)).symm
        have t : (k == x) = true := by rw [he]; exact beq_self_eq_true k
        clear hx he
        go_wp2
        go_ret
        exact ⟨⟨_, rfl, FIN.out⟩, rfl⟩
      · have NX : Hid (∀ i y, i < j + 1 → ks[i]? = some y → y ≠ k) := fun i y hi hy => by
          by_cases e : i = j
          · rw [e, hx] at hy
            injection hy with hy
            exact hy ▸ he
          · exact HN.out i y (by omega) hy
        have t : (k == x) = false := beq_false_of_ne (Ne.symm he)
        clear hx he
        go_wp2
        go_roundg (n - (j + 1))
        case measure => omega
        case rel => exact ⟨j + 1, by push_cast; rfl, by omega, by omega, rfl, NX⟩
    · have FIN : Hid (decide (0 ≤ (-1 : Int)) = ks.contains k) := by
        have : ks.contains k = false := by
          cases e : ks.contains k with
          | false => rfl
          | true =>
            obtain ⟨i, hi⟩ := List.mem_iff_getElem?.1 (List.contains_iff_mem.1 e)
            have := H.out.2
            have h3 := (List.getElem?_eq_some_iff.1 hi).1
            exact absurd rfl (HN.out i k (by omega) hi)
        rw [this]
        rfl
      go_wp2
      go_ret
      exact ⟨⟨_, rfl, FIN.out⟩, rfl⟩
theorem ints_has (w : World) (q : Option Addr) (c : Nat) (ks : List Int) (h : Ints w q ks) (k : Int) :
    Calls Tryz.prog 43 #[.slice q ks.length c, .int .i64 k] w fun e w' => e = .returned (.bool (ks.contains k)) ∧ w' = w := by
  have C := Lib.hid (ints_index w q c ks h k)
  obtain ⟨n, hn⟩ : ∃ n, n = ks.length := ⟨_, rfl⟩
  rw [← hn] at C ⊢
  clear hn h
  generalize ks.contains k = r at C ⊢
  go_enter Tryz.func43, Tryz.ntmps43
  go_wp2_with fail
  refine C.out.mono ?_
  rintro e w' ⟨⟨i, rfl, hi⟩, rfl⟩
  subst hi
  go_wp2
  go_ret
  exact ⟨rfl, rfl⟩
set_option maxHeartbeats 2000000 in
theorem in_any (w : World) (q : Option Addr) (c : Nat) (ks : List Int) (h : Ints w q ks) (k : Int) :
    Calls Tryz.prog 17 #[.slice q ks.length c, .int .i64 k] w fun e w' => e = .returned (.bool (sees ks k)) ∧ w' = w := by
  obtain ⟨n, hn⟩ : ∃ n, n = ks.length := ⟨_, rfl⟩
  rw [← hn]
  have hl := h.len
  have H := Lib.hid (And.intro h hn)
  clear h
  rw [← hn] at hl
  clear hn
  go_enter Tryz.func17, Tryz.ntmps17
  go_wp2_with fail
  go_loopg [9] n (fun gg vi wr => ∃ j : Nat, vi = .int .i64 (j : Int) ∧ j ≤ n ∧ n - j ≤ gg ∧ wr = w ∧ Hid (∀ i x, i < j → ks[i]? = some x → x ≠ k))
  case atStart => exact ⟨0, rfl, by omega, by omega, rfl, fun i x hi => by omega⟩
  case round =>
    obtain ⟨j, rfl, h1, h2, rfl, HN⟩ := hrel
    by_cases hj : j < n
    · obtain ⟨h, hn⟩ := H.out
      obtain ⟨x, hx⟩ : ∃ x, ks[j]? = some x := ⟨ks[j]'(by omega), List.getElem?_eq_getElem (by omega)⟩
      obtain ⟨b, off, rfl, hb, hc⟩ := h.at hx
      clear h hn
      by_cases he : x = k
      · have FIN : Hid (sees ks k = true) := by
          show sees ks k = true
          unfold sees
          rw [List.contains_iff_mem.2 (he ▸ List.mem_of_getElem? hx), Bool.or_true]
        have t : (x == k) = true := by rw [he]; exact beq_self_eq_true k
        clear hx he
        go_wp2
        go_ret
        exact ⟨by rw [FIN.out]; rfl, rfl⟩
      · have NX : Hid (∀ i y, i < j + 1 → ks[i]? = some y → y ≠ k) := fun i y hi hy => by
          by_cases e : i = j
          · rw [e, hx] at hy
            injection hy with hy
            exact hy ▸ he
          · exact HN.out i y (by omega) hy
        have t : (x == k) = false := beq_false_of_ne he
        clear hx he
        go_wp2
        go_roundg (n - (j + 1))
        case measure => omega
        case rel => exact ⟨j + 1, by push_cast; rfl, by omega, by omega, rfl, NX⟩
    · have FIN : Hid (((n : Int) == 0) = sees ks k) := by
        have hc : ks.contains k = false := by
          cases e : ks.contains k with
          | false => rfl
          | true =>
            obtain ⟨i, hi⟩ := List.mem_iff_getElem?.1 (List.contains_iff_mem.1 e)
            have := H.out.2
            have h3 := (List.getElem?_eq_some_iff.1 hi).1
            exact absurd rfl (HN.out i k (by omega) hi)
        unfold sees
        rw [hc, Bool.or_false, H.out.2]
        cases ks with
        | nil => rfl
        | cons x r => exact beq_false_of_ne (by rw [List.length_cons]; omega)
      obtain ⟨z, hz⟩ : ∃ z, z = ((n : Int) == 0) := ⟨_, rfl⟩
      rw [← hz] at FIN
      have hz' := hz.symm
      clear hz
      go_wp2
      go_ret
      exact ⟨by rw [FIN.out]; rfl, rfl⟩

abbrev WaT : TypeId := 105
/-- A watch's own cells. -/
def waC (sp : Nat) (f : Nat → Bool) (pl : Nat) : Array Value := #[.pointer (some ⟨sp, 0, none⟩), .bool (f 0), .bool (f 1), .bool (f 2), .bool (f 3), .bool (f 4), .int .u64 (pl : Int)]
theorem waC_set (sp : Nat) (f : Nat → Bool) (pl : Nat) : ∀ (j : Nat), j < 5 → ∀ b, (waC sp f pl).setIfInBounds (1 + j) (.bool b) = waC sp (fun i => if i = j then b else f i) pl := fun j hj b => by
  rcases (show j = 0 ∨ j = 1 ∨ j = 2 ∨ j = 3 ∨ j = 4 by omega) with rfl | rfl | rfl | rfl | rfl <;> rfl
theorem waC_ext (sp : Nat) {f g : Nat → Bool} (pl : Nat) (h : ∀ i, i < 5 → f i = g i) : waC sp f pl = waC sp g pl := by
  unfold waC
  rw [h 0 (by omega), h 1 (by omega), h 2 (by omega), h 3 (by omega), h 4 (by omega)]
theorem waC_pl (sp : Nat) (f : Nat → Bool) (pl v : Nat) : (waC sp f pl).setIfInBounds 6 (.int .u64 (v : Int)) = waC sp f v := rfl
theorem waC_at (sp : Nat) (f : Nat → Bool) (pl : Nat) : ∀ (j : Nat), j < 5 → (waC sp f pl)[1 + j]? = some (.bool (f j)) := fun j hj => by
  rcases (show j = 0 ∨ j = 1 ∨ j = 2 ∨ j = 3 ∨ j = 4 by omega) with rfl | rfl | rfl | rfl | rfl <;> rfl

theorem from_nil (w : World) (v : Int) (s : Value) : Calls Tryz.prog 23 #[.pointer none, .int .u64 v, s] w fun e w' => e = .returned (.pointer none) ∧ w' = w := by
  go_enter Tryz.func23, Tryz.ntmps23
  go_wp2
  go_ret
  exact ⟨rfl, rfl⟩
set_option maxHeartbeats 4000000 in
theorem from_any (w : World) (sp v : Nat) (q : Option Addr) (c : Nat) (ks : List Int) (h : Ints w q ks) :
    Calls Tryz.prog 23 #[.pointer (some ⟨sp, 0, none⟩), .int .u64 (v : Int), .slice q ks.length c] w fun e w' => e = .returned (.pointer (some ⟨w.heap.size, 0, none⟩)) ∧
      w'.heap[w.heap.size]? = some (.cells (waC sp (fun i => sees ks (i : Int)) v) WaT (0, 0)) ∧ Below w.heap.size w w' := by
  have mixed : Tryz.prog.follows .mixedOrders = true := by kernel_rfl
  obtain ⟨B, hB⟩ : ∃ B, B = w.heap.size := ⟨_, rfl⟩
  obtain ⟨w1, hw1⟩ : ∃ x, x = w.alloc (.cells #[.pointer (some ⟨sp, 0, none⟩), .bool false, .bool false, .bool false, .bool false, .bool false, .int .u64 (v : Int)] WaT) := ⟨_, rfl⟩
  have G1 : Gr w w1 := hw1 ▸ (Gr.refl w).alloc _
  have b1 : w1.heap[B]? = some (.cells (waC sp (fun i => if i < 0 then sees ks (i : Int) else false) v) WaT (0, 0)) := by rw [hw1, hB]; exact heap_alloc_new w _
  obtain ⟨n, hn⟩ : ∃ n, n = ks.length := ⟨_, rfl⟩
  have CC := Lib.hid (fun (ws : World) (b : Below w.heap.size w ws) (k : Int) => ints_has ws q c ks (h.below b) k)
  have hl := h.len
  rw [← hn] at CC hl ⊢
  have HW : Hid (w.alloc (.cells #[.pointer (some ⟨sp, 0, none⟩), .bool false, .bool false, .bool false, .bool false, .bool false, .int .u64 (v : Int)] WaT) = w1 ∧ w.heap.size = B) := ⟨hw1.symm, hB.symm⟩
  have H1 : Hid (w1.heap[B]? = some (.cells (waC sp (fun i => if i < 0 then sees ks (i : Int) else false) v) WaT (0, 0)) ∧ Below B w w1 ∧ n = ks.length) := ⟨b1, by rw [hB]; exact G1.below, hn⟩
  clear h hw1 G1 b1 hB hn
  go_enter Tryz.func23, Tryz.ntmps23
  go_upto_region 4 with fail
  rw [HW.out.1, HW.out.2]
  go_wp2_with fail
  go_loopg [15] 5 (fun gg vi wr => ∃ j : Nat, vi = .int .i64 (j : Int) ∧ j ≤ 5 ∧ 5 - j ≤ gg ∧ Hid (wr.heap[B]? = some (.cells (waC sp (fun i => if i < j then sees ks (i : Int) else false) v) WaT (0, 0)) ∧ Below B w wr))
  case atStart => exact ⟨0, rfl, by omega, by omega, H1.out.1, H1.out.2.1⟩
  case round =>
    obtain ⟨j, rfl, h1, h2, HR⟩ := hrel
    by_cases hj : j < 5
    · obtain ⟨z, hz⟩ : ∃ z, z = ((n : Int) == 0) := ⟨_, rfl⟩
      obtain ⟨y, hy⟩ : ∃ y, y = sees ks (j : Int) := ⟨_, rfl⟩
      obtain ⟨we, hwe⟩ : ∃ x, x = wr.drew.setCell ⟨B, 1 + j, none⟩ (.bool y) := ⟨_, rfl⟩
      obtain ⟨hb, low⟩ := HR.out
      have hsz : B ≤ wr.heap.size := by have := low.size; have := HW.out.2; omega
      have nb : we.heap[B]? = some (.cells (waC sp (fun i => if i < j + 1 then sees ks (i : Int) else false) v) WaT (0, 0)) := by
        rw [hwe, block_setCell (w := wr.drew) hb, waC_set sp _ v j hj, hy]
        congr 2
        refine waC_ext sp v (fun i hi => ?_)
        by_cases e : i = j
        · rw [if_pos e, if_pos (by omega), e]
        · rw [if_neg e]
          by_cases e2 : i < j
          · rw [if_pos e2, if_pos (by omega)]
          · rw [if_neg e2, if_neg (by omega)]
      have nlow : Below B w we := by
        rw [hwe]
        exact (low.trans (((Gr.refl wr).drewN 1).below.mono hsz)).setCell (Nat.le_refl _) _
      have NX := Lib.hid (And.intro nb nlow)
      have KB : Hid (∀ ws : World, Below wr.heap.size wr ws → ws.heap[B]? = some (.cells (waC sp (fun i => if i < j then sees ks (i : Int) else false) v) WaT (0, 0))) := fun ws b => (b.block B (Array.getElem?_eq_some_iff.1 hb).1).trans hb
      have KJ : Hid (∀ ws : World, Below wr.heap.size wr ws → j < 5) := fun ws b => hj
      have hbw : (wr.setCell ⟨B, 1 + j, none⟩ (.bool y)).drew = we := by rw [hwe]; rfl
      have cb : wr.drew.cell? ⟨B, 1 + j, none⟩ = some (.bool (if j < j then sees ks (j : Int) else false)) := (cell_of_block (w := wr.drew) hb (1 + j)).trans (waC_at _ _ _ j hj)
      have fb : wr.drew.frozen? ⟨B, 1 + j, none⟩ = false := unfrozen_of_block (w := wr.drew) hb _
      have GD : Hid (Below wr.heap.size wr wr.drew) := ((Gr.refl wr).drewN 1).below
      have KC : Hid (∀ ws : World, Below wr.heap.size wr ws → Below w.heap.size w ws) := fun ws b => by
        have := HW.out.2
        rw [this]
        exact low.trans (b.mono hsz)
      have KY : Hid (y = sees ks (j : Int) ∧ n = ks.length) := ⟨hy, H1.out.2.2⟩
      have CJ : z = false → Hid (∀ ws : World, Below wr.heap.size wr ws → Calls Tryz.prog 43 #[.slice q n c, .int .i64 (j : Int)] ws fun e w' => e = .returned (.bool y) ∧ w' = ws) := fun h0 ws b => by
        have hc : y = ks.contains (j : Int) := by
          rw [KY.out.1]
          unfold sees
          have : ks ≠ [] := fun e => by
            rw [hz, KY.out.2, e] at h0
            simp at h0
          cases ks with
          | nil => exact absurd rfl this
          | cons x r => rfl
        rw [hc]
        exact CC.out ws (KC.out ws b) _
      clear hb low nb nlow HR hwe hy
      cases z with
      | true =>
        have hy1 : y = true := by
          obtain ⟨e1, e2⟩ := KY.out
          have : ks = [] := List.eq_nil_of_length_eq_zero (by have := hz.symm; simp at this; omega)
          rw [e1, this]; rfl
        subst hy1
        have t0 : ((n : Int) == 0) = true := hz.symm
        clear hz
        go_upto_region 7 with fail
        refine wp_region_G (f := 13) (S := fun ws => Below wr.heap.size wr ws) mixed GD.out (fun hS => ?_)
        refine wpAnyG_takeD (i := 0) (d := 18) (v := .pointer (some ⟨B, 0, none⟩)) _ rfl rfl (by kernel_rfl) (by kernel_rfl) (by kernel_rfl) (by kernel_rfl) (fun _ _ _ h => h) (Or.inl ⟨by kernel_rfl, fun ws hSw => by first | (go_simp; done) | (go_simp; with_reducible rfl) | (go_simp; rfl)⟩) hS ?_
        simp only [Act.put, List.setIfInBounds_toArray, List.set_cons_zero, List.set_cons_succ]
        refine wpAnyG_takeD (i := 1) (d := 19) (v := .int .i64 (j : Int)) _ rfl rfl (by kernel_rfl) (by kernel_rfl) (by kernel_rfl) (by kernel_rfl) (fun _ _ _ h => h) (Or.inl ⟨by kernel_rfl, fun ws hSw => by first | (go_simp; done) | (go_simp; with_reducible rfl) | (go_simp; rfl)⟩) hS ?_
        simp only [Act.put, List.setIfInBounds_toArray, List.set_cons_zero, List.set_cons_succ]
        refine wpAnyG_takeD (i := 2) (d := 20) (v := .slice q n c) _ rfl rfl (by kernel_rfl) (by kernel_rfl) (by kernel_rfl) (by kernel_rfl) (fun _ _ _ h => h) (Or.inl ⟨by kernel_rfl, fun ws hSw => by first | (go_simp; done) | (go_simp; with_reducible rfl) | (go_simp; rfl)⟩) hS ?_
        simp only [Act.put, List.setIfInBounds_toArray, List.set_cons_zero, List.set_cons_succ]
        refine wpAnyG_takeD (i := 3) (d := 21) (v := .int .i64 (n : Int)) _ rfl rfl (by kernel_rfl) (by kernel_rfl) (by kernel_rfl) (by kernel_rfl) (fun _ _ _ h => h) (Or.inl ⟨by kernel_rfl, fun ws hSw => by first | (go_simp; done) | (go_simp; with_reducible rfl) | (go_simp; rfl)⟩) hS ?_
        simp only [Act.put, List.setIfInBounds_toArray, List.set_cons_zero, List.set_cons_succ]
        refine wpAnyG_takeD (i := 4) (d := 22) (v := .bool true) _ rfl rfl (by kernel_rfl) (by kernel_rfl) (by kernel_rfl) (by kernel_rfl) (fun _ _ _ h => h) (Or.inl ⟨by kernel_rfl, fun ws hSw => by first | (go_simp; done) | (go_simp; with_reducible rfl) | (go_simp; rfl)⟩) hS ?_
        simp only [Act.put, List.setIfInBounds_toArray, List.set_cons_zero, List.set_cons_succ]
        refine wpAnyG_takeD (i := 5) (d := 23) (v := .bool true) _ rfl rfl (by kernel_rfl) (by kernel_rfl) (by kernel_rfl) (by kernel_rfl) (fun _ _ _ h => h) (Or.inl ⟨by kernel_rfl, fun ws hSw => by first | (go_simp; done) | (go_simp; with_reducible rfl) | (go_simp; rfl)⟩) hS ?_
        simp only [Act.put, List.setIfInBounds_toArray, List.set_cons_zero, List.set_cons_succ]
        refine wpAnyG_takeD (i := 6) (d := 24) (v := undef) _ rfl rfl (by kernel_rfl) (by kernel_rfl) (by kernel_rfl) (by kernel_rfl) (fun _ _ _ h => h) (Or.inr ⟨by kernel_rfl, rfl⟩) hS ?_
        simp only [Act.put, List.setIfInBounds_toArray, List.set_cons_zero, List.set_cons_succ]
        refine wpAnyG_takeD (i := 7) (d := 25) (v := undef) _ rfl rfl (by kernel_rfl) (by kernel_rfl) (by kernel_rfl) (by kernel_rfl) (fun _ _ _ h => h) (Or.inr ⟨by kernel_rfl, rfl⟩) hS ?_
        simp only [Act.put, List.setIfInBounds_toArray, List.set_cons_zero, List.set_cons_succ]
        refine wpAnyG_takeD (i := 8) (d := 26) (v := undef) _ rfl rfl (by kernel_rfl) (by kernel_rfl) (by kernel_rfl) (by kernel_rfl) (fun _ _ _ h => h) (Or.inr ⟨by kernel_rfl, rfl⟩) hS ?_
        simp only [Act.put, List.setIfInBounds_toArray, List.set_cons_zero, List.set_cons_succ]
        refine wpAnyG_takeD (i := 9) (d := 27) (v := .bool true) _ rfl rfl (by kernel_rfl) (by kernel_rfl) (by kernel_rfl) (by kernel_rfl) (fun _ _ _ h => h) (Or.inl ⟨by kernel_rfl, fun ws hSw => by first | (go_simp; done) | (go_simp; with_reducible rfl) | (go_simp; rfl)⟩) hS ?_
        simp only [Act.put, List.setIfInBounds_toArray, List.set_cons_zero, List.set_cons_succ]
        refine wpAnyG_takeD (i := 10) (d := 28) (v := .pointer (some ⟨B, 0, none⟩)) _ rfl rfl (by kernel_rfl) (by kernel_rfl) (by kernel_rfl) (by kernel_rfl) (fun _ _ _ h => h) (Or.inl ⟨by kernel_rfl, fun ws hSw => by first | (go_simp; done) | (go_simp; with_reducible rfl) | (go_simp; rfl)⟩) hS ?_
        simp only [Act.put, List.setIfInBounds_toArray, List.set_cons_zero, List.set_cons_succ]
        refine wpAnyG_takeD (i := 11) (d := 29) (v := .pointer (some ⟨B, 1, none⟩)) _ rfl rfl (by kernel_rfl) (by kernel_rfl) (by kernel_rfl) (by kernel_rfl) (fun _ _ _ h => h) (Or.inl ⟨by kernel_rfl, fun ws hSw => by first | (go_simp; done) | (go_simp; with_reducible rfl) | (go_simp; rfl)⟩) hS ?_
        simp only [Act.put, List.setIfInBounds_toArray, List.set_cons_zero, List.set_cons_succ]
        refine wpAnyG_takeD (i := 12) (d := 30) (v := .pointer (some ⟨B, 1 + j, none⟩)) _ rfl rfl (by kernel_rfl) (by kernel_rfl) (by kernel_rfl) (by kernel_rfl) (fun _ _ _ h => h) (Or.inl ⟨by kernel_rfl, fun ws hSw => by have q := KJ.out ws hSw; first | (go_simp; done) | (go_simp; with_reducible rfl) | (go_simp; rfl) | (go_simp; intro hlt; exfalso; omega) | (go_simp; omega)⟩) hS ?_
        simp only [Act.put, List.setIfInBounds_toArray, List.set_cons_zero, List.set_cons_succ]
        refine wpAnyG_ready (rs := [13]) (by kernel_rfl) (by simp) ?_
        refine AllReadyG.last rfl rfl (fun K hK => ?_)
        go_simp
        refine hK _ _ ?_
        try simp only [Act.put, List.setIfInBounds_toArray, List.set_cons_zero, List.set_cons_succ]
        refine wpAnyG_done (by kernel_rfl) ?_
        go_wp2_with fail
        go_roundg (5 - (j + 1))
        case measure => omega
        case rel => exact ⟨j + 1, by push_cast; rfl, by omega, by omega, NX.out⟩
      | false =>
        have t0 : ((n : Int) == 0) = false := hz.symm
        have CJ' := CJ rfl
        clear hz CJ
        go_upto_region 7 with fail
        refine wp_region_G (f := 13) (S := fun ws => Below wr.heap.size wr ws) mixed GD.out (fun hS => ?_)
        refine wpAnyG_takeD (i := 0) (d := 18) (v := .pointer (some ⟨B, 0, none⟩)) _ rfl rfl (by kernel_rfl) (by kernel_rfl) (by kernel_rfl) (by kernel_rfl) (fun _ _ _ h => h) (Or.inl ⟨by kernel_rfl, fun ws hSw => by first | (go_simp; done) | (go_simp; with_reducible rfl) | (go_simp; rfl)⟩) hS ?_
        simp only [Act.put, List.setIfInBounds_toArray, List.set_cons_zero, List.set_cons_succ]
        refine wpAnyG_takeD (i := 1) (d := 19) (v := .int .i64 (j : Int)) _ rfl rfl (by kernel_rfl) (by kernel_rfl) (by kernel_rfl) (by kernel_rfl) (fun _ _ _ h => h) (Or.inl ⟨by kernel_rfl, fun ws hSw => by first | (go_simp; done) | (go_simp; with_reducible rfl) | (go_simp; rfl)⟩) hS ?_
        simp only [Act.put, List.setIfInBounds_toArray, List.set_cons_zero, List.set_cons_succ]
        refine wpAnyG_takeD (i := 2) (d := 20) (v := .slice q n c) _ rfl rfl (by kernel_rfl) (by kernel_rfl) (by kernel_rfl) (by kernel_rfl) (fun _ _ _ h => h) (Or.inl ⟨by kernel_rfl, fun ws hSw => by first | (go_simp; done) | (go_simp; with_reducible rfl) | (go_simp; rfl)⟩) hS ?_
        simp only [Act.put, List.setIfInBounds_toArray, List.set_cons_zero, List.set_cons_succ]
        refine wpAnyG_takeD (i := 3) (d := 21) (v := .int .i64 (n : Int)) _ rfl rfl (by kernel_rfl) (by kernel_rfl) (by kernel_rfl) (by kernel_rfl) (fun _ _ _ h => h) (Or.inl ⟨by kernel_rfl, fun ws hSw => by first | (go_simp; done) | (go_simp; with_reducible rfl) | (go_simp; rfl)⟩) hS ?_
        simp only [Act.put, List.setIfInBounds_toArray, List.set_cons_zero, List.set_cons_succ]
        refine wpAnyG_takeD (i := 4) (d := 22) (v := .bool false) _ rfl rfl (by kernel_rfl) (by kernel_rfl) (by kernel_rfl) (by kernel_rfl) (fun _ _ _ h => h) (Or.inl ⟨by kernel_rfl, fun ws hSw => by first | (go_simp; done) | (go_simp; with_reducible rfl) | (go_simp; rfl)⟩) hS ?_
        simp only [Act.put, List.setIfInBounds_toArray, List.set_cons_zero, List.set_cons_succ]
        refine wpAnyG_takeD (i := 5) (d := 23) (v := .bool false) _ rfl rfl (by kernel_rfl) (by kernel_rfl) (by kernel_rfl) (by kernel_rfl) (fun _ _ _ h => h) (Or.inl ⟨by kernel_rfl, fun ws hSw => by first | (go_simp; done) | (go_simp; with_reducible rfl) | (go_simp; rfl)⟩) hS ?_
        simp only [Act.put, List.setIfInBounds_toArray, List.set_cons_zero, List.set_cons_succ]
        refine wpAnyG_takeD (i := 6) (d := 24) (v := .slice q n c) _ rfl rfl (by kernel_rfl) (by kernel_rfl) (by kernel_rfl) (by kernel_rfl) (fun _ _ _ h => h) (Or.inl ⟨by kernel_rfl, fun ws hSw => by first | (go_simp; done) | (go_simp; with_reducible rfl) | (go_simp; rfl)⟩) hS ?_
        simp only [Act.put, List.setIfInBounds_toArray, List.set_cons_zero, List.set_cons_succ]
        refine wpAnyG_takeD (i := 7) (d := 25) (v := .int .i64 (j : Int)) _ rfl rfl (by kernel_rfl) (by kernel_rfl) (by kernel_rfl) (by kernel_rfl) (fun _ _ _ h => h) (Or.inl ⟨by kernel_rfl, fun ws hSw => by first | (go_simp; done) | (go_simp; with_reducible rfl) | (go_simp; rfl)⟩) hS ?_
        simp only [Act.put, List.setIfInBounds_toArray, List.set_cons_zero, List.set_cons_succ]
        refine wpAnyG_takeD (i := 10) (d := 28) (v := .pointer (some ⟨B, 0, none⟩)) _ rfl rfl (by kernel_rfl) (by kernel_rfl) (by kernel_rfl) (by kernel_rfl) (fun _ _ _ h => h) (Or.inl ⟨by kernel_rfl, fun ws hSw => by first | (go_simp; done) | (go_simp; with_reducible rfl) | (go_simp; rfl)⟩) hS ?_
        simp only [Act.put, List.setIfInBounds_toArray, List.set_cons_zero, List.set_cons_succ]
        refine wpAnyG_takeD (i := 11) (d := 29) (v := .pointer (some ⟨B, 1, none⟩)) _ rfl rfl (by kernel_rfl) (by kernel_rfl) (by kernel_rfl) (by kernel_rfl) (fun _ _ _ h => h) (Or.inl ⟨by kernel_rfl, fun ws hSw => by first | (go_simp; done) | (go_simp; with_reducible rfl) | (go_simp; rfl)⟩) hS ?_
        simp only [Act.put, List.setIfInBounds_toArray, List.set_cons_zero, List.set_cons_succ]
        refine wpAnyG_ready (rs := [8]) (by kernel_rfl) (by simp) ?_
        refine AllReadyG.cons rfl (fun K hK => ?_) AllReadyG.nil
        go_simp
        refine (CJ'.out _ hS).mono ?_
        rintro e w' ⟨rfl, rfl⟩
        refine hK _ _ hS (fun hS => ?_)
        try simp only [Act.put, List.setIfInBounds_toArray, List.set_cons_zero, List.set_cons_succ]
        refine wpAnyG_takeD (i := 9) (d := 27) (v := .bool y) _ rfl rfl (by kernel_rfl) (by kernel_rfl) (by kernel_rfl) (by kernel_rfl) (fun _ _ _ h => h) (Or.inl ⟨by kernel_rfl, fun ws hSw => by first | (go_simp; done) | (go_simp; with_reducible rfl) | (go_simp; rfl)⟩) hS ?_
        simp only [Act.put, List.setIfInBounds_toArray, List.set_cons_zero, List.set_cons_succ]
        refine wpAnyG_takeD (i := 12) (d := 30) (v := .pointer (some ⟨B, 1 + j, none⟩)) _ rfl rfl (by kernel_rfl) (by kernel_rfl) (by kernel_rfl) (by kernel_rfl) (fun _ _ _ h => h) (Or.inl ⟨by kernel_rfl, fun ws hSw => by have q := KJ.out ws hSw; first | (go_simp; done) | (go_simp; with_reducible rfl) | (go_simp; rfl) | (go_simp; intro hlt; exfalso; omega) | (go_simp; omega)⟩) hS ?_
        simp only [Act.put, List.setIfInBounds_toArray, List.set_cons_zero, List.set_cons_succ]
        refine wpAnyG_ready (rs := [13]) (by kernel_rfl) (by simp) ?_
        refine AllReadyG.last rfl rfl (fun K hK => ?_)
        go_simp
        refine hK _ _ ?_
        try simp only [Act.put, List.setIfInBounds_toArray, List.set_cons_zero, List.set_cons_succ]
        refine wpAnyG_done (by kernel_rfl) ?_
        go_wp2_with fail
        go_roundg (5 - (j + 1))
        case measure => omega
        case rel => exact ⟨j + 1, by push_cast; rfl, by omega, by omega, NX.out⟩
    · have hj5 : j = 5 := by omega
      subst hj5
      have FIN : Hid (wr.heap[B]? = some (.cells (waC sp (fun i => sees ks (i : Int)) v) WaT (0, 0)) ∧ Below B w wr) := by
        obtain ⟨hb, low⟩ := HR.out
        refine ⟨?_, low⟩
        rw [hb, waC_ext sp v (g := fun i => sees ks (i : Int)) (fun i hi => by rw [if_pos hi])]
      clear HR
      go_wp2
      go_ret
      exact ⟨by rw [HW.out.2]; rfl, by rw [HW.out.2]; exact FIN.out.1, by rw [HW.out.2]; exact FIN.out.2⟩
theorem next_nil (w : World) : Calls Tryz.prog 15 #[.pointer none] w fun r w' => r = .returned (.tuple #[.slice none 0 0, .int .i64 1]) ∧ w' = w := by
  go_enter Tryz.func15, Tryz.ntmps15
  go_wp2
  refine bodyPost_ret (results_tmp2 rfl _ _ _) rfl ?_
  exact ⟨rfl, rfl⟩
theorem place_nil (w : World) : Calls Tryz.prog 22 #[.pointer none] w fun r w' => r = .returned (.int .u64 0) ∧ w' = w := by
  go_enter Tryz.func22, Tryz.ntmps22
  go_wp2
  go_ret
  exact ⟨rfl, rfl⟩
theorem again_nil (w : World) : Calls Tryz.prog 18 #[.pointer none] w fun r w' => r = .returned (.slice none 0 0) ∧ w' = w := by
  go_enter Tryz.func18, Tryz.ntmps18
  go_wp2
  go_ret
  exact ⟨rfl, rfl⟩
theorem wnew_nil (w : World) (s : Value) : Calls Tryz.prog 13 #[.pointer none, s] w fun r w' => r = .returned (.pointer none) ∧ w' = w := by
  have C1 := Lib.hid (fun w => now_nil w)
  have C2 := Lib.hid (fun w => from_nil w 0 s)
  go_enter Tryz.func13, Tryz.ntmps13
  go_wp2_with fail
  refine (C1.out _).mono ?_
  rintro e w' ⟨rfl, rfl⟩
  go_wp2_with fail
  refine (C2.out _).mono ?_
  rintro e w' ⟨rfl, rfl⟩
  go_wp2
  go_ret
  exact ⟨rfl, rfl⟩
end Go.Proofs.YtbagicilmmkdhaaGreat
/- The library's DeleteFunc on a row of events; a watch's Next. -/
namespace Go.Proofs.YtbagicilmmkdhaaGreat
open Go.RowKit Go.Shelf Go.Lib Go.Sort
open Go.Joins (cell_of_block unfrozen_of_block block_setCell)
set_option linter.unusedVariables false
set_option linter.unusedSimpArgs false
set_option maxRecDepth 20000

/-- Is an event of a kind that is looked for? -/
def keeps (f : Nat → Bool) (e : Ev) : Bool := f e.kind.toNat
def KdOk (e : Ev) : Prop := ∃ k : Nat, e.kind = (k : Int) ∧ k < 5
theorem overlooks_any (w : World) (wp sp : Nat) (f : Nat → Bool) (pl : Nat) (e : Ev) (hb : w.heap[wp]? = some (.cells (waC sp f pl) WaT (0, 0))) (hk : KdOk e) :
    Calls Tryz.prog 38 #[.pointer (some ⟨wp, 0, none⟩), .agg #[.int .i64 e.what, .int .i64 e.kind, .string e.name, .int .u64 (e.ver : Int)]] w fun r w' => r = .returned (.bool (!keeps f e)) ∧ Gr w w' := by
  have mixed : Tryz.prog.follows .mixedOrders = true := by kernel_rfl
  obtain ⟨k, hke, hk5⟩ := hk
  obtain ⟨y, hy⟩ : ∃ y, y = keeps f e := ⟨_, rfl⟩
  have hyk : f k = y := by rw [hy]; unfold keeps; rw [hke]; rfl
  rw [← hy, hke]
  obtain ⟨wa, kd, nm, ve⟩ := e
  simp only
  clear hy hke
  obtain ⟨E, hE⟩ : ∃ E, E = w.heap.size := ⟨_, rfl⟩
  obtain ⟨wb, hwb⟩ : ∃ x, x = w.alloc (.cells #[.int .i64 wa, .int .i64 (k : Int), .string nm, .int .u64 (ve : Int)] ET) := ⟨_, rfl⟩
  have Gb : Gr w wb := hwb ▸ (Gr.refl w).alloc _
  have e0 : wb.heap[E]? = some (.cells #[.int .i64 wa, .int .i64 (k : Int), .string nm, .int .u64 (ve : Int)] ET (0, 0)) := by rw [hwb, hE]; exact heap_alloc_new _ _
  have p0 : wb.heap[wp]? = some (.cells (waC sp f pl) WaT (0, 0)) := (Gb.heap (Array.getElem?_eq_some_iff.1 hb).1).trans hb
  have KE : Hid (∀ ws : World, Below wb.heap.size wb ws → ws.cell? ⟨E, 1, none⟩ = some (.int .i64 (k : Int))) := fun ws b => (World.cell?_of_block (b.block E (Array.getElem?_eq_some_iff.1 e0).1)).trans (cell_of_block e0 1)
  have KW : Hid (∀ ws : World, Below wb.heap.size wb ws → ws.cell? ⟨wp, 1 + k, none⟩ = some (.bool y)) := fun ws b => by
    rw [← hyk]
    exact (World.cell?_of_block (b.block wp (Array.getElem?_eq_some_iff.1 p0).1)).trans ((cell_of_block p0 (1 + k)).trans (waC_at sp f pl k hk5))
  have KJ : Hid (∀ ws : World, Below wb.heap.size wb ws → k < 5) := fun ws b => hk5
  have GD : Hid (Below wb.heap.size wb wb.drew) := ((Gr.refl wb).drewN 1).below
  have HW : Hid (w.alloc (.cells #[.int .i64 wa, .int .i64 (k : Int), .string nm, .int .u64 (ve : Int)] ET) = wb ∧ w.heap.size = E) := ⟨hwb.symm, hE.symm⟩
  have FIN : Hid (Gr w wb.drew) := Gb.trans ((Gr.refl wb).drewN 1)
  clear hb hyk hE hwb Gb e0 p0
  go_enter Tryz.func38, Tryz.ntmps38
  go_upto_region 1 with fail
  rw [HW.out.1, HW.out.2]
  refine wp_region_held_drew (S := fun ws => Below wb.heap.size wb ws) mixed GD.out (fun hS => ?_)
  refine wpAnyH_takeD (i := 0) (d := 5) (v := .pointer (some ⟨wp, 0, none⟩)) _ rfl rfl (by kernel_rfl) (by kernel_rfl) (by kernel_rfl) (fun _ _ _ h => h) (Or.inl ⟨by kernel_rfl, fun ws hSw => by first | (go_simp; done) | (go_simp; with_reducible rfl) | (go_simp; rfl)⟩) hS ?_
  simp only [Act.put, List.setIfInBounds_toArray, List.set_cons_zero, List.set_cons_succ]
  refine wpAnyH_takeD (i := 1) (d := 6) (v := .pointer (some ⟨E, 1, none⟩)) _ rfl rfl (by kernel_rfl) (by kernel_rfl) (by kernel_rfl) (fun _ _ _ h => h) (Or.inl ⟨by kernel_rfl, fun ws hSw => by first | (go_simp; done) | (go_simp; with_reducible rfl) | (go_simp; rfl)⟩) hS ?_
  simp only [Act.put, List.setIfInBounds_toArray, List.set_cons_zero, List.set_cons_succ]
  refine wpAnyH_takeD (i := 2) (d := 7) (v := .int .i64 (k : Int)) _ rfl rfl (by kernel_rfl) (by kernel_rfl) (by kernel_rfl) (fun _ _ _ h => h) (Or.inl ⟨by kernel_rfl, fun ws hSw => by have q := KE.out ws hSw; first | (go_simp; done) | (go_simp; with_reducible rfl) | (go_simp; rfl)⟩) hS ?_
  simp only [Act.put, List.setIfInBounds_toArray, List.set_cons_zero, List.set_cons_succ]
  refine wpAnyH_takeD (i := 3) (d := 8) (v := .pointer (some ⟨wp, 0, none⟩)) _ rfl rfl (by kernel_rfl) (by kernel_rfl) (by kernel_rfl) (fun _ _ _ h => h) (Or.inl ⟨by kernel_rfl, fun ws hSw => by first | (go_simp; done) | (go_simp; with_reducible rfl) | (go_simp; rfl)⟩) hS ?_
  simp only [Act.put, List.setIfInBounds_toArray, List.set_cons_zero, List.set_cons_succ]
  refine wpAnyH_takeD (i := 4) (d := 9) (v := .pointer (some ⟨wp, 1, none⟩)) _ rfl rfl (by kernel_rfl) (by kernel_rfl) (by kernel_rfl) (fun _ _ _ h => h) (Or.inl ⟨by kernel_rfl, fun ws hSw => by first | (go_simp; done) | (go_simp; with_reducible rfl) | (go_simp; rfl)⟩) hS ?_
  simp only [Act.put, List.setIfInBounds_toArray, List.set_cons_zero, List.set_cons_succ]
  refine wpAnyH_takeD (i := 5) (d := 10) (v := .pointer (some ⟨wp, 1 + k, none⟩)) _ rfl rfl (by kernel_rfl) (by kernel_rfl) (by kernel_rfl) (fun _ _ _ h => h) (Or.inl ⟨by kernel_rfl, fun ws hSw => by have q := KJ.out ws hSw; first | (go_simp; done) | (go_simp; with_reducible rfl) | (go_simp; rfl) | (go_simp; intro hlt; exfalso; omega) | (go_simp; omega)⟩) hS ?_
  simp only [Act.put, List.setIfInBounds_toArray, List.set_cons_zero, List.set_cons_succ]
  refine wpAnyH_takeD (i := 6) (d := 11) (v := .bool y) _ rfl rfl (by kernel_rfl) (by kernel_rfl) (by kernel_rfl) (fun _ _ _ h => h) (Or.inl ⟨by kernel_rfl, fun ws hSw => by have q := KW.out ws hSw; first | (go_simp; done) | (go_simp; with_reducible rfl) | (go_simp; rfl)⟩) hS ?_
  simp only [Act.put, List.setIfInBounds_toArray, List.set_cons_zero, List.set_cons_succ]
  refine wpAnyH_takeD (i := 7) (d := 12) (v := .bool (!y)) _ rfl rfl (by kernel_rfl) (by kernel_rfl) (by kernel_rfl) (fun _ _ _ h => h) (Or.inl ⟨by kernel_rfl, fun ws hSw => by first | (go_simp; done) | (go_simp; with_reducible rfl) | (go_simp; rfl)⟩) hS ?_
  simp only [Act.put, List.setIfInBounds_toArray, List.set_cons_zero, List.set_cons_succ]
  refine wpAnyH_takeD (i := 8) (d := 4) (v := .bool (!y)) _ rfl rfl (by kernel_rfl) (by kernel_rfl) (by kernel_rfl) (fun _ _ _ h => h) (Or.inl ⟨by kernel_rfl, fun ws hSw => by first | (go_simp; done) | (go_simp; with_reducible rfl) | (go_simp; rfl)⟩) hS ?_
  simp only [Act.put, List.setIfInBounds_toArray, List.set_cons_zero, List.set_cons_succ]
  refine wpAnyH_done (by kernel_rfl) ?_ _
  go_wp2_with fail
  go_ret
  exact ⟨rfl, FIN.out⟩

/-- The watch's own function, as it is handed on. -/
abbrev fvW (wp : Nat) : Value := .func (.func 38) #[.pointer (some ⟨wp, 0, none⟩)] #[]
theorem enters_ov : ∀ args w, (callFunc 38 args).run Tryz.prog w = .ok (.enter 38 args) w := enters_of Tryz.func38 (by kernel_rfl) rfl

/-- A row of events, as it is read. -/
def Evs (w : World) (q : Option Addr) (l : List Ev) : Prop := ∀ i e, l[i]? = some e → ∃ g : Nat, q = some ⟨g, 0, none⟩ ∧ g < w.heap.size ∧ ∀ t u, (encE e)[t]? = some u → w.cell? ⟨g, i * 4 + t, none⟩ = some u
theorem Evs.below {w w' : World} {q : Option Addr} {l : List Ev} (h : Evs w q l) (b : Below w.heap.size w w') : Evs w' q l := fun i e he => by
  obtain ⟨g, hq, hg, hc⟩ := h i e he
  exact ⟨g, hq, Nat.lt_of_lt_of_le hg b.size, fun t u hu => (World.cell?_of_block (b.block g hg)).trans (hc t u hu)⟩
theorem evs_own {w : World} {N c : Nat} {q : Option Addr} {l : List Ev} (h : w.ownsRow N ET 4 (.slice q l.length c) l.length (flat encE l)) : Evs w q l := fun i e he => by
  have hi := (List.getElem?_eq_some_iff.1 he).1
  rcases h.2 with ⟨_, h0⟩ | ⟨g, cap, cur, e1, e2, e3, _⟩
  · omega
  · simp only [Value.slice.injEq, true_and] at e1
    obtain ⟨rfl, rfl⟩ := e1
    refine ⟨g, rfl, (Array.getElem?_eq_some_iff.1 e3).1, fun t u hu => ?_⟩
    have ht : t < 4 := by
      have := (List.getElem?_eq_some_iff.1 hu).1
      rwa [lenE] at this
    have := h.cells (g := g) rfl (i * 4 + t) u (by rw [flat_at lenE l i t e he ht]; exact hu)
    rwa [add_none', Nat.zero_add] at this

set_option maxHeartbeats 4000000 in
theorem ev_index (w : World) (q : Option Addr) (c : Nat) (l : List Ev) (wp sp : Nat) (f : Nat → Bool) (pl : Nat) (h : Evs w q l) (hl : l.length ≤ 1000000) (hb : w.heap[wp]? = some (.cells (waC sp f pl) WaT (0, 0))) (hk : ∀ e ∈ l, KdOk e) :
    Calls Tryz.prog 63 #[.slice q l.length c, fvW wp] w fun r w' =>
      ((∃ (i : Nat) (x : Ev), r = .returned (.int .i64 (i : Int)) ∧ l[i]? = some x ∧ keeps f x = false ∧ ∀ (j : Nat) (y : Ev), j < i → l[j]? = some y → keeps f y = true) ∨ (r = .returned (.int .i64 (-1)) ∧ ∀ (j : Nat) (y : Ev), l[j]? = some y → keeps f y = true)) ∧ Below w.heap.size w w' := by
  have eg := enters_ov
  obtain ⟨n, hn⟩ : ∃ n, n = l.length := ⟨_, rfl⟩
  rw [← hn] at hl ⊢
  have H := Lib.hid (And.intro h (And.intro hb (And.intro hk hn)))
  clear h hb hk hn
  go_enter Tryz.func63, Tryz.ntmps63
  go_wp2_with fail
  go_loopg [8] n (fun gg vi wr => ∃ j : Nat, vi = .int .i64 (j : Int) ∧ j ≤ n ∧ n - j ≤ gg ∧ Hid (∀ i y, i < j → l[i]? = some y → keeps f y = true) ∧ Hid (Below w.heap.size w wr))
  case atStart => exact ⟨0, rfl, by omega, by omega, fun i y hi => by omega, Below.refl _ _⟩
  case round =>
    obtain ⟨j, rfl, h1, h2, HM, HB⟩ := hrel
    by_cases hj : j < n
    · obtain ⟨h, hb, hk, hn⟩ := H.out
      obtain ⟨x, hx⟩ : ∃ x, l[j]? = some x := ⟨l[j]'(by omega), List.getElem?_eq_getElem (by omega)⟩
      have hr := h.below HB.out
      obtain ⟨g, rfl, hg, hc⟩ := hr j x hx
      have pb : wr.heap[wp]? = some (.cells (waC sp f pl) WaT (0, 0)) := (HB.out.block wp (Array.getElem?_eq_some_iff.1 hb).1).trans hb
      have C := Lib.hid (overlooks_any wr wp sp f pl x pb (hk x (List.mem_of_getElem? hx)))
      have k0 := hc 0 _ rfl
      have k1 := hc 1 _ rfl
      have k2 := hc 2 _ rfl
      have k3 := hc 3 _ rfl
      rw [Nat.add_zero] at k0
      cases ht : keeps f x with
      | false =>
        rw [ht] at C
        have HX := Lib.hid (And.intro hx ht)
        clear h hb hk hn hr hc pb hx ht
        go_wp2_with (go_at_fn 38; refine C.out.mono ?_; rintro e w1 ⟨rfl, g1⟩)
        go_ret
        exact ⟨.inl ⟨j, x, rfl, HX.out.1, HX.out.2, HM.out⟩, HB.out.trans (g1.below.mono HB.out.size)⟩
      | true =>
        rw [ht] at C
        have NM : Hid (∀ i y, i < j + 1 → l[i]? = some y → keeps f y = true) := fun i y hi hy => by
          by_cases e : i = j
          · rw [e, hx] at hy
            injection hy with hy
            rw [← hy]; exact ht
          · exact HM.out i y (by omega) hy
        clear h hb hk hn hr hc pb hx ht
        go_wp2_with (go_at_fn 38; refine C.out.mono ?_; rintro e w1 ⟨rfl, g1⟩)
        go_roundg (n - (j + 1))
        case measure => omega
        case rel => exact ⟨j + 1, by push_cast; rfl, by omega, by omega, NM, HB.out.trans (g1.below.mono HB.out.size)⟩
    · have FIN : Hid (∀ i y, l[i]? = some y → keeps f y = true) := fun i y hy => HM.out i y (by have := (List.getElem?_eq_some_iff.1 hy).1; have := H.out.2.2.2; omega) hy
      go_wp2
      go_ret
      exact ⟨.inr ⟨rfl, FIN.out⟩, HB.out⟩

theorem Chg.setCells {S : List Nat} {a b : World} (h : Chg S a b) {g : Nat} (hg : g ∈ S ∨ a.heap.size ≤ g) : ∀ (o : Nat) (vs : List Value), Chg S a (b.setCells g o vs)
  | o, [] => h
  | o, v :: vs => (h.setCell o v hg).setCells hg (o + 1) vs
abbrev zeE : Array Value := #[.int .i64 0, .int .i64 0, .string ByteArray.empty, .int .u64 0]
def zerE (n : Nat) : List Value := (Builtin.zeroCells zeE n).toList
theorem zerE_one (n : Nat) : ∀ v ∈ zerE n, v.oneCell' = true := fun v hv => by
  unfold zerE Builtin.zeroCells at hv
  simp only [Array.toList_map, List.mem_map] at hv
  obtain ⟨i, _, rfl⟩ := hv
  have : i % zeE.size = 0 ∨ i % zeE.size = 1 ∨ i % zeE.size = 2 ∨ i % zeE.size = 3 := by
    have h : zeE.size = 4 := rfl
    rw [h]
    omega
  rcases this with h | h | h | h <;> rw [h] <;> rfl
theorem zerE_len (n : Nat) : (zerE n).length = n * 4 := by
  unfold zerE Builtin.zeroCells
  simp
theorem run_clear_ev (w : World) (ty : TypeId) (b o n c : Nat) (hn : 0 < n) (hc : ∀ j, j < n * 4 → (w.cell? ⟨b, o + j, none⟩).isSome = true) (hf : ∀ j, j < n * 4 → w.frozen? ⟨b, o + j, none⟩ = false) :
    (Builtin.clear_ #[SlE] ty #[.slice (some ⟨b, o, none⟩) n c]).run Tryz.prog w = .ok (.tuple #[]) (w.setCells b o (zerE n)) := by
  have hst := run_storeCells_cells (P := Tryz.prog) b o (zerE n) 0 w (by rw [zerE_len]; simpa using hc) (by rw [zerE_len]; simpa using hf) (zerE_one n)
  simp only [Nat.add_zero] at hst
  obtain ⟨m, rfl⟩ : ∃ m, n = m + 1 := ⟨n - 1, by omega⟩
  have hv : (zeroValue ET).run Tryz.prog w = .ok (.agg zeE) w := by kernel_rfl
  have hst' : (storeCells ⟨b, o, none⟩ (Builtin.zeroCells zeE (m + 1)).toList).run Tryz.prog w = .ok () (w.setCells b o (zerE (m + 1))) := hst
  simp [Builtin.clear_, run_underlying Tryz.underlying32, hv, Value.cells, hst']
/-- The front of a row of the call's own, whatever is written behind it. -/
theorem own_front {w : World} {N g cap n i o : Nat} {c : List Ev} {vs : List Value} (h : w.ownsRow N ET 4 (.slice (some ⟨g, 0, none⟩) n cap) n (flat encE c)) (hn : c.length = n) (hi : i ≤ n) (ho : i * 4 ≤ o) :
    (w.setCells g o vs).ownsRow N ET 4 (.slice (some ⟨g, 0, none⟩) i cap) i (flat encE (c.take i)) := by
  rcases h.2 with ⟨e, _⟩ | ⟨g', cap', cur, e, e2, e3, e4, e5, e6, e7⟩
  · cases e
  · simp only [Value.slice.injEq, Option.some.injEq, Addr.mk.injEq, true_and, and_true] at e
    obtain ⟨rfl, rfl⟩ := e
    refine ⟨by rw [flat_length lenE, List.length_take, Nat.min_eq_left (by omega)], .inr ⟨g, cap, setAt cur o vs, rfl, e2, setCells_block _ _ _ _ _ _ _ e3, by omega, e5, by rw [setAt_size, e6], ?_⟩⟩
    have hx : flat encE (c.take i) = (flat encE c).take (i * 4) := by
      apply List.ext_getElem?
      intro t
      by_cases ht : t < i * 4
      · rw [List.getElem?_take_of_lt ht]
        have hti : t / 4 < i := by omega
        have e : t = t / 4 * 4 + t % 4 := by omega
        obtain ⟨x, hx⟩ : ∃ x, c[t / 4]? = some x := ⟨c[t / 4]'(by omega), List.getElem?_eq_getElem (by omega)⟩
        rw [e, flat_at lenE c (t / 4) (t % 4) x hx (by omega), flat_at lenE (c.take i) (t / 4) (t % 4) x (by rw [List.getElem?_take_of_lt hti]; exact hx) (by omega)]
      · rw [List.getElem?_eq_none (by rw [flat_length lenE, List.length_take]; omega), List.getElem?_eq_none (by rw [List.length_take]; omega)]
    rw [hx, ← e7, List.take_take, Nat.min_eq_left (by omega)]
    apply List.ext_getElem?
    intro t
    by_cases ht : t < i * 4
    · rw [List.getElem?_take_of_lt ht, List.getElem?_take_of_lt ht, Array.getElem?_toList, Array.getElem?_toList, setAt_out _ _ _ _ (by omega)]
    · rw [List.getElem?_eq_none (by rw [List.length_take]; omega), List.getElem?_eq_none (by rw [List.length_take]; omega)]
theorem filter_next {α : Type} (p : α → Bool) {l : List α} {j : Nat} {x : α} (h : l[j]? = some x) : (l.take (j + 1)).filter p = (l.take j).filter p ++ (if p x then [x] else []) := by
  rw [List.take_add_one, h, List.filter_append]
  congr 1
  simp only [Option.toList_some, List.filter_cons, List.filter_nil]
theorem filter_few {α : Type} (p : α → Bool) (l : List α) (j : Nat) : ((l.take j).filter p).length ≤ j := by
  have h1 := List.length_filter_le p (l.take j)
  rw [List.length_take] at h1
  omega

set_option maxHeartbeats 8000000 in
theorem delete_ev (w : World) (N : Nat) (q : Option Addr) (c : Nat) (l : List Ev) (wp sp : Nat) (f : Nat → Bool) (pl : Nat) (own : w.ownsRow N ET 4 (.slice q l.length c) l.length (flat encE l)) (hl : l.length ≤ 1000000)
    (hb : w.heap[wp]? = some (.cells (waC sp f pl) WaT (0, 0))) (hk : ∀ e ∈ l, KdOk e) :
    Calls Tryz.prog 37 #[.slice q l.length c, fvW wp] w fun r w' =>
      (∃ q' c', r = .returned (.slice q' (l.filter (keeps f)).length c') ∧ w'.ownsRow N ET 4 (.slice q' (l.filter (keeps f)).length c') (l.filter (keeps f)).length (flat encE (l.filter (keeps f)))) ∧ Chg (Value.slice q l.length c).ownBlock.toList w w' := by
  have eg := enters_ov
  have hq : ∀ j x, l[j]? = some x → ∃ g : Nat, q = some ⟨g, 0, none⟩ := fun j x hx => by
    obtain ⟨g, e, _⟩ := evs_own own j x hx
    exact ⟨g, e⟩
  have CI := Lib.hid (ev_index w q c l wp sp f pl (evs_own own) hl hb hk)
  obtain ⟨n, hn⟩ : ∃ n, n = l.length := ⟨_, rfl⟩
  rw [← hn] at hl own CI ⊢
  have H := Lib.hid (And.intro own (And.intro hb (And.intro hk (And.intro hn hq))))
  clear own hb hk hn hq
  go_enter Tryz.func37, Tryz.ntmps37
  go_wp2_with fail
  refine CI.out.mono ?_
  rintro e w1 ⟨⟨i, x, rfl, hx, hkx, hpre⟩ | ⟨rfl, hall⟩, b1⟩
  · obtain ⟨own, hb, hk, hn, hq⟩ := H.out
    obtain ⟨g, rfl⟩ := hq i x hx
    have hin : i < n := by rw [hn]; exact (List.getElem?_eq_some_iff.1 hx).1
    have wpg : wp ≠ g := fun e => own_ne own hb (by decide) (by rw [e]; rfl)
    have Hq : Hid (g < w.heap.size ∧ N ≤ g ∧ wp ≠ g ∧ (l.take (i + 1)).filter (keeps f) = l.take i ∧ (l.take i).length = i) := by
      obtain ⟨hg1, hg2⟩ := World.ownsRow.lt own g rfl
      refine ⟨hg2, hg1, wpg, ?_, by rw [List.length_take]; omega⟩
      rw [filter_next (keeps f) hx, hkx]
      simp only [Bool.false_eq_true, if_false, List.append_nil]
      rw [List.filter_eq_self]
      intro y hy
      obtain ⟨t, ht⟩ := List.mem_iff_getElem?.1 hy
      have htl := (List.getElem?_eq_some_iff.1 ht).1
      rw [List.length_take] at htl
      rw [List.getElem?_take_of_lt (by omega)] at ht
      exact hpre t y (by omega) ht
    have t0 : ((i : Int) == -1) = false := beq_false_of_ne (by omega)
    have H1 : Hid (Chg [g] w w1 ∧ w1.ownsRow N ET 4 (.slice (some ⟨g, 0, none⟩) n c) n (flat encE l)) :=
      ⟨Chg.ofBelow b1 _, own_block own (fun k e => b1.block k (World.ownsRow.lt own k e).2)⟩
    clear own hb hk hn hq hx hkx hpre b1 wpg CI
    go_wp2_with fail
    go_loopg [5, 6] n (fun gg vi vj wr => ∃ i j : Nat, vi = .int .i64 (i : Int) ∧ vj = .int .i64 (j : Int) ∧ j ≤ n ∧ n - j ≤ gg ∧ i < j ∧ Hid (∃ d : List Ev, d.length = n ∧ i = ((l.take j).filter (keeps f)).length ∧ d.take i = (l.take j).filter (keeps f) ∧ d.drop j = l.drop j ∧ wr.ownsRow N ET 4 (.slice (some ⟨g, 0, none⟩) n c) n (flat encE d) ∧ Chg [g] w wr))
    case atStart =>
      refine ⟨i, i + 1, rfl, by push_cast; rfl, by omega, by omega, by omega, l, H.out.2.2.2.1.symm, ?_, ?_, rfl, H1.out.2, H1.out.1⟩
      · rw [Hq.out.2.2.2.1, Hq.out.2.2.2.2]
      · rw [Hq.out.2.2.2.1]
    case round =>
      obtain ⟨i, j, rfl, rfl, h1, h2, hij, HR⟩ := hrel
      by_cases hj : j < n
      · obtain ⟨d, hd1, hd2, hd3, hd4, own, C⟩ := HR.out
        obtain ⟨hgl, hNg, hwpg, _⟩ := Hq.out
        obtain ⟨_, hb, hk, hn, _⟩ := H.out
        obtain ⟨x, hx⟩ : ∃ x, l[j]? = some x := ⟨l[j]'(by omega), List.getElem?_eq_getElem (by omega)⟩
        have hxd : d[j]? = some x := by
          have e1 : (d.drop j)[0]? = d[j]? := by rw [List.getElem?_drop, Nat.add_zero]
          have e2 : (l.drop j)[0]? = l[j]? := by rw [List.getElem?_drop, Nat.add_zero]
          rw [← e1, hd4, e2, hx]
        have own' := own
        rw [← hd1] at own'
        obtain ⟨g', hg', _, hc⟩ := evs_own own' j x hxd
        cases hg'
        have wpl : wp < w.heap.size := (Array.getElem?_eq_some_iff.1 hb).1
        have pb : wr.heap[wp]? = some (.cells (waC sp f pl) WaT (0, 0)) := (C.block wp wpl (by simpa using hwpg)).trans hb
        obtain ⟨wa, kd, nm, ve⟩ := x
        have k0 := hc 0 _ rfl
        have k1 := hc 1 _ rfl
        have k2 := hc 2 _ rfl
        have k3 := hc 3 _ rfl
        rw [Nat.add_zero] at k0
        obtain ⟨E, hE⟩ : ∃ E, E = wr.heap.size := ⟨_, rfl⟩
        obtain ⟨wb, hwb⟩ : ∃ x, x = wr.alloc (.cells #[.int .i64 wa, .int .i64 kd, .string nm, .int .u64 (ve : Int)] ET) := ⟨_, rfl⟩
        have Gb : Gr wr wb := hwb ▸ (Gr.refl wr).alloc _
        have e0 : wb.heap[E]? = some (.cells #[.int .i64 wa, .int .i64 kd, .string nm, .int .u64 (ve : Int)] ET (0, 0)) := by rw [hwb, hE]; exact heap_alloc_new _ _
        have CO := Lib.hid (overlooks_any wb wp sp f pl ⟨wa, kd, nm, ve⟩ ((Gb.heap (Array.getElem?_eq_some_iff.1 pb).1).trans pb) (hk _ (List.mem_of_getElem? hx)))
        have HW : Hid (wr.alloc (.cells #[.int .i64 wa, .int .i64 kd, .string nm, .int .u64 (ve : Int)] ET) = wb ∧ wr.heap.size = E) := ⟨hwb.symm, hE.symm⟩
        have ownb := own_block own (fun k e => Gb.heap (World.ownsRow.lt own k e).2)
        have l0 := cell_of_block e0 0
        have l1 := cell_of_block e0 1
        have l2 := cell_of_block e0 2
        have l3 := cell_of_block e0 3
        have lg : g < wr.heap.size := (World.ownsRow.lt own g rfl).2
        have HX : Hid (d.length = n ∧ i = ((l.take j).filter (keeps f)).length ∧ d.take i = (l.take j).filter (keeps f) ∧ d.drop j = l.drop j ∧ wb.ownsRow N ET 4 (.slice (some ⟨g, 0, none⟩) n c) n (flat encE d) ∧ Chg [g] w wb ∧ l[j]? = some ⟨wa, kd, nm, ve⟩ ∧ wb.heap[E]? = some (.cells #[.int .i64 wa, .int .i64 kd, .string nm, .int .u64 (ve : Int)] ET (0, 0)) ∧ g < E ∧ w.heap.size ≤ wb.heap.size) :=
          ⟨hd1, hd2, hd3, hd4, ownb, C.trans (Chg.ofBelow Gb.below []) (by simp), hx, e0, by omega, by have := C.size; have := Gb.below.size; omega⟩
        clear hd1 hd2 hd3 hd4 own own' C hb hk hn hx hxd hc pb hE hwb Gb e0 ownb hgl hNg hwpg wpl lg HR
        cases ht : keeps f ⟨wa, kd, nm, ve⟩ with
        | true =>
          rw [ht] at CO
          have HT := Lib.hid ht
          clear ht
          go_upto_region 8 with fail
          rw [HW.out.1, HW.out.2]
          go_upto_region 9 with (go_at_fn 38; refine CO.out.mono ?_; rintro e w2 ⟨rfl, g2⟩)
          obtain ⟨hd1, hd2, hd3, hd4, own, C, hx, e0, hgE, hsz⟩ := HX.out
          have own2 := own_block own (fun k e => g2.heap (World.ownsRow.lt own k e).2)
          rw [← hd1] at own2
          obtain ⟨g', c', hv, hNg, hlt, ows, th⟩ := own_set (p := i) lenE own2 (by omega) (⟨wa, kd, nm, ve⟩ : Ev)
          simp only [Value.slice.injEq, Option.some.injEq, Addr.mk.injEq, true_and, and_true] at hv
          obtain ⟨rfl, rfl⟩ := hv
          have e2 : w2.heap[E]? = _ := (g2.heap (Array.getElem?_eq_some_iff.1 e0).1).trans e0
          have m0 := cell_of_block e2 0
          have m1 := cell_of_block e2 1
          have m2 := cell_of_block e2 2
          have m3 := cell_of_block e2 3
          obtain ⟨w3, hw3⟩ : ∃ x, x = w2.setCells g (i * 4) (encE ⟨wa, kd, nm, ve⟩) := ⟨_, rfl⟩
          have TH := Lib.hid th
          have IN : Hid ((Tryz.prog.info? ET).map (·.size) = some (#[.int .i64 wa, .int .i64 kd, .string nm, .int .u64 (ve : Int)] : Array Value).size) := by show _ = _; kernel_rfl
          have ON : Hid ((#[.int .i64 wa, .int .i64 kd, .string nm, .int .u64 (ve : Int)] : Array Value).all (·.oneCell') = true) := by show _ = _; simp [Value.oneCell']
          have HW3 : Hid (w2.setCells g (i * 4) [.int .i64 wa, .int .i64 kd, .string nm, .int .u64 (ve : Int)] = w3) := hw3.symm
          have hin : i < n := by omega
          have NX : Hid (∃ d : List Ev, d.length = n ∧ i + 1 = ((l.take (j + 1)).filter (keeps f)).length ∧ d.take (i + 1) = (l.take (j + 1)).filter (keeps f) ∧ d.drop (j + 1) = l.drop (j + 1) ∧ w3.ownsRow N ET 4 (.slice (some ⟨g, 0, none⟩) n c) n (flat encE d) ∧ Chg [g] w w3) := by
            rw [← hw3, hd1] at ows
            have ef := filter_next (keeps f) hx
            rw [HT.out, if_pos rfl] at ef
            refine ⟨d.set i ⟨wa, kd, nm, ve⟩, by rw [List.length_set]; exact hd1, ?_, ?_, ?_, ows, ?_⟩
            · rw [ef, List.length_append, ← hd2]; rfl
            · rw [ef, ← hd3, List.take_add_one, List.getElem?_set_self (by omega), List.take_set_of_le (Nat.le_refl _)]
              rfl
            · rw [List.drop_set_of_lt (by omega)]
              have := congrArg (List.drop 1) hd4
              simpa [List.drop_drop, Nat.add_comm] using this
            · have c2 : Chg [g] w w2 := C.trans (Chg.ofBelow g2.below []) (by simp)
              rw [hw3]
              exact c2.setCells (.inl (by simp)) _ _
          clear hd1 hd2 hd3 hd4 own C hx e0 hgE own2 ows th e2 hw3 hlt hNg HX CO l0 l1 l2 l3 hsz g2
          go_wp2_with (refine wpList_store_mid rfl _ _ _ rfl g (i * 4) #[.int .i64 wa, .int .i64 kd, .string nm, .int .u64 (ve : Int)] (by rfl) (by rfl) TH.out IN.out ON.out ?_; rw [HW3.out])
          go_roundg (n - (j + 1))
          case measure => omega
          case rel => exact ⟨i + 1, j + 1, by push_cast; rfl, by push_cast; rfl, by omega, by omega, by omega, NX.out⟩
        | false =>
          rw [ht] at CO
          have HT := Lib.hid ht
          clear ht
          go_upto_region 8 with fail
          rw [HW.out.1, HW.out.2]
          go_wp2_with (go_at_fn 38; refine CO.out.mono ?_; rintro e w2 ⟨rfl, g2⟩)
          have NX : Hid (∃ d : List Ev, d.length = n ∧ i = ((l.take (j + 1)).filter (keeps f)).length ∧ d.take i = (l.take (j + 1)).filter (keeps f) ∧ d.drop (j + 1) = l.drop (j + 1) ∧ w2.ownsRow N ET 4 (.slice (some ⟨g, 0, none⟩) n c) n (flat encE d) ∧ Chg [g] w w2) := by
            obtain ⟨hd1, hd2, hd3, hd4, own, C, hx, e0, hgE, hsz⟩ := HX.out
            have ef := filter_next (keeps f) hx
            rw [HT.out, if_neg (by decide), List.append_nil] at ef
            refine ⟨d, hd1, by rw [ef]; exact hd2, by rw [ef]; exact hd3, ?_, own_block own (fun k e => g2.heap (World.ownsRow.lt own k e).2), C.trans (Chg.ofBelow g2.below []) (by simp)⟩
            have := congrArg (List.drop 1) hd4
            simpa [List.drop_drop, Nat.add_comm] using this
          go_roundg (n - (j + 1))
          case measure => omega
          case rel => exact ⟨i, j + 1, rfl, by push_cast; rfl, by omega, by omega, by omega, NX.out⟩
      · have hjn : j = n := by omega
        subst hjn
        obtain ⟨d, hd1, hd2, hd3, hd4, own, C⟩ := HR.out
        obtain ⟨_, _, _, hn, _⟩ := H.out
        have hlj : (l.take j).filter (keeps f) = l.filter (keeps f) := by rw [List.take_of_length_le (by omega)]
        rw [hlj] at hd2 hd3
        have hcl : ∀ ty, (Builtin.clear_ #[SlE] ty #[.slice (some ⟨g, i * 4, none⟩) (j - i) (c - i)]).run Tryz.prog wr = .ok (.tuple #[]) (wr.setCells g (i * 4) (zerE (j - i))) := fun ty => by
          obtain ⟨g', cap', cur, e, e2, e3, e4, e5, e6, e7⟩ : ∃ (g' cap' : Nat) (cur : Array Value), Value.slice (some ⟨g, 0, none⟩) j c = .slice (some ⟨g', 0, none⟩) j cap' ∧ N ≤ g' ∧ wr.heap[g']? = some (.cells cur ET (0, 0)) ∧ j ≤ cap' ∧ cap' ≤ maxLen ∧ cur.size = cap' * 4 ∧ cur.toList.take (j * 4) = flat encE d := by
            rcases own.2 with ⟨e, _⟩ | h
            · cases e
            · exact h
          simp only [Value.slice.injEq, Option.some.injEq, Addr.mk.injEq, true_and, and_true] at e
          obtain ⟨rfl, rfl⟩ := e
          refine run_clear_ev wr ty g (i * 4) (j - i) (c - i) (by omega) (fun t ht => ?_) (fun t ht => unfrozen_of_block e3 _)
          rw [cell_of_block e3, Array.getElem?_eq_getElem (by omega)]
          rfl
        have hjc : j ≤ c := by
          rcases own.2 with ⟨e, _⟩ | ⟨g', cap', cur, e, e2, e3, e4, e5, e6, e7⟩
          · cases e
          · simp only [Value.slice.injEq, true_and] at e
            omega
        obtain ⟨wz, hwz⟩ : ∃ x, x = wr.setCells g (i * 4) (zerE (j - i)) := ⟨_, rfl⟩
        have FIN : Hid (i = (l.filter (keeps f)).length ∧ wz.ownsRow N ET 4 (.slice (some ⟨g, 0, none⟩) i c) i (flat encE (l.filter (keeps f))) ∧ Chg [g] w wz) := by
          refine ⟨hd2, ?_, ?_⟩
          · rw [hwz, ← hd3]
            exact own_front own hd1 (by omega) (Nat.le_refl _)
          · rw [hwz]
            exact C.setCells (.inl (by simp)) _ _
        rw [← hwz] at hcl
        clear hd1 hd2 hd3 hd4 own C hn hlj hwz HR
        go_wp2
        go_ret
        obtain ⟨f1, f2, f3⟩ := FIN.out
        rw [← f1]
        exact ⟨⟨some ⟨g, 0, none⟩, c, rfl, f2⟩, f3⟩
  · have FIN : Hid (l.filter (keeps f) = l ∧ w1.ownsRow N ET 4 (.slice q n c) n (flat encE l) ∧ Chg (Value.slice q n c).ownBlock.toList w w1 ∧ n = l.length) := by
      obtain ⟨own, hb, hk, hn, hq⟩ := H.out
      refine ⟨List.filter_eq_self.2 (fun y hy => ?_), own_block own (fun k e => b1.block k (World.ownsRow.lt own k e).2), Chg.ofBelow b1 _, hn⟩
      obtain ⟨t, ht⟩ := List.mem_iff_getElem?.1 hy
      exact hall t y ht
    clear CI hall b1
    go_wp2
    go_ret
    obtain ⟨h1, h2, h3, h4⟩ := FIN.out
    rw [h1]
    exact ⟨⟨q, c, by rw [← h4]; rfl, by rw [← h4]; exact h2⟩, h3⟩
end Go.Proofs.YtbagicilmmkdhaaGreat
/- What the law does with a store; a watch's Next, and its place. -/
namespace Go.Proofs.YtbagicilmmkdhaaGreat
open Go.RowKit Go.Shelf Go.Lib Go.Sort
open Go.Joins (cell_of_block unfrozen_of_block block_setCell)
set_option linter.unusedVariables false
set_option linter.unusedSimpArgs false
set_option maxRecDepth 20000

/-- One change at most, of a kind that there is. -/
def Did (base : Nat) (w w' : World) (S : List Nat) (sp : Nat) (most : Int) (l : List Ob) (hist : List Ev) : Prop :=
  ∃ l' hist', After base w w' S sp most l' hist' ∧ l'.length ≤ l.length + 1 ∧ (hist' = hist ∨ ∃ e, KdOk e ∧ hist' = hist ++ [e])
theorem Did.none {base : Nat} {w w' : World} {S : List Nat} {sp : Nat} {most : Int} {l : List Ob} {hist : List Ev} (h : StIs base w S sp most l hist) (b : Below w.heap.size w w') : Did base w w' S sp most l hist :=
  ⟨l, hist, ⟨S, h.gr b, Chg.ofBelow b S, fun g hg => .inl hg⟩, Nat.le_succ _, .inl rfl⟩
theorem kd_of {o : Ob} (h : OkK o) (what : Int) (v : Nat) : KdOk ⟨what, o.kind, o.name, v⟩ := by
  have := ok_rng h
  exact ⟨o.kind.toNat, by show o.kind = _; omega, by omega⟩
theorem create_did (base : Nat) (w : World) (S : List Nat) (sp : Nat) (most : Int) (l : List Ob) (hist : List Ev) (cs : Array Value) (o : Ob) (hs : StIs base w S sp most l hist) (hc : Kept base w cs o) (hn : hist.length < 1000000) :
    Calls Tryz.prog 25 #[.pointer (some ⟨sp, 0, none⟩), .agg cs] w fun e w' => (∃ v, e = .returned v) ∧ Did base w w' S sp most l hist := by
  by_cases he : chkE (dfl o) = 0
  · refine (create_any base w S sp most l hist cs o hs hc hn he).mono ?_
    rintro e w' (⟨_, rfl, b⟩ | ⟨_, rfl, a⟩)
    · exact ⟨⟨_, rfl⟩, .none hs b⟩
    · refine ⟨⟨_, rfl⟩, _, _, a, ?_, .inr ⟨_, ?_, rfl⟩⟩
      · rw [put_len]; split <;> omega
      · obtain ⟨S', st, _⟩ := a
        obtain ⟨mb, D, ev, kept, h⟩ := st
        exact kd_of (h.map.ok _ (put_self l (setV (dfl o) (hist.length + 1)))) 0 _
  · refine (create_bad base w sp cs o hc (by obtain ⟨_, _, _, _, q⟩ := hs; exact q.bw) he).mono ?_
    rintro e w' ⟨rfl, b⟩
    exact ⟨⟨_, rfl⟩, .none hs b⟩
theorem update_did (base : Nat) (w : World) (S : List Nat) (sp : Nat) (most : Int) (l : List Ob) (hist : List Ev) (cs : Array Value) (o : Ob) (hs : StIs base w S sp most l hist) (hc : Kept base w cs o) (hn : hist.length < 1000000) :
    Calls Tryz.prog 26 #[.pointer (some ⟨sp, 0, none⟩), .agg cs] w fun e w' => (∃ v, e = .returned v) ∧ Did base w w' S sp most l hist := by
  by_cases he : chkE (dfl o) = 0
  · refine (update_any base w S sp most l hist cs o hs hc hn he).mono ?_
    rintro e w' (⟨_, rfl, b⟩ | ⟨_, rfl, a⟩)
    · exact ⟨⟨_, rfl⟩, .none hs b⟩
    · refine ⟨⟨_, rfl⟩, _, _, a, ?_, .inr ⟨_, ?_, rfl⟩⟩
      · rw [put_len]; split <;> omega
      · obtain ⟨S', st, _⟩ := a
        obtain ⟨mb, D, ev, kept, h⟩ := st
        exact kd_of (h.map.ok _ (put_self l (setV (dfl o) (hist.length + 1)))) 1 _
  · refine (update_bad base w sp cs o hc (by obtain ⟨_, _, _, _, q⟩ := hs; exact q.bw) he).mono ?_
    rintro e w' ⟨rfl, b⟩
    exact ⟨⟨_, rfl⟩, .none hs b⟩
theorem delete_did (base : Nat) (w : World) (S : List Nat) (sp : Nat) (most : Int) (l : List Ob) (hist : List Ev) (k : Int) (nm : ByteArray) (ver : Nat) (hs : StIs base w S sp most l hist) (hn : hist.length < 1000000) (hnm : nm.size ≤ maxLen) :
    Calls Tryz.prog 28 #[.pointer (some ⟨sp, 0, none⟩), .int .i64 k, .string nm, .int .u64 (ver : Int)] w fun e w' => (∃ v, e = .returned v) ∧ Did base w w' S sp most l hist := by
  by_cases hk : 0 ≤ k ∧ k < 5
  · refine (delete_any base w S sp most l hist k nm ver hs hn hk hnm).mono ?_
    rintro e w' (⟨_, rfl, b⟩ | ⟨_, rfl, a⟩)
    · exact ⟨⟨_, rfl⟩, .none hs b⟩
    · refine ⟨⟨_, rfl⟩, _, _, a, ?_, .inr ⟨_, ⟨k.toNat, by show k = _; omega, by omega⟩, rfl⟩⟩
      have := del_len (l := l) (k := k) (nm := nm)
      omega
  · refine (delete_bad w sp k nm ver (by omega)).mono ?_
    rintro e w' ⟨rfl, b⟩
    exact ⟨⟨_, rfl⟩, .none hs (by first | exact b | exact b ▸ Below.refl _ _ | exact b.below)⟩

/-! ### a watch -/
theorem place_any (w : World) (wp sp : Nat) (f : Nat → Bool) (pl : Nat) (hb : w.heap[wp]? = some (.cells (waC sp f pl) WaT (0, 0))) :
    Calls Tryz.prog 22 #[.pointer (some ⟨wp, 0, none⟩)] w fun e w' => e = .returned (.int .u64 (pl : Int)) ∧ w' = w := by
  have c6 : w.cell? ⟨wp, 6, none⟩ = some (.int .u64 (pl : Int)) := cell_of_block hb 6
  clear hb
  go_enter Tryz.func22, Tryz.ntmps22
  go_wp2
  go_ret
  exact ⟨rfl, rfl⟩
theorem wnew_any (base : Nat) (w : World) (S : List Nat) (sp : Nat) (most : Int) (l : List Ob) (hist : List Ev) (h : StIs base w S sp most l hist) (q : Option Addr) (c : Nat) (ks : List Int) (hk : Ints w q ks) :
    Calls Tryz.prog 13 #[.pointer (some ⟨sp, 0, none⟩), .slice q ks.length c] w fun e w' => e = .returned (.pointer (some ⟨w.heap.size, 0, none⟩)) ∧
      w'.heap[w.heap.size]? = some (.cells (waC sp (fun i => sees ks (i : Int)) hist.length) WaT (0, 0)) ∧ Below w.heap.size w w' := by
  have CN := Lib.hid (now_any base w S sp most l hist h)
  have CF := Lib.hid (from_any w sp hist.length q c ks hk)
  obtain ⟨n, hn⟩ : ∃ n, n = ks.length := ⟨_, rfl⟩
  obtain ⟨v, hv⟩ : ∃ n, n = hist.length := ⟨_, rfl⟩
  rw [← hn, ← hv] at CF
  rw [← hv] at CN
  rw [← hn, ← hv]
  clear hn hv h hk
  go_enter Tryz.func13, Tryz.ntmps13
  go_wp2_with fail
  refine CN.out.mono ?_
  rintro e w' ⟨rfl, rfl⟩
  go_wp2_with fail
  refine CF.out.mono ?_
  rintro e w2 ⟨rfl, b2, low⟩
  have FIN := Lib.hid (And.intro b2 low)
  clear b2 low CF CN
  go_wp2
  go_ret
  exact ⟨rfl, FIN.out⟩

/-- A watch of a store. -/
structure Wat (base : Nat) (w : World) (S : List Nat) (sp wp : Nat) (most : Int) (f : Nat → Bool) (pl : Nat) (l : List Ob) (hist : List Ev) : Prop where
  st : StIs base w S sp most l hist
  blk : w.heap[wp]? = some (.cells (waC sp f pl) WaT (0, 0))
  nm : wp ∉ S
  lo : base ≤ wp
theorem Wat.gr {base : Nat} {w w' : World} {S : List Nat} {sp wp : Nat} {most : Int} {f : Nat → Bool} {pl : Nat} {l : List Ob} {hist : List Ev} (h : Wat base w S sp wp most f pl l hist) (g : Below w.heap.size w w') : Wat base w' S sp wp most f pl l hist :=
  ⟨h.st.gr g, (g.block wp (Array.getElem?_eq_some_iff.1 h.blk).1).trans h.blk, h.nm, h.lo⟩

set_option maxHeartbeats 8000000 in
theorem next_any (base : Nat) (w : World) (S : List Nat) (sp wp : Nat) (most : Int) (f : Nat → Bool) (pl : Nat) (l : List Ob) (hist : List Ev) (h : Wat base w S sp wp most f pl l hist) (hk : ∀ e ∈ hist, KdOk e) (hn : hist.length ≤ 1000) (hp : pl ≤ hist.length) :
    Calls Tryz.prog 15 #[.pointer (some ⟨wp, 0, none⟩)] w fun r w' =>
      (∃ q c, r = .returned (.tuple #[.slice q ((hist.drop pl).filter (keeps f)).length c, .int .i64 0]) ∧ w'.ownsRow w.heap.size ET 4 (.slice q ((hist.drop pl).filter (keeps f)).length c) ((hist.drop pl).filter (keeps f)).length (flat encE ((hist.drop pl).filter (keeps f)))) ∧
      Chg [wp] w w' ∧ w'.heap[wp]? = some (.cells (waC sp f hist.length) WaT (0, 0)) := by
  have mixed : Tryz.prog.follows .mixedOrders = true := by kernel_rfl
  obtain ⟨d, hd⟩ : ∃ d, d = hist.drop pl := ⟨_, rfl⟩
  rw [← hd]
  have hdk : ∀ e ∈ d, KdOk e := fun e he => hk e (by rw [hd] at he; exact List.mem_of_mem_drop he)
  have hdl : d.length ≤ 1000 := by rw [hd, List.length_drop]; omega
  obtain ⟨v, hv⟩ : ∃ v, v = hist.length := ⟨_, rfl⟩
  have CS : Hid (∀ ws : World, Below w.heap.size w ws → Calls Tryz.prog 10 #[.pointer (some ⟨sp, 0, none⟩), .int .u64 (pl : Int)] ws fun e w' => (∃ u, e = .returned (.tuple #[u, .int .i64 0]) ∧ w'.ownsRow ws.heap.size ET 4 u d.length (flat encE d)) ∧ Below ws.heap.size ws w') := fun ws b => by
    rw [hd]
    exact since_any base ws S sp most l hist pl (h.st.gr b) (by omega) hp (by omega)
  have KS : Hid (∀ ws : World, Below w.heap.size w ws → ws.cell? ⟨wp, 0, none⟩ = some (.pointer (some ⟨sp, 0, none⟩))) := fun ws b => (World.cell?_of_block (b.block wp (Array.getElem?_eq_some_iff.1 h.blk).1)).trans (cell_of_block h.blk 0)
  have KP : Hid (∀ ws : World, Below w.heap.size w ws → ws.cell? ⟨wp, 6, none⟩ = some (.int .u64 (pl : Int))) := fun ws b => (World.cell?_of_block (b.block wp (Array.getElem?_eq_some_iff.1 h.blk).1)).trans (cell_of_block h.blk 6)
  have GD : Hid (Below w.heap.size w w.drew) := ((Gr.refl w).drewN 1).below
  have H := Lib.hid (And.intro h (And.intro hdk (And.intro hdl hv)))
  rw [← hv]
  clear h hk hn hp hd hdk hdl hv
  go_enter Tryz.func15, Tryz.ntmps15
  go_upto_region 3 with fail
  refine wp_region_held_drew (S := fun ws => Below w.heap.size w ws) mixed GD.out (fun hS => ?_)
  refine wpAnyH_takeD (i := 0) (d := 9) (v := .pointer (some ⟨wp, 0, none⟩)) _ rfl rfl (by kernel_rfl) (by kernel_rfl) (by kernel_rfl) (fun _ _ _ h => h) (Or.inl ⟨by kernel_rfl, fun ws hSw => by first | (go_simp; done) | (go_simp; with_reducible rfl) | (go_simp; rfl)⟩) hS ?_
  simp only [Act.put, List.setIfInBounds_toArray, List.set_cons_zero, List.set_cons_succ]
  refine wpAnyH_takeD (i := 1) (d := 10) (v := .pointer (some ⟨wp, 0, none⟩)) _ rfl rfl (by kernel_rfl) (by kernel_rfl) (by kernel_rfl) (fun _ _ _ h => h) (Or.inl ⟨by kernel_rfl, fun ws hSw => by first | (go_simp; done) | (go_simp; with_reducible rfl) | (go_simp; rfl)⟩) hS ?_
  simp only [Act.put, List.setIfInBounds_toArray, List.set_cons_zero, List.set_cons_succ]
  refine wpAnyH_takeD (i := 2) (d := 11) (v := .pointer (some ⟨wp, 0, none⟩)) _ rfl rfl (by kernel_rfl) (by kernel_rfl) (by kernel_rfl) (fun _ _ _ h => h) (Or.inl ⟨by kernel_rfl, fun ws hSw => by first | (go_simp; done) | (go_simp; with_reducible rfl) | (go_simp; rfl)⟩) hS ?_
  simp only [Act.put, List.setIfInBounds_toArray, List.set_cons_zero, List.set_cons_succ]
  refine wpAnyH_takeD (i := 3) (d := 12) (v := .pointer (some ⟨sp, 0, none⟩)) _ rfl rfl (by kernel_rfl) (by kernel_rfl) (by kernel_rfl) (fun _ _ _ h => h) (Or.inl ⟨by kernel_rfl, fun ws hSw => by have q := KS.out ws hSw; first | (go_simp; done) | (go_simp; with_reducible rfl) | (go_simp; rfl)⟩) hS ?_
  simp only [Act.put, List.setIfInBounds_toArray, List.set_cons_zero, List.set_cons_succ]
  refine wpAnyH_takeD (i := 4) (d := 13) (v := .pointer (some ⟨wp, 0, none⟩)) _ rfl rfl (by kernel_rfl) (by kernel_rfl) (by kernel_rfl) (fun _ _ _ h => h) (Or.inl ⟨by kernel_rfl, fun ws hSw => by first | (go_simp; done) | (go_simp; with_reducible rfl) | (go_simp; rfl)⟩) hS ?_
  simp only [Act.put, List.setIfInBounds_toArray, List.set_cons_zero, List.set_cons_succ]
  refine wpAnyH_takeD (i := 5) (d := 14) (v := .pointer (some ⟨wp, 0, none⟩)) _ rfl rfl (by kernel_rfl) (by kernel_rfl) (by kernel_rfl) (fun _ _ _ h => h) (Or.inl ⟨by kernel_rfl, fun ws hSw => by first | (go_simp; done) | (go_simp; with_reducible rfl) | (go_simp; rfl)⟩) hS ?_
  simp only [Act.put, List.setIfInBounds_toArray, List.set_cons_zero, List.set_cons_succ]
  refine wpAnyH_takeD (i := 6) (d := 15) (v := .pointer (some ⟨wp, 6, none⟩)) _ rfl rfl (by kernel_rfl) (by kernel_rfl) (by kernel_rfl) (fun _ _ _ h => h) (Or.inl ⟨by kernel_rfl, fun ws hSw => by first | (go_simp; done) | (go_simp; with_reducible rfl) | (go_simp; rfl)⟩) hS ?_
  simp only [Act.put, List.setIfInBounds_toArray, List.set_cons_zero, List.set_cons_succ]
  refine wpAnyH_takeD (i := 7) (d := 16) (v := .int .u64 (pl : Int)) _ rfl rfl (by kernel_rfl) (by kernel_rfl) (by kernel_rfl) (fun _ _ _ h => h) (Or.inl ⟨by kernel_rfl, fun ws hSw => by have q := KP.out ws hSw; first | (go_simp; done) | (go_simp; with_reducible rfl) | (go_simp; rfl)⟩) hS ?_
  simp only [Act.put, List.setIfInBounds_toArray, List.set_cons_zero, List.set_cons_succ]
  refine wpAnyH_ready (rs := [8]) (by kernel_rfl) (by simp) ?_
  refine AllReadyH.cons rfl (fun K hK => ?_) AllReadyH.nil
  go_simp
  refine (CS.out _ hS).mono ?_
  rintro e w2 ⟨⟨u, rfl, own⟩, b2⟩
  obtain ⟨q, c, rfl⟩ := own_slice own
  obtain ⟨n, hn⟩ : ∃ n, n = d.length := ⟨_, rfl⟩
  rw [← hn] at own ⊢
  have hS2 : Below w.heap.size w w2 := hS.trans (b2.mono hS.size)
  have hS0 := hS.size
  refine hK _ _ hS2 (fun hS => ?_)
  try simp only [Act.put, List.setIfInBounds_toArray, List.set_cons_zero, List.set_cons_succ]
  refine wpAnyH_takeD (i := 9) (d := 8) (v := .tuple #[.slice q n c, .int .i64 0]) _ rfl rfl (by kernel_rfl) (by kernel_rfl) (by kernel_rfl) (fun _ _ _ h => h) (Or.inl ⟨by kernel_rfl, fun ws hSw => by first | (go_simp; done) | (go_simp; with_reducible rfl) | (go_simp; rfl)⟩) hS ?_
  simp only [Act.put, List.setIfInBounds_toArray, List.set_cons_zero, List.set_cons_succ]
  refine wpAnyH_takeD (i := 10) (d := 18) (v := .slice q n c) _ rfl rfl (by kernel_rfl) (by kernel_rfl) (by kernel_rfl) (fun _ _ _ h => h) (Or.inl ⟨by kernel_rfl, fun ws hSw => by first | (go_simp; done) | (go_simp; with_reducible rfl) | (go_simp; rfl)⟩) hS ?_
  simp only [Act.put, List.setIfInBounds_toArray, List.set_cons_zero, List.set_cons_succ]
  refine wpAnyH_takeD (i := 11) (d := 19) (v := .int .i64 0) _ rfl rfl (by kernel_rfl) (by kernel_rfl) (by kernel_rfl) (fun _ _ _ h => h) (Or.inl ⟨by kernel_rfl, fun ws hSw => by first | (go_simp; done) | (go_simp; with_reducible rfl) | (go_simp; rfl)⟩) hS ?_
  simp only [Act.put, List.setIfInBounds_toArray, List.set_cons_zero, List.set_cons_succ]
  refine wpAnyH_takeD (i := 12) (d := 4) (v := .slice q n c) _ rfl rfl (by kernel_rfl) (by kernel_rfl) (by kernel_rfl) (fun _ _ _ h => h) (Or.inl ⟨by kernel_rfl, fun ws hSw => by first | (go_simp; done) | (go_simp; with_reducible rfl) | (go_simp; rfl)⟩) hS ?_
  simp only [Act.put, List.setIfInBounds_toArray, List.set_cons_zero, List.set_cons_succ]
  refine wpAnyH_takeD (i := 13) (d := 5) (v := .int .i64 0) _ rfl rfl (by kernel_rfl) (by kernel_rfl) (by kernel_rfl) (fun _ _ _ h => h) (Or.inl ⟨by kernel_rfl, fun ws hSw => by first | (go_simp; done) | (go_simp; with_reducible rfl) | (go_simp; rfl)⟩) hS ?_
  simp only [Act.put, List.setIfInBounds_toArray, List.set_cons_zero, List.set_cons_succ]
  refine wpAnyH_done (by kernel_rfl) ?_ _
  obtain ⟨h, hdk, hdl, hv⟩ := H.out
  have h2 := h.gr hS
  have CN := Lib.hid (now_any base w2 S sp most l hist h2.st)
  rw [← hv] at CN
  have hbw : w.heap.size ≤ w2.heap.size := hS.size
  obtain ⟨w3, hw3⟩ : ∃ x, x = w2.setCell ⟨wp, 6, none⟩ (.int .u64 (v : Int)) := ⟨_, rfl⟩
  have b3 : w3.heap[wp]? = some (.cells (waC sp f v) WaT (0, 0)) := by rw [hw3, block_setCell h2.blk]; rfl
  have hwl : wp < w.heap.size := (Array.getElem?_eq_some_iff.1 h.blk).1
  have own2 := own_mono own hS0
  have own3 : w3.ownsRow w.heap.size ET 4 (.slice q n c) n (flat encE d) := own_block own2 (fun g hg => by rw [hw3, Below.heap_setCell _ _ _ _ (by show g ≠ wp; have := (World.ownsRow.lt own2 g hg).1; omega)])
  have CD := Lib.hid (delete_ev w3 w.heap.size q c d wp sp f v (by rw [← hn]; exact own3) (by omega) b3 hdk)
  rw [← hn] at CD
  have p0 : w2.cell? ⟨wp, 0, none⟩ = some (.pointer (some ⟨sp, 0, none⟩)) := cell_of_block h2.blk 0
  have p6 : w2.cell? ⟨wp, 6, none⟩ = some (.int .u64 (pl : Int)) := cell_of_block h2.blk 6
  have q6 : w2.frozen? ⟨wp, 6, none⟩ = false := unfrozen_of_block h2.blk 6
  have H3 : Hid (w3.heap[wp]? = some (.cells (waC sp f v) WaT (0, 0)) ∧ Chg [wp] w w3 ∧ ∀ g ∈ (Value.slice q n c).ownBlock.toList, w.heap.size ≤ g) := by
    refine ⟨b3, ?_, fun g hg => ?_⟩
    · rw [hw3]
      exact (Chg.ofBelow hS [wp]).setCell 6 _ (.inl (by simp))
    · exact (World.ownsRow.lt own3 g (by simpa using hg)).1
  have HW3 := Lib.hid (And.intro hw3 hwl)
  have HW3' := hw3.symm
  clear h hdk hdl hv h2 hbw hw3 b3 own2 own3 own b2 hS hS0 CS KS KP GD hn
  go_wp2_with fail
  refine CN.out.mono ?_
  rintro e w' ⟨rfl, rfl⟩
  go_wp2_with fail
  refine CD.out.mono ?_
  rintro e w4 ⟨⟨q', c', rfl, own4⟩, C4⟩
  obtain ⟨m, hm⟩ : ∃ m, m = (d.filter (keeps f)).length := ⟨_, rfl⟩
  rw [← hm] at own4 ⊢
  have FIN : Hid (w4.ownsRow w.heap.size ET 4 (.slice q' m c') m (flat encE (d.filter (keeps f))) ∧ Chg [wp] w w4 ∧ w4.heap[wp]? = some (.cells (waC sp f v) WaT (0, 0))) := by
    obtain ⟨b3, C3, hg⟩ := H3.out
    refine ⟨own4, C3.trans C4 (fun g h => .inr (hg g h)), (C4.block wp (Array.getElem?_eq_some_iff.1 b3).1 (fun h => ?_)).trans b3⟩
    have h1 := hg wp h
    have h2 := HW3.out.2
    omega
  have HM := Lib.hid hm
  clear own4 C4 CD CN hm HW3'
  go_wp2
  refine bodyPost_ret (results_tmp2 rfl _ _ _) rfl ?_
  exact ⟨⟨q', c', by rw [← HM.out]; rfl, by rw [← HM.out]; exact FIN.out.1⟩, FIN.out.2⟩
set_option maxHeartbeats 8000000 in
theorem next_above (base : Nat) (w : World) (S : List Nat) (sp wp : Nat) (most : Int) (f : Nat → Bool) (pl : Nat) (l : List Ob) (hist : List Ev) (h : Wat base w S sp wp most f pl l hist) (hn : hist.length ≤ 1000) (hp : hist.length < pl) :
    Calls Tryz.prog 15 #[.pointer (some ⟨wp, 0, none⟩)] w fun r w' => r = .returned (.tuple #[.slice none 0 0, .int .i64 1]) ∧ Below w.heap.size w w' := by
  have mixed : Tryz.prog.follows .mixedOrders = true := by kernel_rfl
  have CS : Hid (∀ ws : World, Below w.heap.size w ws → Calls Tryz.prog 10 #[.pointer (some ⟨sp, 0, none⟩), .int .u64 (pl : Int)] ws fun e w' => e = .returned (.tuple #[.slice none 0 0, .int .i64 1]) ∧ ws = w') := fun ws b =>
    since_above base ws S sp most l hist pl (h.st.gr b) (by omega) hp
  have KS : Hid (∀ ws : World, Below w.heap.size w ws → ws.cell? ⟨wp, 0, none⟩ = some (.pointer (some ⟨sp, 0, none⟩))) := fun ws b => (World.cell?_of_block (b.block wp (Array.getElem?_eq_some_iff.1 h.blk).1)).trans (cell_of_block h.blk 0)
  have KP : Hid (∀ ws : World, Below w.heap.size w ws → ws.cell? ⟨wp, 6, none⟩ = some (.int .u64 (pl : Int))) := fun ws b => (World.cell?_of_block (b.block wp (Array.getElem?_eq_some_iff.1 h.blk).1)).trans (cell_of_block h.blk 6)
  have GD : Hid (Below w.heap.size w w.drew) := ((Gr.refl w).drewN 1).below
  clear h hn hp
  go_enter Tryz.func15, Tryz.ntmps15
  go_upto_region 3 with fail
  refine wp_region_held_drew (S := fun ws => Below w.heap.size w ws) mixed GD.out (fun hS => ?_)
  refine wpAnyH_takeD (i := 0) (d := 9) (v := .pointer (some ⟨wp, 0, none⟩)) _ rfl rfl (by kernel_rfl) (by kernel_rfl) (by kernel_rfl) (fun _ _ _ h => h) (Or.inl ⟨by kernel_rfl, fun ws hSw => by first | (go_simp; done) | (go_simp; with_reducible rfl) | (go_simp; rfl)⟩) hS ?_
  simp only [Act.put, List.setIfInBounds_toArray, List.set_cons_zero, List.set_cons_succ]
  refine wpAnyH_takeD (i := 1) (d := 10) (v := .pointer (some ⟨wp, 0, none⟩)) _ rfl rfl (by kernel_rfl) (by kernel_rfl) (by kernel_rfl) (fun _ _ _ h => h) (Or.inl ⟨by kernel_rfl, fun ws hSw => by first | (go_simp; done) | (go_simp; with_reducible rfl) | (go_simp; rfl)⟩) hS ?_
  simp only [Act.put, List.setIfInBounds_toArray, List.set_cons_zero, List.set_cons_succ]
  refine wpAnyH_takeD (i := 2) (d := 11) (v := .pointer (some ⟨wp, 0, none⟩)) _ rfl rfl (by kernel_rfl) (by kernel_rfl) (by kernel_rfl) (fun _ _ _ h => h) (Or.inl ⟨by kernel_rfl, fun ws hSw => by first | (go_simp; done) | (go_simp; with_reducible rfl) | (go_simp; rfl)⟩) hS ?_
  simp only [Act.put, List.setIfInBounds_toArray, List.set_cons_zero, List.set_cons_succ]
  refine wpAnyH_takeD (i := 3) (d := 12) (v := .pointer (some ⟨sp, 0, none⟩)) _ rfl rfl (by kernel_rfl) (by kernel_rfl) (by kernel_rfl) (fun _ _ _ h => h) (Or.inl ⟨by kernel_rfl, fun ws hSw => by have q := KS.out ws hSw; first | (go_simp; done) | (go_simp; with_reducible rfl) | (go_simp; rfl)⟩) hS ?_
  simp only [Act.put, List.setIfInBounds_toArray, List.set_cons_zero, List.set_cons_succ]
  refine wpAnyH_takeD (i := 4) (d := 13) (v := .pointer (some ⟨wp, 0, none⟩)) _ rfl rfl (by kernel_rfl) (by kernel_rfl) (by kernel_rfl) (fun _ _ _ h => h) (Or.inl ⟨by kernel_rfl, fun ws hSw => by first | (go_simp; done) | (go_simp; with_reducible rfl) | (go_simp; rfl)⟩) hS ?_
  simp only [Act.put, List.setIfInBounds_toArray, List.set_cons_zero, List.set_cons_succ]
  refine wpAnyH_takeD (i := 5) (d := 14) (v := .pointer (some ⟨wp, 0, none⟩)) _ rfl rfl (by kernel_rfl) (by kernel_rfl) (by kernel_rfl) (fun _ _ _ h => h) (Or.inl ⟨by kernel_rfl, fun ws hSw => by first | (go_simp; done) | (go_simp; with_reducible rfl) | (go_simp; rfl)⟩) hS ?_
  simp only [Act.put, List.setIfInBounds_toArray, List.set_cons_zero, List.set_cons_succ]
  refine wpAnyH_takeD (i := 6) (d := 15) (v := .pointer (some ⟨wp, 6, none⟩)) _ rfl rfl (by kernel_rfl) (by kernel_rfl) (by kernel_rfl) (fun _ _ _ h => h) (Or.inl ⟨by kernel_rfl, fun ws hSw => by first | (go_simp; done) | (go_simp; with_reducible rfl) | (go_simp; rfl)⟩) hS ?_
  simp only [Act.put, List.setIfInBounds_toArray, List.set_cons_zero, List.set_cons_succ]
  refine wpAnyH_takeD (i := 7) (d := 16) (v := .int .u64 (pl : Int)) _ rfl rfl (by kernel_rfl) (by kernel_rfl) (by kernel_rfl) (fun _ _ _ h => h) (Or.inl ⟨by kernel_rfl, fun ws hSw => by have q := KP.out ws hSw; first | (go_simp; done) | (go_simp; with_reducible rfl) | (go_simp; rfl)⟩) hS ?_
  simp only [Act.put, List.setIfInBounds_toArray, List.set_cons_zero, List.set_cons_succ]
  refine wpAnyH_ready (rs := [8]) (by kernel_rfl) (by simp) ?_
  refine AllReadyH.cons rfl (fun K hK => ?_) AllReadyH.nil
  go_simp
  refine (CS.out _ hS).mono ?_
  rintro e w2 ⟨rfl, rfl⟩
  refine hK _ _ hS (fun hS => ?_)
  try simp only [Act.put, List.setIfInBounds_toArray, List.set_cons_zero, List.set_cons_succ]
  refine wpAnyH_takeD (i := 9) (d := 8) (v := .tuple #[.slice none 0 0, .int .i64 1]) _ rfl rfl (by kernel_rfl) (by kernel_rfl) (by kernel_rfl) (fun _ _ _ h => h) (Or.inl ⟨by kernel_rfl, fun ws hSw => by first | (go_simp; done) | (go_simp; with_reducible rfl) | (go_simp; rfl)⟩) hS ?_
  simp only [Act.put, List.setIfInBounds_toArray, List.set_cons_zero, List.set_cons_succ]
  refine wpAnyH_takeD (i := 10) (d := 18) (v := .slice none 0 0) _ rfl rfl (by kernel_rfl) (by kernel_rfl) (by kernel_rfl) (fun _ _ _ h => h) (Or.inl ⟨by kernel_rfl, fun ws hSw => by first | (go_simp; done) | (go_simp; with_reducible rfl) | (go_simp; rfl)⟩) hS ?_
  simp only [Act.put, List.setIfInBounds_toArray, List.set_cons_zero, List.set_cons_succ]
  refine wpAnyH_takeD (i := 11) (d := 19) (v := .int .i64 1) _ rfl rfl (by kernel_rfl) (by kernel_rfl) (by kernel_rfl) (fun _ _ _ h => h) (Or.inl ⟨by kernel_rfl, fun ws hSw => by first | (go_simp; done) | (go_simp; with_reducible rfl) | (go_simp; rfl)⟩) hS ?_
  simp only [Act.put, List.setIfInBounds_toArray, List.set_cons_zero, List.set_cons_succ]
  refine wpAnyH_takeD (i := 12) (d := 4) (v := .slice none 0 0) _ rfl rfl (by kernel_rfl) (by kernel_rfl) (by kernel_rfl) (fun _ _ _ h => h) (Or.inl ⟨by kernel_rfl, fun ws hSw => by first | (go_simp; done) | (go_simp; with_reducible rfl) | (go_simp; rfl)⟩) hS ?_
  simp only [Act.put, List.setIfInBounds_toArray, List.set_cons_zero, List.set_cons_succ]
  refine wpAnyH_takeD (i := 13) (d := 5) (v := .int .i64 1) _ rfl rfl (by kernel_rfl) (by kernel_rfl) (by kernel_rfl) (fun _ _ _ h => h) (Or.inl ⟨by kernel_rfl, fun ws hSw => by first | (go_simp; done) | (go_simp; with_reducible rfl) | (go_simp; rfl)⟩) hS ?_
  simp only [Act.put, List.setIfInBounds_toArray, List.set_cons_zero, List.set_cons_succ]
  refine wpAnyH_done (by kernel_rfl) ?_ _
  go_wp2
  refine bodyPost_ret (results_tmp2 rfl _ _ _) rfl ?_
  exact ⟨rfl, GD.out⟩
end Go.Proofs.YtbagicilmmkdhaaGreat
/- A range over List whose round may write in what was made behind its start. -/
namespace Go.Proofs.YtbagicilmmkdhaaGreat
open Go.RowKit Go.Shelf Go.Lib Go.Sort
open Go.Joins (cell_of_block unfrozen_of_block block_setCell)
set_option linter.unusedVariables false
set_option linter.unusedSimpArgs false
set_option maxRecDepth 20000

/-- A round leaves what nobody writes, and what lies from B to C. -/
structure StaysC (base B C : Nat) (W W' : World) : Prop where
  fx : Fx base W W'
  rest : ∀ k, B ≤ k → k < C → k < W.heap.size → W'.heap[k]? = W.heap[k]?
theorem StaysC.refl (base B C : Nat) (W : World) : StaysC base B C W W := ⟨Fx.refl _ _, fun _ _ _ _ => rfl⟩
theorem StaysC.trans {base B C : Nat} {a b c : World} (h : StaysC base B C a b) (k : StaysC base B C b c) : StaysC base B C a c :=
  ⟨h.fx.trans k.fx, fun g h1 h3 h2 => (k.rest g h1 h3 (Nat.lt_of_lt_of_le h2 h.fx.size)).trans (h.rest g h1 h3 h2)⟩
theorem StaysC.ofBelow {base B C : Nat} {W W' : World} (h : Below W.heap.size W W') : StaysC base B C W W' := ⟨Fx.ofBelow h, fun k _ _ hk => h.block k hk⟩
theorem StaysC.ofChg {base B C : Nat} {T : List Nat} {W W' : World} (h : Chg T W W') (hp : ∀ g ∈ T, (g < B ∨ C ≤ g) ∧ (g < W.heap.size → ¬ Prot base W g)) : StaysC base B C W W' :=
  ⟨h.fx (fun g hg => (hp g hg).2), fun k h1 h3 h2 => h.block k h2 (fun hm => by have := (hp k hm).1; omega)⟩

/-- How a round may be left. -/
def toldPostC {α : Type} (base B C : Nat) (I : Nat → List α → World → Prop) (Ix : Code → Nat → List α → World → Prop) (xs : List α) (W : World) : Exit → Act → World → Prop
  | .normal, _, W' => StaysC base B C W W' ∧ I C xs W'
  | .ret, _, W' => StaysC base B C W W' ∧ Ix .ret C xs W'
  | .exit id, _, W' => StaysC base B C W W' ∧ Ix (.exit id) C xs W'
  | .goto t, _, W' => StaysC base B C W W' ∧ Ix (.goto t) C xs W'
  | .panic _, _, _ => False
  | .outgrown, _, _ => False

/-- An iterator's contract: of what it hands on behind these values this is known. -/
def TellsC {α : Type} (n : Nat) (P : Program) (gf : Nat) (lb : Array Value) (encs : α → Array Value) (Gv : List α → α → World → Prop) (S Sp : List α → Prop) (base : Nat) (w : World) : Prop :=
  ∀ (l : Nat) (J Jx : Nat → List α → World → Prop) (W : World), Below w.heap.size w W → (∀ C, Bears W.heap.size (J C)) →
    (∀ C pre x W1, W.heap.size ≤ C → C ≤ W1.heap.size → J C pre W1 → Gv pre x W1 → YieldAt Fence.wide (n - 1) P l (encs x) W1 fun e W' =>
      (e = .returned (.bool true) ∧ J C (pre ++ [x]) W' ∧ StaysC base W.heap.size C W1 W') ∨ (e = .returned (.bool false) ∧ Jx C (pre ++ [x]) W')) →
    (∀ C, W.heap.size ≤ C → J C [] W) →
    CallsIn Fence.wide n P gf (#[.func (.yield l) #[] #[]] ++ lb) W fun e W' => (∃ v, e = .returned v) ∧ ((∃ C xs, W.heap.size ≤ C ∧ S xs ∧ J C xs W') ∨ (∃ C pre, Sp pre ∧ Jx C pre W'))

/-- .. and the caller's law. -/
theorem wpIn_toldC {α : Type} {n : Nat} {P : Program} {g : Operand} {ps : Array Tmp} {assign body : Code} {Q : Exit → Act → World → Prop} {a : Act} {w : World}
    (h1 : 1 ≤ n) {gf : Nat} {lb : Array Value} (hg : a.eval g = .func (.func gf) #[] lb) (eg : ∀ args w, (callFunc gf args).run P w = .ok (.enter gf args) w)
    {encs : α → Array Value} {Gv : List α → α → World → Prop} {S Sp : List α → Prop} {base : Nat} {w0 : World} (hseq : TellsC (n - 1) P gf lb encs Gv S Sp base w0)
    (hb0 : Below w0.heap.size w0 w) (hps : ∀ x, (encs x).size = ps.size) (hbase : base ≤ w.heap.size) (hG : ∀ pre x A A', Gv pre x A → Fx base A A' → Gv pre x A')
    (I : Nat → List α → World → Prop) (Ix : Code → Nat → List α → World → Prop) (hI : ∀ C, Bears w.heap.size (I C)) (hIx : ∀ c C, Bears w.heap.size (Ix c C)) (h0 : ∀ C, w.heap.size ≤ C → I C [] w)
    (hround : ∀ (l C : Nat) (pre : List α) (x : α) (W : World), I C pre W → Gv pre x W → w.heap.size ≤ l → l < C → C ≤ W.heap.size →
      assign.wpIn (Fence.wide.inRound l) (n - 1 - 1) P (Exit.then (fun a₁ W₁ => StaysC base w.heap.size C W W₁ ∧ ∀ W₂, Chg [l] W₁ W₂ → Fx base W₁ W₂ →
        body.wpIn (Fence.wide.inRound l) (n - 1 - 1) P (toldPostC base w.heap.size C I Ix (pre ++ [x]) W₂) a₁ W₂) (fun _ _ _ => False))
        { tmps := (ps.zip (encs x)).foldl (fun t (p, v) => t.setIfInBounds p v) a.tmps, defers := [] } W)
    (hdone : ∀ (D : Nat) (xs : List α) (W : World), w.heap.size ≤ D → S xs → (∃ C, w.heap.size ≤ C ∧ I C xs W) → W.heap[D]? = some (.deferred (some [])) → Q .normal { a with defers := { target := .collected D, args := #[] } :: a.defers } W)
    (hstop : ∀ (D : Nat) (c : Code) (pre : List α) (W : World), w.heap.size ≤ D → Sp pre → (∃ C, Ix c C pre W) → W.heap[D]? = some (.deferred (some [])) → c.wpIn Fence.wide n P Q { a with defers := { target := .collected D, args := #[] } :: a.defers } W) :
    (Code.rangeFunc g ps assign body).wpIn Fence.wide n P Q a w := by
  refine wpIn_rangeFunc (fun fn hfn => ?_)
  -- the record of this loop, at l; the mark's block, at D
  obtain ⟨D, hD⟩ : ∃ D, D = w.heap.size := ⟨_, rfl⟩
  obtain ⟨rc, hrc⟩ : ∃ rc : LoopState → Option Code → Loop, rc = fun st pe => { state := st, pending := pe, fn, tmps := a.tmps, params := ps, assign, body, defers := w.heap.size } := ⟨_, rfl⟩
  obtain ⟨W1, hW1⟩ : ∃ W1, (w.alloc (.deferred (some []))).alloc (.loop (rc .ready none)) = W1 := ⟨_, rfl⟩
  have z1 : W1.heap.size = D + 2 := by rw [← hW1, hD]; simp
  have g1 : Gr w W1 := hW1 ▸ ((Gr.refl w).alloc _).alloc _
  have rec1 : W1.heap[D + 1]? = some (.loop (rc .ready none)) := by
    have := heap_alloc_new (w.alloc (.deferred (some []))) (.loop (rc .ready none))
    rw [World.size_alloc, ← hD] at this
    rwa [hW1] at this
  have mark1 : W1.heap[D]? = some (.deferred (some [])) := by
    have g2 : Gr (w.alloc (.deferred (some []))) W1 := hW1 ▸ (Gr.refl _).alloc _
    rw [g2.heap (by rw [hD]; simp), hD]
    exact heap_alloc_new w _
  obtain ⟨J, hJ⟩ : ∃ J : Nat → List α → World → Prop, J = fun C pre W => I C pre W ∧ W.heap[D + 1]? = some (.loop (rc .ready none)) ∧ W.heap[D]? = some (.deferred (some [])) := ⟨_, rfl⟩
  obtain ⟨Jx, hJx⟩ : ∃ Jx : Nat → List α → World → Prop, Jx = fun C pre W => ∃ c, Ix c C pre W ∧ W.heap[D + 1]? = some (.loop (rc .done (some c))) ∧ W.heap[D]? = some (.deferred (some [])) := ⟨_, rfl⟩
  have hturn : ∀ {A A' : World} {o : Obj}, Chg [D + 1] A A' → A.heap[D + 1]? = some o → o.isCells = false → (∀ g ∈ [D + 1], w.heap.size ≤ g ∧ ∃ o : Obj, A.heap[g]? = some o ∧ o.isCells = false) := fun _ h1 h2 g hg => by
    rw [List.mem_singleton] at hg
    subst hg
    exact ⟨by omega, _, h1, h2⟩
  have bJ : ∀ C, Bears W1.heap.size (J C) := fun C => by
    rw [hJ]
    intro s A A' T hs c hT
    have off : ∀ k, k < D + 2 → k ∉ T := fun k hk hm => by have := (hT k hm).1; omega
    exact ⟨hI C s A A' T hs.1 c (fun g hg => ⟨by have := (hT g hg).1; omega, (hT g hg).2⟩), (c.block _ (Array.getElem?_eq_some_iff.1 hs.2.1).1 (off _ (by omega))).trans hs.2.1, (c.block _ (Array.getElem?_eq_some_iff.1 hs.2.2).1 (off _ (by omega))).trans hs.2.2⟩
  have start : ∀ C, W1.heap.size ≤ C → J C [] W1 := fun C hC => by
    rw [hJ]
    exact ⟨hI C [] w W1 [] (h0 C (by omega)) (Chg.ofGr g1 []) (fun g hg => by cases hg), rec1, mark1⟩
  refine ⟨D + 1, [{ target := .collected D, args := #[] }], W1, { target := .fn (.func gf) lb, args := #[.func (.yield (D + 1)) #[] #[]] }, W1, gf, #[.func (.yield (D + 1)) #[] #[]] ++ lb, W1, ?_, ?_, fun f' _ => trivial, ?_, fun _ => h1, ?_⟩
  · rw [← hW1, hrc, hD]
    exact run_enterLoop_outer _ _ _ _ _
  · simp only [resolve, hg]
    simp [go_sem]
  · simp [invoke, go_sem, eg]
  · refine (hseq (D + 1) J Jx W1 (hb0.trans (g1.below.mono hb0.size)) bJ (fun C pre x W hC1 hC2 hj hgv => ?_) start).mono ?_
    · rw [hJ] at hj
      obtain ⟨hi, hl, hk⟩ := hj
      have hll := (Array.getElem?_eq_some_iff.1 hl).1
      have hy := run_yield (P := P) (args := encs x) hl (by rw [hrc]; exact hps x)
      rw [hrc] at hy
      refine ⟨fn, _, assign, body, hy, roundIn_of_wpIn hfn (wpIn_mono (hround (D + 1) C pre x W hi hgv (by omega) (by omega) hC2) ?_)⟩
      intro e a₁ W₁ he
      cases e with
      | normal =>
        obtain ⟨st1, hbody⟩ := he
        have hl1 : W₁.heap[D + 1]? = some (.loop (rc .ready none)) := (st1.rest _ (by omega) (by omega) hll).trans hl
        have hk1 : W₁.heap[D]? = some (.deferred (some [])) := (st1.rest _ (by omega) (by omega) (Array.getElem?_eq_some_iff.1 hk).1).trans hk
        refine ⟨_, run_beginRound hl1 (by rw [hrc]), ?_⟩
        obtain ⟨W₂, hW₂⟩ : ∃ W₂, W₁.putObj (D + 1) (.loop { rc .ready none with state := .busy }) = W₂ := ⟨_, rfl⟩
        have t2 : Chg [D + 1] W₁ W₂ := hW₂ ▸ turn_chg _ _ _
        have hl2 : W₂.heap[D + 1]? = some (.loop { rc .ready none with state := .busy }) := by rw [← hW₂]; exact World.putObj_heap_same (Array.getElem?_eq_some_iff.1 hl1).1
        have hk2 : W₂.heap[D]? = some (.deferred (some [])) := (t2.block _ (Array.getElem?_eq_some_iff.1 hk1).1 (by simp)).trans hk1
        have prot2 : ∀ {A : World} {o : Obj}, A.heap[D + 1]? = some o → o.isCells = false → ∀ g ∈ [D + 1], g < A.heap.size → ¬ Prot base A g := by
          intro A o ho hc g hg _ hp
          rw [List.mem_singleton] at hg
          subst hg
          rcases hp with hp | ⟨cs, T, fz, h3, _⟩
          · omega
          · rw [ho] at h3
            cases h3
            cases hc
        have s2 : Fx base W₁ W₂ := t2.fx (prot2 hl1 rfl)
        rw [hW₂]
        refine wpIn_mono (hbody W₂ t2 s2) ?_
        -- the round's end
        have fin : ∀ (jump : Option Code) (W₃ : World), StaysC base w.heap.size C W₂ W₃ → ∃ W₄, (Instr.endRound (D + 1) jump).run P W₃ = .ok (.bool jump.isNone) W₄ ∧ Chg [D + 1] W₃ W₄ ∧ W₃.heap[D + 1]? = some (.loop { rc .ready none with state := .busy }) ∧
            W₄.heap[D + 1]? = some (.loop (rc (if jump.isNone then .ready else .done) jump)) ∧ W₄.heap[D]? = some (.deferred (some [])) ∧ StaysC base W1.heap.size C W W₄ := fun jump W₃ st3 => by
          have hl3 := (st3.rest _ (by omega) (by omega) (Array.getElem?_eq_some_iff.1 hl2).1).trans hl2
          have hk3 := (st3.rest _ (by omega) (by omega) (Array.getElem?_eq_some_iff.1 hk2).1).trans hk2
          have hr := run_endRound (P := P) jump hl3
          obtain ⟨W₄, hW₄⟩ : ∃ W₄, W₃.putObj (D + 1) (.loop (rc (if jump.isNone then .ready else .done) jump)) = W₄ := ⟨_, rfl⟩
          have t4 : Chg [D + 1] W₃ W₄ := hW₄ ▸ turn_chg _ _ _
          refine ⟨W₄, ?_, t4, hl3, ?_, ?_, ?_⟩
          · rw [hr, ← hW₄, hrc]
          · rw [← hW₄]; exact World.putObj_heap_same (Array.getElem?_eq_some_iff.1 hl3).1
          · exact (t4.block _ (Array.getElem?_eq_some_iff.1 hk3).1 (by simp)).trans hk3
          · refine ⟨st1.fx.trans (s2.trans (st3.fx.trans (t4.fx (prot2 hl3 rfl)))), fun k h3 hkC h4 => ?_⟩
            have z5 := st1.fx.size
            have z6 := s2.size
            have z7 := st3.fx.size
            rw [t4.block k (by omega) (by simp; omega), st3.rest k (by omega) hkC (by omega), t2.block k (by omega) (by simp; omega), st1.rest k (by omega) hkC h4]
        intro e₂ a₃ W₃ hp
        cases e₂ with
        | normal =>
          obtain ⟨st3, hi3⟩ := hp
          obtain ⟨W₄, hr, t4, hl3, hl4, hk4, st4⟩ := fin none W₃ st3
          exact ⟨_, W₄, hr, .inl ⟨rfl, by rw [hJ]; exact ⟨hI _ _ _ _ _ hi3 t4 (hturn t4 hl3 rfl), hl4, hk4⟩, st4⟩⟩
        | ret =>
          obtain ⟨st3, hi3⟩ := hp
          obtain ⟨W₄, hr, t4, hl3, hl4, hk4, st4⟩ := fin (some .ret) W₃ st3
          exact ⟨_, W₄, hr, .inr ⟨rfl, by rw [hJx]; exact ⟨_, hIx _ _ _ _ _ _ hi3 t4 (hturn t4 hl3 rfl), hl4, hk4⟩⟩⟩
        | exit id =>
          obtain ⟨st3, hi3⟩ := hp
          obtain ⟨W₄, hr, t4, hl3, hl4, hk4, st4⟩ := fin (some (.exit id)) W₃ st3
          exact ⟨_, W₄, hr, .inr ⟨rfl, by rw [hJx]; exact ⟨_, hIx _ _ _ _ _ _ hi3 t4 (hturn t4 hl3 rfl), hl4, hk4⟩⟩⟩
        | goto t =>
          obtain ⟨st3, hi3⟩ := hp
          obtain ⟨W₄, hr, t4, hl3, hl4, hk4, st4⟩ := fin (some (.goto t)) W₃ st3
          exact ⟨_, W₄, hr, .inr ⟨rfl, by rw [hJx]; exact ⟨_, hIx _ _ _ _ _ _ hi3 t4 (hturn t4 hl3 rfl), hl4, hk4⟩⟩⟩
        | panic ch => exact hp.elim
        | outgrown => exact hp.elim
      | exit id => exact he.elim
      | goto t => exact he.elim
      | ret => exact he.elim
      | panic chain => exact he.elim
      | outgrown => exact he.elim
    · rintro e W2 ⟨⟨v, rfl⟩, (⟨C, xs, hC, hS, hj⟩ | ⟨C, pre, hSp, hj⟩)⟩
      · rw [hJ] at hj
        obtain ⟨hi, hl, hk⟩ := hj
        have t := turn_chg W2 (D + 1) (.loop { rc .ready none with state := .exhausted })
        exact ⟨none, _, by have := run_endLoop (P := P) hl (by rw [hrc]; simp); rw [hrc] at this ⊢; exact this, hdone D xs _ (by omega) hS ⟨C, by omega, hI _ _ _ _ _ hi t (hturn t hl rfl)⟩ ((t.block _ (Array.getElem?_eq_some_iff.1 hk).1 (by simp)).trans hk)⟩
      · rw [hJx] at hj
        obtain ⟨c, hi, hl, hk⟩ := hj
        have t := turn_chg W2 (D + 1) (.loop { rc .done (some c) with state := .exhausted })
        exact ⟨some c, _, by have := run_endLoop (P := P) hl (by rw [hrc]; simp); rw [hrc] at this ⊢; exact this, hstop D c pre _ (by omega) hSp ⟨C, hIx _ _ _ _ _ _ hi t (hturn t hl rfl)⟩ ((t.block _ (Array.getElem?_eq_some_iff.1 hk).1 (by simp)).trans hk)⟩
set_option maxHeartbeats 8000000 in
theorem list_tellsC (n base : Nat) (w : World) (S : List Nat) (sp b : Nat) (most k : Int) (l : List Ob) (hist : List Ev) (hst : StIs base w S sp most l hist) (h1 : w.cell? ⟨b, 0, none⟩ = some (.pointer (some ⟨sp, 0, none⟩))) (h2 : w.cell? ⟨b + 1, 0, none⟩ = some (.int .i64 k)) (hb : b + 1 < w.heap.size) (hl : l.length ≤ 1000000) :
    TellsC n Tryz.prog 40 #[.pointer (some ⟨b, 0, none⟩), .pointer (some ⟨b + 1, 0, none⟩)] (fun x : Co => #[.agg x.1.1.1]) (ListGv base k l) (fun xs => xs.map (·.1.2) = listed k l) (fun pre => pre ≠ []) base w := fun l' J Jx W hW bJ hY h0 => by
  have mixed : Tryz.prog.follows .mixedOrders = true := by kernel_rfl
  have c1 : W.cell? ⟨b, 0, none⟩ = some (.pointer (some ⟨sp, 0, none⟩)) := (hW.cell (p := ⟨b, 0, none⟩) (by show b < _; omega)).trans h1
  have c2 : W.cell? ⟨b + 1, 0, none⟩ = some (.int .i64 k) := (hW.cell (p := ⟨b + 1, 0, none⟩) hb).trans h2
  have CA := Lib.hid (all_any base W S sp most k l hist (hst.gr hW) hl)
  have HJ := Lib.hid (And.intro h0 (And.intro bJ hY))
  have hbW : base ≤ W.heap.size := by
    obtain ⟨mb, D, ev, kept, h⟩ := hst
    have := h.bw
    have := hW.size
    omega
  have HBW := Lib.hid hbW
  obtain ⟨L, hL⟩ : ∃ L, L = (listed k l).length := ⟨_, rfl⟩
  have HL : Hid (L = (listed k l).length ∧ L ≤ 1000000) := ⟨hL, by have := listed_len (l := l) k; omega⟩
  clear h0 hY hW h1 h2 hst bJ hb hL hbW hl
  refine callsIn_wide.2 ?_
  show Calls Tryz.prog 40 #[.func (.yield l') #[] #[], .pointer (some ⟨b, 0, none⟩), .pointer (some ⟨b + 1, 0, none⟩)] W _
  go_enter Tryz.func40, Tryz.ntmps40
  go_wp2_with fail
  refine CA.out.mono ?_
  rintro e w1 ⟨⟨v, cl, rfl, hcl, ⟨q, c, rfl, hrows⟩, hkept⟩, bw1⟩
  have hlen : cl.length = L := by rw [HL.out.1, ← hcl, List.length_map]
  have hlM : L ≤ 1000000 := HL.out.2
  rw [hlen]
  have HC := Lib.hid (And.intro hcl (And.intro hrows (And.intro hkept (And.intro bw1 hlen))))
  clear hcl hrows hkept bw1 hlen CA c1 c2
  go_wp2_with fail
  go_loopg [10] L (fun g vi wr => ∃ j : Nat, vi = .int .i64 (j : Int) ∧ j ≤ L ∧ L - j ≤ g ∧ Hid (∃ pre : List Co, pre.length = j ∧ pre.map (·.1.2) = (listed k l).take j ∧ J w1.heap.size pre wr ∧ StaysC base W.heap.size w1.heap.size w1 wr))
  case atStart => exact ⟨0, rfl, Nat.zero_le _, by omega, [], rfl, by simp, HJ.out.2.1 _ [] W w1 [] (HJ.out.1 _ HC.out.2.2.2.1.size) (Chg.ofBelow HC.out.2.2.2.1 []) (fun g hg => by cases hg), StaysC.refl _ _ _ _⟩
  case round =>
    obtain ⟨j, rfl, hj1, hj2, HP⟩ := hrel
    by_cases hlt : j < L
    · obtain ⟨pre, hpl, hpre, hj, hst⟩ := HP.out
      obtain ⟨hcl, hrows, hkept, bw1, hlen⟩ := HC.out
      obtain ⟨x, hx⟩ : ∃ x, cl[j]? = some x := ⟨cl[j]'(by omega), List.getElem?_eq_getElem (by omega)⟩
      obtain ⟨g, rfl, hgB, hgl, hra⟩ := hrows j x hx
      have hra' : wr.rangeAt g (j * 47) x.1.1.1.toList := fun t u hu => (World.cell?_of_block (hst.rest g hgB hgl hgl)).trans (hra t u hu)
      have LD := Lib.hid (load_at47 (c := x.1.1) hra')
      have hkx : Kept base wr x.1.1.1 x.1.2 := (hkept x (List.mem_of_getElem? hx)).fx hst.fx
      have hLx : (listed k l)[j]? = some x.1.2 := by rw [← hcl, List.getElem?_map, hx]; rfl
      obtain ⟨X, hX⟩ : ∃ X, X = x.1.1.1 := ⟨_, rfl⟩
      obtain ⟨o, ho⟩ : ∃ o, o = x.1.2 := ⟨_, rfl⟩
      rw [← hX] at LD hkx
      rw [← ho] at hkx hLx
      have z0 : (wr.alloc (.cells zerC OT)).heap[wr.heap.size]? = some (.cells zerC OT (0, 0)) := heap_alloc_new wr _
      obtain ⟨th, n0', fx1, c1'⟩ := store_ob (base := wr.heap.size) z0 rfl hkx.obj.1 (Nat.le_refl _)
      obtain ⟨w3, hw3⟩ : ∃ W, W = (wr.alloc (.cells zerC OT)).setCells wr.heap.size 0 X.toList := ⟨_, rfl⟩
      obtain ⟨A, hA⟩ : ∃ A, A = wr.heap.size := ⟨_, rfl⟩
      rw [← hw3] at n0' c1'
      have b3 : Below wr.heap.size wr w3 := by
        have g : Gr wr (wr.alloc (.cells zerC OT)) := (Gr.refl wr).alloc _
        exact ((Xb.ofGr g wr.heap.size).trans ⟨c1'.os, c1'.tape, c1'.output, c1'.size, fun k hk hne => c1'.block k hk (by simpa using hne)⟩).below (Nat.le_refl _) (Nat.le_refl _)
      rw [← hA] at n0'
      have TH := Lib.hid th
      have IN : Hid ((Tryz.prog.info? OT).map (·.size) = some X.size) := by show _ = _; rw [hkx.obj.1]; exact info_ob47
      have ON := Lib.hid (objV_one hkx.obj)
      have HW3 : Hid ((wr.alloc (.cells zerC OT)).setCells wr.heap.size 0 X.toList = w3 ∧ wr.heap.size = A) := ⟨hw3.symm, hA.symm⟩
      have LV := Lib.hid (load_ob n0' hkx.obj.1)
      have hk3 : Kept base w3 X o := hkx.fx (Fx.ofBelow b3)
      have CC := Lib.hid (clone_any w3 X o hk3.obj hk3.nil hk3.small.small)
      have HY := Lib.hid (And.intro hpl (And.intro hpre (And.intro hj (And.intro hst (And.intro hLx (And.intro hk3 b3))))))
      clear hpl hpre hj hst hcl hrows hkept bw1 hlen hx hgB hgl hra hra' hkx hLx hX ho z0 th n0' fx1 c1' hw3 hA b3 hk3 HP
      go_upto_region 3 with (first | (refine wpList_load_by (by kernel_rfl) OT _ rfl (.pointer (some ⟨g, j * 47, none⟩)) (.agg X) (by rfl) LD.out ?_) | (refine wpList_store_mid rfl _ _ _ rfl wr.heap.size 0 X (by rfl) (by rfl) TH.out IN.out ON.out ?_; rw [HW3.out.1, HW3.out.2]))
      refine (wpIn_wide (n := n)).1 ?_
      gi_wp2_with (refine wpListIn_load_by (by kernel_rfl) OT _ rfl (.pointer (some ⟨A, 0, none⟩)) (.agg X) (by kernel_rfl) LV.out ?_)
      refine ⟨trivial, fun e => (nomatch e), (callsIn_wide.2 CC.out).mono ?_⟩
      rintro e m ⟨⟨D, rfl, hC⟩, hbl⟩
      obtain ⟨hpl, hpre, hj, hst, hLx, hk3, b3⟩ := HY.out
      have KD : Kept base m D o := kept_copy hk3 hC hk3.small hk3.fits
      have bm : Below wr.heap.size wr m := b3.trans (hbl.mono b3.size)
      have jm : J w1.heap.size pre m := HJ.out.2.1 _ pre wr m [] hj (Chg.ofBelow bm []) (fun g hg => by cases hg)
      have sm : StaysC base W.heap.size w1.heap.size w1 m := hst.trans (StaysC.ofBelow bm)
      obtain ⟨x', hx'⟩ : ∃ x' : Co, x' = ⟨(⟨D, KD.obj.1, objV_one KD.obj⟩, o), KD.obj.2.1.2.1⟩ := ⟨_, rfl⟩
      have hgv : ListGv base k l pre x' m := by
        rw [hx']
        exact ⟨by rw [hpl]; exact hLx, KD⟩
      obtain ⟨fn, tmps, assign, body, hy, hR⟩ := HJ.out.2.2 _ pre x' m HC.out.2.2.2.1.size sm.fx.size jm hgv
      have hy' : (Instr.yield l' #[.agg D]).run Tryz.prog m = .ok (.round l' fn tmps assign body) m := by rw [hx'] at hy; exact hy
      have hnext : (pre ++ [x']).map (·.1.2) = (listed k l).take (j + 1) := by
        have := take_nextO (L := listed k l) (pre := pre) (x := x') (by rw [hpl]; exact hpre) (by rw [hpl, hx']; exact hLx)
        rw [hpl] at this
        exact this
      have HN := Lib.hid (And.intro hnext (And.intro sm (show (pre ++ [x']).length = j + 1 by rw [List.length_append, hpl]; rfl)))
      have HRD := Lib.hid hR
      clear hC hbl hpl hpre hj hst hLx hk3 b3 KD bm jm sm hx' hgv hy hR hnext HY CC LV HW3 ON IN TH LD
      gi_wp2_with fail
      refine ⟨fun e => (nomatch e), HRD.out.mono ?_⟩
      rintro e W' (⟨rfl, hJ', st'⟩ | ⟨rfl, hJx'⟩)
      · have RN : Hid (∃ pre : List Co, pre.length = j + 1 ∧ pre.map (·.1.2) = (listed k l).take (j + 1) ∧ J w1.heap.size pre W' ∧ StaysC base W.heap.size w1.heap.size w1 W') := ⟨_, HN.out.2.2, HN.out.1, hJ', HN.out.2.1.trans st'⟩
        clear hJ' st' HN HRD
        gi_wp2
        go_wp2
        go_roundg (L - (j + 1))
        case measure => omega
        case rel => exact ⟨j + 1, by push_cast; rfl, by omega, by omega, RN.out⟩
      · have RN : Hid (∃ C pre, pre ≠ [] ∧ Jx C pre W') := ⟨_, _, by simp, hJx'⟩
        clear hJx' HN HRD
        gi_wp2
        go_wp2
        (try simp only [Exit.inBlock, Exit.then]); refine bodyPost_ret (results_none rfl _ _ _) rfl ?_
        exact ⟨⟨_, rfl⟩, .inr RN.out⟩
    · obtain ⟨pre, hpl, hpre, hj, hst⟩ := HP.out
      have e : j = L := by omega
      have FIN : Hid (∃ C, ∃ xs : List Co, W.heap.size ≤ C ∧ xs.map (·.1.2) = listed k l ∧ J C xs wr) := ⟨_, pre, HC.out.2.2.2.1.size, by rw [hpre, e, HL.out.1, List.take_length], hj⟩
      clear hpl hpre hj hst HP HC HJ
      go_wp2
      go_end0
      exact ⟨⟨_, rfl⟩, .inl FIN.out⟩

/-- A row of the call's own, of objects that are kept. -/
structure OwnO (base N : Nat) (W : World) (q : Option Addr) (c : Nat) (cl : List Co) : Prop where
  own : W.ownsRow N OT 47 (.slice q cl.length c) cl.length (flat encO cl)
  kept : ∀ x ∈ cl, Kept base W x.1.1.1 x.1.2
theorem OwnO.gr {base N : Nat} {W W' : World} {q : Option Addr} {c : Nat} {cl : List Co} (h : OwnO base N W q c cl) (b : Below W.heap.size W W') : OwnO base N W' q c cl :=
  ⟨own_block h.own (fun k e => b.block k (World.ownsRow.lt h.own k e).2), fun x hx => (h.kept x hx).fx (Fx.ofBelow b)⟩

/-- What stands while objects are appended: the slice's cell, the row. -/
def SeqI (base N A B : Nat) (Old : List Nat) (w : World) (cl : List Co) (L : List Ob) (C : Nat) (pre : List Co) (W : World) : Prop :=
  ∃ q' c', W.heap[A]? = some (.cells #[.slice q' (cl ++ pre).length c'] SlO (0, 0)) ∧ OwnO base N W q' c' (cl ++ pre) ∧ (∀ g, (Value.slice q' (cl ++ pre).length c').ownBlock = some g → (g ∈ Old ∨ w.heap.size ≤ g) ∧ g ≠ A ∧ (g < B ∨ C ≤ g)) ∧
    pre.map (·.1.2) = L.take pre.length ∧ Chg Old w W
theorem noCells {A : World} {g : Nat} {o : Obj} {cs : Array Value} {T : TypeId} {fz : Nat × Nat} (h1 : A.heap[g]? = some o) (h2 : o.isCells = false) (h3 : A.heap[g]? = some (.cells cs T fz)) : False := by
  rw [h1] at h3
  cases h3
  cases h2
theorem seq_bears (base N A B : Nat) (Old : List Nat) (w : World) (cl : List Co) (L : List Ob) (C : Nat) (hN : base ≤ N) (hB : base ≤ B) (hw : w.heap.size ≤ B) : Bears B (SeqI base N A B Old w cl L C) := by
  rintro pre V V' T ⟨q', c', h1, h2, h3, h4, h5⟩ c hT
  have out : ∀ (g : Nat) (cs : Array Value) (T' : TypeId) (fz : Nat × Nat), V.heap[g]? = some (Obj.cells cs T' fz) → V'.heap[g]? = V.heap[g]? := fun g cs T' fz hg => c.block g (Array.getElem?_eq_some_iff.1 hg).1 (fun hm => by
    obtain ⟨_, o, ho, hc⟩ := hT g hm
    exact noCells ho hc hg)
  have fx : Fx base V V' := c.fx (fun g hg _ hp => by
    obtain ⟨hb, o, ho, hc⟩ := hT g hg
    rcases hp with hp | ⟨cs, T', fz, h6, _⟩
    · omega
    · exact noCells ho hc h6)
  refine ⟨q', c', (out A _ _ _ h1).trans h1, ⟨own_block h2.own (fun g hg => ?_), fun x hx => (h2.kept x hx).fx fx⟩, h3, h4, h5.trans c (fun g hg => .inr (by have := (hT g hg).1; omega))⟩
  obtain ⟨cur, hcur⟩ := own_at h2.own hg
  exact out g _ _ _ hcur

set_option maxHeartbeats 8000000 in
theorem appendSeq_any (base : Nat) (w : World) (S : List Nat) (sp b : Nat) (most k : Int) (l : List Ob) (hist : List Ev) (st : StIs base w S sp most l hist) (h1 : w.cell? ⟨b, 0, none⟩ = some (.pointer (some ⟨sp, 0, none⟩))) (h2 : w.cell? ⟨b + 1, 0, none⟩ = some (.int .i64 k)) (hb : b + 1 < w.heap.size) (hl : l.length ≤ 1000)
    (N : Nat) (hbN : base ≤ N) (hN : N ≤ w.heap.size) (q : Option Addr) (c : Nat) (cl : List Co) (own : OwnO base N w q c cl) (hcl : cl.length ≤ 100000) :
    Calls Tryz.prog 39 #[.slice q cl.length c, .func (.func 40) #[] #[.pointer (some ⟨b, 0, none⟩), .pointer (some ⟨b + 1, 0, none⟩)]] w fun r w' =>
      (∃ q' c' ds, r = .returned (.slice q' (cl ++ ds).length c') ∧ ds.map (·.1.2) = listed k l ∧ OwnO base N w' q' c' (cl ++ ds)) ∧ Chg (Value.slice q cl.length c).ownBlock.toList w w' := by
  obtain ⟨ti, by47, hi47⟩ := info_O47
  have HB := Lib.hid hi47
  obtain ⟨n, hn⟩ : ∃ n, n = cl.length := ⟨_, rfl⟩
  obtain ⟨Old, hOld⟩ : ∃ o, o = (Value.slice q cl.length c).ownBlock.toList := ⟨_, rfl⟩
  obtain ⟨A, hA⟩ : ∃ A, A = w.heap.size := ⟨_, rfl⟩
  obtain ⟨w1, hw1⟩ : ∃ x, x = w.alloc (.cells #[.slice q n c] SlO) := ⟨_, rfl⟩
  have G1 : Gr w w1 := hw1 ▸ (Gr.refl w).alloc _
  have s1 : w1.heap[A]? = some (.cells #[.slice q n c] SlO (0, 0)) := by rw [hw1, hA]; exact heap_alloc_new w _
  have z1 : w1.heap.size = A + 1 := by rw [hw1, hA]; simp
  have TN := list_tellsC (6 - 1) base w1 S sp b most k l hist (st.gr G1.below) ((World.cell?_of_block (a := ⟨b, 0, none⟩) (G1.heap (by show b < _; omega))).trans h1) ((World.cell?_of_block (a := ⟨b + 1, 0, none⟩) (G1.heap hb)).trans h2) (by omega) (by omega)
  have HTN := Lib.hid TN
  have I0 : Hid (∀ C, w1.heap.size ≤ C → SeqI base N A w1.heap.size Old w cl (listed k l) C [] w1) := fun C hC => by
    refine ⟨q, c, by rw [List.append_nil, ← hn]; exact s1, by rw [List.append_nil]; exact own.gr G1.below, fun g hg => ?_, by simp, Chg.ofBelow G1.below Old⟩
    rw [List.append_nil] at hg
    have := (World.ownsRow.lt own.own g hg).2
    exact ⟨.inl (by rw [hOld, hg]; simp), by omega, .inl (by omega)⟩
  have HH := Lib.hid (And.intro hbN (And.intro hN (And.intro hA (And.intro z1 (And.intro hn (And.intro hOld (And.intro hcl hl)))))))
  have HW1 : Hid (w.alloc (.cells #[.slice q n c] SlO) = w1 ∧ w.heap.size = A) := ⟨hw1.symm, hA.symm⟩
  rw [← hOld, ← hn]
  clear st h1 h2 hb hl hbN hN own hcl hn hOld hA hw1 G1 s1 z1 TN hi47
  refine (callsIn_wide (n := 6)).1 ?_
  refine callsIn_of_wp_marks Tryz.func39 rfl trivial ?_ rfl
  simp only [Tryz.ntmps39, List.size_toArray, List.length_cons, List.length_nil, Nat.reduceAdd, Nat.reduceSub, Array.replicate_succ, Array.replicate_zero, List.push_toArray, List.append_toArray, List.nil_append, List.cons_append]
  refine wpIn_wide.2 ?_
  go_upto_region 1 with fail
  rw [HW1.out.1, HW1.out.2]
  go_wp2_with fail
  refine (wpIn_wide (n := 6)).1 ?_
  refine wpIn_toldC (α := Co) (n := 6) (by decide) (gf := 40) (lb := #[.pointer (some ⟨b, 0, none⟩), .pointer (some ⟨b + 1, 0, none⟩)]) rfl (enters_of Tryz.func40 (by kernel_rfl) rfl) HTN.out (Below.refl _ _) (fun _ => rfl) (by have := HH.out.1; have := HH.out.2.1; have := HH.out.2.2.1; have := HH.out.2.2.2.1; omega) (fun pre x A A' h f => ⟨h.1, h.2.fx f⟩)
    (SeqI base N A w1.heap.size Old w cl (listed k l)) (fun _ _ _ _ => False) ?_ (fun c C s A A' T h _ _ => h.elim) I0.out ?_ ?_ (fun _ _ _ _ _ _ h _ => h.elim (fun _ h => h.elim))
  · intro C
    obtain ⟨hbN, hN, hA, z1, _⟩ := HH.out
    exact seq_bears base N A w1.heap.size Old w cl (listed k l) C hbN (by omega) (by omega)
  · intro l' C pre x W hi hgv hlB hlC hCW
    rw [zip_one]
    obtain ⟨hbN, hN, hA, z1, hn, hOld, hcl, hl⟩ := HH.out
    obtain ⟨D, hD⟩ : ∃ D, D = x.1.1.1 := ⟨_, rfl⟩
    have hkx := hgv.2
    rw [← hD] at hkx ⊢
    have z0 : (W.alloc (.cells zerC OT)).heap[W.heap.size]? = some (.cells zerC OT (0, 0)) := heap_alloc_new W _
    obtain ⟨th, n0', fx1, c1'⟩ := store_ob (base := W.heap.size) z0 rfl hkx.obj.1 (Nat.le_refl _)
    obtain ⟨w3, hw3⟩ : ∃ W', W' = (W.alloc (.cells zerC OT)).setCells W.heap.size 0 D.toList := ⟨_, rfl⟩
    obtain ⟨O, hO⟩ : ∃ A, A = W.heap.size := ⟨_, rfl⟩
    rw [← hw3] at n0' c1'
    have b3 : Below W.heap.size W w3 := by
      have g : Gr W (W.alloc (.cells zerC OT)) := (Gr.refl W).alloc _
      exact ((Xb.ofGr g W.heap.size).trans ⟨c1'.os, c1'.tape, c1'.output, c1'.size, fun k hk hne => c1'.block k hk (by simpa using hne)⟩).below (Nat.le_refl _) (Nat.le_refl _)
    rw [← hO] at n0'
    have TH := Lib.hid th
    have IN : Hid ((Tryz.prog.info? OT).map (·.size) = some D.size) := by show _ = _; rw [hkx.obj.1]; exact info_ob47
    have ON := Lib.hid (objV_one hkx.obj)
    have HW3 : Hid ((W.alloc (.cells zerC OT)).setCells W.heap.size 0 D.toList = w3 ∧ W.heap.size = O) := ⟨hw3.symm, hO.symm⟩
    have H3 := Lib.hid (And.intro n0' (And.intro b3 (And.intro hi (And.intro hgv hD))))
    clear hkx z0 th n0' fx1 c1' hw3 hO b3 hi hgv hD hbN hN hA z1 hn hOld hcl hl
    refine region_round (by rfl) (fun ⟨a, w, h⟩ => h) ?_
    go_wp2_with (refine wpList_store_mid rfl _ _ _ rfl W.heap.size 0 D (by rfl) (by rfl) TH.out IN.out ON.out ?_; rw [HW3.out.1, HW3.out.2])
    refine ⟨StaysC.ofBelow H3.out.2.1, fun W2 c2 f2 => ?_⟩
    obtain ⟨n0', b3, hi, ⟨gv1, gv2⟩, hD⟩ := H3.out
    obtain ⟨hbN, hN, hA, z1, hn, hOld, hcl, hl⟩ := HH.out
    have hO : W.heap.size = O := HW3.out.2
    obtain ⟨q', c', s1, own, hnew, hpre, C1⟩ := hi
    rw [← hD] at gv2
    obtain ⟨m, hm⟩ : ∃ m, m = (cl ++ pre).length := ⟨_, rfl⟩
    have hle : m ≤ 200000 := by
      have h1 := congrArg List.length hpre
      rw [List.length_map, List.length_take] at h1
      have h2 := listed_len (l := l) k
      rw [hm, List.length_append]
      omega
    have out : ∀ g, g < w3.heap.size → g ≠ l' → W2.heap[g]? = w3.heap[g]? := fun g h1 h2 => c2.block g h1 (by simpa using h2)
    have hCW' : C ≤ W.heap.size := hCW
    have s2 : W2.heap[A]? = some (.cells #[.slice q' m c'] SlO (0, 0)) := by
      have h2 := (Array.getElem?_eq_some_iff.1 s1).1
      rw [hm]
      exact (out A (by have := b3.size; omega) (by omega)).trans ((b3.block A h2).trans s1)
    have own2 : OwnO base N W2 q' c' (cl ++ pre) := by
      refine ⟨own_block own.own (fun g hg => ?_), fun y hy => ((own.kept y hy).fx (Fx.ofBelow b3)).fx f2⟩
      have h2 := (World.ownsRow.lt own.own g hg).2
      have h3 := (hnew g hg).2.2
      exact (out g (by have := b3.size; omega) (by omega)).trans (b3.block g h2)
    have o2 : W2.heap[O]? = some (.cells D OT (0, 0)) := (out O (Array.getElem?_eq_some_iff.1 n0').1 (by omega)).trans n0'
    have kD : Kept base W2 D x.1.2 := (gv2.fx (Fx.ofBelow b3)).fx f2
    have LV := Lib.hid (load_ob o2 kD.obj.1)
    obtain ⟨E, hE⟩ : ∃ E, E = W2.heap.size := ⟨_, rfl⟩
    obtain ⟨w4, hw4⟩ : ∃ x, x = W2.alloc (.cells D OT) := ⟨_, rfl⟩
    have G4 : Gr W2 w4 := hw4 ▸ (Gr.refl W2).alloc _
    have e4 : w4.heap[E]? = some (.cells D OT (0, 0)) := by rw [hw4, hE]; exact heap_alloc_new W2 _
    have s4 : w4.heap[A]? = some (.cells #[.slice q' m c'] SlO (0, 0)) := (G4.heap (Array.getElem?_eq_some_iff.1 s2).1).trans s2
    have own4 := own2.gr G4.below
    have HW4 : Hid (W2.alloc (.cells D OT) = w4 ∧ W2.heap.size = E) := ⟨hw4.symm, hE.symm⟩
    have HO4 : Hid (w4.ownsRow N OT 47 (.slice q' m c') m (flat encO (cl ++ pre))) := by rw [hm]; exact own4.own
    have news : Hid (∀ j u, D.toList[j]? = some u → w4.cell? ((⟨E, 0, none⟩ : Addr).add j) = some u) := fun j u hu => by
      rw [add_none', Nat.zero_add]
      exact (cell_of_block e4 j).trans (by rw [← Array.getElem?_toList]; exact hu)
    have one : Hid (∀ u ∈ D.toList, u.oneCell' = true) := oneC ⟨D, kD.obj.1, objV_one kD.obj⟩
    have hD47 : Hid (D.size = 47) := kD.obj.1
    have h5 : Hid (N ≤ w4.heap.size) := by
      have h1 := C1.size
      have h2 := b3.size
      have h3 := c2.size
      have h4 := G4.below.size
      show N ≤ w4.heap.size
      omega
    have m0 : W2.cell? ⟨A, 0, none⟩ = some (.slice q' m c') := cell_of_block s2 0
    have m4 : w4.cell? ⟨A, 0, none⟩ = some (.slice q' m c') := cell_of_block s4 0
    have HO := Lib.hid hO
    have HX := Lib.hid (And.intro s4 (And.intro own4 (And.intro hnew (And.intro hpre (And.intro C1 (And.intro gv1 (And.intro kD (And.intro b3 (And.intro c2 (And.intro G4 (And.intro hm (And.intro hle (And.intro f2 (And.intro hD hE))))))))))))))
    obtain ⟨hi, hz, h47, hb47, hble, hz47⟩ := HB.out
    have HA4 : Hid (A < w4.heap.size ∧ A ∉ (Value.slice q' m c').ownBlock.toList ∧ w4.heap[A]? = some (.cells #[.slice q' m c'] SlO (0, 0))) :=
      ⟨(Array.getElem?_eq_some_iff.1 s4).1, fun hm' => by
        rw [hm] at hm'
        exact (hnew A (by simpa using hm')).2.1 rfl, s4⟩
    have HLW : Hid (w1.heap.size ≤ l' ∧ l' < C ∧ C ≤ O) := ⟨hlB, hlC, by omega⟩
    clear n0' b3 gv1 gv2 hbN hN hA z1 hn hOld hcl hl hO s1 own hnew hpre C1 hm out hCW' s2 own2 o2 kD hE hw4 G4 e4 s4 own4 c2 f2 hD H3 TH IN ON HW3 hlB hlC hCW
    gi_upto_region 3 with fail
    refine region_round (by rfl) (fun ⟨a, w, h⟩ => h) ?_
    go_wp2_with (first
      | (refine wpList_load_by (by kernel_rfl) OT _ rfl (.pointer (some ⟨O, 0, none⟩)) (.agg D) (by rfl) LV.out ?_)
      | (refine wpList_step fun K hK => ?_; refine step_build (by rfl) SlO OT _ rfl (.agg zerC) 47 D (by rfl) hD47.out (by decide) (by decide) Tryz.underlying31 hz47 ?_; refine hK _ _ ?_; rw [HW4.out.1, HW4.out.2])
      | (at_builtin; refine wpList_append_own_at w4 rfl _ _ SlO rfl N OT ti (.agg zerC) 47 by47 Tryz.underlying31 hi hz h47 hb47 rfl (by decide) (.slice q' m c') m (flat encO (cl ++ pre)) (by rfl) HO4.out ⟨E, 0, none⟩ 1 1 D.toList (by rfl) (by rw [Array.length_toList, hD47.out]) news.out one.out (by unfold maxLen; omega) (by have := Nat.mul_le_mul (show m + 1 ≤ 200001 by omega) hble; omega) h5.out ?_; intro v5 w5 ho5 hg5 hn5 ha5; obtain ⟨q5, c5, rfl⟩ := own_slice ho5; have C5 := Chg.ofGrown hg5 (S := (Value.slice q' m c').ownBlock.toList) (fun g e => .inl (by rw [e]; simp)); have hb5 := (C5.block A HA4.out.1 HA4.out.2.1).trans HA4.out.2.2; have u1 : w5.cell? ⟨A, 0, none⟩ = some (.slice q' m c') := cell_of_block hb5 0; have u2 : w5.frozen? ⟨A, 0, none⟩ = false := unfrozen_of_block hb5 0; have H5 := Lib.hid (And.intro ho5 (And.intro C5 (And.intro hb5 ha5))); clear ho5 hg5 hn5 ha5 C5 hb5))
    obtain ⟨s4, own4, hnew, hpre, C1, gv1, kD, b3, c2, G4, hm, hle, f2, hD, hE⟩ := HX.out
    obtain ⟨ho5, C5, hb5, ha5⟩ := H5.out
    obtain ⟨hbN, hN, hA, z1, hn, hOld, hcl, hl⟩ := HH.out
    obtain ⟨hl1, hl2, hl3⟩ := HLW.out
    have hO : W.heap.size = O := HO.out
    obtain ⟨w6, hw6⟩ : ∃ x, x = w5.setCell ⟨A, 0, none⟩ (.slice q5 (m + 1) c5) := ⟨_, rfl⟩
    have s6 : w6.heap[A]? = some (.cells #[.slice q5 (m + 1) c5] SlO (0, 0)) := by rw [hw6, block_setCell hb5]; rfl
    have C56 : Chg [A] w5 w6 := by rw [hw6]; exact (Chg.refl [A] w5).setCell 0 _ (.inl (by simp))
    have hqn : ∀ g, (Value.slice q' m c').ownBlock = some g → (g ∈ Old ∨ w.heap.size ≤ g) ∧ g ≠ A ∧ (g < w1.heap.size ∨ C ≤ g) := fun g hg => hnew g (by rw [← hm]; exact hg)
    have sz : O ≤ w4.heap.size := by
      have h1 := b3.size
      have h2 := c2.size
      have h3 := G4.below.size
      omega
    have hq5 : ∀ g, (Value.slice q5 (m + 1) c5).ownBlock = some g → (g ∈ Old ∨ w.heap.size ≤ g) ∧ g ≠ A ∧ (g < w1.heap.size ∨ C ≤ g) := fun g hg => by
      rcases ha5 with e | e
      · exact hqn g (by rw [← e]; exact hg)
      · rw [e] at hg
        injection hg with hg
        exact ⟨.inr (by omega), by omega, .inr (by omega)⟩
    have own6 : w6.ownsRow N OT 47 (.slice q5 (m + 1) c5) (m + 1) (flat encO (cl ++ pre) ++ D.toList) := own_block ho5 (fun g hg => C56.block g (World.ownsRow.lt ho5 g hg).2 (by simp; exact (hq5 g hg).2.1))
    have C46 : Chg (A :: (Value.slice q' m c').ownBlock.toList) w4 w6 := (C5.less (S' := A :: (Value.slice q' m c').ownBlock.toList) (fun g hg => .inl (List.mem_cons_of_mem _ hg))).trans C56 (fun g hg => .inl (by rw [List.mem_singleton] at hg; rw [hg]; exact List.mem_cons_self))
    have ownm : w4.ownsRow N OT 47 (.slice q' m c') m (flat encO (cl ++ pre)) := by rw [hm]; exact own4.own
    have hpr := own_prot (base := base) ownm hbN rfl
    have np : ∀ g ∈ A :: (Value.slice q' m c').ownBlock.toList, ¬ Prot base w4 g := fun g hg => by
      rcases List.mem_cons.1 hg with rfl | hg
      · exact (cells_prot s4 (by omega) rfl).2.2
      · exact (hpr g (by simpa using hg)).2.2
    have F46 : Fx base w4 w6 := C46.fx (fun g hg _ => np g hg)
    have F26 : Fx base W2 w6 := (Fx.ofBelow G4.below).trans F46
    have xl : (cl ++ (pre ++ [x])).length = m + 1 := by rw [hm]; simp; omega
    show StaysC base w1.heap.size C W2 _ ∧ SeqI base N A w1.heap.size Old w cl (listed k l) C (pre ++ [x]) _
    rw [← hw6]
    refine ⟨(StaysC.ofBelow G4.below).trans (StaysC.ofChg C46 (fun g hg => ⟨?_, fun _ => np g hg⟩)), q5, c5, by rw [xl]; exact s6, ⟨?_, fun y hy => ?_⟩, by rw [xl]; exact hq5, ?_, ?_⟩
    · rcases List.mem_cons.1 hg with rfl | hg
      · exact .inl (by omega)
      · exact (hqn g (by simpa using hg)).2.2
    · rw [xl]
      have e : flat encO (cl ++ (pre ++ [x])) = flat encO (cl ++ pre) ++ D.toList := by
        rw [hD]
        simp [flat, encO]
      rw [e]
      exact own6
    · rw [← List.append_assoc] at hy
      rcases List.mem_append.1 hy with hy | hy
      · exact ((own4.kept y hy).fx F46)
      · rw [List.mem_singleton] at hy
        subst hy
        rw [← hD]
        exact kD.fx F26
    · have := take_nextO (L := listed k l) (pre := pre) (x := x) hpre gv1
      rw [this, List.length_append]
      rfl
    · have h2 : Chg Old w W2 := (C1.trans (Chg.ofBelow b3 []) (by simp)).trans c2 (fun g hg => .inr (by rw [List.mem_singleton] at hg; omega))
      refine (h2.trans (Chg.ofBelow G4.below []) (by simp)).trans C46 (fun g hg => ?_)
      rcases List.mem_cons.1 hg with rfl | hg
      · exact .inr (by omega)
      · exact (hqn g (by simpa using hg)).1
  · intro Dm xs W hD hS ⟨C, hC, q', c', s1, own, hnew, hpre, C1⟩ hdef
    obtain ⟨hbN, hN, hA, z1, hn, hOld, hcl, hl⟩ := HH.out
    obtain ⟨m, hm⟩ : ∃ m, m = (cl ++ xs).length := ⟨_, rfl⟩
    rw [← hm] at s1
    have m0 : W.cell? ⟨A, 0, none⟩ = some (.slice q' m c') := cell_of_block s1 0
    have FIN := Lib.hid (And.intro hdef (And.intro own (And.intro hS (And.intro C1 (And.intro hm (show w.heap.size ≤ Dm by omega))))))
    clear hD hS hC s1 own hnew hpre C1 hdef hbN hN hA z1 hn hOld hcl hl hm HTN I0
    go_wp2_with fail
    refine leaves_marks (F := Fence.wide) (n := 6) (P := Tryz.prog) (fn := Tryz.f39) [Dm] W (by simp) (fun D hD => by rw [List.mem_singleton] at hD; rw [hD]; exact FIN.out.1) (fun w'' c'' => ?_)
    obtain ⟨hdef, own, hS, C1, hm, hD⟩ := FIN.out
    refine ⟨_, results_tmp rfl _ _ _, ⟨q', c', xs, by rw [← hm]; rfl, hS, ?_⟩, C1.trans c'' (fun g hg => .inr (by rw [List.mem_singleton] at hg; omega))⟩
    have out : ∀ (g : Nat) (cs : Array Value) (T' : TypeId) (fz : Nat × Nat), W.heap[g]? = some (Obj.cells cs T' fz) → w''.heap[g]? = W.heap[g]? := fun g cs T' fz hg => c''.block g (Array.getElem?_eq_some_iff.1 hg).1 (fun hm => by
      rw [List.mem_singleton] at hm
      subst hm
      exact noCells hdef rfl hg)
    have fx : Fx base W w'' := c''.fx (fun g hg _ hp => by
      rw [List.mem_singleton] at hg
      subst hg
      rcases hp with hp | ⟨cs, T', fz, h6, _⟩
      · have := HH.out.1; have := HH.out.2.1; omega
      · exact noCells hdef rfl h6)
    refine ⟨own_block own.own (fun g hg => ?_), fun x hx => (own.kept x hx).fx fx⟩
    obtain ⟨cur, hcur⟩ := own_at own.own hg
    exact out g _ _ _ hcur
end Go.Proofs.YtbagicilmmkdhaaGreat
/- The law's act on a store. -/
namespace Go.Proofs.YtbagicilmmkdhaaGreat
open Go.RowKit Go.Shelf Go.Lib Go.Sort
open Go.Joins (cell_of_block unfrozen_of_block block_setCell)
set_option linter.unusedVariables false
set_option linter.unusedSimpArgs false
set_option maxRecDepth 20000

theorem Did.from_ {base : Nat} {w wx w' : World} {S : List Nat} {sp : Nat} {most : Int} {l : List Ob} {hist : List Ev} (h : Did base wx w' S sp most l hist) (b : Below w.heap.size w wx) : Did base w w' S sp most l hist := by
  obtain ⟨l', hist', ⟨S', st, C, hS⟩, h2, h3⟩ := h
  exact ⟨l', hist', ⟨S', st, (Chg.ofBelow b S).trans C (fun g hg => .inl hg), fun g hg => (hS g hg).imp id (fun h => Nat.le_trans b.size h)⟩, h2, h3⟩
/-- What the act works on: its own copy of the object, beside the store. -/
structure ActW (base : Nat) (wx : World) (B O : Nat) (kk : Int) (cs : Array Value) (r : Bool) (cs2 : Array Value) (o2 : Ob) (S : List Nat) (sp : Nat) (most : Int) (l : List Ob) (hist : List Ev) : Prop where
  act : wx.heap[B]? = some (.cells (acC kk cs r) AcT (0, 0))
  ne : B ≠ O
  bes : Beside base wx O cs2 S sp most l hist
  kept : Kept base wx cs2 o2
theorem ActW.gr {base : Nat} {wx w' : World} {B O : Nat} {kk : Int} {cs : Array Value} {r : Bool} {cs2 : Array Value} {o2 : Ob} {S : List Nat} {sp : Nat} {most : Int} {l : List Ob} {hist : List Ev} (h : ActW base wx B O kk cs r cs2 o2 S sp most l hist) (b : Below wx.heap.size wx w') : ActW base w' B O kk cs r cs2 o2 S sp most l hist :=
  ⟨(b.block B (Array.getElem?_eq_some_iff.1 h.act).1).trans h.act, h.ne, h.bes.gr b, h.kept.fx (Fx.ofBelow b)⟩
theorem ActW.set {base : Nat} {wx : World} {B O : Nat} {kk : Int} {cs : Array Value} {r : Bool} {cs2 : Array Value} {o2 : Ob} {S : List Nat} {sp : Nat} {most : Int} {l : List Ob} {hist : List Ev} (h : ActW base wx B O kk cs r cs2 o2 S sp most l hist) {v : Nat} (h64 : v < 18446744073709551616) :
    ActW base (wx.setCell ⟨O, 2, none⟩ (.int .u64 (v : Int))) B O kk cs r (cs2.setIfInBounds 2 (.int .u64 (v : Int))) (setV o2 v) S sp most l hist := by
  have C : Chg [O] wx (wx.setCell ⟨O, 2, none⟩ (.int .u64 (v : Int))) := (Chg.refl [O] wx).setCell 2 _ (.inl (by simp))
  refine ⟨(C.block B (Array.getElem?_eq_some_iff.1 h.act).1 (by simp; exact h.ne)).trans h.act, h.ne, h.bes.set 2 _, (h.kept.fx (C.fx (fun g hg _ => ?_))).setV h64⟩
  rw [List.mem_singleton] at hg
  subst hg
  exact (cells_prot h.bes.blk h.bes.lo rfl).2.2

set_option maxHeartbeats 8000000 in
theorem act_any (base : Nat) (w : World) (S : List Nat) (sp : Nat) (most : Int) (l : List Ob) (hist : List Ev) (kk : Int) (cs : Array Value) (r : Bool) (o : Ob) (hs : StIs base w S sp most l hist) (hc : Kept base w cs o) (hk : I64 o.kind) (hn : hist.length < 1000000) :
    Calls Tryz.prog 21 #[.pointer (some ⟨sp, 0, none⟩), .agg (acC kk cs r)] w fun e w' => e = .returned (.tuple #[]) ∧ Did base w w' S sp most l hist := by
  have mixed : Tryz.prog.follows .mixedOrders = true := by kernel_rfl
  have hbw : base ≤ w.heap.size := by obtain ⟨_, _, _, _, q⟩ := hs; exact q.bw
  obtain ⟨B, hB⟩ : ∃ B, B = w.heap.size := ⟨_, rfl⟩
  obtain ⟨X, hX⟩ : ∃ X, X = acC kk cs r := ⟨_, rfl⟩
  obtain ⟨wb, hwb⟩ : ∃ wb, wb = w.alloc (.cells X AcT) := ⟨_, rfl⟩
  rw [← hX]
  have G0 : Gr w wb := hwb ▸ (Gr.refl w).alloc _
  have a0 : wb.heap[B]? = some (.cells (acC kk cs r) AcT (0, 0)) := by rw [hwb, hB, hX]; exact heap_alloc_new w _
  have at0 : ActAt base wb B kk cs r o := ⟨a0, hc.fx (Fx.ofBelow G0.below), by omega⟩
  obtain ⟨O, hO⟩ : ∃ O, O = wb.heap.size := ⟨_, rfl⟩
  have hOB : O = B + 1 := by rw [hO, hwb, hB]; simp
  have z0 : (wb.alloc (.cells zerC OT)).heap[wb.heap.size]? = some (.cells zerC OT (0, 0)) := heap_alloc_new wb _
  obtain ⟨th, n0, fx1, c1⟩ := store_ob (base := wb.heap.size) z0 rfl hc.obj.1 (Nat.le_refl _)
  obtain ⟨w3, hw3⟩ : ∃ W, W = (wb.alloc (.cells zerC OT)).setCells wb.heap.size 0 cs.toList := ⟨_, rfl⟩
  rw [← hw3] at n0 c1
  rw [← hO] at n0
  have b3 : Below wb.heap.size wb w3 := by
    have g : Gr wb (wb.alloc (.cells zerC OT)) := (Gr.refl wb).alloc _
    exact ((Xb.ofGr g wb.heap.size).trans ⟨c1.os, c1.tape, c1.output, c1.size, fun k hk hne => c1.block k hk (by simpa using hne)⟩).below (Nat.le_refl _) (Nat.le_refl _)
  have b03 : Below w.heap.size w w3 := G0.below.trans (b3.mono G0.below.size)
  have nO : O ∉ S := fun hm => by have := (hs.prot O hm).2.1; omega
  have W3 : ActW base w3 B O kk cs r cs o S sp most l hist := ⟨(b3.block B (by omega)).trans a0, by omega, ⟨n0, hs.gr b03, nO, by omega⟩, hc.fx (Fx.ofBelow b03)⟩
  have LB := Lib.hid at0.load
  have FN : Hid (o.name.size ≤ maxLen) := by
    have := hc.fits.name
    unfold ftT at this
    have := of_decide_eq_true this
    show _ ≤ _
    unfold maxLen
    omega
  have CSZ : Hid (cs.size = 47) := hc.obj.1
  have OW : Hid (w.heap.size ≤ O) := by show _ ≤ _; omega
  have TH := Lib.hid th
  have IN : Hid ((Tryz.prog.info? OT).map (·.size) = some cs.size) := by show _ = _; rw [hc.obj.1]; exact info_ob47
  have ON := Lib.hid (objV_one hc.obj)
  have HWB : Hid (w.alloc (.cells X AcT) = wb ∧ w.heap.size = B) := ⟨hwb.symm, hB.symm⟩
  have HW3 : Hid ((wb.alloc (.cells zerC OT)).setCells wb.heap.size 0 cs.toList = w3 ∧ wb.heap.size = O) := ⟨hw3.symm, hO.symm⟩
  have CG := Lib.hid (get_any base w3 S sp most l hist o.kind o.name W3.bes.st hk FN.out)
  have k0 : w3.cell? ⟨O, 0, none⟩ = some (.int .i64 o.kind) := (cell_of_block n0 0).trans hc.obj.2.1.1
  have k1 : w3.cell? ⟨O, 1, none⟩ = some (.string o.name) := (cell_of_block n0 1).trans hc.obj.2.1.2.1
  obtain ⟨kd, hkd⟩ : ∃ k, k = o.kind := ⟨_, rfl⟩
  obtain ⟨nm, hnm⟩ : ∃ k, k = o.name := ⟨_, rfl⟩
  obtain ⟨an, han⟩ : ∃ b, b = l.any (hit kd nm) := ⟨_, rfl⟩
  rw [← hkd, ← hnm] at CG
  rw [← hnm] at FN
  rw [← han] at CG
  rw [← hkd] at k0
  rw [← hnm] at k1
  have HH := Lib.hid (And.intro W3 (And.intro b03 (And.intro hn (And.intro hkd (And.intro hnm han)))))
  clear hs hc hk hn hbw hB hX hwb G0 a0 at0 hO hOB z0 th n0 fx1 c1 hw3 b3 b03 nO W3 hkd hnm han
  go_enter Tryz.func21, Tryz.ntmps21
  go_upto_region 1 with fail
  rw [HWB.out.1, HWB.out.2]
  go_upto_region 2 with (first | (refine wpList_load_by (by kernel_rfl) OT _ rfl (.pointer (some ⟨B, 1, none⟩)) (.agg cs) (by rfl) LB.out ?_) | (refine wpList_store_mid rfl _ _ _ rfl wb.heap.size 0 cs (by rfl) (by rfl) TH.out IN.out ON.out ?_; rw [HW3.out.1, HW3.out.2]))
  go_wp2_with fail
  refine CG.out.mono ?_
  rintro e w4 ⟨⟨V, rfl, hVs, hVo, hVk⟩, b4⟩
  obtain ⟨W3, b03, hn, hkd, hnm, han⟩ := HH.out
  have z0 : (w4.alloc (.cells zerC OT)).heap[w4.heap.size]? = some (.cells zerC OT (0, 0)) := heap_alloc_new w4 _
  obtain ⟨th, n0, fx1, c1⟩ := store_ob (base := w4.heap.size) z0 rfl hVs (Nat.le_refl _)
  obtain ⟨w5, hw5⟩ : ∃ W', W' = (w4.alloc (.cells zerC OT)).setCells w4.heap.size 0 V.toList := ⟨_, rfl⟩
  obtain ⟨E, hE⟩ : ∃ A, A = w4.heap.size := ⟨_, rfl⟩
  rw [← hw5] at n0 c1
  rw [← hE] at n0
  have b5 : Below w4.heap.size w4 w5 := by
    have g : Gr w4 (w4.alloc (.cells zerC OT)) := (Gr.refl w4).alloc _
    exact ((Xb.ofGr g w4.heap.size).trans ⟨c1.os, c1.tape, c1.output, c1.size, fun k hk hne => c1.block k hk (by simpa using hne)⟩).below (Nat.le_refl _) (Nat.le_refl _)
  have b35 : Below w3.heap.size w3 w5 := b4.trans (b5.mono b4.size)
  have W5 := W3.gr b35
  have TH2 := Lib.hid th
  have IN2 : Hid ((Tryz.prog.info? OT).map (·.size) = some V.size) := by show _ = _; rw [hVs]; exact info_ob47
  have ON2 : Hid (V.all (·.oneCell') = true) := hVo
  have HW5 : Hid ((w4.alloc (.cells zerC OT)).setCells w4.heap.size 0 V.toList = w5 ∧ w4.heap.size = E) := ⟨hw5.symm, hE.symm⟩
  have br : w5.cell? ⟨B, 48, none⟩ = some (.bool r) := (cell_of_block W5.act 48).trans (acC_r kk cs r CSZ.out)
  have H5 := Lib.hid (And.intro W5 (And.intro (b03.trans (b35.mono b03.size)) (And.intro n0 (And.intro hVk (And.intro han (And.intro hkd (And.intro hnm (And.intro hn (show B < E ∧ O < E from ⟨by have := (Array.getElem?_eq_some_iff.1 W3.act).1; have := b4.size; omega, by have := (Array.getElem?_eq_some_iff.1 W3.bes.blk).1; have := b4.size; omega⟩)))))))))
  clear W3 b03 hn hkd hnm han z0 th n0 fx1 c1 hw5 hE b5 b35 W5 b4 hVs hVo hVk CG LB TH IN ON HWB HW3 HH k0 k1
  go_upto_region 3 with (refine wpList_store_mid rfl _ _ _ rfl w4.heap.size 0 V (by rfl) (by rfl) TH2.out IN2.out ON2.out ?_; rw [HW5.out.1, HW5.out.2])
  go_cut [22] from 18 to 22 (fun v wx => v = .bool (an && r) ∧ wx = w5)
  case first =>
    cases an with
    | false =>
      go_wp2_with fail
      go_meet
      case rel => exact ⟨rfl, rfl⟩
    | true =>
      go_wp2_with fail
      go_meet
      case rel => exact ⟨rfl, rfl⟩
  case rest =>
    obtain ⟨rfl, hw⟩ := hcut
    have hw' := hw.symm
    subst hw'
    obtain ⟨bb, hbb⟩ : ∃ b, b = (an && r) := ⟨_, rfl⟩
    rw [← hbb]
    have HBB := Lib.hid hbb
    clear hbb br
    go_upto_if 22 with fail
    go_cut [6] from 23 to 25 (fun v wx => v = .bool an ∧ Hid (∃ cs2 o2, ActW base wx B O kk cs r cs2 o2 S sp most l hist ∧ o2.kind = kd ∧ o2.name = nm) ∧ Hid (Below w.heap.size w wx))
    case first =>
      cases bb with
      | false =>
        go_wp2_with fail
        go_meet
        case rel => exact ⟨rfl, ⟨cs, o, H5.out.1, H5.out.2.2.2.2.2.1.symm, H5.out.2.2.2.2.2.2.1.symm⟩, H5.out.2.1⟩
      | true =>
        obtain ⟨W5, b05, n0, hVk, han, hkd, hnm, hn, hBE⟩ := H5.out
        have hany : l.any (hit kd nm) = true := by
          have h1 := HBB.out
          rw [← han]
          cases an with
          | true => rfl
          | false => simp at h1
        obtain ⟨x, hx⟩ : ∃ x, l.find? (hit kd nm) = some x := by
          cases hf : l.find? (hit kd nm) with
          | some x => exact ⟨x, rfl⟩
          | none =>
            obtain ⟨y, hy, hh⟩ := List.any_eq_true.1 hany
            have := List.find?_eq_none.1 hf y hy
            rw [hh] at this
            exact absurd rfl this
        have kx := hVk x hx
        have q2 : w5.cell? ⟨E, 2, none⟩ = some (.int .u64 (x.ver : Int)) := (cell_of_block n0 2).trans kx.obj.2.1.2.2.1
        obtain ⟨vx, hvx⟩ : ∃ v, v = x.ver := ⟨_, rfl⟩
        rw [← hvx] at q2
        have p2 : ∃ v, w5.cell? ⟨O, 2, none⟩ = some v := ⟨_, (cell_of_block W5.bes.blk 2).trans W5.kept.obj.2.1.2.2.1⟩
        obtain ⟨v2, p2⟩ := p2
        have f2 : w5.frozen? ⟨O, 2, none⟩ = false := unfrozen_of_block W5.bes.blk 2
        obtain ⟨wz, hwz⟩ : ∃ x, x = w5.setCell ⟨O, 2, none⟩ (.int .u64 (vx : Int)) := ⟨_, rfl⟩
        have FIN : Hid ((∃ cs2 o2, ActW base wz B O kk cs r cs2 o2 S sp most l hist ∧ o2.kind = kd ∧ o2.name = nm) ∧ Below w.heap.size w wz) := by
          refine ⟨⟨_, setV o vx, by rw [hwz]; exact W5.set (v := vx) (by rw [hvx]; exact kx.obj.2.1.2.2.2), hkd.symm, hnm.symm⟩, ?_⟩
          rw [hwz]
          exact b05.setCell OW.out _
        have hwz' := hwz.symm
        clear W5 b05 n0 hVk han hkd hnm hn hBE hany hx kx hvx hwz H5 HBB
        go_wp2_with fail
        go_meet
        case rel => exact ⟨rfl, FIN.out⟩
    case rest =>
      obtain ⟨rfl, HA, HC⟩ := hcut
      obtain ⟨cs2, o2, a2, ek, en⟩ := HA.out
      have hn := H5.out.2.2.2.2.2.2.2.1
      have hl0 : wc.cell? ⟨B, 0, none⟩ = some (.int .i64 kk) := (cell_of_block a2.act 0).trans (acC_0 kk cs r)
      have LO := Lib.hid (a2.bes.load a2.kept.obj.1)
      have C1 := Lib.hid (create_did base wc S sp most l hist cs2 o2 a2.bes.st a2.kept hn)
      have C2 := Lib.hid (update_did base wc S sp most l hist cs2 o2 a2.bes.st a2.kept hn)
      have C3 := Lib.hid (delete_did base wc S sp most l hist o2.kind o2.name o2.ver a2.bes.st hn (by rw [en]; exact FN.out))
      have k0 : wc.cell? ⟨O, 0, none⟩ = some (.int .i64 o2.kind) := (cell_of_block a2.bes.blk 0).trans a2.kept.obj.2.1.1
      have k1 : wc.cell? ⟨O, 1, none⟩ = some (.string o2.name) := (cell_of_block a2.bes.blk 1).trans a2.kept.obj.2.1.2.1
      have k2 : wc.cell? ⟨O, 2, none⟩ = some (.int .u64 (o2.ver : Int)) := (cell_of_block a2.bes.blk 2).trans a2.kept.obj.2.1.2.2.1
      obtain ⟨kd2, hk2⟩ : ∃ k, k = o2.kind := ⟨_, rfl⟩
      obtain ⟨nm2, hn2⟩ : ∃ k, k = o2.name := ⟨_, rfl⟩
      obtain ⟨ve2, hv2⟩ : ∃ k, k = o2.ver := ⟨_, rfl⟩
      rw [← hk2] at k0
      rw [← hn2] at k1
      rw [← hv2] at k2
      rw [← hk2, ← hn2, ← hv2] at C3
      clear a2 ek en hn hk2 hn2 hv2 H5 HA HBB OW FN
      by_cases h0 : kk = 0
      · have t0 : (kk == 0) = true := by rw [h0]; rfl
        clear h0 C2 C3
        go_wp2_with (refine wpList_load_by (by kernel_rfl) OT _ rfl (.pointer (some ⟨O, 0, none⟩)) (.agg cs2) (by kernel_rfl) LO.out ?_)
        refine C1.out.mono ?_
        rintro e w' ⟨⟨v, rfl⟩, hd⟩
        have FIN := Lib.hid (hd.from_ HC.out)
        clear hd
        go_wp2
        go_end0
        exact ⟨rfl, FIN.out⟩
      · have t0 : (kk == 0) = false := beq_false_of_ne h0
        by_cases h1 : kk = 1
        · have t1 : (kk == 1) = true := by rw [h1]; rfl
          clear h0 h1 C1 C3
          go_wp2_with (refine wpList_load_by (by kernel_rfl) OT _ rfl (.pointer (some ⟨O, 0, none⟩)) (.agg cs2) (by kernel_rfl) LO.out ?_)
          refine C2.out.mono ?_
          rintro e w' ⟨⟨v, rfl⟩, hd⟩
          have FIN := Lib.hid (hd.from_ HC.out)
          clear hd
          go_wp2
          go_end0
          exact ⟨rfl, FIN.out⟩
        · have t1 : (kk == 1) = false := beq_false_of_ne h1
          clear h0 h1 C1 C2
          go_wp2_with fail
          refine C3.out.mono ?_
          rintro e w' ⟨⟨v, rfl⟩, hd⟩
          have FIN := Lib.hid (hd.from_ HC.out)
          clear hd
          go_wp2
          go_end0
          exact ⟨rfl, FIN.out⟩
end Go.Proofs.YtbagicilmmkdhaaGreat
/- A watch's Again: all objects of its kinds. -/
namespace Go.Proofs.YtbagicilmmkdhaaGreat
open Go.RowKit Go.Shelf Go.Lib Go.Sort
open Go.Joins (cell_of_block unfrozen_of_block block_setCell)
set_option linter.unusedVariables false
set_option linter.unusedSimpArgs false
set_option maxRecDepth 20000

/-- All objects of the kinds below j that are looked for, by kinds, then by names. -/
def aga (f : Nat → Bool) (l : List Ob) : Nat → List Ob
  | 0 => []
  | j + 1 => aga f l j ++ (if f j then listed (j : Int) l else [])

theorem aga_len (f : Nat → Bool) (l : List Ob) : ∀ j, (aga f l j).length ≤ j * l.length
  | 0 => by simp [aga]
  | j + 1 => by
    have h1 := aga_len f l j
    have h2 := listed_len (l := l) (j : Int)
    rw [aga, List.length_append, Nat.succ_mul]
    split
    · omega
    · simp; omega
set_option maxHeartbeats 8000000 in
theorem again_any (base : Nat) (w : World) (S : List Nat) (sp wp : Nat) (most : Int) (f : Nat → Bool) (pl : Nat) (l : List Ob) (hist : List Ev) (h : Wat base w S sp wp most f pl l hist) (hl : l.length ≤ 1000) :
    Calls Tryz.prog 18 #[.pointer (some ⟨wp, 0, none⟩)] w fun r w' =>
      (∃ q c cl, r = .returned (.slice q cl.length c) ∧ cl.map (·.1.2) = aga f l 5 ∧ OwnO base w.heap.size w' q c cl) ∧
      Chg [wp] w w' ∧ w'.heap[wp]? = some (.cells (waC sp f hist.length) WaT (0, 0)) := by
  have mixed : Tryz.prog.follows .mixedOrders = true := by kernel_rfl
  obtain ⟨v, hv⟩ : ∃ v, v = hist.length := ⟨_, rfl⟩
  rw [← hv]
  have hbw : base ≤ w.heap.size := by obtain ⟨_, _, _, _, q⟩ := h.st; exact q.bw
  have c0 : w.cell? ⟨wp, 0, none⟩ = some (.pointer (some ⟨sp, 0, none⟩)) := cell_of_block h.blk 0
  have c1 : w.cell? ⟨wp, 1, none⟩ = some (.bool (f 0)) := cell_of_block h.blk 1
  have c2 : w.cell? ⟨wp, 2, none⟩ = some (.bool (f 1)) := cell_of_block h.blk 2
  have c3 : w.cell? ⟨wp, 3, none⟩ = some (.bool (f 2)) := cell_of_block h.blk 3
  have c4 : w.cell? ⟨wp, 4, none⟩ = some (.bool (f 3)) := cell_of_block h.blk 4
  have c5 : w.cell? ⟨wp, 5, none⟩ = some (.bool (f 4)) := cell_of_block h.blk 5
  have H := Lib.hid (And.intro h (And.intro hl (And.intro hv hbw)))
  clear h hl hv hbw
  go_enter Tryz.func18, Tryz.ntmps18
  go_wp2_with fail
  go_loopg [12, 3] 5 (fun gg vi vl wr => ∃ (j : Nat) (q : Option Addr) (m c : Nat), vi = .int .i64 (j : Int) ∧ vl = .slice q m c ∧ j ≤ 5 ∧ 5 - j ≤ gg ∧ Hid (∃ cl : List Co, m = cl.length ∧ cl.map (·.1.2) = aga f l j ∧ OwnO base w.heap.size wr q c cl ∧ Chg [] w wr))
  case atStart => exact ⟨0, none, 0, 0, rfl, rfl, by omega, by omega, [], rfl, rfl, ⟨World.ownsRow_nil _ _ _ _, fun x hx => (nomatch hx)⟩, Chg.refl _ _⟩
  case round =>
    obtain ⟨j, q, m, c, rfl, rfl, h1, h2, HR⟩ := hrel
    by_cases hj : j < 5
    · obtain ⟨y, hy⟩ : ∃ y, y = f j := ⟨_, rfl⟩
      have hix : (Instr.index 103 (.agg #[Value.bool (f 0), .bool (f 1), .bool (f 2), .bool (f 3), .bool (f 4)]) (.int .i64 (j : Int))).run Tryz.prog wr = .ok (.bool y) wr := by
        rw [hy]
        rcases (show j = 0 ∨ j = 1 ∨ j = 2 ∨ j = 3 ∨ j = 4 by omega) with rfl | rfl | rfl | rfl | rfl <;> kernel_rfl
      have HY := Lib.hid hy
      obtain ⟨h, hl, hv, hbw⟩ := H.out
      have hwl : wp < w.heap.size := (Array.getElem?_eq_some_iff.1 h.blk).1
      cases y with
      | false =>
        have NX : Hid (∃ cl : List Co, m = cl.length ∧ cl.map (·.1.2) = aga f l (j + 1) ∧ OwnO base w.heap.size wr q c cl ∧ Chg [] w wr) := by
          obtain ⟨cl, e1, e2, e3, e4⟩ := HR.out
          exact ⟨cl, e1, by rw [e2, aga, ← HY.out]; simp, e3, e4⟩
        clear hy h hl hv hbw hwl HR
        go_wp2_with fail
        go_roundg (5 - (j + 1))
        case measure => omega
        case rel => exact ⟨j + 1, q, m, c, by push_cast; rfl, rfl, by omega, by omega, NX.out⟩
      | true =>
        obtain ⟨cl, e1, e2, e3, e4⟩ := HR.out
        have d0 : wr.cell? ⟨wp, 0, none⟩ = some (.pointer (some ⟨sp, 0, none⟩)) := (World.cell?_of_block (e4.block wp hwl (by simp))).trans (cell_of_block h.blk 0)
        have b4 : Below w.heap.size w wr := e4.below (fun g hg => by simp at hg) (Nat.le_refl _)
        have hr := h.gr b4
        have CL := Lib.hid (list_any wr (.pointer (some ⟨sp, 0, none⟩)) (j : Int) ⟨_, rfl⟩)
        obtain ⟨b, hb⟩ : ∃ b, b = wr.heap.size := ⟨_, rfl⟩
        obtain ⟨w2, hw2⟩ : ∃ x, x = (wr.alloc (.cells #[.pointer (some ⟨sp, 0, none⟩)] 26)).alloc (.cells #[.int .i64 (j : Int)] 3) := ⟨_, rfl⟩
        have gb : Gr (wr.alloc (.cells #[.pointer (some ⟨sp, 0, none⟩)] 26)) w2 := hw2 ▸ (Gr.refl _).alloc _
        have g2 : Gr wr w2 := hw2 ▸ ((Gr.refl wr).alloc _).alloc _
        have zb : (wr.alloc (.cells #[.pointer (some ⟨sp, 0, none⟩)] 26)).heap.size = b + 1 := by rw [hb]; simp
        have z2 : w2.heap.size = b + 2 := by rw [hw2, hb]; simp
        have k1 : w2.cell? ⟨b, 0, none⟩ = some (.pointer (some ⟨sp, 0, none⟩)) := by
          have := cell_of_block (heap_alloc_new wr (.cells #[.pointer (some ⟨sp, 0, none⟩)] 26)) 0
          rw [← hb] at this
          exact (World.cell?_of_block (gb.heap (i := b) (by rw [zb]; omega))).trans this
        have k2 : w2.cell? ⟨b + 1, 0, none⟩ = some (.int .i64 (j : Int)) := by
          have := cell_of_block (heap_alloc_new (wr.alloc (.cells #[.pointer (some ⟨sp, 0, none⟩)] 26)) (.cells #[.int .i64 (j : Int)] 3)) 0
          rw [zb, ← hw2] at this
          exact this
        have hle : cl.length ≤ 100000 := by
          have h1 := congrArg List.length e2
          rw [List.length_map] at h1
          have h3 := aga_len f l j
          have h4 : j * l.length ≤ 5 * 1000 := Nat.mul_le_mul (by omega) hl
          omega
        have CA := Lib.hid (appendSeq_any base w2 S sp b most (j : Int) l hist (hr.st.gr g2.below) k1 k2 (by omega) hl w.heap.size hbw (by have := e4.size; have := g2.below.size; omega) q c cl (e3.gr g2.below) hle)
        rw [← e1] at CA
        have HW2 : Hid ((wr.alloc (.cells #[.pointer (some ⟨sp, 0, none⟩)] 26)).alloc (.cells #[.int .i64 (j : Int)] 3) = w2 ∧ wr.heap.size = b) := ⟨hw2.symm, hb.symm⟩
        have HX : Hid (m = cl.length ∧ cl.map (·.1.2) = aga f l j ∧ Chg [] w w2 ∧ ∀ g ∈ (Value.slice q m c).ownBlock.toList, w.heap.size ≤ g) :=
          ⟨e1, e2, e4.trans (Chg.ofBelow g2.below []) (by simp), fun g hg => by
            rw [e1] at hg
            exact (World.ownsRow.lt e3.own g (by simpa using hg)).1⟩
        clear hy h hl hv hbw hwl HR e1 e2 e3 e4 b4 hr hb hw2 gb g2 zb z2 k1 k2 hle
        go_upto_region 8 with fail
        go_wp2_with fail
        refine CL.out.mono ?_
        rintro e w' ⟨rfl, rfl⟩
        rw [HW2.out.1, HW2.out.2]
        go_wp2_with fail
        refine CA.out.mono ?_
        rintro e w3 ⟨⟨q3, c3, ds, rfl, hds, own3⟩, C3⟩
        obtain ⟨m3, hm3⟩ : ∃ n, n = (cl ++ ds).length := ⟨_, rfl⟩
        have NX : Hid (∃ cl : List Co, m3 = cl.length ∧ cl.map (·.1.2) = aga f l (j + 1) ∧ OwnO base w.heap.size w3 q3 c3 cl ∧ Chg [] w w3) := by
          obtain ⟨x1, x2, x3, x4⟩ := HX.out
          refine ⟨cl ++ ds, hm3, by rw [List.map_append, x2, hds, aga, ← HY.out]; simp, own3, x3.trans C3 (fun g hg => .inr (x4 g hg))⟩
        rw [← hm3]
        clear hds own3 C3 hm3 HX CA CL HW2
        go_wp2_with fail
        go_roundg (5 - (j + 1))
        case measure => omega
        case rel => exact ⟨j + 1, q3, m3, c3, by push_cast; rfl, rfl, by omega, by omega, NX.out⟩
    · have hj5 : j = 5 := by omega
      subst hj5
      obtain ⟨h, hl, hv, hbw⟩ := H.out
      obtain ⟨cl, e1, e2, e3, e4⟩ := HR.out
      have hwl : wp < w.heap.size := (Array.getElem?_eq_some_iff.1 h.blk).1
      have b4 : Below w.heap.size w wr := e4.below (fun g hg => by simp at hg) (Nat.le_refl _)
      have hr := h.gr b4
      have CN := Lib.hid (now_any base wr S sp most l hist hr.st)
      rw [← hv] at CN
      obtain ⟨w3, hw3⟩ : ∃ x, x = wr.setCell ⟨wp, 6, none⟩ (.int .u64 (v : Int)) := ⟨_, rfl⟩
      have p0 : wr.cell? ⟨wp, 0, none⟩ = some (.pointer (some ⟨sp, 0, none⟩)) := cell_of_block hr.blk 0
      have p6 : wr.cell? ⟨wp, 6, none⟩ = some (.int .u64 (pl : Int)) := cell_of_block hr.blk 6
      have q6 : wr.frozen? ⟨wp, 6, none⟩ = false := unfrozen_of_block hr.blk 6
      have C3 : Chg [wp] wr w3 := by rw [hw3]; exact (Chg.refl [wp] wr).setCell 6 _ (.inl (by simp))
      have F3 : Fx base wr w3 := C3.fx (fun g hg _ => by
        rw [List.mem_singleton] at hg
        subst hg
        exact (cells_prot hr.blk h.lo rfl).2.2)
      have FIN : Hid (m = cl.length ∧ cl.map (·.1.2) = aga f l 5 ∧ OwnO base w.heap.size w3 q c cl ∧ Chg [wp] w w3 ∧ w3.heap[wp]? = some (.cells (waC sp f v) WaT (0, 0))) := by
        refine ⟨e1, e2, ⟨own_block e3.own (fun g hg => C3.block g (World.ownsRow.lt e3.own g hg).2 (by have := (World.ownsRow.lt e3.own g hg).1; simp; omega)), fun x hx => (e3.kept x hx).fx F3⟩, ((e4.less (S' := [wp]) (fun g hg => by simp at hg)).trans C3 (fun g hg => .inl hg)), ?_⟩
        rw [hw3, block_setCell hr.blk]
        rfl
      have hw3' := hw3.symm
      clear h hl hv hbw HR e1 e2 e3 e4 hwl b4 hr hw3 C3 F3
      go_upto_region 10 with fail
      go_wp2_with fail
      refine CN.out.mono ?_
      rintro e w' ⟨rfl, rfl⟩
      go_wp2
      go_ret
      obtain ⟨f1, f2, f3, f4, f5⟩ := FIN.out
      exact ⟨⟨q, c, cl, by rw [← f1]; rfl, f2, f3⟩, f4, f5⟩
end Go.Proofs.YtbagicilmmkdhaaGreat
/- Events of one name, folded: the chapter's example. -/
namespace Go.Proofs.YtbagicilmmkdhaaGreat
open Go.RowKit Go.Shelf Go.Lib Go.Sort
open Go.Maps (Keyed)
open Go.Joins (cell_of_block unfrozen_of_block block_setCell)
set_option linter.unusedVariables false
set_option linter.unusedSimpArgs false
set_option maxRecDepth 20000

abbrev HK : TypeId := 142
abbrev HT : TypeId := 140
theorem lawH : Keyed Tryz.prog HK := Keyed.of_law (deep_law_laid laidOut (m := 2) (by omega) (of_decide_eq_true (by kernel_rfl)) (by kernel_rfl) (by kernel_rfl))
theorem mapH : Tryz.prog.underlying HT = some (.map HK 3) := Tryz.underlying140
theorem key_atH {k : Int} {nm : ByteArray} (hk : I64 k) (hn : nm.size ≤ maxLen) : keyOf Tryz.prog HK (thing k nm) = some (kl k nm) := by
  have e1 : Tryz.prog.keyType HK = true := by kernel_rfl
  have e2 : (thing k nm).formed Tryz.prog HK = true := by
    simp [Value.formed, thing, Tryz.underlying142]
    kernel_rfl
  obtain ⟨fs, hfs⟩ : ∃ fs, Tryz.prog.underlying HK = some (.struct fs) := ⟨_, Tryz.underlying142⟩
  have e3 : Tryz.prog.keyLits (Tryz.prog.types.size + 1) HK [.int .i64 k, .string nm] = some [.int .i64 k, .string nm.data.toList] := by
    obtain ⟨m, hm⟩ : ∃ m, Tryz.prog.types.size = m + 1 := ⟨Tryz.prog.types.size - 1, by have : 0 < Tryz.prog.types.size := of_decide_eq_true (by kernel_rfl); omega⟩
    have c0 : Tryz.prog.cellsOf HK = 2 := by kernel_rfl
    have c1 : Tryz.prog.cellsOf 3 = 1 := by kernel_rfl
    have c2 : Tryz.prog.cellsOf 9 = 1 := by kernel_rfl
    rw [hm]
    simp [Program.keyLits, Tryz.underlying142, Tryz.underlying3, Tryz.underlying9, c0, c1, c2, i64_wf hk, hn]
  unfold keyOf
  rw [hfs]
  simp only
  rw [e1, e2]
  simp only [Bool.and_self, if_true]
  show Option.map _ (Tryz.prog.keyLits (Tryz.prog.types.size + 1) HK [.int .i64 k, .string nm]) = _
  rw [e3]
  rfl

/-- The block is a map of numbers that holds 'v' of the thing (k, nm). -/
structure CtIs (w : World) (mb n : Nat) (k : Int) (nm : ByteArray) (v : Option Int) : Prop where
  i64 : I64 k
  nam : nm.size ≤ maxLen
  own : ∃ D, w.ownsMap Tryz.prog HK hR mb n D ∧ Maps.has D (kl k nm) = v.isSome ∧ ∀ x, v = some x → D.atKey (kl k nm) (.held (.int .i64 0)) = .held (.int .i64 x)
theorem CtIs.stay {w w' : World} {mb n : Nat} {k : Int} {nm : ByteArray} {v : Option Int} (h : CtIs w mb n k nm v) (hb : w'.heap[mb]? = w.heap[mb]?) : CtIs w' mb n k nm v := by
  obtain ⟨a, b, D, ⟨es, c, h1, h2⟩, h3⟩ := h
  exact ⟨a, b, D, ⟨es, c, hb.trans h1, h2⟩, h3⟩
theorem CtIs.lt {w : World} {mb n : Nat} {k : Int} {nm : ByteArray} {v : Option Int} (h : CtIs w mb n k nm v) : mb < w.heap.size := by
  obtain ⟨_, _, D, ⟨es, c, h1, h2⟩, _⟩ := h
  exact (Array.getElem?_eq_some_iff.1 h1).1
theorem CtIs.made (w : World) {k : Int} {nm : ByteArray} (a : I64 k) (b : nm.size ≤ maxLen) : CtIs (w.alloc (.map #[] 0)) w.heap.size 0 k nm none :=
  ⟨a, b, _, World.ownsMap_made w _ _ _, rfl, fun x e => by cases e⟩
theorem CtIs.none_ {w : World} {mb n : Nat} {k : Int} {nm : ByteArray} (h : CtIs w mb n k nm none) : (Instr.lookup HT (.map (some mb)) (thing k nm) true).run Tryz.prog w = .ok (.tuple #[.int .i64 0, .bool false]) w := by
  obtain ⟨a, b, D, own, hh, _⟩ := h
  have hz : (zeroValue 3).run Tryz.prog w = .ok (.int .i64 0) w := by kernel_rfl
  obtain ⟨v, ps, hrun, hv⟩ := own.look_ok lawH mapH hz (zd := .held (.int .i64 0)) (zp := []) rfl (key_atH a b)
  have hh' : Maps.has D (kl k nm) = false := hh
  rw [hh'] at hrun
  rw [Maps.atKey_of_not_has hh'] at hv
  simp only [hR, Option.some.injEq, Prod.mk.injEq, DataW.held.injEq] at hv
  rw [hv.1] at hrun
  exact hrun
theorem CtIs.some_ {w : World} {mb n : Nat} {k : Int} {nm : ByteArray} {x : Int} (h : CtIs w mb n k nm (some x)) : (Instr.lookup HT (.map (some mb)) (thing k nm) true).run Tryz.prog w = .ok (.tuple #[.int .i64 x, .bool true]) w := by
  obtain ⟨a, b, D, own, hh, hx⟩ := h
  have hz : (zeroValue 3).run Tryz.prog w = .ok (.int .i64 0) w := by kernel_rfl
  obtain ⟨v, ps, hrun, hv⟩ := own.look_ok lawH mapH hz (zd := .held (.int .i64 0)) (zp := []) rfl (key_atH a b)
  have hh' : Maps.has D (kl k nm) = true := hh
  rw [hh'] at hrun
  rw [hx x rfl] at hv
  simp only [hR, Option.some.injEq, Prod.mk.injEq, DataW.held.injEq] at hv
  rw [hv.1] at hrun
  exact hrun
theorem CtIs.at_ {w : World} {mb n : Nat} {k : Int} {nm : ByteArray} {x : Int} (h : CtIs w mb n k nm (some x)) : (Instr.lookup HT (.map (some mb)) (thing k nm) false).run Tryz.prog w = .ok (.int .i64 x) w := by
  obtain ⟨a, b, D, own, hh, hx⟩ := h
  have hz : (zeroValue 3).run Tryz.prog w = .ok (.int .i64 0) w := by kernel_rfl
  obtain ⟨v, ps, hrun, hv⟩ := own.lookup lawH mapH hz (zd := .held (.int .i64 0)) (zp := []) rfl (key_atH a b)
  rw [hx x rfl] at hv
  simp only [hR, Option.some.injEq, Prod.mk.injEq, DataW.held.injEq] at hv
  rw [hv.1] at hrun
  exact hrun
theorem CtIs.set {w : World} {mb n : Nat} {k : Int} {nm : ByteArray} {v : Option Int} (h : CtIs w mb n k nm v) (hn : n < maxLen) (x : Int) :
    ∃ w', (Instr.mapUpdate HT (.map (some mb)) (thing k nm) (.int .i64 x)).run Tryz.prog w = .ok () w' ∧ CtIs w' mb (n + 1) k nm (some x) ∧ w.mapTurned w' mb := by
  obtain ⟨a, b, D, own, hh, hx⟩ := h
  obtain ⟨w', h1, h2, h3⟩ := own.store lawH mapH hn (key_atH a b) (val := .int .i64 x) (d := .held (.int .i64 x)) (ps := []) rfl
  have hm := (own.tidy lawH).isMap
  refine ⟨w', h1, ⟨a, b, _, h2, ?_, fun y e => ?_⟩, h3⟩
  · exact Maps.has_put_same hm (isKey _ _) _
  · cases e
    exact Maps.atKey_put_same hm (isKey _ _) _ _

theorem turned_chg9 {w w' : World} {mb : Nat} (h : w.mapTurned w' mb) : Chg [mb] w w' :=
  Chg.ofGrown (S := [mb]) h.grown (fun g e => .inl (by simp at e; simp [e]))
theorem together_one (w : World) : Calls Tryz.prog 59 #[.int .i64 0, .int .i64 1] w fun e w' => e = .returned (.tuple #[.int .i64 0, .bool true]) ∧ w' = w := by
  go_enter Tryz.func59, Tryz.ntmps59
  go_wp2
  refine bodyPost_ret (results_tmp2 rfl _ _ _) rfl ?_
  exact ⟨rfl, rfl⟩
theorem ins_oneE (q : Option Addr) (c : Nat) (fv : Value) (w : World) : Calls Tryz.prog 91 #[.slice q 1 c, .int .i64 0, .int .i64 1, fv] w fun e w' => e = .returned (.tuple #[]) ∧ w = w' := by
  go_enter Tryz.func91, Tryz.ntmps91
  go_wp2
  refine wp_loop_rounds 1 ?_
  rw [rounds_succ]
  go_wp2
  go_end0
  exact ⟨rfl, rfl⟩
theorem stable_oneE (q : Option Addr) (c : Nat) (fv : Value) (w : World) : Calls Tryz.prog 82 #[.slice q 1 c, .int .i64 1, fv] w fun e w' => e = .returned (.tuple #[]) ∧ w = w' := by
  have C := Lib.hid (fun W => ins_oneE q c fv W)
  go_enter Tryz.func82, Tryz.ntmps82
  go_wp2
  refine wp_loop_rounds 1 ?_
  rw [rounds_succ]
  go_wp2_with fail
  refine (C.out _).mono ?_
  rintro e w' ⟨rfl, rfl⟩
  go_wp2
  refine wp_loop_rounds 1 ?_
  rw [rounds_succ]
  go_wp2
  go_end0
  exact ⟨rfl, rfl⟩
theorem sortStable_oneE (q : Option Addr) (c : Nat) (fv : Value) (w : World) : Calls Tryz.prog 60 #[.slice q 1 c, fv] w fun e w' => e = .returned (.tuple #[]) ∧ w = w' := by
  have C := Lib.hid (fun W => stable_oneE q c fv W)
  go_enter Tryz.func60, Tryz.ntmps60
  go_wp2_with fail
  refine (C.out _).mono ?_
  rintro e w' ⟨rfl, rfl⟩
  go_wp2
  go_end0
  exact ⟨rfl, rfl⟩
def abW : Nat → Int | 0 => 0 | _ => 1
def abV : Nat → Nat | 0 => 1 | 1 => 2 | _ => 5
theorem i640 : I64 0 := by unfold I64; omega
theorem ev_info : ∃ ti : TypeInfo, Tryz.prog.info? ET = some ti ∧ ti.zero = some (.agg #[.int .i64 0, .int .i64 0, .string ⟨#[]⟩, .int .u64 0]) ∧ ti.size = 4 ∧ ti.bytes = 40 := by
  have hinf : (Tryz.prog.info? ET).map (fun i => (i.zero, i.size, i.bytes)) = some (some (.agg #[.int .i64 0, .int .i64 0, .string ⟨#[]⟩, .int .u64 0]), 4, 40) := by kernel_rfl
  cases hi : Tryz.prog.info? ET with
  | none => rw [hi] at hinf; cases hinf
  | some i =>
    rw [hi] at hinf
    simp only [Option.map_some, Option.some.injEq, Prod.mk.injEq] at hinf
    exact ⟨i, rfl, hinf.1, hinf.2.1, hinf.2.2⟩
set_option maxHeartbeats 8000000 in
theorem folded_abc (w : World) (g : Nat) (A : ByteArray) (hA : A.size ≤ maxLen) (hlt : g < w.heap.size)
    (hg : ∀ j, j < 3 → w.cell? ⟨g, j * 4, none⟩ = some (.int .i64 (abW j)) ∧ w.cell? ⟨g, j * 4 + 1, none⟩ = some (.int .i64 0) ∧ w.cell? ⟨g, j * 4 + 2, none⟩ = some (.string A) ∧ w.cell? ⟨g, j * 4 + 3, none⟩ = some (.int .u64 (abV j : Int))) :
    Calls Tryz.prog 36 #[.slice (some ⟨g, 0, none⟩) 3 3] w fun e w' => (∃ q c, e = .returned (.slice q 1 c) ∧ w'.ownsRow w.heap.size ET 4 (.slice q 1 c) 1 (encE ⟨0, 0, A, 5⟩)) ∧ Below w.heap.size w w' := by
  have mixed : Tryz.prog.follows .mixedOrders = true := by kernel_rfl
  have mk := @run_makeMap Tryz.prog
  obtain ⟨ti, hi, hz0, hz1, hz2⟩ := ev_info
  have hzi : (Tryz.prog.info? ET).map (fun i => (i.zero, i.size)) = some (some (.agg #[.int .i64 0, .int .i64 0, .string ⟨#[]⟩, .int .u64 0]), 4) := by kernel_rfl
  obtain ⟨M, hM⟩ : ∃ M, M = w.heap.size := ⟨_, rfl⟩
  obtain ⟨M2, hM2⟩ : ∃ M2, M2 = M + 1 := ⟨_, rfl⟩
  obtain ⟨w1, hw1⟩ : ∃ x, x = (w.alloc (.map #[] 0)).alloc (.map #[] 0) := ⟨_, rfl⟩
  have za : (w.alloc (.map #[] 0)).heap.size = M + 1 := by rw [hM]; simp
  have G1 : Gr w w1 := hw1 ▸ ((Gr.refl w).alloc _).alloc _
  have c1 : CtIs w1 M 0 0 A none := (hM ▸ CtIs.made w (k := 0) i640 hA).stay (by rw [hw1]; exact ((Gr.refl _).alloc _).heap (by rw [za]; omega))
  have c2 : CtIs w1 M2 0 0 A none := by
    have := CtIs.made (w.alloc (.map #[] 0)) (k := 0) (nm := A) i640 hA
    rwa [← hw1, za, ← hM2] at this
  have HW1 : Hid ((w.alloc (.map #[] 0)).alloc (.map #[] 0) = w1 ∧ w.heap.size = M ∧ M + 1 = M2) := ⟨hw1.symm, hM.symm, hM2.symm⟩
  have z1 : w1.heap.size = M + 2 := by rw [hw1, hM]; simp
  have HH := Lib.hid (And.intro G1 (And.intro c1 (And.intro c2 (And.intro z1 (And.intro hlt hg)))))
  have HA := Lib.hid hA
  clear hM hM2 hw1 za G1 c1 c2 z1 hlt hg hA
  go_enter Tryz.func36, Tryz.ntmps36
  go_upto_region 2 with fail
  rw [HW1.out.1, HW1.out.2.1, HW1.out.2.2]
  go_wp2_with fail
  go_loopg [20] 3 (fun gg vi wr => ∃ j : Nat, vi = .int .i64 (j : Int) ∧ j ≤ 3 ∧ 3 - j ≤ gg ∧ Hid (Chg [M, M2] w1 wr ∧ ∃ n1 n2, n1 ≤ j ∧ n2 ≤ j ∧ CtIs wr M n1 0 A (if j = 0 then none else some 0) ∧ CtIs wr M2 n2 0 A (if j = 0 then none else some ((j : Int) - 1))))
  case atStart => exact ⟨0, rfl, by omega, by omega, Chg.refl _ _, 0, 0, by omega, by omega, HH.out.2.1, HH.out.2.2.1⟩
  case round =>
    obtain ⟨j, rfl, h1, h2, HR⟩ := hrel
    by_cases hj : j < 3
    · obtain ⟨C, n1, n2, hn1, hn2, k1, k2⟩ := HR.out
      obtain ⟨G1, _, _, z1, hlt, hg⟩ := HH.out
      obtain ⟨_, hM, hM2⟩ := HW1.out
      have cc : ∀ t v, w.cell? ⟨g, t, none⟩ = some v → wr.cell? ⟨g, t, none⟩ = some v := fun t v h =>
        ((World.cell?_of_block (C.block g (by have := G1.below.size; omega) (by simp; omega))).trans (World.cell?_of_block (G1.heap hlt))).trans h
      obtain ⟨q0, q1, q2, q3⟩ := hg j hj
      obtain ⟨wa, hwa⟩ : ∃ x, x = abW j := ⟨_, rfl⟩
      obtain ⟨ve, hve⟩ : ∃ x, x = abV j := ⟨_, rfl⟩
      rw [← hwa] at q0
      rw [← hve] at q3
      have e0 := cc _ _ q0
      have e1 := cc _ _ q1
      have e2 := cc _ _ q2
      have e3 := cc _ _ q3
      obtain ⟨B, hB⟩ : ∃ B, B = wr.heap.size := ⟨_, rfl⟩
      obtain ⟨wb, hwb⟩ : ∃ x, x = (wr.alloc (.cells #[.int .i64 wa, .int .i64 0, .string A, .int .u64 (ve : Int)] ET)).alloc (.cells #[.int .i64 0, .string A] HK) := ⟨_, rfl⟩
      have Gb : Gr wr wb := hwb ▸ ((Gr.refl wr).alloc _).alloc _
      have zb : (wr.alloc (.cells #[.int .i64 wa, .int .i64 0, .string A, .int .u64 (ve : Int)] ET)).heap.size = B + 1 := by rw [hB]; simp
      have f1 : wb.heap[B + 1]? = some (.cells #[.int .i64 0, .string A] HK (0, 0)) := by rw [hwb, ← zb]; exact heap_alloc_new _ _
      have kb1 := k1.stay (Gb.heap k1.lt)
      have kb2 := k2.stay (Gb.heap k2.lt)
      have HWB : Hid ((wr.alloc (.cells #[.int .i64 wa, .int .i64 0, .string A, .int .u64 (ve : Int)] ET)).alloc (.cells #[.int .i64 0, .string A] HK) = wb ∧ wr.heap.size = B) := ⟨hwb.symm, hB.symm⟩
      have hMB : M < B ∧ M2 < B := by rw [hB]; exact ⟨k1.lt, k2.lt⟩
      have Cb : Chg [M, M2] w1 wb := C.trans (Chg.ofBelow Gb.below []) (by simp)
      by_cases h0 : j = 0
      · have kn : CtIs wb M n1 0 A none := by rw [if_pos h0] at kb1; exact kb1
        have r0 : (Instr.lookup HT (.map (some M)) (.agg #[.int .i64 0, .string A]) true).run Tryz.prog wb = .ok (.tuple #[.int .i64 0, .bool false]) wb := kn.none_
        obtain ⟨w4, u1, k4, t4⟩ := kb1.set (by unfold maxLen; omega) (j : Int)
        have C4 := turned_chg9 t4
        obtain ⟨w5, u2, k5, t5⟩ := (kb2.stay (C4.block M2 kb2.lt (by simp; omega))).set (by unfold maxLen; omega) (j : Int)
        have C5 := turned_chg9 t5
        have f4 : w4.heap[B + 1]? = some (.cells #[.int .i64 0, .string A] HK (0, 0)) := (C4.block (B + 1) (Array.getElem?_eq_some_iff.1 f1).1 (by simp; omega)).trans f1
        have d1 := cell_of_block f1 0
        have d2 := cell_of_block f1 1
        have d3 := cell_of_block f4 0
        have d4 := cell_of_block f4 1
        have v1 : (Instr.mapUpdate HT (.map (some M)) (.agg #[.int .i64 0, .string A]) (.int .i64 (j : Int))).run Tryz.prog wb = .ok () w4 := u1
        have v2 : (Instr.mapUpdate HT (.map (some M2)) (.agg #[.int .i64 0, .string A]) (.int .i64 (j : Int))).run Tryz.prog w4 = .ok () w5 := u2
        have RN : Hid (Chg [M, M2] w1 w5 ∧ ∃ n1 n2, n1 ≤ j + 1 ∧ n2 ≤ j + 1 ∧ CtIs w5 M n1 0 A (if j + 1 = 0 then none else some 0) ∧ CtIs w5 M2 n2 0 A (if j + 1 = 0 then none else some (((j + 1 : Nat) : Int) - 1))) := by
          refine ⟨(Cb.trans C4 (by simp)).trans C5 (by simp), n1 + 1, n2 + 1, by omega, by omega, ?_, ?_⟩
          · rw [if_neg (by omega)]
            have := k4.stay (C5.block M k4.lt (by simp; omega))
            rwa [show (j : Int) = 0 by omega] at this
          · rw [if_neg (by omega), show (((j + 1 : Nat) : Int) - 1) = (j : Int) by omega]
            exact k5
        clear HR C k1 k2 G1 z1 hlt hg hM hM2 cc q0 q1 q2 q3 hwa hve hB hwb Gb zb f1 kb1 kb2 hMB Cb kn u1 k4 t4 C4 u2 k5 t5 C5 f4 h0 hn1 hn2
        go_upto_region 6 with fail
        rw [HWB.out.1, HWB.out.2]
        go_upto_region 10 with fail
        go_wp2_with fail
        go_roundg (3 - (j + 1))
        case measure => omega
        case rel => exact ⟨j + 1, by push_cast; rfl, by omega, by omega, RN⟩
      · have kn : CtIs wb M n1 0 A (some 0) := by rw [if_neg h0] at kb1; exact kb1
        have r0 : (Instr.lookup HT (.map (some M)) (.agg #[.int .i64 0, .string A]) true).run Tryz.prog wb = .ok (.tuple #[.int .i64 0, .bool true]) wb := kn.some_
        obtain ⟨w5, u2, k5, t5⟩ := kb2.set (by unfold maxLen; omega) (j : Int)
        have C5 := turned_chg9 t5
        have d1 := cell_of_block f1 0
        have d2 := cell_of_block f1 1
        have v2 : (Instr.mapUpdate HT (.map (some M2)) (.agg #[.int .i64 0, .string A]) (.int .i64 (j : Int))).run Tryz.prog wb = .ok () w5 := u2
        have RN : Hid (Chg [M, M2] w1 w5 ∧ ∃ n1 n2, n1 ≤ j + 1 ∧ n2 ≤ j + 1 ∧ CtIs w5 M n1 0 A (if j + 1 = 0 then none else some 0) ∧ CtIs w5 M2 n2 0 A (if j + 1 = 0 then none else some (((j + 1 : Nat) : Int) - 1))) := by
          refine ⟨Cb.trans C5 (by simp), n1, n2 + 1, by omega, by omega, ?_, ?_⟩
          · rw [if_neg (by omega)]
            exact kn.stay (C5.block M kn.lt (by simp; omega))
          · rw [if_neg (by omega), show (((j + 1 : Nat) : Int) - 1) = (j : Int) by omega]
            exact k5
        clear HR C k1 k2 G1 z1 hlt hg hM hM2 cc q0 q1 q2 q3 hwa hve hB hwb Gb zb f1 kb1 kb2 hMB Cb kn u2 k5 t5 C5 h0 hn1 hn2
        go_upto_region 6 with fail
        rw [HWB.out.1, HWB.out.2]
        go_upto_region 10 with fail
        go_wp2_with fail
        go_roundg (3 - (j + 1))
        case measure => omega
        case rel => exact ⟨j + 1, by push_cast; rfl, by omega, by omega, RN⟩
    · have hj3 : j = 3 := by omega
      subst hj3
      have H3 : Hid (Chg [M, M2] w1 wr ∧ ∃ n1 n2, CtIs wr M n1 0 A (some 0) ∧ CtIs wr M2 n2 0 A (some 2)) := by
        obtain ⟨C, n1, n2, _, _, k1, k2⟩ := HR.out
        exact ⟨C, n1, n2, k1, k2⟩
      clear HR
      obtain ⟨wm, hwm⟩ : ∃ x, x = wr := ⟨_, rfl⟩
      rw [← hwm] at H3 ⊢
      clear hwm
      go_wp2_with fail
      go_loopg [47, 10] 3 (fun gg vi vf wr => ∃ j : Nat, vi = .int .i64 (j : Int) ∧ j ≤ 3 ∧ 3 - j ≤ gg ∧ ((j ≤ 2 ∧ vf = .slice none 0 0 ∧ Hid (Chg [] wm wr)) ∨ (j = 3 ∧ ∃ q c, vf = .slice q 1 c ∧ Hid (Chg [] wm wr ∧ wr.ownsRow wm.heap.size ET 4 (.slice q 1 c) 1 (encE ⟨0, 0, A, 5⟩)))))
      case atStart => exact ⟨0, rfl, by omega, by omega, .inl ⟨by omega, rfl, Chg.refl _ _⟩⟩
      case round =>
        obtain ⟨j, rfl, h1, h2, ⟨hj2, rfl, HC⟩ | ⟨rfl, q, c, rfl, HC⟩⟩ := hrel
        · obtain ⟨C, n1, n2, k1, k2⟩ := H3.out
          obtain ⟨G1, _, _, z1, hlt, hg⟩ := HH.out
          obtain ⟨_, hM, hM2⟩ := HW1.out
          have low : w1.heap.size ≤ wm.heap.size := C.size
          have cc : ∀ t v, w.cell? ⟨g, t, none⟩ = some v → wr.cell? ⟨g, t, none⟩ = some v := fun t v h =>
            (((World.cell?_of_block (HC.out.block g (by have := G1.below.size; omega) (by simp))).trans (World.cell?_of_block (C.block g (by have := G1.below.size; omega) (by simp; omega)))).trans (World.cell?_of_block (G1.heap hlt))).trans h
          obtain ⟨q0, q1, q2, q3⟩ := hg j (by omega)
          obtain ⟨wa, hwa⟩ : ∃ x, x = abW j := ⟨_, rfl⟩
          obtain ⟨ve, hve⟩ : ∃ x, x = abV j := ⟨_, rfl⟩
          rw [← hwa] at q0
          rw [← hve] at q3
          have e0 := cc _ _ q0
          have e1 := cc _ _ q1
          have e2 := cc _ _ q2
          have e3 := cc _ _ q3
          have g0 := cc _ _ (hg 0 (by omega)).1
          obtain ⟨B, hB⟩ : ∃ B, B = wr.heap.size := ⟨_, rfl⟩
          obtain ⟨wb, hwb⟩ : ∃ x, x = (wr.alloc (.cells #[.int .i64 wa, .int .i64 0, .string A, .int .u64 (ve : Int)] ET)).alloc (.cells #[.int .i64 0, .string A] HK) := ⟨_, rfl⟩
          have Gb : Gr wr wb := hwb ▸ ((Gr.refl wr).alloc _).alloc _
          have Ga : Gr (wr.alloc (.cells #[.int .i64 wa, .int .i64 0, .string A, .int .u64 (ve : Int)] ET)) wb := hwb ▸ (Gr.refl _).alloc _
          have zb : (wr.alloc (.cells #[.int .i64 wa, .int .i64 0, .string A, .int .u64 (ve : Int)] ET)).heap.size = B + 1 := by rw [hB]; simp
          have f0 : wb.heap[B]? = some (.cells #[.int .i64 wa, .int .i64 0, .string A, .int .u64 (ve : Int)] ET (0, 0)) := by
            rw [Ga.heap (by rw [zb]; omega), hB]
            exact heap_alloc_new _ _
          have f1 : wb.heap[B + 1]? = some (.cells #[.int .i64 0, .string A] HK (0, 0)) := by rw [hwb, ← zb]; exact heap_alloc_new _ _
          have lt1 := k1.lt
          have lt2 := k2.lt
          have kb1 := (k1.stay (HC.out.block M lt1 (by simp))).stay (Gb.heap (Nat.lt_of_lt_of_le lt1 HC.out.size))
          have kb2 := (k2.stay (HC.out.block M2 lt2 (by simp))).stay (Gb.heap (Nat.lt_of_lt_of_le lt2 HC.out.size))
          have HWB : Hid ((wr.alloc (.cells #[.int .i64 wa, .int .i64 0, .string A, .int .u64 (ve : Int)] ET)).alloc (.cells #[.int .i64 0, .string A] HK) = wb ∧ wr.heap.size = B) := ⟨hwb.symm, hB.symm⟩
          have Cb : Chg [] wm wb := HC.out.trans (Chg.ofBelow Gb.below []) (by simp)
          have hBm : wm.heap.size ≤ B := by rw [hB]; exact HC.out.size
          have hwb2 : wb.heap.size = B + 2 := by rw [hwb, hB]; simp
          have d1 := cell_of_block f1 0
          have d2 := cell_of_block f1 1
          have r0 : (Instr.lookup HT (.map (some M2)) (.agg #[.int .i64 0, .string A]) false).run Tryz.prog wb = .ok (.int .i64 2) wb := kb2.at_
          by_cases hj2' : j < 2
          · have t0 : ((2 : Int) != (j : Int)) = true := bne_iff_ne.2 (by omega)
            have CB := Lib.hid Cb
            clear HC C k1 k2 G1 z1 hlt hg hM hM2 low cc q0 q1 q2 q3 hwa hve hB hwb Gb Ga zb f0 f1 lt1 lt2 kb1 kb2 Cb hBm hwb2 g0
            go_upto_region 16 with fail
            rw [HWB.out.1, HWB.out.2]
            go_wp2_with fail
            go_roundg (3 - (j + 1))
            case measure => omega
            case rel => exact ⟨j + 1, by push_cast; rfl, by omega, by omega, .inl ⟨by omega, rfl, CB.out⟩⟩
          · have hje : j = 2 := by omega
            have t0 : ((2 : Int) != (j : Int)) = false := by rw [hje]; rfl
            have hwa1 : wa = 1 := by rw [hwa, hje]; rfl
            have hve5 : ve = 5 := by rw [hve, hje]; rfl
            subst hwa1
            have HV := Lib.hid hve5
            clear hwa hje hve5
            have KL : Hid (∀ ws : World, Below wb.heap.size wb ws → ws.rangeAt (B + 1) 0 [.int .i64 0, .string A]) := fun ws b => rangeAt_block (cs := #[.int .i64 0, .string A]) ((b.block (B + 1) (Array.getElem?_eq_some_iff.1 f1).1).trans f1)
            have KK : Hid (∀ ws : World, Below wb.heap.size wb ws → (Instr.lookup HT (.map (some M)) (.agg #[.int .i64 0, .string A]) false).run Tryz.prog ws = .ok (.int .i64 0) ws) := fun ws b => (kb1.stay (b.block M kb1.lt)).at_
            have lg : g < wb.heap.size := by have := G1.below.size; have := HC.out.size; omega
            have gB : wb.cell? ⟨g, 0, none⟩ = some (.int .i64 0) := by
              have h := (World.cell?_of_block (a := ⟨g, 0, none⟩) (Gb.heap (by have := G1.below.size; have := HC.out.size; show g < _; omega))).trans g0
              exact h
            have KG : Hid (∀ ws : World, Below wb.heap.size wb ws → ws.cell? ⟨g, 0, none⟩ = some (.int .i64 0)) := fun ws b => (World.cell?_of_block (b.block g lg)).trans gB
            have KB : Hid (∀ ws : World, Below wb.heap.size wb ws → ws.cell? ⟨B, 0, none⟩ = some (.int .i64 1)) := fun ws b => (World.cell?_of_block (b.block B (Array.getElem?_eq_some_iff.1 f0).1)).trans (cell_of_block f0 0)
            have hik : (Tryz.prog.info? HK).map (·.size) = some ([.int .i64 0, .string A] : List Value).length := by kernel_rfl
            have huk := Tryz.underlying142
            have GD : Hid (Below wb.heap.size wb wb.drew) := ((Gr.refl wb).drewN 1).below
            have HF := Lib.hid (And.intro f0 (And.intro Cb (And.intro hBm hwb2)))
            clear HC C k1 k2 G1 z1 hlt hg hM hM2 low cc q0 q1 q2 q3 hve hB hwb Gb Ga zb f0 f1 lt1 lt2 kb1 kb2 Cb hBm hwb2 g0 lg gB
            go_upto_region 16 with fail
            rw [HWB.out.1, HWB.out.2]
            go_upto_region 17 with fail
            refine wp_region_held_drew (S := fun ws => Below wb.heap.size wb ws) mixed GD.out (fun hS => ?_)
            refine wpAnyH_takeD (i := 0) (d := 63) (v := .slice (some ⟨g, 0, none⟩) 3 3) _ rfl rfl (by kernel_rfl) (by kernel_rfl) (by kernel_rfl) (fun _ _ _ h => h) (Or.inl ⟨by kernel_rfl, fun ws hSw => by first | (go_simp; done) | (go_simp; with_reducible rfl) | (go_simp; rfl)⟩) hS ?_
            simp only [Act.put, List.setIfInBounds_toArray, List.set_cons_zero, List.set_cons_succ]
            refine wpAnyH_takeD (i := 1) (d := 64) (v := .map (some M)) _ rfl rfl (by kernel_rfl) (by kernel_rfl) (by kernel_rfl) (fun _ _ _ h => h) (Or.inl ⟨by kernel_rfl, fun ws hSw => by first | (go_simp; done) | (go_simp; with_reducible rfl) | (go_simp; rfl)⟩) hS ?_
            simp only [Act.put, List.setIfInBounds_toArray, List.set_cons_zero, List.set_cons_succ]
            refine wpAnyH_takeD (i := 2) (d := 65) (v := .agg #[.int .i64 0, .string A]) _ rfl rfl (by kernel_rfl) (by kernel_rfl) (by kernel_rfl) (fun _ _ _ h => h) (yieldsIf_load_mid (by kernel_rfl) _ _ rfl (B + 1) 0 (by kernel_rfl) [.int .i64 0, .string A] _ (fun ws hSw => KL.out ws hSw) huk rfl hik) hS ?_
            simp only [Act.put, List.setIfInBounds_toArray, List.set_cons_zero, List.set_cons_succ]
            refine wpAnyH_takeD (i := 3) (d := 66) (v := .int .i64 0) _ rfl rfl (by kernel_rfl) (by kernel_rfl) (by kernel_rfl) (fun _ _ _ h => h) (Or.inl ⟨by kernel_rfl, fun ws hSw => by have q := KK.out ws hSw; first | (go_simp; done) | (go_simp; with_reducible rfl) | (go_simp; rfl)⟩) hS ?_
            simp only [Act.put, List.setIfInBounds_toArray, List.set_cons_zero, List.set_cons_succ]
            refine wpAnyH_takeD (i := 4) (d := 67) (v := .pointer (some ⟨g, 0, none⟩)) _ rfl rfl (by kernel_rfl) (by kernel_rfl) (by kernel_rfl) (fun _ _ _ h => h) (Or.inl ⟨by kernel_rfl, fun ws hSw => by first | (go_simp; done) | (go_simp; with_reducible rfl) | (go_simp; rfl)⟩) hS ?_
            simp only [Act.put, List.setIfInBounds_toArray, List.set_cons_zero, List.set_cons_succ]
            refine wpAnyH_takeD (i := 5) (d := 68) (v := .pointer (some ⟨g, 0, none⟩)) _ rfl rfl (by kernel_rfl) (by kernel_rfl) (by kernel_rfl) (fun _ _ _ h => h) (Or.inl ⟨by kernel_rfl, fun ws hSw => by first | (go_simp; done) | (go_simp; with_reducible rfl) | (go_simp; rfl)⟩) hS ?_
            simp only [Act.put, List.setIfInBounds_toArray, List.set_cons_zero, List.set_cons_succ]
            refine wpAnyH_takeD (i := 6) (d := 69) (v := .int .i64 0) _ rfl rfl (by kernel_rfl) (by kernel_rfl) (by kernel_rfl) (fun _ _ _ h => h) (Or.inl ⟨by kernel_rfl, fun ws hSw => by have q := KG.out ws hSw; first | (go_simp; done) | (go_simp; with_reducible rfl) | (go_simp; rfl)⟩) hS ?_
            simp only [Act.put, List.setIfInBounds_toArray, List.set_cons_zero, List.set_cons_succ]
            refine wpAnyH_takeD (i := 7) (d := 70) (v := .pointer (some ⟨B, 0, none⟩)) _ rfl rfl (by kernel_rfl) (by kernel_rfl) (by kernel_rfl) (fun _ _ _ h => h) (Or.inl ⟨by kernel_rfl, fun ws hSw => by first | (go_simp; done) | (go_simp; with_reducible rfl) | (go_simp; rfl)⟩) hS ?_
            simp only [Act.put, List.setIfInBounds_toArray, List.set_cons_zero, List.set_cons_succ]
            refine wpAnyH_takeD (i := 8) (d := 71) (v := .int .i64 1) _ rfl rfl (by kernel_rfl) (by kernel_rfl) (by kernel_rfl) (fun _ _ _ h => h) (Or.inl ⟨by kernel_rfl, fun ws hSw => by have q := KB.out ws hSw; first | (go_simp; done) | (go_simp; with_reducible rfl) | (go_simp; rfl)⟩) hS ?_
            simp only [Act.put, List.setIfInBounds_toArray, List.set_cons_zero, List.set_cons_succ]
            refine wpAnyH_ready (rs := [9]) (by kernel_rfl) (by simp) ?_
            refine AllReadyH.cons rfl (fun K hK => ?_) AllReadyH.nil
            go_simp
            refine (together_one _).mono ?_
            rintro e w' ⟨rfl, rfl⟩
            refine hK _ _ hS (fun hS => ?_)
            try simp only [Act.put, List.setIfInBounds_toArray, List.set_cons_zero, List.set_cons_succ]
            refine wpAnyH_takeD (i := 10) (d := 62) (v := .tuple #[.int .i64 0, .bool true]) _ rfl rfl (by kernel_rfl) (by kernel_rfl) (by kernel_rfl) (fun _ _ _ h => h) (Or.inl ⟨by kernel_rfl, fun ws hSw => by first | (go_simp; done) | (go_simp; with_reducible rfl) | (go_simp; rfl)⟩) hS ?_
            simp only [Act.put, List.setIfInBounds_toArray, List.set_cons_zero, List.set_cons_succ]
            refine wpAnyH_takeD (i := 11) (d := 73) (v := .int .i64 0) _ rfl rfl (by kernel_rfl) (by kernel_rfl) (by kernel_rfl) (fun _ _ _ h => h) (Or.inl ⟨by kernel_rfl, fun ws hSw => by first | (go_simp; done) | (go_simp; with_reducible rfl) | (go_simp; rfl)⟩) hS ?_
            simp only [Act.put, List.setIfInBounds_toArray, List.set_cons_zero, List.set_cons_succ]
            refine wpAnyH_takeD (i := 12) (d := 74) (v := .bool true) _ rfl rfl (by kernel_rfl) (by kernel_rfl) (by kernel_rfl) (fun _ _ _ h => h) (Or.inl ⟨by kernel_rfl, fun ws hSw => by first | (go_simp; done) | (go_simp; with_reducible rfl) | (go_simp; rfl)⟩) hS ?_
            simp only [Act.put, List.setIfInBounds_toArray, List.set_cons_zero, List.set_cons_succ]
            refine wpAnyH_takeD (i := 13) (d := 14) (v := .int .i64 0) _ rfl rfl (by kernel_rfl) (by kernel_rfl) (by kernel_rfl) (fun _ _ _ h => h) (Or.inl ⟨by kernel_rfl, fun ws hSw => by first | (go_simp; done) | (go_simp; with_reducible rfl) | (go_simp; rfl)⟩) hS ?_
            simp only [Act.put, List.setIfInBounds_toArray, List.set_cons_zero, List.set_cons_succ]
            refine wpAnyH_takeD (i := 14) (d := 15) (v := .bool true) _ rfl rfl (by kernel_rfl) (by kernel_rfl) (by kernel_rfl) (fun _ _ _ h => h) (Or.inl ⟨by kernel_rfl, fun ws hSw => by first | (go_simp; done) | (go_simp; with_reducible rfl) | (go_simp; rfl)⟩) hS ?_
            simp only [Act.put, List.setIfInBounds_toArray, List.set_cons_zero, List.set_cons_succ]
            refine wpAnyH_done (by kernel_rfl) ?_ _
            clear KL KK KG KB hik huk GD hS
            obtain ⟨f0, Cb, hBm, hwb2⟩ := HF.out
            obtain ⟨wc, hwc⟩ : ∃ x, x = (wb.drew).setCell ⟨B, 0, none⟩ (.int .i64 0) := ⟨_, rfl⟩
            have b0 : wc.heap[B]? = some (.cells #[.int .i64 0, .int .i64 0, .string A, .int .u64 (ve : Int)] ET (0, 0)) := by rw [hwc, block_setCell (w := wb.drew) f0]; rfl
            have Cc : Chg [] wm wc := by
              rw [hwc]
              exact (Cb.trans (Chg.ofBelow ((Gr.refl wb).drewN 1).below []) (by simp)).setCell 0 _ (.inr hBm)
            have s0 : wb.drew.cell? ⟨B, 0, none⟩ = some (.int .i64 1) := cell_of_block (w := wb.drew) f0 0
            have s1 : wb.drew.frozen? ⟨B, 0, none⟩ = false := unfrozen_of_block (w := wb.drew) f0 0
            have l0 := cell_of_block b0 0
            have l1 := cell_of_block b0 1
            have l2 := cell_of_block b0 2
            have l3 := cell_of_block b0 3
            have hzc : B < wc.heap.size := (Array.getElem?_eq_some_iff.1 b0).1
            obtain ⟨E, hE⟩ : ∃ E, E = wc.heap.size := ⟨_, rfl⟩
            obtain ⟨wd, hwd⟩ : ∃ x, x = wc.alloc (.cells #[.int .i64 0, .int .i64 0, .string A, .int .u64 (ve : Int)] ET) := ⟨_, rfl⟩
            have Gd : Gr wc wd := hwd ▸ (Gr.refl wc).alloc _
            have e0' : wd.heap[E]? = some (.cells #[.int .i64 0, .int .i64 0, .string A, .int .u64 (ve : Int)] ET (0, 0)) := by rw [hwd, hE]; exact heap_alloc_new _ _
            have news : Hid (∀ j u, (encE ⟨0, 0, A, ve⟩)[j]? = some u → wd.cell? ((⟨E, 0, none⟩ : Addr).add j) = some u) := fun j u hu => by
              rw [add_none', Nat.zero_add]
              exact (cell_of_block e0' j).trans (by rw [← hu, ← Array.getElem?_toList]; rfl)
            have own0 : Hid (wd.ownsRow wm.heap.size ET 4 (.slice none 0 0) 0 []) := World.ownsRow_nil _ _ _ _
            have HWC : Hid ((wb.setCell ⟨B, 0, none⟩ (.int .i64 0)).drew = wc ∧ wc.alloc (.cells #[.int .i64 0, .int .i64 0, .string A, .int .u64 (ve : Int)] ET) = wd ∧ wc.heap.size = E) := ⟨hwc.symm, hwd.symm, hE.symm⟩
            have hmd : wm.heap.size ≤ wd.heap.size := by have := Cc.size; have := Gd.below.size; omega
            have HD := Lib.hid (And.intro Cc Gd)
            clear f0 Cb hBm hwb2 hwc b0 Cc hE hwd Gd e0' hzc HF
            go_upto_region 20 with fail
            rw [HWC.out.1]
            go_wp2_with (first
              | (refine wpList_step fun K hK => ?_; refine step_build (by rfl) SlE ET _ rfl (.agg #[.int .i64 0, .int .i64 0, .string ⟨#[]⟩, .int .u64 0]) 4 #[.int .i64 0, .int .i64 0, .string A, .int .u64 (ve : Int)] (by rfl) rfl (by decide) (by decide) Tryz.underlying32 hzi ?_; refine hK _ _ ?_; rw [HWC.out.2.1, HWC.out.2.2])
              | (at_builtin; refine wpList_append_own_at wd rfl _ _ SlE rfl wm.heap.size ET ti _ 4 40 Tryz.underlying32 hi hz0 hz1 hz2 rfl (by decide) (.slice none 0 0) 0 [] (by rfl) own0.out ⟨E, 0, none⟩ 1 1 (encE ⟨0, 0, A, ve⟩) (by rfl) rfl news.out (oneE _) (by unfold maxLen; omega) (by omega) hmd ?_; intro v5 w5 ho5 hg5 hn5 ha5; obtain ⟨q5, c5, rfl⟩ := own_slice ho5))
            have FIN : Hid (Chg [] wm w5 ∧ w5.ownsRow wm.heap.size ET 4 (.slice q5 (0 + 1) c5) (0 + 1) (encE ⟨0, 0, A, 5⟩)) := by
              obtain ⟨Cc, Gd⟩ := HD.out
              have h5 : ve = 5 := HV.out
              refine ⟨(Cc.trans (Chg.ofBelow Gd.below []) (by simp)).trans (Chg.ofGrown hg5 (S := []) (fun k e => by simp [Value.ownBlock] at e)) (by simp), ?_⟩
              rw [h5] at ho5
              simpa using ho5
            rw [Nat.zero_add] at FIN
            clear ho5 hg5 hn5 ha5 news own0 HD HV
            go_wp2_with fail
            go_roundg (3 - (j + 1))
            case measure => omega
            case rel => exact ⟨j + 1, by push_cast; rfl, by omega, by omega, .inr ⟨by omega, q5, c5, rfl, FIN.out⟩⟩
        · have CS := Lib.hid (fun fv => sortStable_oneE q c fv wr)
          have FIN : Hid (wr.ownsRow w.heap.size ET 4 (.slice q 1 c) 1 (encE ⟨0, 0, A, 5⟩) ∧ Below w.heap.size w wr) := by
            obtain ⟨C, ho⟩ := HC.out
            obtain ⟨C0, _⟩ := H3.out
            obtain ⟨G1, _, _, z1, hlt, hg⟩ := HH.out
            obtain ⟨_, hM, hM2⟩ := HW1.out
            have b1 : Below w.heap.size w1 wm := C0.below (fun g hg => by simp at hg; omega) (G1.below.size)
            have b2 : Below w.heap.size wm wr := C.below (fun g hg => by simp at hg) (by have := C0.size; have := G1.below.size; omega)
            exact ⟨own_mono ho (by have := C0.size; have := G1.below.size; omega), (G1.below.trans b1).trans b2⟩
          clear HC H3 HH HW1
          go_wp2_with fail
          refine (CS.out _).mono ?_
          rintro e w' ⟨rfl, rfl⟩
          go_wp2
          go_ret
          exact ⟨⟨q, c, rfl, FIN.out.1⟩, FIN.out.2⟩

set_option maxHeartbeats 4000000 in
/-- The chapter's example. -/
theorem watch_lives (w : World) : Calls Tryz.prog 12 #[] w fun e w' => e = .returned (.bool true) ∧ Below w.heap.size w w' := by
  have mixed : Tryz.prog.follows .mixedOrders = true := by kernel_rfl
  obtain ⟨g, hg⟩ : ∃ g, g = w.heap.size := ⟨_, rfl⟩
  obtain ⟨A, hA⟩ : ∃ A : ByteArray, A = ⟨#[97]⟩ := ⟨_, rfl⟩
  obtain ⟨w1, hw1⟩ : ∃ x, x = w.alloc (.cells #[.int .i64 0, .int .i64 0, .string ⟨#[97]⟩, .int .u64 1, .int .i64 1, .int .i64 0, .string ⟨#[97]⟩, .int .u64 2, .int .i64 1, .int .i64 0, .string ⟨#[97]⟩, .int .u64 5] ET) := ⟨_, rfl⟩
  have G1 : Gr w w1 := hw1 ▸ (Gr.refl w).alloc _
  have b1 : w1.heap[g]? = some (.cells #[.int .i64 0, .int .i64 0, .string A, .int .u64 1, .int .i64 1, .int .i64 0, .string A, .int .u64 2, .int .i64 1, .int .i64 0, .string A, .int .u64 5] ET (0, 0)) := by rw [hw1, hg, hA]; exact heap_alloc_new w _
  have CF := Lib.hid (folded_abc w1 g A (by rw [hA]; decide) (Array.getElem?_eq_some_iff.1 b1).1 (fun j hj => by
    rcases (show j = 0 ∨ j = 1 ∨ j = 2 by omega) with rfl | rfl | rfl
    · exact ⟨cell_of_block b1 0, cell_of_block b1 1, cell_of_block b1 2, cell_of_block b1 3⟩
    · exact ⟨cell_of_block b1 4, cell_of_block b1 5, cell_of_block b1 6, cell_of_block b1 7⟩
    · exact ⟨cell_of_block b1 8, cell_of_block b1 9, cell_of_block b1 10, cell_of_block b1 11⟩))
  have HW : Hid (w.alloc (.cells #[.int .i64 0, .int .i64 0, .string ⟨#[97]⟩, .int .u64 1, .int .i64 1, .int .i64 0, .string ⟨#[97]⟩, .int .u64 2, .int .i64 1, .int .i64 0, .string ⟨#[97]⟩, .int .u64 5] ET) = w1 ∧ w.heap.size = g) := ⟨hw1.symm, hg.symm⟩
  have HA := Lib.hid hA
  have HG := Lib.hid G1
  clear hg hw1 G1 b1 hA
  go_enter Tryz.func12, Tryz.ntmps12
  go_wp2_with fail
  rw [HW.out.1, HW.out.2]
  refine CF.out.mono ?_
  rintro e w2 ⟨⟨q, c, rfl, own⟩, b2⟩
  obtain ⟨h, cap, cur, hq, hh⟩ : ∃ (h cap : Nat) (cur : Array Value), Value.slice q 1 c = .slice (some ⟨h, 0, none⟩) 1 cap ∧ w2.heap[h]? = some (.cells cur ET (0, 0)) := by
    rcases own.2 with ⟨_, h0⟩ | ⟨h, cap, cur, e1, e2, e3, _⟩
    · omega
    · exact ⟨h, cap, cur, e1, e3⟩
  cases hq
  have e0 : w2.cell? ⟨h, 0, none⟩ = some (.int .i64 0) := own.cells (g := h) rfl 0 _ rfl
  have e1 : w2.cell? ⟨h, 1, none⟩ = some (.int .i64 0) := own.cells (g := h) rfl 1 _ rfl
  have e2 : w2.cell? ⟨h, 2, none⟩ = some (.string ⟨#[97]⟩) := by have := own.cells (g := h) rfl 2 _ rfl; rw [HA.out] at this; exact this
  have e3 : w2.cell? ⟨h, 3, none⟩ = some (.int .u64 5) := own.cells (g := h) rfl 3 _ rfl
  have FIN : Hid (Below w.heap.size w w2) := HG.out.below.trans (b2.mono HG.out.below.size)
  clear own b2 hh CF HG
  go_wp2
  go_ret
  exact ⟨rfl, FIN.out⟩
end Go.Proofs.YtbagicilmmkdhaaGreat
/- Steps that came in. -/
namespace Go.Proofs.YtbagicilmmkdhaaGreat
open Go.ChangeShapes Go.WideShapes Go.ChangeAt Go.RowKit Go.Lib Go.Shelf Go.Sort Go.Deep
open Go.Joins (cell_of_block unfrozen_of_block block_setCell)
set_option linter.unusedVariables false
set_option linter.unusedSimpArgs false
set_option maxRecDepth 20000

abbrev StpT : TypeId := 72
abbrev Stv := Int × Acv
instance : Inhabited Stv := ⟨⟨0, default⟩⟩
def encSt (x : Stv) : List Value := .int .i64 x.1 :: encA x.2
def cellsSt (x : Stv) : Array Value := (encSt x).toArray
theorem lenSt (x : Stv) : (encSt x).length = 50 := by
  unfold encSt encA
  rw [List.length_cons, Array.length_toList, sizeA]
theorem sizeSt (x : Stv) : (cellsSt x).size = 50 := lenSt x
theorem cellsSt_0 (x : Stv) : (cellsSt x)[0]? = some (.int .i64 x.1) := rfl
theorem cellsSt_at (x : Stv) (j : Nat) : (cellsSt x)[1 + j]? = (cellsA x.2)[j]? := by
  unfold cellsSt encSt encA
  rw [List.getElem?_toArray, show 1 + j = j + 1 by omega, List.getElem?_cons_succ, Array.getElem?_toList]
theorem oneSt (x : Stv) : (cellsSt x).all (·.oneCell') = true := by
  have h := oneA x.2
  rw [Array.all_eq_true'] at h
  rw [Array.all_eq_true']
  intro v hv
  unfold cellsSt encSt at hv
  simp only [List.mem_toArray, List.mem_cons] at hv
  rcases hv with rfl | hv
  · rfl
  · exact h v (by unfold encA at hv; exact Array.mem_toList_iff.1 hv)
/-- What a step's object is. -/
def okS (W : World) (x : Stv) : Prop := okA W x.2 ∧ I64 x.2.2.2.2.kind
theorem okS.below {W w : World} {x : Stv} (h : okS W x) (b : Below W.heap.size W w) : okS w x := ⟨⟨h.1.1.below b, h.1.2.1, h.1.2.2⟩, h.2⟩
theorem open_step {H : Type} {enc : TypeId × Value → H} {W : World} {n : Nat} {cs : List Value} {y : DataW H × List MemPlace} (h : DataW.trod enc Tryz.prog W 0 (fun _ => true) true n StpT cs = some y) (wt : Wt StpT y.1) :
    ∃ x : Stv, (∀ (t : Nat) (v : Value), (encSt x)[t]? = some v → cs[t]? = some v) ∧ okS W x := by
  obtain ⟨_, _, t0, z0⟩ := fld (F := 3) (off := 0) (k := 1) 0 Tryz.underlying72 (by kernel_rfl) h wt
  obtain ⟨kd, a0, _⟩ := leaf_i Tryz.underlying3 t0
  obtain ⟨n1, y1, t1, z1⟩ := fld (F := 58) (off := 1) (k := 49) 1 Tryz.underlying72 (by kernel_rfl) h wt
  obtain ⟨x, hx, hok⟩ := open_act t1 z1
  obtain ⟨n2, y2, t2, z2⟩ := fld (F := 56) (off := 1) (k := 47) 1 Tryz.underlying58 (by kernel_rfl) t1 z1
  obtain ⟨_, _, t3, z3⟩ := fld (F := 3) (off := 0) (k := 1) 0 Tryz.underlying56 (by kernel_rfl) t2 z2
  obtain ⟨ok, a3, w3⟩ := leaf_i Tryz.underlying3 t3
  have hl : ∀ (t : Nat) (v : Value), (encA x)[t]? = some v → cs[1 + t]? = some v := fun t v hv => by
    have h1 := hx t v hv
    have ht : t < 49 := by
      have := (List.getElem?_eq_some_iff.1 hv).1
      rwa [encA, Array.length_toList, sizeA] at this
    rwa [sub_take ht] at h1
  refine ⟨(kd, x), fun t v hv => ?_, hok, ?_⟩
  · unfold encSt at hv
    cases t with
    | zero => simp only [List.getElem?_cons_zero, Option.some.injEq] at hv; rw [← hv]; exact a0
    | succ t =>
      rw [List.getElem?_cons_succ] at hv
      have := hl t v hv
      rwa [show 1 + t = t + 1 by omega] at this
  · have e1 : (encA x)[1]? = some (.int .i64 x.2.2.2.kind) := by
      unfold encA
      rw [Array.getElem?_toList]
      unfold cellsA
      have := acC_at x.1 x.2.1.1 x.2.2.1 0 (by have := hok.1.1; omega)
      exact this.trans hok.1.2.1.1
    have e2 := hx 1 _ e1
    rw [sub_take (by omega), Nat.add_zero] at a3
    rw [e2] at a3
    injection a3 with a3
    injection a3 with _ a3
    rw [a3]
    exact w3
theorem open_steps {H : Type} {enc : TypeId × Value → H} {W : World} {base : Nat} {v : Value} {d : DataW H} {p : List MemPlace} (ok : Value.okWide Tryz.prog W .any base 68 v)
    (h : DataW.Trod enc Tryz.prog W 0 (fun _ => true) true 68 v d p) (wt : Wt 68 d) : ∃ q c l, v = .slice q l.length c ∧ RowR 50 encSt W q l ∧ (∀ x ∈ l, okS W x) ∧ l.length ≤ 140737488351232 := by
  obtain ⟨a0, len, cap, rfl⟩ := okWide_slice Tryz.underlying68 ok
  obtain ⟨fuel, hf⟩ := h
  have hf : DataW.trod enc Tryz.prog W 0 (fun _ => true) true fuel 68 (([Value.slice a0 len cap].drop 0).take 1) = some (d, p) := hf
  obtain ⟨l, ⟨q, c, h1, h2⟩, h3, h4⟩ := open_rowG (k := 50) encSt (okS W) Tryz.underlying68 (by kernel_rfl) (by decide) (of_decide_eq_true (by kernel_rfl)) (fun n cs y h wt => open_step h wt) hf wt
  simp at h1
  obtain ⟨rfl, rfl, rfl⟩ := h1
  exact ⟨a0, cap, l, rfl, h2, h3, h4⟩
theorem open_ints {H : Type} {enc : TypeId × Value → H} {W : World} {base : Nat} {v : Value} {d : DataW H} {p : List MemPlace} (ok : Value.okWide Tryz.prog W .any base 67 v)
    (h : DataW.Trod enc Tryz.prog W 0 (fun _ => true) true 67 v d p) (wt : Wt 67 d) : ∃ q c l, v = .slice q l.length c ∧ Ints W q l := by
  obtain ⟨a0, len, cap, rfl⟩ := okWide_slice Tryz.underlying67 ok
  obtain ⟨fuel, hf⟩ := h
  have hf : DataW.trod enc Tryz.prog W 0 (fun _ => true) true fuel 67 (([Value.slice a0 len cap].drop 0).take 1) = some (d, p) := hf
  obtain ⟨l, ⟨q, c, h1, h2⟩, h3, h4⟩ := open_rowG (k := 1) encI (fun _ => True) Tryz.underlying67 (by kernel_rfl) (by decide) (of_decide_eq_true (by kernel_rfl)) (fun n cs y h wt => by
    obtain ⟨z, hz, _⟩ := DataW.trod_int Tryz.underlying3 h
    exact ⟨z, fun t v hv => by
      rw [hz]
      exact hv, trivial⟩) hf wt
  simp at h1
  obtain ⟨rfl, rfl, rfl⟩ := h1
  exact ⟨a0, cap, l, rfl, h2, h4⟩
/-- A row of steps that came in. -/
structure Steps (W : World) (q : Option Addr) (l : List Stv) : Prop where
  row : RowR 50 encSt W q l
  ok : ∀ x ∈ l, okS W x
  len : l.length ≤ 140737488351232
theorem info_stp : (Tryz.prog.info? StpT).map (·.size) = some 50 := by kernel_rfl
theorem load_stp {w : World} {g o : Nat} {x : Stv} (h : w.rangeAt g o (encSt x)) : (Instr.loadAt StpT (.pointer (some ⟨g, o, none⟩))).run Tryz.prog w = .ok (.agg (cellsSt x)) w :=
  run_loadAt_mid (P := Tryz.prog) w g o StpT (encSt x) _ h Tryz.underlying72 rfl (by rw [lenSt]; exact info_stp)
theorem Steps.at {W : World} {q : Option Addr} {l : List Stv} (h : Steps W q l) {j : Nat} (hj : j < l.length) : ∃ x b off, l[j]? = some x ∧ q = some ⟨b, off, none⟩ ∧ okS W x ∧ (∀ w, Below W.heap.size W w → (Instr.loadAt StpT (.pointer (some ⟨b, off + j * 50, none⟩))).run Tryz.prog w = .ok (.agg (cellsSt x)) w) := by
  obtain ⟨x, hx⟩ : ∃ x, l[j]? = some x := ⟨l[j], List.getElem?_eq_getElem hj⟩
  obtain ⟨b, off, rfl, h1, h2⟩ := h.row j x hx
  exact ⟨x, b, off, hx, rfl, h.ok x (List.mem_of_getElem? hx), fun w g => load_stp (rangeAt_below (fun t v hv => h2 t v hv) g h1)⟩
end Go.Proofs.YtbagicilmmkdhaaGreat
/- A run of the law: its store, its watch, its result's cell, the marks of its loops. -/
namespace Go.Proofs.YtbagicilmmkdhaaGreat
open Go.RowKit Go.Shelf Go.Lib Go.Sort
open Go.Joins (cell_of_block unfrozen_of_block block_setCell)
set_option linter.unusedVariables false
set_option linter.unusedSimpArgs false
set_option maxRecDepth 20000

structure LedAt (N sp wp : Nat) (f : Nat → Bool) (w0 w : World) (S : List Nat) (l : List Ob) (hist : List Ev) (j pl : Nat) (Ds : List Nat) : Prop where
  wat : Wat N w S sp wp 50 f pl l hist
  pl_ : pl ≤ hist.length
  few : hist.length ≤ j ∧ l.length ≤ j
  kd : ∀ e ∈ hist, KdOk e
  res : ∃ b, w.heap[N]? = some (.cells #[.bool b] 4 (0, 0))
  nn : N ∉ S ∧ N ≠ wp
  low : Below N w0 w
  ap : Ds.Pairwise (· ≠ ·)
  mks : ∀ D ∈ Ds, N < D ∧ D ≠ wp ∧ D ∉ S ∧ w.heap[D]? = some (.deferred (some []))
variable {N sp wp : Nat} {f : Nat → Bool} {w0 w w' : World} {S : List Nat} {l : List Ob} {hist : List Ev} {j pl : Nat} {Ds : List Nat}
theorem LedAt.chg {T : List Nat} (h : LedAt N sp wp f w0 w S l hist j pl Ds) (c : Chg T w w') (hT : ∀ g ∈ T, g ∉ S ∧ g ≠ wp ∧ g ≠ N ∧ g ∉ Ds ∧ N ≤ g ∧ (g < w.heap.size → ¬ Prot N w g)) : LedAt N sp wp f w0 w' S l hist j pl Ds := by
  have hw := (Array.getElem?_eq_some_iff.1 h.wat.blk).1
  obtain ⟨b, hb⟩ := h.res
  have hn := (Array.getElem?_eq_some_iff.1 hb).1
  refine ⟨⟨h.wat.st.chg c (fun g hg hm => (hT g hm).1 hg) (fun g hg => (hT g hg).2.2.2.2.2), (c.block wp hw (fun hm => (hT wp hm).2.1 rfl)).trans h.wat.blk, h.wat.nm, h.wat.lo⟩, h.pl_, h.few, h.kd, ⟨b, (c.block N hn (fun hm => (hT N hm).2.2.1 rfl)).trans hb⟩, h.nn, h.low.trans (c.below (fun g hg => (hT g hg).2.2.2.2.1) (by omega)), h.ap, fun D hD => ?_⟩
  obtain ⟨h1, h2, h3, h4⟩ := h.mks D hD
  exact ⟨h1, h2, h3, (c.block D (Array.getElem?_eq_some_iff.1 h4).1 (fun hm => (hT D hm).2.2.2.1 hD)).trans h4⟩
theorem LedAt.stay {T : List Nat} (h : LedAt N sp wp f w0 w S l hist j pl Ds) (c : Chg T w w') (hf : Fx N w w') (hT : ∀ g ∈ T, g ∉ S ∧ g ≠ wp ∧ g ≠ N ∧ g ∉ Ds ∧ N ≤ g) : LedAt N sp wp f w0 w' S l hist j pl Ds := by
  have hw := (Array.getElem?_eq_some_iff.1 h.wat.blk).1
  obtain ⟨b, hb⟩ := h.res
  have hn := (Array.getElem?_eq_some_iff.1 hb).1
  refine ⟨⟨h.wat.st.stay (fun g hg => c.block g (h.wat.st.prot g hg).2.1 (fun hm => (hT g hm).1 hg)) hf, (c.block wp hw (fun hm => (hT wp hm).2.1 rfl)).trans h.wat.blk, h.wat.nm, h.wat.lo⟩, h.pl_, h.few, h.kd, ⟨b, (c.block N hn (fun hm => (hT N hm).2.2.1 rfl)).trans hb⟩, h.nn, h.low.trans (c.below (fun g hg => (hT g hg).2.2.2.2) (by omega)), h.ap, fun D hD => ?_⟩
  obtain ⟨h1, h2, h3, h4⟩ := h.mks D hD
  exact ⟨h1, h2, h3, (c.block D (Array.getElem?_eq_some_iff.1 h4).1 (fun hm => (hT D hm).2.2.2.1 hD)).trans h4⟩
theorem LedAt.gr (h : LedAt N sp wp f w0 w S l hist j pl Ds) (b : Below w.heap.size w w') : LedAt N sp wp f w0 w' S l hist j pl Ds :=
  h.chg (Chg.ofBelow b []) (fun g hg => by cases hg)
theorem LedAt.turn (h : LedAt N sp wp f w0 w S l hist j pl Ds) (c : Chg [wp] w w') {p : Nat} (hb : w'.heap[wp]? = some (.cells (waC sp f p) WaT (0, 0))) (hp : p ≤ hist.length) : LedAt N sp wp f w0 w' S l hist j p Ds := by
  have hw := (Array.getElem?_eq_some_iff.1 h.wat.blk).1
  obtain ⟨b, hr⟩ := h.res
  have hn := (Array.getElem?_eq_some_iff.1 hr).1
  refine ⟨⟨h.wat.st.chg c (fun g hg hm => ?_) (fun g hg _ => ?_), hb, h.wat.nm, h.wat.lo⟩, hp, h.few, h.kd, ⟨b, (c.block N hn (by simp; exact h.nn.2)).trans hr⟩, h.nn, h.low.trans (c.below (fun g hg => ?_) (by omega)), h.ap, fun D hD => ?_⟩
  · rw [List.mem_singleton] at hm
    subst hm
    exact h.wat.nm hg
  · rw [List.mem_singleton] at hg
    subst hg
    exact (cells_prot h.wat.blk h.wat.lo rfl).2.2
  · rw [List.mem_singleton] at hg
    subst hg
    exact h.wat.lo
  · obtain ⟨h1, h2, h3, h4⟩ := h.mks D hD
    exact ⟨h1, h2, h3, (c.block D (Array.getElem?_eq_some_iff.1 h4).1 (by simp; exact h2)).trans h4⟩
theorem LedAt.up (h : LedAt N sp wp f w0 w S l hist j pl Ds) : LedAt N sp wp f w0 w S l hist (j + 1) pl Ds :=
  ⟨h.wat, h.pl_, ⟨by have := h.few.1; omega, by have := h.few.2; omega⟩, h.kd, h.res, h.nn, h.low, h.ap, h.mks⟩
theorem LedAt.did (h : LedAt N sp wp f w0 w S l hist j pl Ds) (d : Did N w w' S sp 50 l hist) : ∃ S' l' hist', LedAt N sp wp f w0 w' S' l' hist' (j + 1) pl Ds := by
  obtain ⟨l', hist', ⟨S', st, c, hS⟩, hl, hh⟩ := d
  have hw := (Array.getElem?_eq_some_iff.1 h.wat.blk).1
  obtain ⟨b, hr⟩ := h.res
  have hn := (Array.getElem?_eq_some_iff.1 hr).1
  have hp := h.wat.st.prot
  have hlen : hist.length ≤ hist'.length ∧ hist'.length ≤ hist.length + 1 := by
    rcases hh with rfl | ⟨e, _, rfl⟩
    · omega
    · simp
  refine ⟨S', l', hist', ⟨st, (c.block wp hw h.wat.nm).trans h.wat.blk, fun hm => ?_, h.wat.lo⟩, by have := h.pl_; omega, ⟨by have := h.few.1; omega, by have := h.few.2; omega⟩, fun e he => ?_, ⟨b, (c.block N hn h.nn.1).trans hr⟩, ⟨fun hm => ?_, h.nn.2⟩, h.low.trans (c.below (fun g hg => (hp g hg).1) (by omega)), h.ap, fun D hD => ?_⟩
  · rcases hS wp hm with h1 | h1
    · exact h.wat.nm h1
    · omega
  · rcases hh with rfl | ⟨e', he', rfl⟩
    · exact h.kd e he
    · rcases List.mem_append.1 he with he | he
      · exact h.kd e he
      · rw [List.mem_singleton] at he
        rw [he]; exact he'
  · rcases hS N hm with h1 | h1
    · exact h.nn.1 h1
    · omega
  · obtain ⟨h1, h2, h3, h4⟩ := h.mks D hD
    have hd := (Array.getElem?_eq_some_iff.1 h4).1
    refine ⟨h1, h2, fun hm => ?_, (c.block D hd h3).trans h4⟩
    rcases hS D hm with h5 | h5
    · exact h3 h5
    · omega
theorem LedAt.mark (h : LedAt N sp wp f w0 w S l hist j pl Ds) {D B : Nat} (hB : ∀ g ∈ S, g < B) (hw : wp < B) (hN : N < B) (hd : ∀ D' ∈ Ds, D' < B) (hD : B ≤ D) (hm : w.heap[D]? = some (.deferred (some []))) : LedAt N sp wp f w0 w S l hist j pl (D :: Ds) := by
  refine ⟨h.wat, h.pl_, h.few, h.kd, h.res, h.nn, h.low, List.pairwise_cons.2 ⟨fun D' hD' e => by have := hd D' hD'; omega, h.ap⟩, fun D' hD' => ?_⟩
  rcases List.mem_cons.1 hD' with rfl | hD'
  · exact ⟨by omega, by omega, fun hg => by have := hB _ hg; omega, hm⟩
  · exact h.mks D' hD'
/-- The place of a kept element among those kept. -/
theorem filter_at {α : Type} (p : α → Bool) {l : List α} {i : Nat} {x : α} (h : l[i]? = some x) (hp : p x = true) : (l.filter p)[((l.take i).filter p).length]? = some x := by
  have hl := (List.getElem?_eq_some_iff.1 h)
  have e : l = l.take i ++ x :: l.drop (i + 1) := by
    have h2 := hl.2
    rw [← h2, ← List.drop_eq_getElem_cons hl.1, List.take_append_drop]
  have : l.filter p = (l.take i).filter p ++ x :: (l.drop (i + 1)).filter p := by
    conv => lhs; rw [e]
    rw [List.filter_append, List.filter_cons, if_pos hp]
  rw [this, List.getElem?_append_right (Nat.le_refl _), Nat.sub_self]
  rfl
theorem store_stp {w : World} {g : Nat} {Z D : Array Value} (hg : w.heap[g]? = some (.cells Z StpT (0, 0))) (hz : Z.size = 50) (hd : D.size = 50) :
    w.there g 0 D.size ∧ (w.setCells g 0 D.toList).heap[g]? = some (.cells D StpT (0, 0)) ∧ Chg [g] w (w.setCells g 0 D.toList) := by
  have c : Chg [g] w (w.setCells g 0 D.toList) := by
    obtain ⟨r1, r2, r3⟩ := setCells_rest D.toList w g 0
    exact ⟨r1, r2, r3, by rw [setCells_size]; exact Nat.le_refl _, fun k _ hk => setCells_out _ _ _ _ _ (by simpa using hk)⟩
  refine ⟨?_, ?_, c⟩
  · intro j hj
    rw [Nat.zero_add, cell_of_block hg, unfrozen_of_block hg]
    refine ⟨?_, rfl⟩
    rw [Array.getElem?_eq_getElem (by omega)]
    rfl
  · rw [setCells_block _ _ _ _ _ _ _ hg, setAt_full (by omega)]
abbrev zerSt : Array Value := #[.int .i64 0, .int .i64 0, .int .i64 0, .string { data := #[] }, .int .u64 0, .int .i64 0, .int .i64 0, .int .i64 0, .slice none 0 0, .slice none 0 0, .slice none 0 0, .int .i64 0, .string { data := #[] }, .string { data := #[] }, .int .i64 0, .int .i64 0, .int .i64 0, .int .i64 0, .slice none 0 0, .slice none 0 0, .slice none 0 0, .int .i64 0, .string { data := #[] }, .int .i64 0, .int .i64 0, .slice none 0 0, .slice none 0 0, .int .i64 0, .bool false, .int .i64 0, .int .i64 0, .int .i64 0, .int .i64 0, .int .i64 0, .slice none 0 0, .slice none 0 0, .int .i64 0, .string { data := #[] }, .int .i64 0, .int .i64 0, .slice none 0 0, .int .i64 0, .int .i64 0, .int .i64 0, .slice none 0 0, .int .i64 0, .int .i64 0, .slice none 0 0, .slice none 0 0, .bool false]
theorem stp_new (wr : World) (X : Array Value) (hX : X.size = 50) : (wr.alloc (.cells zerSt StpT)).there wr.heap.size 0 X.size ∧ ((wr.alloc (.cells zerSt StpT)).setCells wr.heap.size 0 X.toList).heap[wr.heap.size]? = some (.cells X StpT (0, 0)) ∧ Below wr.heap.size wr ((wr.alloc (.cells zerSt StpT)).setCells wr.heap.size 0 X.toList) := by
  have z0 : (wr.alloc (.cells zerSt StpT)).heap[wr.heap.size]? = some (.cells zerSt StpT (0, 0)) := heap_alloc_new wr _
  obtain ⟨th, n0, c1⟩ := store_stp z0 rfl hX
  refine ⟨th, n0, ?_⟩
  have g : Gr wr (wr.alloc (.cells zerSt StpT)) := (Gr.refl wr).alloc _
  exact ((Xb.ofGr g wr.heap.size).trans ⟨c1.os, c1.tape, c1.output, c1.size, fun k hk hne => c1.block k hk (by simpa using hne)⟩).below (Nat.le_refl _) (Nat.le_refl _)
theorem stp_facts {w : World} {A : Nat} {x : Stv} (h : w.heap[A]? = some (.cells (cellsSt x) StpT (0, 0))) : w.cell? ⟨A, 0, none⟩ = some (.int .i64 x.1) ∧ w.rangeAt A 1 (encA x.2) ∧ w.rangeAt A 2 x.2.2.1.1.toList ∧ w.cell? ⟨A, 3, none⟩ = x.2.2.1.1[1]? := by
  have hc : ∀ t, w.cell? ⟨A, 1 + t, none⟩ = (cellsA x.2)[t]? := fun t => (cell_of_block h (1 + t)).trans (cellsSt_at x t)
  have ho : ∀ t, t < 47 → w.cell? ⟨A, 2 + t, none⟩ = x.2.2.1.1[t]? := fun t ht => by
    rw [show 2 + t = 1 + (1 + t) by omega, hc]
    exact acC_at _ _ _ _ (by rw [x.2.2.1.2.1]; exact ht)
  refine ⟨(cell_of_block h 0).trans (cellsSt_0 x), fun t v hv => ?_, fun t v hv => ?_, ho 1 (by omega)⟩
  · rw [hc]
    unfold encA at hv
    rwa [Array.getElem?_toList] at hv
  · rw [Array.getElem?_toList] at hv
    rw [ho t (by have := (Array.getElem?_eq_some_iff.1 hv).1; rw [x.2.2.1.2.1] at this; exact this)]
    exact hv
theorem LedAt.act (hN : w0.heap.size = N) (h : LedAt N sp wp f w0 w S l hist j pl Ds) (hj : j ≤ 1000) (x : Stv) (hx : okS w0 x) (hf : fewB x.2.2.2.2 = true) :
    Calls Tryz.prog 21 #[.pointer (some ⟨sp, 0, none⟩), .agg (cellsA x.2)] w fun e w' => e = .returned (.tuple #[]) ∧ ∃ S' l' hist', LedAt N sp wp f w0 w' S' l' hist' (j + 1) pl Ds := by
  have hfx : Fx N w0 w := ⟨h.low.os, h.low.tape, h.low.output, h.low.size, fun g hg _ => h.low.block g (by omega)⟩
  have hc : Kept N w x.2.2.1.1 x.2.2.2.2 := kept_arg hx.1.1 hN hfx hx.1.2.1 (tiny_few hf) hx.1.2.2
  refine (act_any N w S sp 50 l hist x.2.1 x.2.2.1.1 x.2.2.2.1 x.2.2.2.2 h.wat.st hc hx.2 (by have := h.few.1; omega)).mono ?_
  rintro e w' ⟨he, hd⟩
  exact ⟨he, h.did hd⟩
/-- A piece that doesn't leave but at its end. -/
theorem wp_calm {P : Program} {c : Code} {K : Act → World → Prop} {Q : Exit → Act → World → Prop} {a : Act} {w : World} (h : c.wp P (Exit.then K (fun _ _ _ => False)) a w) : c.wp P (Exit.then K Q) a w :=
  Code.wp_mono (fun e a' w' q => by
    cases e with
    | normal => exact q
    | _ => exact q.elim) h
end Go.Proofs.YtbagicilmmkdhaaGreat
/- The law's range over the objects of a kind, held against what Again told. -/
namespace Go.Proofs.YtbagicilmmkdhaaGreat
open Go.RowKit Go.Shelf Go.Lib Go.Sort
open Go.Joins (cell_of_block unfrozen_of_block block_setCell)
set_option linter.unusedVariables false
set_option linter.unusedSimpArgs false
set_option maxRecDepth 20000

theorem aga_pre (f : Nat → Bool) (l : List Ob) : ∀ (n i : Nat) (t : Nat) (o : Ob), (aga f l i)[t]? = some o → (aga f l (i + n))[t]? = some o
  | 0, i, t, o, h => h
  | n + 1, i, t, o, h => by
    have h1 := aga_pre f l n i t o h
    show (aga f l ((i + n) + 1))[t]? = some o
    rw [aga, List.getElem?_append_left (List.getElem?_eq_some_iff.1 h1).1]
    exact h1
theorem aga_at (f : Nat → Bool) (l : List Ob) {k p : Nat} {o : Ob} (hk : k < 5) (hf : f k = true) (h : (listed (k : Int) l)[p]? = some o) : (aga f l 5)[(aga f l k).length + p]? = some o := by
  have h1 : (aga f l (k + 1))[(aga f l k).length + p]? = some o := by
    rw [aga, if_pos hf, List.getElem?_append_right (by omega), Nat.add_sub_cancel_left]
    exact h
  have := aga_pre f l (5 - (k + 1)) (k + 1) _ o h1
  rwa [show k + 1 + (5 - (k + 1)) = 5 by omega] at this

/-- What stands while the objects of a kind are gone through. -/
structure KindI (N sp wp : Nat) (f : Nat → Bool) (w0 : World) (S : List Nat) (l : List Ob) (hist : List Ev) (j v : Nat) (Es : List Nat) (w6 : World) (Kc n : Nat) (L : List Ob) (pre : List Co) (W : World) : Prop where
  chg : Chg [Kc] w6 W
  cnt : W.heap[Kc]? = some (.cells #[.int .i64 ((n + pre.length : Nat) : Int)] 3 (0, 0))
  led : LedAt N sp wp f w0 W S l hist j v Es
  pre_ : pre.map (·.1.2) = L.take pre.length
theorem kind_bears {N sp wp : Nat} {f : Nat → Bool} {w0 : World} {S : List Nat} {l : List Ob} {hist : List Ev} {j v : Nat} {Es : List Nat} {w6 : World} {Kc n : Nat} {L : List Ob} {B : Nat} (h6 : w6.heap.size ≤ B) (hS : ∀ g ∈ S, g < B) (hw : wp < B) (hN : N < B) (hE : ∀ D ∈ Es, D < B) (hK : Kc < B) :
    Bears B (KindI N sp wp f w0 S l hist j v Es w6 Kc n L) := by
  rintro pre V V' T ⟨h1, h2, h3, h4⟩ c hT
  refine ⟨h1.trans c (fun g hg => .inr (by have := (hT g hg).1; omega)), (c.block Kc (Array.getElem?_eq_some_iff.1 h2).1 (fun hm => by have := (hT Kc hm).1; omega)).trans h2, h3.chg c (fun g hg => ?_), h4⟩
  obtain ⟨hb, o, ho, hc⟩ := hT g hg
  refine ⟨fun hm => by have := hS g hm; omega, by omega, by omega, fun hm => by have := hE g hm; omega, by omega, fun _ hp => ?_⟩
  rcases hp with hp | ⟨cs, T', fz, h6, _⟩
  · omega
  · exact noCells ho hc h6
end Go.Proofs.YtbagicilmmkdhaaGreat
