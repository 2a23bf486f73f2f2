/- Kinds: rows of numbers; a watch made. -/
import Derived.Test.YtbagicilmmkdhaaStA
namespace Go.Proofs.Ytbagicilmmkdhaa
open Go.RowKit Go.Shelf Go.Lib Go.Sort
open Go.Joins (cell_of_block unfrozen_of_block block_setCell)
set_option linter.unusedVariables false
set_option linter.unusedSimpArgs false
set_option maxRecDepth 20000

def encI (k : Int) : List Value := [.int .i64 k]
/-- A row of numbers that came in. -/
structure Ints (W : World) (q : Option Addr) (ks : List Int) : Prop where
  row : RowR 1 encI W q ks
  len : ks.length ≤ 140737488351232
theorem Ints.below {W w : World} {q : Option Addr} {ks : List Int} (h : Ints W q ks) (b : Below W.heap.size W w) : Ints w q ks := ⟨h.row.below b, h.len⟩
theorem Ints.nil (W : World) (q : Option Addr) : Ints W q [] := ⟨RowR.nil _ _ _ _, by simp⟩
theorem Ints.at {W : World} {q : Option Addr} {ks : List Int} (h : Ints W q ks) {j : Nat} {x : Int} (hx : ks[j]? = some x) : ∃ b off, q = some ⟨b, off, none⟩ ∧ b < W.heap.size ∧ W.cell? ⟨b, off + j, none⟩ = some (.int .i64 x) := by
  obtain ⟨b, off, e, h1, h2⟩ := h.row j x hx
  exact ⟨b, off, e, h1, by have := h2 0 _ rfl; rwa [Nat.mul_one, Nat.add_zero] at this⟩
/-- Does a watch of these kinds look for that kind? -/
def sees (ks : List Int) (k : Int) : Bool := ks.isEmpty || ks.contains k

set_option maxHeartbeats 2000000 in
theorem ints_index (w : World) (q : Option Addr) (c : Nat) (ks : List Int) (h : Ints w q ks) (k : Int) :
    Calls Try.prog 65 #[.slice q ks.length c, .int .i64 k] w fun e w' => (∃ r, e = .returned (.int .i64 r) ∧ decide (0 ≤ r) = ks.contains k) ∧ w' = w := by
  obtain ⟨n, hn⟩ : ∃ n, n = ks.length := ⟨_, rfl⟩
  rw [← hn]
  have hl := h.len
  have H := Lib.hid (And.intro h hn)
  clear h
  rw [← hn] at hl
  clear hn
  go_enter Try.func65, Try.ntmps65
  go_wp2_with fail
  go_loopg [8] n (fun gg vi wr => ∃ j : Nat, vi = .int .i64 (j : Int) ∧ j ≤ n ∧ n - j ≤ gg ∧ wr = w ∧ Hid (∀ i x, i < j → ks[i]? = some x → x ≠ k))
  case atStart => exact ⟨0, rfl, by omega, by omega, rfl, fun i x hi => by omega⟩
  case round =>
    obtain ⟨j, rfl, h1, h2, rfl, HN⟩ := hrel
    by_cases hj : j < n
    · obtain ⟨h, hn⟩ := H.out
      obtain ⟨x, hx⟩ : ∃ x, ks[j]? = some x := ⟨ks[j]'(by omega), List.getElem?_eq_getElem (by omega)⟩
      obtain ⟨b, off, rfl, hb, hc⟩ := h.at hx
      clear h hn
      by_cases he : x = k
      · have FIN : Hid (decide (0 ≤ (j : Int)) = ks.contains k) := by
          rw [decide_eq_true (by omega)]
          exact (List.contains_iff_mem.2 (he ▸ List.mem_of_getElem? hx)).symm
        have t : (k == x) = true := by rw [he]; exact beq_self_eq_true k
        clear hx he
        go_wp2
        go_ret
        exact ⟨⟨_, rfl, FIN.out⟩, rfl⟩
      · have NX : Hid (∀ i y, i < j + 1 → ks[i]? = some y → y ≠ k) := fun i y hi hy => by
          by_cases e : i = j
          · rw [e, hx] at hy
            injection hy with hy
            exact hy ▸ he
          · exact HN.out i y (by omega) hy
        have t : (k == x) = false := beq_false_of_ne (Ne.symm he)
        clear hx he
        go_wp2
        go_roundg (n - (j + 1))
        case measure => omega
        case rel => exact ⟨j + 1, by push_cast; rfl, by omega, by omega, rfl, NX⟩
    · have FIN : Hid (decide (0 ≤ (-1 : Int)) = ks.contains k) := by
        have : ks.contains k = false := by
          cases e : ks.contains k with
          | false => rfl
          | true =>
            obtain ⟨i, hi⟩ := List.mem_iff_getElem?.1 (List.contains_iff_mem.1 e)
            have := H.out.2
            have h3 := (List.getElem?_eq_some_iff.1 hi).1
            exact absurd rfl (HN.out i k (by omega) hi)
        rw [this]
        rfl
      go_wp2
      go_ret
      exact ⟨⟨_, rfl, FIN.out⟩, rfl⟩
theorem ints_has (w : World) (q : Option Addr) (c : Nat) (ks : List Int) (h : Ints w q ks) (k : Int) :
    Calls Try.prog 43 #[.slice q ks.length c, .int .i64 k] w fun e w' => e = .returned (.bool (ks.contains k)) ∧ w' = w := by
  have C := Lib.hid (ints_index w q c ks h k)
  obtain ⟨n, hn⟩ : ∃ n, n = ks.length := ⟨_, rfl⟩
  rw [← hn] at C ⊢
  clear hn h
  generalize ks.contains k = r at C ⊢
  go_enter Try.func43, Try.ntmps43
  go_wp2_with fail
  refine C.out.mono ?_
  rintro e w' ⟨⟨i, rfl, hi⟩, rfl⟩
  subst hi
  go_wp2
  go_ret
  exact ⟨rfl, rfl⟩
abbrev WaT : TypeId := 109
/-- A watch's own cells. -/
def waC (sp : Nat) (f : Nat → Bool) (pl : Nat) : Array Value := #[.pointer (some ⟨sp, 0, none⟩), .bool (f 0), .bool (f 1), .bool (f 2), .bool (f 3), .bool (f 4), .int .u64 (pl : Int)]
theorem waC_set (sp : Nat) (f : Nat → Bool) (pl : Nat) : ∀ (j : Nat), j < 5 → ∀ b, (waC sp f pl).setIfInBounds (1 + j) (.bool b) = waC sp (fun i => if i = j then b else f i) pl := fun j hj b => by
  rcases (show j = 0 ∨ j = 1 ∨ j = 2 ∨ j = 3 ∨ j = 4 by omega) with rfl | rfl | rfl | rfl | rfl <;> rfl
theorem waC_ext (sp : Nat) {f g : Nat → Bool} (pl : Nat) (h : ∀ i, i < 5 → f i = g i) : waC sp f pl = waC sp g pl := by
  unfold waC
  rw [h 0 (by omega), h 1 (by omega), h 2 (by omega), h 3 (by omega), h 4 (by omega)]
theorem waC_pl (sp : Nat) (f : Nat → Bool) (pl v : Nat) : (waC sp f pl).setIfInBounds 6 (.int .u64 (v : Int)) = waC sp f v := rfl
theorem waC_at (sp : Nat) (f : Nat → Bool) (pl : Nat) : ∀ (j : Nat), j < 5 → (waC sp f pl)[1 + j]? = some (.bool (f j)) := fun j hj => by
  rcases (show j = 0 ∨ j = 1 ∨ j = 2 ∨ j = 3 ∨ j = 4 by omega) with rfl | rfl | rfl | rfl | rfl <;> rfl

theorem from_nil (w : World) (v : Int) (s : Value) : Calls Try.prog 25 #[.pointer none, .int .u64 v, s] w fun e w' => e = .returned (.pointer none) ∧ w' = w := by
  go_enter Try.func25, Try.ntmps25
  go_wp2
  go_ret
  exact ⟨rfl, rfl⟩
set_option maxHeartbeats 4000000 in
theorem from_any (w : World) (sp v : Nat) (q : Option Addr) (c : Nat) (ks : List Int) (h : Ints w q ks) :
    Calls Try.prog 25 #[.pointer (some ⟨sp, 0, none⟩), .int .u64 (v : Int), .slice q ks.length c] w fun e w' => e = .returned (.pointer (some ⟨w.heap.size, 0, none⟩)) ∧
      w'.heap[w.heap.size]? = some (.cells (waC sp (fun i => sees ks (i : Int)) v) WaT (0, 0)) ∧ Below w.heap.size w w' := by
  have mixed : Try.prog.follows .mixedOrders = true := by kernel_rfl
  obtain ⟨B, hB⟩ : ∃ B, B = w.heap.size := ⟨_, rfl⟩
  obtain ⟨w1, hw1⟩ : ∃ x, x = w.alloc (.cells #[.pointer (some ⟨sp, 0, none⟩), .bool false, .bool false, .bool false, .bool false, .bool false, .int .u64 (v : Int)] WaT) := ⟨_, rfl⟩
  have G1 : Gr w w1 := hw1 ▸ (Gr.refl w).alloc _
  have b1 : w1.heap[B]? = some (.cells (waC sp (fun i => if i < 0 then sees ks (i : Int) else false) v) WaT (0, 0)) := by rw [hw1, hB]; exact heap_alloc_new w _
  obtain ⟨n, hn⟩ : ∃ n, n = ks.length := ⟨_, rfl⟩
  have CC := Lib.hid (fun (ws : World) (b : Below w.heap.size w ws) (k : Int) => ints_has ws q c ks (h.below b) k)
  have hl := h.len
  rw [← hn] at CC hl ⊢
  have HW : Hid (w.alloc (.cells #[.pointer (some ⟨sp, 0, none⟩), .bool false, .bool false, .bool false, .bool false, .bool false, .int .u64 (v : Int)] WaT) = w1 ∧ w.heap.size = B) := ⟨hw1.symm, hB.symm⟩
  have H1 : Hid (w1.heap[B]? = some (.cells (waC sp (fun i => if i < 0 then sees ks (i : Int) else false) v) WaT (0, 0)) ∧ Below B w w1 ∧ n = ks.length) := ⟨b1, by rw [hB]; exact G1.below, hn⟩
  clear h hw1 G1 b1 hB hn
  go_enter Try.func25, Try.ntmps25
  go_upto_region 4 with fail
  rw [HW.out.1, HW.out.2]
  go_wp2_with fail
  go_loopg [15] 5 (fun gg vi wr => ∃ j : Nat, vi = .int .i64 (j : Int) ∧ j ≤ 5 ∧ 5 - j ≤ gg ∧ Hid (wr.heap[B]? = some (.cells (waC sp (fun i => if i < j then sees ks (i : Int) else false) v) WaT (0, 0)) ∧ Below B w wr))
  case atStart => exact ⟨0, rfl, by omega, by omega, H1.out.1, H1.out.2.1⟩
  case round =>
    obtain ⟨j, rfl, h1, h2, HR⟩ := hrel
    by_cases hj : j < 5
    · obtain ⟨z, hz⟩ : ∃ z, z = ((n : Int) == 0) := ⟨_, rfl⟩
      obtain ⟨y, hy⟩ : ∃ y, y = sees ks (j : Int) := ⟨_, rfl⟩
      obtain ⟨we, hwe⟩ : ∃ x, x = wr.drew.setCell ⟨B, 1 + j, none⟩ (.bool y) := ⟨_, rfl⟩
      obtain ⟨hb, low⟩ := HR.out
      have hsz : B ≤ wr.heap.size := by have := low.size; have := HW.out.2; omega
      have nb : we.heap[B]? = some (.cells (waC sp (fun i => if i < j + 1 then sees ks (i : Int) else false) v) WaT (0, 0)) := by
        rw [hwe, block_setCell (w := wr.drew) hb, waC_set sp _ v j hj, hy]
        congr 2
        refine waC_ext sp v (fun i hi => ?_)
        by_cases e : i = j
        · rw [if_pos e, if_pos (by omega), e]
        · rw [if_neg e]
          by_cases e2 : i < j
          · rw [if_pos e2, if_pos (by omega)]
          · rw [if_neg e2, if_neg (by omega)]
      have nlow : Below B w we := by
        rw [hwe]
        exact (low.trans (((Gr.refl wr).drewN 1).below.mono hsz)).setCell (Nat.le_refl _) _
      have NX := Lib.hid (And.intro nb nlow)
      have KB : Hid (∀ ws : World, Below wr.heap.size wr ws → ws.heap[B]? = some (.cells (waC sp (fun i => if i < j then sees ks (i : Int) else false) v) WaT (0, 0))) := fun ws b => (b.block B (Array.getElem?_eq_some_iff.1 hb).1).trans hb
      have KJ : Hid (∀ ws : World, Below wr.heap.size wr ws → j < 5) := fun ws b => hj
      have hbw : (wr.setCell ⟨B, 1 + j, none⟩ (.bool y)).drew = we := by rw [hwe]; rfl
      have cb : wr.drew.cell? ⟨B, 1 + j, none⟩ = some (.bool (if j < j then sees ks (j : Int) else false)) := (cell_of_block (w := wr.drew) hb (1 + j)).trans (waC_at _ _ _ j hj)
      have fb : wr.drew.frozen? ⟨B, 1 + j, none⟩ = false := unfrozen_of_block (w := wr.drew) hb _
      have GD : Hid (Below wr.heap.size wr wr.drew) := ((Gr.refl wr).drewN 1).below
      have KC : Hid (∀ ws : World, Below wr.heap.size wr ws → Below w.heap.size w ws) := fun ws b => by
        have := HW.out.2
        rw [this]
        exact low.trans (b.mono hsz)
      have KY : Hid (y = sees ks (j : Int) ∧ n = ks.length) := ⟨hy, H1.out.2.2⟩
      have CJ : z = false → Hid (∀ ws : World, Below wr.heap.size wr ws → Calls Try.prog 43 #[.slice q n c, .int .i64 (j : Int)] ws fun e w' => e = .returned (.bool y) ∧ w' = ws) := fun h0 ws b => by
        have hc : y = ks.contains (j : Int) := by
          rw [KY.out.1]
          unfold sees
          have : ks ≠ [] := fun e => by
            rw [hz, KY.out.2, e] at h0
            simp at h0
          cases ks with
          | nil => exact absurd rfl this
          | cons x r => rfl
        rw [hc]
        exact CC.out ws (KC.out ws b) _
      clear hb low nb nlow HR hwe hy
      cases z with
      | true =>
        have hy1 : y = true := by
          obtain ⟨e1, e2⟩ := KY.out
          have : ks = [] := List.eq_nil_of_length_eq_zero (by have := hz.symm; simp at this; omega)
          rw [e1, this]; rfl
        subst hy1
        have t0 : ((n : Int) == 0) = true := hz.symm
        clear hz
        go_upto_region 7 with fail
        refine wp_region_G (f := 13) (S := fun ws => Below wr.heap.size wr ws) mixed GD.out (fun hS => ?_)
        refine wpAnyG_takeD (i := 0) (d := 18) (v := .pointer (some ⟨B, 0, none⟩)) _ rfl rfl (by kernel_rfl) (by kernel_rfl) (by kernel_rfl) (by kernel_rfl) (fun _ _ _ h => h) (Or.inl ⟨by kernel_rfl, fun ws hSw => by first | (go_simp; done) | (go_simp; with_reducible rfl) | (go_simp; rfl)⟩) hS ?_
        simp only [Act.put, List.setIfInBounds_toArray, List.set_cons_zero, List.set_cons_succ]
        refine wpAnyG_takeD (i := 1) (d := 19) (v := .int .i64 (j : Int)) _ rfl rfl (by kernel_rfl) (by kernel_rfl) (by kernel_rfl) (by kernel_rfl) (fun _ _ _ h => h) (Or.inl ⟨by kernel_rfl, fun ws hSw => by first | (go_simp; done) | (go_simp; with_reducible rfl) | (go_simp; rfl)⟩) hS ?_
        simp only [Act.put, List.setIfInBounds_toArray, List.set_cons_zero, List.set_cons_succ]
        refine wpAnyG_takeD (i := 2) (d := 20) (v := .slice q n c) _ rfl rfl (by kernel_rfl) (by kernel_rfl) (by kernel_rfl) (by kernel_rfl) (fun _ _ _ h => h) (Or.inl ⟨by kernel_rfl, fun ws hSw => by first | (go_simp; done) | (go_simp; with_reducible rfl) | (go_simp; rfl)⟩) hS ?_
        simp only [Act.put, List.setIfInBounds_toArray, List.set_cons_zero, List.set_cons_succ]
        refine wpAnyG_takeD (i := 3) (d := 21) (v := .int .i64 (n : Int)) _ rfl rfl (by kernel_rfl) (by kernel_rfl) (by kernel_rfl) (by kernel_rfl) (fun _ _ _ h => h) (Or.inl ⟨by kernel_rfl, fun ws hSw => by first | (go_simp; done) | (go_simp; with_reducible rfl) | (go_simp; rfl)⟩) hS ?_
        simp only [Act.put, List.setIfInBounds_toArray, List.set_cons_zero, List.set_cons_succ]
        refine wpAnyG_takeD (i := 4) (d := 22) (v := .bool true) _ rfl rfl (by kernel_rfl) (by kernel_rfl) (by kernel_rfl) (by kernel_rfl) (fun _ _ _ h => h) (Or.inl ⟨by kernel_rfl, fun ws hSw => by first | (go_simp; done) | (go_simp; with_reducible rfl) | (go_simp; rfl)⟩) hS ?_
        simp only [Act.put, List.setIfInBounds_toArray, List.set_cons_zero, List.set_cons_succ]
        refine wpAnyG_takeD (i := 5) (d := 23) (v := .bool true) _ rfl rfl (by kernel_rfl) (by kernel_rfl) (by kernel_rfl) (by kernel_rfl) (fun _ _ _ h => h) (Or.inl ⟨by kernel_rfl, fun ws hSw => by first | (go_simp; done) | (go_simp; with_reducible rfl) | (go_simp; rfl)⟩) hS ?_
        simp only [Act.put, List.setIfInBounds_toArray, List.set_cons_zero, List.set_cons_succ]
        refine wpAnyG_takeD (i := 6) (d := 24) (v := undef) _ rfl rfl (by kernel_rfl) (by kernel_rfl) (by kernel_rfl) (by kernel_rfl) (fun _ _ _ h => h) (Or.inr ⟨by kernel_rfl, rfl⟩) hS ?_
        simp only [Act.put, List.setIfInBounds_toArray, List.set_cons_zero, List.set_cons_succ]
        refine wpAnyG_takeD (i := 7) (d := 25) (v := undef) _ rfl rfl (by kernel_rfl) (by kernel_rfl) (by kernel_rfl) (by kernel_rfl) (fun _ _ _ h => h) (Or.inr ⟨by kernel_rfl, rfl⟩) hS ?_
        simp only [Act.put, List.setIfInBounds_toArray, List.set_cons_zero, List.set_cons_succ]
        refine wpAnyG_takeD (i := 8) (d := 26) (v := undef) _ rfl rfl (by kernel_rfl) (by kernel_rfl) (by kernel_rfl) (by kernel_rfl) (fun _ _ _ h => h) (Or.inr ⟨by kernel_rfl, rfl⟩) hS ?_
        simp only [Act.put, List.setIfInBounds_toArray, List.set_cons_zero, List.set_cons_succ]
        refine wpAnyG_takeD (i := 9) (d := 27) (v := .bool true) _ rfl rfl (by kernel_rfl) (by kernel_rfl) (by kernel_rfl) (by kernel_rfl) (fun _ _ _ h => h) (Or.inl ⟨by kernel_rfl, fun ws hSw => by first | (go_simp; done) | (go_simp; with_reducible rfl) | (go_simp; rfl)⟩) hS ?_
        simp only [Act.put, List.setIfInBounds_toArray, List.set_cons_zero, List.set_cons_succ]
        refine wpAnyG_takeD (i := 10) (d := 28) (v := .pointer (some ⟨B, 0, none⟩)) _ rfl rfl (by kernel_rfl) (by kernel_rfl) (by kernel_rfl) (by kernel_rfl) (fun _ _ _ h => h) (Or.inl ⟨by kernel_rfl, fun ws hSw => by first | (go_simp; done) | (go_simp; with_reducible rfl) | (go_simp; rfl)⟩) hS ?_
        simp only [Act.put, List.setIfInBounds_toArray, List.set_cons_zero, List.set_cons_succ]
        refine wpAnyG_takeD (i := 11) (d := 29) (v := .pointer (some ⟨B, 1, none⟩)) _ rfl rfl (by kernel_rfl) (by kernel_rfl) (by kernel_rfl) (by kernel_rfl) (fun _ _ _ h => h) (Or.inl ⟨by kernel_rfl, fun ws hSw => by first | (go_simp; done) | (go_simp; with_reducible rfl) | (go_simp; rfl)⟩) hS ?_
        simp only [Act.put, List.setIfInBounds_toArray, List.set_cons_zero, List.set_cons_succ]
        refine wpAnyG_takeD (i := 12) (d := 30) (v := .pointer (some ⟨B, 1 + j, none⟩)) _ rfl rfl (by kernel_rfl) (by kernel_rfl) (by kernel_rfl) (by kernel_rfl) (fun _ _ _ h => h) (Or.inl ⟨by kernel_rfl, fun ws hSw => by have q := KJ.out ws hSw; first | (go_simp; done) | (go_simp; with_reducible rfl) | (go_simp; rfl) | (go_simp; intro hlt; exfalso; omega)⟩) hS ?_
        simp only [Act.put, List.setIfInBounds_toArray, List.set_cons_zero, List.set_cons_succ]
        refine wpAnyG_ready (rs := [13]) (by kernel_rfl) (by simp) ?_
        refine AllReadyG.last rfl rfl (fun K hK => ?_)
        go_simp
        refine hK _ _ ?_
        try simp only [Act.put, List.setIfInBounds_toArray, List.set_cons_zero, List.set_cons_succ]
        refine wpAnyG_done (by kernel_rfl) ?_
        go_wp2_with fail
        go_roundg (5 - (j + 1))
        case measure => omega
        case rel => exact ⟨j + 1, by push_cast; rfl, by omega, by omega, NX.out⟩
      | false =>
        have t0 : ((n : Int) == 0) = false := hz.symm
        have CJ' := CJ rfl
        clear hz CJ
        go_upto_region 7 with fail
        refine wp_region_G (f := 13) (S := fun ws => Below wr.heap.size wr ws) mixed GD.out (fun hS => ?_)
        refine wpAnyG_takeD (i := 0) (d := 18) (v := .pointer (some ⟨B, 0, none⟩)) _ rfl rfl (by kernel_rfl) (by kernel_rfl) (by kernel_rfl) (by kernel_rfl) (fun _ _ _ h => h) (Or.inl ⟨by kernel_rfl, fun ws hSw => by first | (go_simp; done) | (go_simp; with_reducible rfl) | (go_simp; rfl)⟩) hS ?_
        simp only [Act.put, List.setIfInBounds_toArray, List.set_cons_zero, List.set_cons_succ]
        refine wpAnyG_takeD (i := 1) (d := 19) (v := .int .i64 (j : Int)) _ rfl rfl (by kernel_rfl) (by kernel_rfl) (by kernel_rfl) (by kernel_rfl) (fun _ _ _ h => h) (Or.inl ⟨by kernel_rfl, fun ws hSw => by first | (go_simp; done) | (go_simp; with_reducible rfl) | (go_simp; rfl)⟩) hS ?_
        simp only [Act.put, List.setIfInBounds_toArray, List.set_cons_zero, List.set_cons_succ]
        refine wpAnyG_takeD (i := 2) (d := 20) (v := .slice q n c) _ rfl rfl (by kernel_rfl) (by kernel_rfl) (by kernel_rfl) (by kernel_rfl) (fun _ _ _ h => h) (Or.inl ⟨by kernel_rfl, fun ws hSw => by first | (go_simp; done) | (go_simp; with_reducible rfl) | (go_simp; rfl)⟩) hS ?_
        simp only [Act.put, List.setIfInBounds_toArray, List.set_cons_zero, List.set_cons_succ]
        refine wpAnyG_takeD (i := 3) (d := 21) (v := .int .i64 (n : Int)) _ rfl rfl (by kernel_rfl) (by kernel_rfl) (by kernel_rfl) (by kernel_rfl) (fun _ _ _ h => h) (Or.inl ⟨by kernel_rfl, fun ws hSw => by first | (go_simp; done) | (go_simp; with_reducible rfl) | (go_simp; rfl)⟩) hS ?_
        simp only [Act.put, List.setIfInBounds_toArray, List.set_cons_zero, List.set_cons_succ]
        refine wpAnyG_takeD (i := 4) (d := 22) (v := .bool false) _ rfl rfl (by kernel_rfl) (by kernel_rfl) (by kernel_rfl) (by kernel_rfl) (fun _ _ _ h => h) (Or.inl ⟨by kernel_rfl, fun ws hSw => by first | (go_simp; done) | (go_simp; with_reducible rfl) | (go_simp; rfl)⟩) hS ?_
        simp only [Act.put, List.setIfInBounds_toArray, List.set_cons_zero, List.set_cons_succ]
        refine wpAnyG_takeD (i := 5) (d := 23) (v := .bool false) _ rfl rfl (by kernel_rfl) (by kernel_rfl) (by kernel_rfl) (by kernel_rfl) (fun _ _ _ h => h) (Or.inl ⟨by kernel_rfl, fun ws hSw => by first | (go_simp; done) | (go_simp; with_reducible rfl) | (go_simp; rfl)⟩) hS ?_
        simp only [Act.put, List.setIfInBounds_toArray, List.set_cons_zero, List.set_cons_succ]
        refine wpAnyG_takeD (i := 6) (d := 24) (v := .slice q n c) _ rfl rfl (by kernel_rfl) (by kernel_rfl) (by kernel_rfl) (by kernel_rfl) (fun _ _ _ h => h) (Or.inl ⟨by kernel_rfl, fun ws hSw => by first | (go_simp; done) | (go_simp; with_reducible rfl) | (go_simp; rfl)⟩) hS ?_
        simp only [Act.put, List.setIfInBounds_toArray, List.set_cons_zero, List.set_cons_succ]
        refine wpAnyG_takeD (i := 7) (d := 25) (v := .int .i64 (j : Int)) _ rfl rfl (by kernel_rfl) (by kernel_rfl) (by kernel_rfl) (by kernel_rfl) (fun _ _ _ h => h) (Or.inl ⟨by kernel_rfl, fun ws hSw => by first | (go_simp; done) | (go_simp; with_reducible rfl) | (go_simp; rfl)⟩) hS ?_
        simp only [Act.put, List.setIfInBounds_toArray, List.set_cons_zero, List.set_cons_succ]
        refine wpAnyG_takeD (i := 10) (d := 28) (v := .pointer (some ⟨B, 0, none⟩)) _ rfl rfl (by kernel_rfl) (by kernel_rfl) (by kernel_rfl) (by kernel_rfl) (fun _ _ _ h => h) (Or.inl ⟨by kernel_rfl, fun ws hSw => by first | (go_simp; done) | (go_simp; with_reducible rfl) | (go_simp; rfl)⟩) hS ?_
        simp only [Act.put, List.setIfInBounds_toArray, List.set_cons_zero, List.set_cons_succ]
        refine wpAnyG_takeD (i := 11) (d := 29) (v := .pointer (some ⟨B, 1, none⟩)) _ rfl rfl (by kernel_rfl) (by kernel_rfl) (by kernel_rfl) (by kernel_rfl) (fun _ _ _ h => h) (Or.inl ⟨by kernel_rfl, fun ws hSw => by first | (go_simp; done) | (go_simp; with_reducible rfl) | (go_simp; rfl)⟩) hS ?_
        simp only [Act.put, List.setIfInBounds_toArray, List.set_cons_zero, List.set_cons_succ]
        refine wpAnyG_ready (rs := [8]) (by kernel_rfl) (by simp) ?_
        refine AllReadyG.cons rfl (fun K hK => ?_) AllReadyG.nil
        go_simp
        refine (CJ'.out _ hS).mono ?_
        rintro e w' ⟨rfl, rfl⟩
        refine hK _ _ hS (fun hS => ?_)
        try simp only [Act.put, List.setIfInBounds_toArray, List.set_cons_zero, List.set_cons_succ]
        refine wpAnyG_takeD (i := 9) (d := 27) (v := .bool y) _ rfl rfl (by kernel_rfl) (by kernel_rfl) (by kernel_rfl) (by kernel_rfl) (fun _ _ _ h => h) (Or.inl ⟨by kernel_rfl, fun ws hSw => by first | (go_simp; done) | (go_simp; with_reducible rfl) | (go_simp; rfl)⟩) hS ?_
        simp only [Act.put, List.setIfInBounds_toArray, List.set_cons_zero, List.set_cons_succ]
        refine wpAnyG_takeD (i := 12) (d := 30) (v := .pointer (some ⟨B, 1 + j, none⟩)) _ rfl rfl (by kernel_rfl) (by kernel_rfl) (by kernel_rfl) (by kernel_rfl) (fun _ _ _ h => h) (Or.inl ⟨by kernel_rfl, fun ws hSw => by have q := KJ.out ws hSw; first | (go_simp; done) | (go_simp; with_reducible rfl) | (go_simp; rfl) | (go_simp; intro hlt; exfalso; omega)⟩) hS ?_
        simp only [Act.put, List.setIfInBounds_toArray, List.set_cons_zero, List.set_cons_succ]
        refine wpAnyG_ready (rs := [13]) (by kernel_rfl) (by simp) ?_
        refine AllReadyG.last rfl rfl (fun K hK => ?_)
        go_simp
        refine hK _ _ ?_
        try simp only [Act.put, List.setIfInBounds_toArray, List.set_cons_zero, List.set_cons_succ]
        refine wpAnyG_done (by kernel_rfl) ?_
        go_wp2_with fail
        go_roundg (5 - (j + 1))
        case measure => omega
        case rel => exact ⟨j + 1, by push_cast; rfl, by omega, by omega, NX.out⟩
    · have hj5 : j = 5 := by omega
      subst hj5
      have FIN : Hid (wr.heap[B]? = some (.cells (waC sp (fun i => sees ks (i : Int)) v) WaT (0, 0)) ∧ Below B w wr) := by
        obtain ⟨hb, low⟩ := HR.out
        refine ⟨?_, low⟩
        rw [hb, waC_ext sp v (g := fun i => sees ks (i : Int)) (fun i hi => by rw [if_pos hi])]
      clear HR
      go_wp2
      go_ret
      exact ⟨by rw [HW.out.2]; rfl, by rw [HW.out.2]; exact FIN.out.1, by rw [HW.out.2]; exact FIN.out.2⟩
theorem next_nil (w : World) : Calls Try.prog 23 #[.pointer none] w fun r w' => r = .returned (.tuple #[.slice none 0 0, .int .i64 1]) ∧ w' = w := by
  go_enter Try.func23, Try.ntmps23
  go_wp2
  refine bodyPost_ret (results_tmp2 rfl _ _ _) rfl ?_
  exact ⟨rfl, rfl⟩
theorem place_nil (w : World) : Calls Try.prog 26 #[.pointer none] w fun r w' => r = .returned (.int .u64 0) ∧ w' = w := by
  go_enter Try.func26, Try.ntmps26
  go_wp2
  go_ret
  exact ⟨rfl, rfl⟩
theorem again_nil (w : World) : Calls Try.prog 27 #[.pointer none] w fun r w' => r = .returned (.slice none 0 0) ∧ w' = w := by
  go_enter Try.func27, Try.ntmps27
  go_wp2
  go_ret
  exact ⟨rfl, rfl⟩
theorem wnew_nil (w : World) (s : Value) : Calls Try.prog 24 #[.pointer none, s] w fun r w' => r = .returned (.pointer none) ∧ w' = w := by
  have C1 := Lib.hid (fun w => now_nil w)
  have C2 := Lib.hid (fun w => from_nil w 0 s)
  go_enter Try.func24, Try.ntmps24
  go_wp2_with fail
  refine (C1.out _).mono ?_
  rintro e w' ⟨rfl, rfl⟩
  go_wp2_with fail
  refine (C2.out _).mono ?_
  rintro e w' ⟨rfl, rfl⟩
  go_wp2
  go_ret
  exact ⟨rfl, rfl⟩
end Go.Proofs.Ytbagicilmmkdhaa
