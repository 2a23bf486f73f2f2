/- Layer 20: a load with further pods. -/
import Derived.Test.YtajkhbdniadkkaaPpC
namespace Go.Proofs.Ytajkhbdniadkkaa.Pp
open Go.RowKit Go.Shelf Go.Lib Go.Sort Go.Deep
open Go.Joins (cell_of_block unfrozen_of_block block_setCell)
open Go.Proofs.Ytajkhbdniadkkaa.Ow Go.Proofs.Ytajkhbdniadkkaa.Ld
set_option linter.unusedVariables false
set_option linter.unusedSimpArgs false
set_option maxRecDepth 20000

/-- A load is told: whatever, if there is an error; else this one. -/
def LdTold (D : Array Value) (e : Int) (u g n : Nat) : Prop := D.size = 3 ∧ D.all (·.oneCell') = true ∧ (e = 0 → D = loadC (u : Int) (g : Int) (n : Int))
theorem set_ld {w : World} {B i : Nat} {C D : Array Value} {v : Value} (h : w.heap[B]? = some (.cells C LT (0, 0))) (e : C.setIfInBounds i v = D) : (w.setCell ⟨B, i, none⟩ v).heap[B]? = some (.cells D LT (0, 0)) := by
  rw [block_setCell h]
  subst e
  rfl
theorem below_set1 {N : Nat} {w w1 : World} (b : Below N w w1) {B i : Nat} (hN : N ≤ B) (v : Value) : Below N w (w1.setCell ⟨B, i, none⟩ v) :=
  Ld.below_setCells [v] B i hN b
theorem wrap_in {x : Int} (h : 0 ≤ x ∧ x ≤ 9223372036854775807) : IntKind.i64.wrap x = x := by rw [IntKind.wrap_i64]; omega

set_option maxHeartbeats 8000000 in
theorem pp_with (w : World) (u g n : Nat) (hu : u ≤ 9007199254740992) (hg : g ≤ 9007199254740992) (hn : n ≤ 1000000000) (k : Int) (s : ByteArray) (t : Nat) (ht : t ≤ 9007199254740992) (q : Option Addr) (c : Nat) (l : List Ut) (hr : RowR 5 encT w q l) (hlen : l.length ≤ 1000000) (hok : ∀ x ∈ l, okU x = true) (full : Bool) :
    Calls Try.prog 61 #[.agg (loadC (u : Int) (g : Int) (n : Int)), .agg (metC k s (t : Int)), .slice q l.length c, .bool full] w fun e w' => (∃ D, e = .returned (.tuple #[.agg D, .int .i64 (capE (g + sumG k t l))]) ∧ LdTold D (capE (g + sumG k t l)) (if full = true then u + sumG k t l else u) (g + sumG k t l) (n + l.length)) ∧ Below w.heap.size w w' := by
  have CGo : Hid (∀ W, Below w.heap.size w W → Calls Try.prog 60 #[.agg (metC k s (t : Int)), .slice q l.length c] W fun e w' => e = .returned (.tuple #[.int .i64 (capV (sumG k t l)), .int .i64 (capE (sumG k t l))]) ∧ Below W.heap.size W w') := fun W b => pp_goals W k s t ht q c l (hr.below b) hlen hok
  obtain ⟨S, hS⟩ : ∃ S, S = sumG k t l := ⟨_, rfl⟩
  rw [← hS] at CGo ⊢
  obtain ⟨m, hm⟩ : ∃ m, m = l.length := ⟨_, rfl⟩
  rw [← hm] at CGo hlen ⊢
  obtain ⟨uf, huf⟩ : ∃ x, x = (if full = true then u + S else u) := ⟨_, rfl⟩
  obtain ⟨gs, hgs⟩ : ∃ x, x = g + S := ⟨_, rfl⟩
  obtain ⟨nm, hnm⟩ : ∃ x, x = n + m := ⟨_, rfl⟩
  rw [← huf, ← hgs, ← hnm]
  have HU := Lib.hid (And.intro huf (And.intro hgs hnm))
  obtain ⟨ge, hge⟩ : ∃ x, x = capE gs := ⟨_, rfl⟩
  rw [← hge]
  have GE := Lib.hid hge
  clear huf hgs hnm hge
  obtain ⟨B, hB⟩ : ∃ B, B = w.heap.size := ⟨_, rfl⟩
  obtain ⟨M, hM⟩ : ∃ M, M = metC k s (t : Int) := ⟨_, rfl⟩
  have sM : M.size = 3 := by rw [hM]; rfl
  rw [← hM] at CGo ⊢
  obtain ⟨D, hD⟩ : ∃ D, D = loadC (u : Int) (g : Int) (n : Int) := ⟨_, rfl⟩
  rw [← hD]
  obtain ⟨wa, hwa⟩ : ∃ x, x = w.alloc (.cells D LT) := ⟨_, rfl⟩
  obtain ⟨wb, hwb⟩ : ∃ x, x = wa.alloc (.cells M MT) := ⟨_, rfl⟩
  obtain ⟨wc, hwc⟩ : ∃ x, x = wb.alloc (.cells zerL LT) := ⟨_, rfl⟩
  have z1 : wa.heap.size = B + 1 := by rw [hwa, hB]; simp
  have z2 : wb.heap.size = B + 2 := by rw [hwb]; simp; omega
  have Ba : Below w.heap.size w wc := by rw [hwc, hwb, hwa]; exact ((((Gr.refl w).alloc _).alloc _).alloc _).below
  have x0 : wa.heap[B]? = some (.cells D LT (0, 0)) := by rw [hwa, hB]; exact heap_alloc_new w _
  have x1 : wb.heap[B]? = some (.cells D LT (0, 0)) := by rw [hwb]; exact (Below.heap_alloc wa _ _ (by omega)).trans x0
  have x2 : wb.heap[B + 1]? = some (.cells M MT (0, 0)) := by rw [hwb, ← z1]; exact heap_alloc_new wa _
  have y0 : wc.heap[B]? = some (.cells D LT (0, 0)) := by rw [hwc]; exact (Below.heap_alloc wb _ _ (by omega)).trans x1
  have y1 : wc.heap[B + 1]? = some (.cells M MT (0, 0)) := by rw [hwc]; exact (Below.heap_alloc wb _ _ (by omega)).trans x2
  have y2 : wc.heap[B + 2]? = some (.cells zerL LT (0, 0)) := by rw [hwc, ← z2]; exact heap_alloc_new wb _
  have HW : Hid (w.alloc (.cells D LT) = wa ∧ wa.alloc (.cells M MT) = wb ∧ wb.alloc (.cells zerL LT) = wc ∧ w.heap.size = B ∧ wa.heap.size = B + 1 ∧ wb.heap.size = B + 2) := ⟨hwa.symm, hwb.symm, hwc.symm, hB.symm, z1, z2⟩
  have LM := Lib.hid (load_met y1 sM)
  have CG := Lib.hid (CGo.out wc Ba)
  have HH := Lib.hid (And.intro Ba (And.intro y0 (And.intro y2 hD)))
  clear hr hok hB hwa hwb hwc z1 z2 Ba x0 x1 x2 y0 y1 y2 hM sM hD hS hm ht CGo
  go_enter Try.func61, Try.ntmps61
  go_upto_region 1 with fail
  rw [HW.out.1, HW.out.2.1, HW.out.2.2.1, HW.out.2.2.2.1]
  go_wp2_with (refine wpList_load_by (by kernel_rfl) MT _ rfl (.pointer (some ⟨B + 1, 0, none⟩)) (.agg M) (by rfl) LM.out ?_)
  refine CG.out.mono ?_
  rintro e w1 ⟨rfl, b1⟩
  obtain ⟨Ba, y0, y2, hD⟩ := HH.out
  have b01 : Below w.heap.size w w1 := Ba.trans (b1.mono Ba.size)
  have k0 : w1.heap[B]? = some (.cells #[.int .i64 (u : Int), .int .i64 (g : Int), .int .i64 (n : Int)] LT (0, 0)) := by
    have := (b1.block B (Array.getElem?_eq_some_iff.1 y0).1).trans y0
    rw [hD] at this
    exact this
  have k2 : w1.heap[B + 2]? = some (.cells zerL LT (0, 0)) := (b1.block (B + 2) (Array.getElem?_eq_some_iff.1 y2).1).trans y2
  have zB : w.heap.size ≤ B := by rw [HW.out.2.2.2.1]; exact Nat.le_refl _
  have zB2 : w.heap.size ≤ B + 2 := by omega
  clear LM CG HH Ba y0 y2 hD b1
  by_cases hSo : 9007199254740992 < S
  · have E1 := capV_over hSo
    have E2 := capV_over (show 9007199254740992 < gs by have := HU.out.2.1; omega)
    rw [E1.1, E1.2]
    obtain ⟨th, blk, blw⟩ := put_ld (D := zerL) k2 rfl rfl b01 zB2
    have TH := Lib.hid th
    have EQ : Hid (ge = 3) := GE.out.trans E2.2
    have RES := Lib.hid (And.intro blk blw)
    clear th blk blw E1 E2 hSo k0 k2 b01 zB zB2 hu hg hn
    go_wp2_with (refine wpList_store_mid rfl _ _ _ rfl (B + 2) 0 zerL (by rfl) (by rfl) TH.out info_LT (loadC_all 0 0 0) ?_)
    refine bodyPost_ret (res_two rfl _ _ (B + 2) LT zerL (0, 0) _ (by rfl) RES.out.1 Try.underlying74 rfl info_LT) rfl ?_
    exact ⟨⟨zerL, by rw [EQ.out]; rfl, rfl, loadC_all 0 0 0, fun h => by rw [EQ.out] at h; exact absurd h (by decide)⟩, RES.out.2⟩
  · have E1 := capV_in (Nat.le_of_not_lt hSo)
    rw [E1.1, E1.2]
    have hS2 := Nat.le_of_not_lt hSo
    clear E1 hSo
    have ec : (n : Int) + (m : Int) = (nm : Int) := by have := HU.out.2.2; omega
    have wr1 : IntKind.i64.wrap (nm : Int) = (nm : Int) := by rw [wrap_in (by have := HU.out.2.2; omega)]
    obtain ⟨w2, hw2⟩ : ∃ x, x = w1.setCell ⟨B, 2, none⟩ (.int .i64 (nm : Int)) := ⟨_, rfl⟩
    have k02 : w2.heap[B]? = some (.cells #[.int .i64 (u : Int), .int .i64 (g : Int), .int .i64 (nm : Int)] LT (0, 0)) := by rw [hw2]; exact set_ld k0 rfl
    have k22 : w2.heap[B + 2]? = some (.cells zerL LT (0, 0)) := by rw [hw2, heap_setCell_other _ _ _ _ (show B + 2 ≠ B by omega)]; exact k2
    have b02 : Below w.heap.size w w2 := by rw [hw2]; exact below_set1 b01 zB _
    have c2 : w1.cell? ⟨B, 2, none⟩ = some (.int .i64 (n : Int)) := cell_of_block k0 2
    have f2 : w1.frozen? ⟨B, 2, none⟩ = false := unfrozen_of_block k0 2
    have HW2 : Hid (w1.setCell ⟨B, 2, none⟩ (.int .i64 (nm : Int)) = w2) := hw2.symm
    clear hw2 k0 k2 b01
    go_upto_region 5 with fail
    rw [HW2.out]
    clear c2 f2 HW2
    have CA : Hid (∀ W, Calls Try.prog 59 #[.int .i64 (g : Int), .int .i64 (S : Int)] W fun e w' => e = .returned (.tuple #[.int .i64 (capV gs), .int .i64 (capE gs)]) ∧ W = w') := fun W => by
      have hgs := HU.out.2.1
      rcases Nat.lt_or_ge 9007199254740992 gs with h | h
      · rw [(capV_over h).1, (capV_over h).2]
        exact add_over (g : Int) (S : Int) W (by omega) (by omega) (by omega) (by omega) (by omega)
      · rw [(capV_in h).1, (capV_in h).2]
        have := add_within (g : Int) (S : Int) W (by omega) (by omega) (by omega) (by omega) (by omega)
        have e : (g : Int) + (S : Int) = (gs : Int) := by omega
        rw [e] at this
        exact this
    have VE : Hid (capE gs = 0 → capV gs = (gs : Int)) := fun h => by
      rcases Nat.lt_or_ge 9007199254740992 gs with h' | h'
      · rw [(capV_over h').2] at h; exact absurd h (by decide)
      · exact (capV_in h').1
    rw [← GE.out] at CA VE
    generalize capV gs = gv at CA VE
    cases full with
    | false =>
      have c1 : w2.cell? ⟨B, 1, none⟩ = some (.int .i64 (g : Int)) := cell_of_block k02 1
      have f1 : w2.frozen? ⟨B, 1, none⟩ = false := unfrozen_of_block k02 1
      obtain ⟨w3, hw3⟩ : ∃ x, x = w2.setCell ⟨B, 1, none⟩ (.int .i64 gv) := ⟨_, rfl⟩
      have k03 : w3.heap[B]? = some (.cells (loadC (u : Int) gv (nm : Int)) LT (0, 0)) := by rw [hw3]; exact set_ld k02 rfl
      have k23 : w3.heap[B + 2]? = some (.cells zerL LT (0, 0)) := by rw [hw3, heap_setCell_other _ _ _ _ (show B + 2 ≠ B by omega)]; exact k22
      have b03 : Below w.heap.size w w3 := by rw [hw3]; exact below_set1 b02 zB _
      have HW3 : Hid (w2.setCell ⟨B, 1, none⟩ (.int .i64 gv) = w3) := hw3.symm
      have LL := Lib.hid (load_ld k03 rfl)
      obtain ⟨th, blk, blw⟩ := put_ld (D := loadC (u : Int) gv (nm : Int)) k23 rfl rfl b03 zB2
      have TH := Lib.hid th
      have RES := Lib.hid (And.intro blk blw)
      clear hw3 k02 k22 b02 k03 k23 b03 th blk blw hu hg hn zB zB2 hS2 ec wr1 hlen
      go_wp2_with fail
      refine (CA.out _).mono ?_
      rintro e w' ⟨rfl, rfl⟩
      go_upto_region 8 with fail
      rw [HW3.out]
      clear c1 f1 HW3 CA
      go_wp2_with (first | (refine wpList_load_by (by kernel_rfl) LT _ rfl (.pointer (some ⟨B, 0, none⟩)) (.agg (loadC (u : Int) gv (nm : Int))) (by rfl) LL.out ?_) | (refine wpList_store_mid rfl _ _ _ rfl (B + 2) 0 (loadC (u : Int) gv (nm : Int)) (by rfl) (by rfl) TH.out info_LT (loadC_all _ _ _) ?_))
      refine bodyPost_ret (res_two rfl _ _ (B + 2) LT (loadC (u : Int) gv (nm : Int)) (0, 0) _ (by rfl) RES.out.1 Try.underlying74 rfl info_LT) rfl ?_
      refine ⟨⟨loadC (u : Int) gv (nm : Int), rfl, rfl, loadC_all _ _ _, fun h => ?_⟩, RES.out.2⟩
      rw [VE.out h, HU.out.1]
      rfl
    | true =>
      have c0 : w2.cell? ⟨B, 0, none⟩ = some (.int .i64 (u : Int)) := cell_of_block k02 0
      have f0 : w2.frozen? ⟨B, 0, none⟩ = false := unfrozen_of_block k02 0
      have eu : (u : Int) + (S : Int) = (uf : Int) := by have := HU.out.1; rw [if_pos rfl] at this; omega
      have wr2 : IntKind.i64.wrap (uf : Int) = (uf : Int) := by rw [wrap_in (by omega)]
      obtain ⟨w3, hw3⟩ : ∃ x, x = w2.setCell ⟨B, 0, none⟩ (.int .i64 (uf : Int)) := ⟨_, rfl⟩
      have k03 : w3.heap[B]? = some (.cells #[.int .i64 (uf : Int), .int .i64 (g : Int), .int .i64 (nm : Int)] LT (0, 0)) := by rw [hw3]; exact set_ld k02 rfl
      have k23 : w3.heap[B + 2]? = some (.cells zerL LT (0, 0)) := by rw [hw3, heap_setCell_other _ _ _ _ (show B + 2 ≠ B by omega)]; exact k22
      have b03 : Below w.heap.size w w3 := by rw [hw3]; exact below_set1 b02 zB _
      have HW3 : Hid (w2.setCell ⟨B, 0, none⟩ (.int .i64 (uf : Int)) = w3) := hw3.symm
      clear hw3 k02 k22 b02
      have c1 : w3.cell? ⟨B, 1, none⟩ = some (.int .i64 (g : Int)) := cell_of_block k03 1
      have f1 : w3.frozen? ⟨B, 1, none⟩ = false := unfrozen_of_block k03 1
      obtain ⟨w4, hw4⟩ : ∃ x, x = w3.setCell ⟨B, 1, none⟩ (.int .i64 gv) := ⟨_, rfl⟩
      have k04 : w4.heap[B]? = some (.cells (loadC (uf : Int) gv (nm : Int)) LT (0, 0)) := by rw [hw4]; exact set_ld k03 rfl
      have k24 : w4.heap[B + 2]? = some (.cells zerL LT (0, 0)) := by rw [hw4, heap_setCell_other _ _ _ _ (show B + 2 ≠ B by omega)]; exact k23
      have b04 : Below w.heap.size w w4 := by rw [hw4]; exact below_set1 b03 zB _
      have HW4 : Hid (w3.setCell ⟨B, 1, none⟩ (.int .i64 gv) = w4) := hw4.symm
      have LL := Lib.hid (load_ld k04 rfl)
      obtain ⟨th, blk, blw⟩ := put_ld (D := loadC (uf : Int) gv (nm : Int)) k24 rfl rfl b04 zB2
      have TH := Lib.hid th
      have RES := Lib.hid (And.intro blk blw)
      clear hw4 k03 k23 b03 k04 k24 b04 th blk blw hu hg hn zB zB2 hS2 ec wr1 hlen
      go_upto_region 7 with fail
      rw [HW3.out]
      clear c0 f0 HW3 eu wr2
      go_wp2_with fail
      refine (CA.out _).mono ?_
      rintro e w' ⟨rfl, rfl⟩
      go_upto_region 8 with fail
      rw [HW4.out]
      clear c1 f1 HW4 CA
      go_wp2_with (first | (refine wpList_load_by (by kernel_rfl) LT _ rfl (.pointer (some ⟨B, 0, none⟩)) (.agg (loadC (uf : Int) gv (nm : Int))) (by rfl) LL.out ?_) | (refine wpList_store_mid rfl _ _ _ rfl (B + 2) 0 (loadC (uf : Int) gv (nm : Int)) (by rfl) (by rfl) TH.out info_LT (loadC_all _ _ _) ?_))
      refine bodyPost_ret (res_two rfl _ _ (B + 2) LT (loadC (uf : Int) gv (nm : Int)) (0, 0) _ (by rfl) RES.out.1 Try.underlying74 rfl info_LT) rfl ?_
      refine ⟨⟨loadC (uf : Int) gv (nm : Int), rfl, rfl, loadC_all _ _ _, fun h => ?_⟩, RES.out.2⟩
      rw [VE.out h]
end Go.Proofs.Ytajkhbdniadkkaa.Pp
