/- A ring of trimtab/api.Milli: how many there are; places; the youngest one. -/
import Derived.Test.YtajkhbdniadkkaaRgA
import Derived.IntWalk
import Derived.Deep.LoopGhost
import Derived.Deep.AppendLies
import Derived.Maps.AppendAt
import Derived.Test.YtajkhbdniadkkaaTold
namespace Go.Proofs.Ytajkhbdniadkkaa
open Go.RowKit Go.Lib
open Go.Joins (cell_of_block unfrozen_of_block block_setCell)
set_option linter.unusedVariables false
set_option linter.unusedSimpArgs false
set_option maxRecDepth 20000

abbrev TRQ : TypeId := 175
abbrev TSQ : TypeId := 108
abbrev RgQ (w : World) (rb gb n cp f m : Nat) (c : Nat → Int × Int) : Prop := Rgs TRQ TSQ (fun x => .int .i64 x) w rb gb n cp f m c
abbrev HasQ (w : World) (rb gb n : Nat) (L : List (Int × Int)) : Prop := Has TRQ TSQ (fun x => .int .i64 x) w rb gb n L

theorem infoQ : ∃ i : TypeInfo, Try.prog.info? TSQ = some i ∧ i.zero = some (.agg #[.int .i64 0, (.int .i64 0)]) ∧ i.size = 2 ∧ i.bytes = 16 := by
  have hinf : (Try.prog.info? TSQ).map (fun i => (i.zero, i.size, i.bytes)) = some (some (.agg #[.int .i64 0, (.int .i64 0)]), 2, 16) := by kernel_rfl
  cases hi : Try.prog.info? TSQ with
  | none => rw [hi] at hinf; cases hinf
  | some i =>
    rw [hi] at hinf
    simp only [Option.map_some, Option.some.injEq, Prod.mk.injEq] at hinf
    exact ⟨i, rfl, hinf.1, hinf.2.1, hinf.2.2⟩

theorem rlen_nilQ (w : World) : Calls Try.prog 95 #[.pointer none] w fun e w' => e = .returned (.int .i64 0) ∧ w = w' := by
  go_enter Try.func95, Try.ntmps95
  go_wp2
  go_ret
  exact ⟨rfl, rfl⟩
theorem rlenQ (w : World) (rb m : Nat) (h : w.cell? ⟨rb, 2, none⟩ = some (.int .i64 (m : Int))) :
    Calls Try.prog 95 #[.pointer (some ⟨rb, 0, none⟩)] w fun e w' => e = .returned (.int .i64 (m : Int)) ∧ w = w' := by
  go_enter Try.func95, Try.ntmps95
  go_wp2
  go_ret
  exact ⟨rfl, rfl⟩

theorem placeQ (w : World) (rb gb n cp f i : Nat) (h0 : w.cell? ⟨rb, 0, none⟩ = some (.slice (some ⟨gb, 0, none⟩) n cp)) (h1 : w.cell? ⟨rb, 1, none⟩ = some (.int .i64 (f : Int))) (hf : f < n) (hi : i ≤ n) (hn : n ≤ 32) :
    Calls Try.prog 93 #[.pointer (some ⟨rb, 0, none⟩), .int .i64 (i : Int)] w fun e w' => e = .returned (.int .i64 ((pl n f i : Nat) : Int)) ∧ w = w' := by
  by_cases hlt : f + i < n
  · have e : ((pl n f i : Nat) : Int) = (f : Int) + (i : Int) := by unfold pl; rw [if_pos hlt]; omega
    have E := Lib.hid e
    have hlt' : ¬ ((n : Int) ≤ (f : Int) + (i : Int)) := by omega
    clear e
    go_enter Try.func93, Try.ntmps93
    go_wp2
    go_ret
    exact ⟨by rw [E.out]; rfl, rfl⟩
  · have e : ((pl n f i : Nat) : Int) = (f : Int) + (i : Int) - (n : Int) := by unfold pl; rw [if_neg hlt]; omega
    have E := Lib.hid e
    have hlt' : (n : Int) ≤ (f : Int) + (i : Int) := by omega
    clear e
    go_enter Try.func93, Try.ntmps93
    go_wp2
    go_ret
    exact ⟨by rw [E.out]; rfl, rfl⟩
end Go.Proofs.Ytajkhbdniadkkaa
/- A ring of trimtab/api.Milli: the youngest one. -/
namespace Go.Proofs.Ytajkhbdniadkkaa
open Go.RowKit Go.Lib
open Go.Joins (cell_of_block unfrozen_of_block block_setCell)
set_option linter.unusedVariables false
set_option linter.unusedSimpArgs false
set_option maxRecDepth 20000

/-- A cell or a block, one or two of them, of a variable's own. -/
theorem last_noneQ (w : World) (p : Option Addr) (h : ∀ W, Below w.heap.size w W → Calls Try.prog 95 #[.pointer p] W fun e w' => e = .returned (.int .i64 0) ∧ W = w') :
    Calls Try.prog 91 #[.pointer p] w fun e w' => e = .returned (.tuple #[.agg #[.int .i64 0, (.int .i64 0)], .bool false]) ∧ Below w.heap.size w w' := by
  have C := Lib.hid h
  clear h
  have b1 : Below w.heap.size w (w.alloc (.cells #[.int .i64 0, (.int .i64 0)] TSQ)) := (Below.refl _ _).alloc (Nat.le_refl _) _
  have B1 := Lib.hid b1
  clear b1
  go_enter Try.func91, Try.ntmps91
  go_wp2_with fail
  refine (C.out _ B1.out).mono ?_
  rintro e w' ⟨rfl, rfl⟩
  go_wp2
  exact bodyPost_ret (v := .tuple #[.agg #[.int .i64 0, (.int .i64 0)], .bool false]) (by simp [results, Try.results91, go_sem]) rfl ⟨rfl, B1.out⟩
theorem last_nilQ (w : World) : Calls Try.prog 91 #[.pointer none] w fun e w' => e = .returned (.tuple #[.agg #[.int .i64 0, (.int .i64 0)], .bool false]) ∧ Below w.heap.size w w' := last_noneQ w none (fun W _ => rlen_nilQ W)
theorem last_emptyQ (w : World) (rb gb n : Nat) (H : HasQ w rb gb n []) : Calls Try.prog 91 #[.pointer (some ⟨rb, 0, none⟩)] w fun e w' => e = .returned (.tuple #[.agg #[.int .i64 0, (.int .i64 0)], .bool false]) ∧ Below w.heap.size w w' :=
  last_noneQ w _ (fun W b => by
    obtain ⟨cp, f, c, h, _⟩ := H.gr b
    exact rlenQ W rb 0 h.c2)
theorem last_someQ (w : World) (rb gb n : Nat) (L : List (Int × Int)) (x : Int × Int) (H : HasQ w rb gb n (L ++ [x])) :
    Calls Try.prog 91 #[.pointer (some ⟨rb, 0, none⟩)] w fun e w' => e = .returned (.tuple #[.agg #[.int .i64 x.1, (.int .i64 x.2)], .bool true]) ∧ Below w.heap.size w w' := by
  obtain ⟨cp, f, c, h, hc⟩ := H
  have hx := hc L.length x (by simp)
  obtain ⟨m, hm⟩ : ∃ m, m = L.length + 1 := ⟨_, rfl⟩
  have hm' : (L ++ [x]).length = m := by simp [hm]
  rw [hm'] at h
  rw [show L.length = m - 1 by omega] at hx
  have hmn := h.hm
  have hf := h.hf
  obtain ⟨w1, hw1⟩ : ∃ w1, w1 = w.alloc (.cells #[.int .i64 0, (.int .i64 0)] TSQ) := ⟨_, rfl⟩
  have b1 : Below w.heap.size w w1 := hw1 ▸ (Below.refl _ _).alloc (Nat.le_refl _) _
  have h1 := h.gr b1
  obtain ⟨B, hB⟩ : ∃ B, B = w.heap.size := ⟨_, rfl⟩
  have k0 : w1.heap[B]? = some (.cells #[.int .i64 0, (.int .i64 0)] TSQ (0, 0)) := by rw [hw1, hB]; exact heap_alloc_new w _
  have c0 := h1.c0
  have c2 := h1.c2
  have CL := Lib.hid (rlenQ w1 rb m c2)
  have CP := Lib.hid (fun (W : World) (q : W.cell? ⟨rb, 0, none⟩ = some (.slice (some ⟨gb, 0, none⟩) n cp) ∧ W.cell? ⟨rb, 1, none⟩ = some (.int .i64 (f : Int))) => placeQ W rb gb n cp f (m - 1) q.1 q.2 hf (by omega) h.hn.2)
  have hpl : pl n f (m - 1) < n := pl_lt hf (by omega)
  have a0 := h1.at0 hpl
  have a1 := h1.at1 hpl
  rw [hx] at a0 a1
  have c1 := Lib.hid h1.c1
  have em : ((m - 1 : Nat) : Int) = (m : Int) - 1 := by omega
  rw [em] at CP
  have hm1 : 1 ≤ m := by omega
  have hn32 := h.hn.2
  have d0 : w1.cell? ⟨B, 0, none⟩ = some (.int .i64 0) := cell_of_block k0 0
  have d1 : w1.cell? ⟨B, 1, none⟩ = some (.int .i64 0) := cell_of_block k0 1
  have u0 : w1.frozen? ⟨B, 0, none⟩ = false := unfrozen_of_block k0 0
  have u1 : w1.frozen? ⟨B, 1, none⟩ = false := unfrozen_of_block k0 1
  have hne : gb ≠ B := by have := h.lt.2; omega
  have HW : Hid (w.alloc (.cells #[.int .i64 0, (.int .i64 0)] TSQ) = w1 ∧ w.heap.size = B) := ⟨hw1.symm, hB.symm⟩
  have FIN := Lib.hid b1
  generalize hpe : pl n f (m - 1) = p at *
  have hnz : ((m : Int) == 0) = false := by rw [beq_eq_false_iff_ne]; omega
  obtain ⟨xa, xv⟩ := x
  simp only at a0 a1
  have HB2 : Hid (gb < w.heap.size) := h.lt.2
  clear hw1 hB h1 h hc hx hm hm' b1 em k0 hpe
  go_enter Try.func91, Try.ntmps91
  go_upto_region 1 with fail
  rw [HW.out.1, HW.out.2]
  go_wp2_with fail
  refine CL.out.mono ?_
  rintro e w' ⟨rfl, rfl⟩
  go_upto_region 3 with fail
  have W1 : IntKind.i64.wrap ((m : Int) - 1) = (m : Int) - 1 := IntWalk.i64_in _ (by omega)
  have p0 : (0 : Int) ≤ (p : Int) := Int.natCast_nonneg _
  have p1 : (p : Int) < (n : Int) := by omega
  go_still_tail 13, (by kernel_rfl)
  still_call ((CP.out (World.drew w1) ⟨c0, c1.out⟩).mono fun e w' q => ⟨q.1, q.2.symm⟩)
  repeat still_step
  refine wpStill_nil ?_
  change wpList _ _ _ _ _ (World.drew w1)
  clear W1
  go_wp2
  have DR : Below w.heap.size w (World.drew w1) := Below.drewN' FIN.out 1
  have hle : w.heap.size ≤ B := by rw [← HW.out.2]; exact Nat.le_refl _
  exact bodyPost_ret (v := .tuple #[.agg #[.int .i64 xa, (.int .i64 xv)], .bool true]) (by simp [results, Try.results91, go_sem, d0, d1]) rfl ⟨rfl, by first | exact (DR.setCell (p := ⟨B, 0, none⟩) hle _).setCell (p := ⟨B, 1, none⟩) hle _ | exact ((FIN.out.setCell (p := ⟨B, 0, none⟩) hle _).setCell (p := ⟨B, 1, none⟩) hle _).drewN' 1⟩
end Go.Proofs.Ytajkhbdniadkkaa
/- A ring of trimtab/api.Milli: the eldest ones go. -/
namespace Go.Proofs.Ytajkhbdniadkkaa
open Go.RowKit Go.Lib
open Go.Joins (cell_of_block unfrozen_of_block block_setCell)
set_option linter.unusedVariables false
set_option linter.unusedSimpArgs false
set_option maxRecDepth 20000

set_option maxHeartbeats 1000000 in
theorem dropQ (w : World) (rb gb n cp f m k : Nat) (c : Nat → Int × Int) (h : RgQ w rb gb n cp f m c) (hk : k ≤ m) :
    Calls Try.prog 92 #[.pointer (some ⟨rb, 0, none⟩), .int .i64 (k : Int)] w fun e w' => e = .returned (.tuple #[]) ∧
      ∃ f' c', RgQ w' rb gb n cp f' (m - k) c' ∧ (∀ i, i < m - k → c' (pl n f' i) = c (pl n f (i + k))) ∧ Tch [rb, gb] w w' := by
  have hm32 : m ≤ 32 := by have := h.hm; have := h.hn; omega
  have S0 : Hid (∃ f' c', RgQ w rb gb n cp f' (m - 0) c' ∧ (∀ i, i < m - 0 → c' (pl n f' i) = c (pl n f (i + 0))) ∧ Tch [rb, gb] w w) := ⟨f, c, h, fun _ _ => rfl, Tch.refl _ _⟩
  clear h
  go_enter Try.func92, Try.ntmps92
  go_wp2_with fail
  go_loopg [5] k (fun g vi wr => ∃ j : Nat, vi = .int .i64 (j : Int) ∧ j ≤ k ∧ k - j ≤ g ∧ Hid (∃ f' c', RgQ wr rb gb n cp f' (m - j) c' ∧ (∀ i, i < m - j → c' (pl n f' i) = c (pl n f (i + j))) ∧ Tch [rb, gb] w wr))
  case atStart => exact ⟨0, rfl, by omega, by omega, S0⟩
  case round =>
    obtain ⟨j, rfl, hj, hg, HR⟩ := hrel
    by_cases hlt : j < k
    · obtain ⟨f', c', h, hc, ht⟩ := HR.out
      obtain ⟨q, hq⟩ : ∃ q, q = m - j := ⟨_, rfl⟩
      rw [← hq] at h hc
      have hf := h.hf
      have hn32 := h.hn
      have hqn := h.hm
      obtain ⟨w2, hw2⟩ : ∃ w2, w2 = ((wr.setCell ⟨gb, f' * 2, none⟩ (.int .i64 0)).setCell ⟨gb, f' * 2 + 1, none⟩ (.int .i64 0)).drew := ⟨_, rfl⟩
      have h2 : RgQ w2 rb gb n cp f' q (upd c' f' (0, 0)) := by rw [hw2]; exact (h.setS hf (0, 0)).drewN 1
      have hpl : pl n f' 1 < n := pl_lt hf (by omega)
      obtain ⟨p, hp⟩ : ∃ p, p = pl n f' 1 := ⟨_, rfl⟩
      rw [← hp] at hpl
      have CP := Lib.hid (placeQ w2 rb gb n cp f' 1 h2.c0 h2.c1 hf (by omega) hn32.2)
      rw [← hp] at CP
      obtain ⟨w3, hw3⟩ : ∃ w3, w3 = w2.setCell ⟨rb, 1, none⟩ (.int .i64 (p : Int)) := ⟨_, rfl⟩
      have h3 : RgQ w3 rb gb n cp p q (upd c' f' (0, 0)) := by rw [hw3]; exact h2.setF hpl
      obtain ⟨w4, hw4⟩ : ∃ w4, w4 = w3.setCell ⟨rb, 2, none⟩ (.int .i64 ((q : Int) - 1)) := ⟨_, rfl⟩
      have h4 : RgQ w4 rb gb n cp p (q - 1) (upd c' f' (0, 0)) := by
        rw [hw4, show ((q : Int) - 1) = ((q - 1 : Nat) : Int) by omega]
        exact h3.setM (by omega)
      have c0 := h.c0
      have c1 := h.c1
      have a0 := h.at0 hf
      have a1 := h.at1 hf
      have u0 := h.uat (f' * 2)
      have u1 := h.uat (f' * 2 + 1)
      have d1 := h2.c1
      have v1 := h2.u1
      have d2 := h3.c2
      have v2 := h3.u2
      have f0 : (0 : Int) ≤ (f' : Int) := Int.natCast_nonneg _
      have f1 : (f' : Int) < (n : Int) := by omega
      have hq32 : q ≤ 32 := by omega
      have hq1 : 1 ≤ q := by omega
      have ht4 : Tch [rb, gb] w w4 := by
        rw [hw4, hw3, hw2]
        exact ((((ht.setCell _ _ (.inl (by simp))).setCell _ _ (.inl (by simp))).drewN 1).setCell _ _ (.inl (by simp))).setCell _ _ (.inl (by simp))
      have FIN : Hid (∃ f' c', RgQ w4 rb gb n cp f' (m - (j + 1)) c' ∧ (∀ i, i < m - (j + 1) → c' (pl n f' i) = c (pl n f (i + (j + 1)))) ∧ Tch [rb, gb] w w4) := by
        refine ⟨p, _, by rw [show m - (j + 1) = q - 1 by omega]; exact h4, fun i hi => ?_, ht4⟩
        rw [hp, pl_one hf (by omega), upd_other _ _ (fun e => by have := pl_inj (n := n) hf (i := i + 1) (j := 0) (by omega) (by omega) (by rw [e, pl_zero hf]); omega), hc (i + 1) (by omega)]
        congr 2
        omega
      have HW : Hid (((wr.setCell ⟨gb, f' * 2, none⟩ (.int .i64 0)).setCell ⟨gb, f' * 2 + 1, none⟩ (.int .i64 0)).drew = w2 ∧ w2.setCell ⟨rb, 1, none⟩ (.int .i64 (p : Int)) = w3 ∧ w3.setCell ⟨rb, 2, none⟩ (.int .i64 ((q : Int) - 1)) = w4) := ⟨hw2.symm, hw3.symm, hw4.symm⟩
      clear HR h hc ht hq hw2 h2 hp hw3 h3 hw4 h4 ht4 S0 hpl
      go_upto_region 2 with fail
      go_still_tail 10, (by kernel_rfl)
      change wpList _ _ _ _ _ (World.drew wr)
      go_upto_region 3 with fail
      rw [HW.out.1]
      clear a0 a1 u0 u1 c0 c1
      go_wp2_with fail
      refine CP.out.mono ?_
      rintro e w' ⟨rfl, rfl⟩
      go_upto_region 4 with fail
      rw [HW.out.2.1]
      go_upto_region 5 with fail
      rw [HW.out.2.2]
      go_wp2
      go_roundg (k - (j + 1))
      case measure => omega
      case rel => exact ⟨j + 1, by push_cast; rfl, by omega, by omega, FIN⟩
    · have e : j = k := by omega
      subst e
      have FIN := HR
      clear HR S0
      go_wp2
      go_end0
      exact ⟨rfl, FIN.out⟩
end Go.Proofs.Ytajkhbdniadkkaa
/- A ring of trimtab/api.Milli: a new one. -/
namespace Go.Proofs.Ytajkhbdniadkkaa
open Go.RowKit Go.Lib
open Go.Joins (cell_of_block unfrozen_of_block block_setCell)
set_option linter.unusedVariables false
set_option linter.unusedSimpArgs false
set_option maxRecDepth 20000

theorem new_badQ (w : World) (n : Int) (h : n < 1 ∨ 32 < n) : Calls Try.prog 78 #[.int .i64 n] w fun e w' => e = .returned (.tuple #[.pointer none, .int .i64 1]) ∧ w = w' := by
  by_cases h1 : n < 1
  · go_enter Try.func78, Try.ntmps78
    go_wp2
    go_ret2
    exact ⟨rfl, rfl⟩
  · have h2 : 32 < n := by omega
    go_enter Try.func78, Try.ntmps78
    go_wp2
    go_ret2
    exact ⟨rfl, rfl⟩
theorem madeQ (n : Nat) {j : Nat} (hj : j < n) : (madeCells (Value.cells (.agg #[.int .i64 0, (.int .i64 0)])) (n * 2))[j * 2]? = some (.int .i64 0) ∧ (madeCells (Value.cells (.agg #[.int .i64 0, (.int .i64 0)])) (n * 2))[j * 2 + 1]? = some (.int .i64 0) := by
  have e : Value.cells (.agg #[.int .i64 0, (.int .i64 0)]) = #[.int .i64 0, (.int .i64 0)] := by rfl
  rw [e]
  unfold madeCells
  refine ⟨?_, ?_⟩
  · rw [Array.getElem?_map, Array.getElem?_range, if_pos (by omega)]
    have : j * 2 % 2 = 0 := by omega
    simp [this]
  · rw [Array.getElem?_map, Array.getElem?_range, if_pos (by omega)]
    have : (j * 2 + 1) % 2 = 1 := by omega
    simp [this]
/-- A new ring lies behind all that was. -/
def NewQ (w w' : World) (rb n : Nat) : Prop := ∃ gb, w.heap.size ≤ rb ∧ w.heap.size ≤ gb ∧ HasQ w' rb gb n [] ∧ Below w.heap.size w w'
theorem new_okQ (w : World) (n : Nat) (h : 1 ≤ n ∧ n ≤ 32) : Calls Try.prog 78 #[.int .i64 (n : Int)] w fun e w' => ∃ rb, e = .returned (.tuple #[.pointer (some ⟨rb, 0, none⟩), .int .i64 0]) ∧ NewQ w w' rb n := by
  obtain ⟨inf, i1, i2, i3, i4⟩ := infoQ
  have HI := Lib.hid (And.intro i1 (And.intro i2 (And.intro i3 i4)))
  clear i1 i2 i3 i4
  have h1 : ¬ ((n : Int) < 1) := by omega
  have h2 : ¬ (32 < (n : Int)) := by omega
  go_enter Try.func78, Try.ntmps78
  go_upto_region 3 with fail
  go_wp2_with (at_make; refine wpList_make_full w rfl (.tmp 10) (.tmp 10) _ rfl w.heap.size TSQ inf _ 2 Try.underlying105 HI.out.1 HI.out.2.1 HI.out.2.2.1 .i64 .i64 n n n rfl rfl rfl rfl (by rw [HI.out.2.2.2]; omega) (by unfold maxLen; omega) (Nat.le_refl _) ?_; intro w1 hq hg1)
  obtain ⟨G, hG⟩ : ∃ G, G = w.heap.size := ⟨_, rfl⟩
  obtain ⟨R, hR⟩ : ∃ R, R = w1.heap.size := ⟨_, rfl⟩
  obtain ⟨w2, hw2⟩ : ∃ w2, w2 = w1.alloc (.cells #[.slice (some ⟨w.heap.size, 0, none⟩) n n, .int .i64 0, .int .i64 0] TRQ) := ⟨_, rfl⟩
  have FIN : Hid (w.heap.size ≤ R ∧ w.heap.size ≤ G ∧ HasQ w2 R G n [] ∧ Below w.heap.size w w2) := by
    have b1 : Below w.heap.size w w1 := (Below.refl _ _).grown hg1 (Nat.le_refl _) (by simp)
    have hGR : G < R := by rw [hG, hR]; exact (hq.lt w.heap.size rfl).2
    rcases hq.2 with ⟨h0, _⟩ | ⟨g, cap, cur, hv, hb, hgb, hnc, hcm, hcs, hct⟩
    · simp at h0
    · simp only [Value.slice.injEq, Option.some.injEq, Addr.mk.injEq] at hv
      obtain ⟨⟨rfl, -, -⟩, -, rfl⟩ := hv
      have hcur : ∀ i : Nat, i < n * 2 → cur[i]? = (madeCells (Value.cells (.agg #[.int .i64 0, (.int .i64 0)])) (n * 2))[i]? := fun i hi => by
        have := congrArg (fun l => l[i]?) hct
        simp only [List.getElem?_take_of_lt hi, Array.getElem?_toList] at this
        exact this
      refine ⟨by omega, by omega, ⟨n, 0, fun _ => (0, 0), ⟨?_, ⟨cur, ?_, by omega, fun j hj => ?_⟩, by omega, h, by omega, by simp⟩, fun i x hx => by simp at hx⟩, ?_⟩
      · rw [hw2, hR, hG]; exact heap_alloc_new w1 _
      · rw [hw2, hG]; exact (Below.heap_alloc w1 _ _ (Array.getElem?_eq_some_iff.1 hgb).1).trans hgb
      · rw [hcur _ (by omega), hcur _ (by omega)]
        exact madeQ n hj
      · rw [hw2]; exact b1.alloc b1.size _
  have HW := Lib.hid (And.intro hR hw2)
  clear hq hg1 hR hw2 hG
  go_wp2
  rw [← HW.out.1, ← HW.out.2]
  go_ret2
  exact ⟨R, rfl, G, FIN.out⟩
end Go.Proofs.Ytajkhbdniadkkaa
/- A ring of trimtab/api.Milli: one more. -/
namespace Go.Proofs.Ytajkhbdniadkkaa
open Go.RowKit Go.Lib
open Go.Joins (cell_of_block unfrozen_of_block block_setCell)
set_option linter.unusedVariables false
set_option linter.unusedSimpArgs false
set_option maxRecDepth 20000

theorem put_nilQ (w : World) (xa : Int) (xv : Int) : Calls Try.prog 77 #[.pointer none, .int .i64 xa, (.int .i64 xv)] w fun e w' => e = .returned (.int .i64 1) ∧ w = w' := by
  go_enter Try.func77, Try.ntmps77
  go_wp2
  go_ret
  exact ⟨rfl, rfl⟩
theorem put_belowQ (w : World) (rb gb n cp f m : Nat) (c : Nat → Int × Int) (h : RgQ w rb gb n cp f m c) (xa : Int) (xv : Int) (hx : xa < 0) : Calls Try.prog 77 #[.pointer (some ⟨rb, 0, none⟩), .int .i64 xa, (.int .i64 xv)] w fun e w' => e = .returned (.int .i64 1) ∧ w = w' := by
  have c0 := h.c0
  have hn := h.hn
  have hn0 : ((n : Int) == 0) = false := by rw [beq_eq_false_iff_ne]; omega
  clear h
  go_enter Try.func77, Try.ntmps77
  go_wp2
  go_ret
  exact ⟨rfl, rfl⟩
/-- What Last says. -/
theorem last_isQ (w : World) (rb gb n : Nat) (L : List (Int × Int)) (H : HasQ w rb gb n L) (P : Int → Prop) (h : ∀ y, L.getLast? = some y → P y.1) :
    ∃ (ya : Int) (yv : Int) (b : Bool), Hid (Calls Try.prog 91 #[.pointer (some ⟨rb, 0, none⟩)] w fun e w' => e = .returned (.tuple #[.agg #[.int .i64 ya, (.int .i64 yv)], .bool b]) ∧ Below w.heap.size w w') ∧ (b = true → P ya) := by
  rcases List.eq_nil_or_concat L with rfl | ⟨l, y, rfl⟩
  · exact ⟨0, 0, false, last_emptyQ w rb gb n H, fun e => by cases e⟩
  · rw [List.concat_eq_append] at H h
    exact ⟨y.1, y.2, true, last_someQ w rb gb n l y H, fun _ => h y (by simp)⟩

set_option maxHeartbeats 1000000 in
theorem put_staleQ (w : World) (rb gb n : Nat) (L : List (Int × Int)) (y : Int × Int) (H : HasQ w rb gb n (L ++ [y])) (xa : Int) (xv : Int) (h0 : 0 ≤ xa) (hy : xa ≤ y.1) :
    Calls Try.prog 77 #[.pointer (some ⟨rb, 0, none⟩), .int .i64 xa, (.int .i64 xv)] w fun e w' => e = .returned (.int .i64 13) ∧ Below w.heap.size w w' := by
  have CL := Lib.hid (last_someQ w rb gb n L y H)
  obtain ⟨cp, f, c, h, _⟩ := H
  obtain ⟨ya, yv⟩ := y
  simp only at CL hy
  have c0 := h.c0
  have hn := h.hn
  have hn0 : ((n : Int) == 0) = false := by rw [beq_eq_false_iff_ne]; omega
  have hx : ¬ xa < 0 := by omega
  clear h
  go_enter Try.func77, Try.ntmps77
  go_wp2_with fail
  refine CL.out.mono ?_
  rintro e w1 ⟨rfl, b1⟩
  have B1 := Lib.hid b1
  clear b1 CL
  go_upto_region 4 with fail
  obtain ⟨A, hA⟩ : ∃ A, A = w1.heap.size := ⟨_, rfl⟩
  obtain ⟨w2, hw2⟩ : ∃ w2, w2 = w1.alloc (.cells #[.int .i64 ya, (.int .i64 yv)] TSQ) := ⟨_, rfl⟩
  have k0 : w2.heap[A]? = some (.cells #[.int .i64 ya, (.int .i64 yv)] TSQ (0, 0)) := by rw [hw2, hA]; exact heap_alloc_new w1 _
  have d0 : w2.cell? ⟨A, 0, none⟩ = some (.int .i64 ya) := cell_of_block k0 0
  have B2 : Hid (Below w.heap.size w w2) := by show Below _ _ _; rw [hw2]; exact B1.out.alloc B1.out.size _
  rw [← hw2, ← hA]
  clear hw2 k0 hA
  go_wp2
  go_ret
  exact ⟨rfl, B2.out⟩

set_option maxHeartbeats 2000000 in
theorem put_okQ (w : World) (rb gb n : Nat) (L : List (Int × Int)) (H : HasQ w rb gb n L) (xa : Int) (xv : Int) (h0 : 0 ≤ xa) (hl : ∀ y, L.getLast? = some y → y.1 < xa) :
    Calls Try.prog 77 #[.pointer (some ⟨rb, 0, none⟩), .int .i64 xa, (.int .i64 xv)] w fun e w' => e = .returned (.int .i64 0) ∧ HasQ w' rb gb n ((if L.length = n then L.drop 1 else L) ++ [(xa, xv)]) ∧ Tch [rb, gb] w w' := by
  have mixed : Try.prog.follows .mixedOrders = true := by kernel_rfl
  obtain ⟨ya, yv, b, CL, hb⟩ := last_isQ w rb gb n L H (fun t => t < xa) hl
  obtain ⟨cp, f, c, h, hc⟩ := H
  obtain ⟨m, hm⟩ : ∃ m, m = L.length := ⟨_, rfl⟩
  rw [← hm] at h
  have c0 := h.c0
  have hn := h.hn
  have hmn := h.hm
  have hn0 : ((n : Int) == 0) = false := by rw [beq_eq_false_iff_ne]; omega
  have hx : ¬ xa < 0 := by omega
  have HH := Lib.hid (And.intro h (And.intro hc hm))
  clear h hc hl
  rw [← hm]
  clear hm
  obtain ⟨L3, hL3'⟩ : ∃ L3, L3 = if m = n then L.drop 1 else L := ⟨_, rfl⟩
  rw [← hL3']
  have HL := Lib.hid hL3'
  clear hL3'
  have hcase : b = false ∨ (b = true ∧ ¬ (xa ≤ ya)) := by
    cases b with
    | false => exact .inl rfl
    | true => exact .inr ⟨rfl, by have := hb rfl; omega⟩
  clear hb
  rcases hcase with rfl | ⟨rfl, hgt⟩ <;> by_cases hfull : m = n
  all_goals
    go_enter Try.func77, Try.ntmps77
    go_wp2_with fail
    refine CL.out.mono ?_
    rintro e w1 ⟨rfl, b1⟩
    have B1 := Lib.hid b1
    clear b1 CL c0
    go_upto_region 4 with fail
    obtain ⟨A, hA⟩ : ∃ A, A = w1.heap.size := ⟨_, rfl⟩
    obtain ⟨w2, hw2⟩ : ∃ w2, w2 = w1.alloc (.cells #[.int .i64 ya, (.int .i64 yv)] TSQ) := ⟨_, rfl⟩
    rw [← hA]
    first | rw [← hw2] | fail "world"
    have k0 : w2.heap[A]? = some (.cells #[.int .i64 ya, (.int .i64 yv)] TSQ (0, 0)) := by rw [hw2, hA]; exact heap_alloc_new w1 _
    have d0 : w2.cell? ⟨A, 0, none⟩ = some (.int .i64 ya) := cell_of_block k0 0
    have b2 : Below w.heap.size w w2 := by rw [hw2]; exact B1.out.alloc B1.out.size _
    have B2 := Lib.hid b2
    have h2 := HH.out.1.gr b2
    have c0 := h2.c0
    have c2 := h2.c2
    have hc := HH.out.2.1
    have hm := HH.out.2.2
    clear hw2 k0 hA B1 b2 HH
  · have hful := hfull.symm
    subst hful
    have CD : Hid (∀ q, Calls Try.prog 92 #[.pointer (some ⟨rb, 0, none⟩), .int .i64 1] (w2.drewN q) fun e w' => e = .returned (.tuple #[]) ∧
      ∃ f' c', RgQ w' rb gb n cp f' (n - 1) c' ∧ (∀ i, i < n - 1 → c' (pl n f' i) = c (pl n f (i + 1))) ∧ Tch [rb, gb] (w2.drewN q) w') := fun q => dropQ (w2.drewN q) rb gb n cp f n 1 c (h2.drewN q) (by omega)
    have H2 := Lib.hid (And.intro h2 (And.intro hc hm))
    clear h2 hc hm
    go_upto_region 6 with fail
    go_quiet (fail)
    go_upto_region 7 with fail
    go_wp2_with fail
    refine (CD.out _).mono ?_
    rintro e w3 ⟨rfl, f3, c3, h3, hc3', tq⟩
    obtain ⟨h2, hc, hm⟩ := H2.out
    obtain ⟨m3, hm3⟩ : ∃ m3, m3 = n - 1 := ⟨_, rfl⟩
    have hL : L3 = L.drop 1 := by rw [HL.out]; simp
    rw [← hm3] at h3 hc3'
    have hL3 : L3.length = m3 := by rw [hL, List.length_drop]; omega
    have t3 : Tch [rb, gb] w w3 := (Tch.ofBelow (Below.drewN' B2.out nq) [rb, gb]).trans tq (fun g hg => .inl hg)
    have hc3 : ∀ i x, L3[i]? = some x → c3 (pl n f3 i) = x := fun i x hx => by
      have hi : i < m3 := by rw [← hL3]; exact (List.getElem?_eq_some_iff.1 hx).1
      rw [hc3' i hi]
      rw [hL, List.getElem?_drop, Nat.add_comm] at hx
      exact hc (i + 1) x hx
    have hlt3 : m3 < n := by omega
    clear CD H2 h2 hc hm c0 c2 hc3' tq hL B2 hm3
    have TT := Lib.hid t3
    have hn3 := h3.hn
    have hf3 := h3.hf
    have hpl : pl n f3 m3 < n := pl_lt hf3 (by omega)
    obtain ⟨p, hp⟩ : ∃ p, p = pl n f3 m3 := ⟨_, rfl⟩
    have CP := Lib.hid (placeQ (World.drew w3) rb gb n cp f3 m3 h3.c0 h3.c1 hf3 (by omega) hn3.2)
    rw [← hp] at CP hpl
    obtain ⟨w4, hw4⟩ : ∃ w4, w4 = ((w3.setCell ⟨gb, p * 2, none⟩ (.int .i64 xa)).setCell ⟨gb, p * 2 + 1, none⟩ (.int .i64 xv)).drew := ⟨_, rfl⟩
    have h4 : RgQ w4 rb gb n cp f3 m3 (upd c3 p (xa, xv)) := by rw [hw4]; exact (h3.setS hpl (xa, xv)).drewN 1
    obtain ⟨w5, hw5⟩ : ∃ w5, w5 = w4.setCell ⟨rb, 2, none⟩ (.int .i64 ((m3 : Int) + 1)) := ⟨_, rfl⟩
    have h5 : RgQ w5 rb gb n cp f3 (m3 + 1) (upd c3 p (xa, xv)) := by
      rw [hw5, show ((m3 : Int) + 1) = ((m3 + 1 : Nat) : Int) by omega]
      exact h4.setM (by omega)
    have c0 := h3.c0
    have c2 := h3.c2
    have a0 := h3.at0 hpl
    have a1 := h3.at1 hpl
    have u0 := h3.uat (p * 2)
    have u1 := h3.uat (p * 2 + 1)
    have d2 := h4.c2
    have v2 := h4.u2
    have p0 : (0 : Int) ≤ (p : Int) := Int.natCast_nonneg _
    have p1 : (p : Int) < (n : Int) := by omega
    have FIN : Hid (HasQ w5 rb gb n (L3 ++ [(xa, xv)]) ∧ Tch [rb, gb] w w5) := by
      refine ⟨⟨cp, f3, _, by rw [List.length_append, hL3]; exact h5, fun i x hx => ?_⟩, ?_⟩
      · by_cases hi : i < m3
        · rw [List.getElem?_append_left (by omega)] at hx
          rw [upd_other _ _ (fun e => by rw [hp] at e; have := pl_inj hf3 (by omega) (by omega) e; omega)]
          exact hc3 i x hx
        · rw [List.getElem?_append_right (by omega)] at hx
          have hi0 : i - L3.length = 0 := by
            rcases Nat.eq_zero_or_pos (i - L3.length) with e | e
            · exact e
            · rw [List.getElem?_eq_none (by simp; omega)] at hx; cases hx
          rw [hi0] at hx
          simp only [List.getElem?_cons_zero, Option.some.injEq] at hx
          rw [show i = m3 by omega, ← hp, upd_same]
          exact hx
      · rw [hw5, hw4]
        exact (((TT.out.setCell _ _ (.inl (by simp))).setCell _ _ (.inl (by simp))).drewN 1).setCell _ _ (.inl (by simp))
    have HW : Hid (((w3.setCell ⟨gb, p * 2, none⟩ (.int .i64 xa)).setCell ⟨gb, p * 2 + 1, none⟩ (.int .i64 xv)).drew = w4 ∧ w4.setCell ⟨rb, 2, none⟩ (.int .i64 ((m3 : Int) + 1)) = w5) := ⟨hw4.symm, hw5.symm⟩
    clear h3 t3 hL3 hc3 hp hw4 h4 hw5 h5 TT
    go_upto_region 8 with fail
    refine wp_region_still_tail 14 (by kernel_rfl) (by kernel_rfl) ?_
    simp only [List.take_succ_cons, List.take_zero, List.drop_succ_cons, List.drop_zero]
    repeat still_step
    still_call (CP.out.mono fun e w' q => ⟨q.1, q.2.symm⟩)
    repeat still_step
    refine wpStill_nil ?_
    change wpList _ _ _ _ _ (World.drew w3)
    go_upto_region 9 with fail
    rw [HW.out.1]
    clear a0 a1 u0 u1 c0 c2
    go_upto_region 10 with fail
    rw [HW.out.2]
    go_wp2
    go_ret
    exact ⟨rfl, FIN.out.1, FIN.out.2⟩
  · have hmb : ((m : Int) == (n : Int)) = false := by rw [beq_eq_false_iff_ne]; omega
    have hmb2 : (m == n) = false := by rw [beq_eq_false_iff_ne]; omega
    have H2 := Lib.hid (And.intro h2 (And.intro hc hm))
    clear h2 hc hm
    go_upto_region 6 with fail
    go_quiet (fail)
    go_upto_region 8 with fail
    obtain ⟨w3, hw3⟩ : ∃ w3, w3 = w2.drewN nq := ⟨_, rfl⟩
    rw [← hw3]
    obtain ⟨h2, hc, hm⟩ := H2.out
    have h3 : RgQ w3 rb gb n cp f m c := by rw [hw3]; exact h2.drewN nq
    have t3 : Tch [rb, gb] w w3 := by rw [hw3]; exact Tch.ofBelow (Below.drewN' B2.out nq) _
    obtain ⟨f3, hf3'⟩ : ∃ f3, f3 = f := ⟨_, rfl⟩
    obtain ⟨c3, hc3'⟩ : ∃ c3, c3 = c := ⟨_, rfl⟩
    obtain ⟨m3, hm3⟩ : ∃ m3, m3 = m := ⟨_, rfl⟩
    have hL : L3 = L := by rw [HL.out, if_neg hfull]
    rw [← hf3', ← hc3', ← hm3] at h3
    rw [← hf3', ← hc3', ← hL] at hc
    have hL3 : L3.length = m3 := by rw [hL, hm3, hm]
    have hc3 := hc
    have hlt3 : m3 < n := by omega
    clear h2 hc hm c0 c2 hc3' hf3' hL hm3 B2 H2 hw3 hmb hmb2
    have TT := Lib.hid t3
    have hn3 := h3.hn
    have hf3 := h3.hf
    have hpl : pl n f3 m3 < n := pl_lt hf3 (by omega)
    obtain ⟨p, hp⟩ : ∃ p, p = pl n f3 m3 := ⟨_, rfl⟩
    have CP := Lib.hid (placeQ (World.drew w3) rb gb n cp f3 m3 h3.c0 h3.c1 hf3 (by omega) hn3.2)
    rw [← hp] at CP hpl
    obtain ⟨w4, hw4⟩ : ∃ w4, w4 = ((w3.setCell ⟨gb, p * 2, none⟩ (.int .i64 xa)).setCell ⟨gb, p * 2 + 1, none⟩ (.int .i64 xv)).drew := ⟨_, rfl⟩
    have h4 : RgQ w4 rb gb n cp f3 m3 (upd c3 p (xa, xv)) := by rw [hw4]; exact (h3.setS hpl (xa, xv)).drewN 1
    obtain ⟨w5, hw5⟩ : ∃ w5, w5 = w4.setCell ⟨rb, 2, none⟩ (.int .i64 ((m3 : Int) + 1)) := ⟨_, rfl⟩
    have h5 : RgQ w5 rb gb n cp f3 (m3 + 1) (upd c3 p (xa, xv)) := by
      rw [hw5, show ((m3 : Int) + 1) = ((m3 + 1 : Nat) : Int) by omega]
      exact h4.setM (by omega)
    have c0 := h3.c0
    have c2 := h3.c2
    have a0 := h3.at0 hpl
    have a1 := h3.at1 hpl
    have u0 := h3.uat (p * 2)
    have u1 := h3.uat (p * 2 + 1)
    have d2 := h4.c2
    have v2 := h4.u2
    have p0 : (0 : Int) ≤ (p : Int) := Int.natCast_nonneg _
    have p1 : (p : Int) < (n : Int) := by omega
    have FIN : Hid (HasQ w5 rb gb n (L3 ++ [(xa, xv)]) ∧ Tch [rb, gb] w w5) := by
      refine ⟨⟨cp, f3, _, by rw [List.length_append, hL3]; exact h5, fun i x hx => ?_⟩, ?_⟩
      · by_cases hi : i < m3
        · rw [List.getElem?_append_left (by omega)] at hx
          rw [upd_other _ _ (fun e => by rw [hp] at e; have := pl_inj hf3 (by omega) (by omega) e; omega)]
          exact hc3 i x hx
        · rw [List.getElem?_append_right (by omega)] at hx
          have hi0 : i - L3.length = 0 := by
            rcases Nat.eq_zero_or_pos (i - L3.length) with e | e
            · exact e
            · rw [List.getElem?_eq_none (by simp; omega)] at hx; cases hx
          rw [hi0] at hx
          simp only [List.getElem?_cons_zero, Option.some.injEq] at hx
          rw [show i = m3 by omega, ← hp, upd_same]
          exact hx
      · rw [hw5, hw4]
        exact (((TT.out.setCell _ _ (.inl (by simp))).setCell _ _ (.inl (by simp))).drewN 1).setCell _ _ (.inl (by simp))
    have HW : Hid (((w3.setCell ⟨gb, p * 2, none⟩ (.int .i64 xa)).setCell ⟨gb, p * 2 + 1, none⟩ (.int .i64 xv)).drew = w4 ∧ w4.setCell ⟨rb, 2, none⟩ (.int .i64 ((m3 : Int) + 1)) = w5) := ⟨hw4.symm, hw5.symm⟩
    clear h3 t3 hL3 hc3 hp hw4 h4 hw5 h5 TT
    go_upto_region 8 with fail
    refine wp_region_still_tail 14 (by kernel_rfl) (by kernel_rfl) ?_
    simp only [List.take_succ_cons, List.take_zero, List.drop_succ_cons, List.drop_zero]
    repeat still_step
    still_call (CP.out.mono fun e w' q => ⟨q.1, q.2.symm⟩)
    repeat still_step
    refine wpStill_nil ?_
    change wpList _ _ _ _ _ (World.drew w3)
    go_upto_region 9 with fail
    rw [HW.out.1]
    clear a0 a1 u0 u1 c0 c2
    go_upto_region 10 with fail
    rw [HW.out.2]
    go_wp2
    go_ret
    exact ⟨rfl, FIN.out.1, FIN.out.2⟩
  · have hful := hfull.symm
    subst hful
    have CD : Hid (∀ q, Calls Try.prog 92 #[.pointer (some ⟨rb, 0, none⟩), .int .i64 1] (w2.drewN q) fun e w' => e = .returned (.tuple #[]) ∧
      ∃ f' c', RgQ w' rb gb n cp f' (n - 1) c' ∧ (∀ i, i < n - 1 → c' (pl n f' i) = c (pl n f (i + 1))) ∧ Tch [rb, gb] (w2.drewN q) w') := fun q => dropQ (w2.drewN q) rb gb n cp f n 1 c (h2.drewN q) (by omega)
    have H2 := Lib.hid (And.intro h2 (And.intro hc hm))
    clear h2 hc hm
    go_upto_region 6 with fail
    go_quiet (fail)
    go_upto_region 7 with fail
    go_wp2_with fail
    refine (CD.out _).mono ?_
    rintro e w3 ⟨rfl, f3, c3, h3, hc3', tq⟩
    obtain ⟨h2, hc, hm⟩ := H2.out
    obtain ⟨m3, hm3⟩ : ∃ m3, m3 = n - 1 := ⟨_, rfl⟩
    have hL : L3 = L.drop 1 := by rw [HL.out]; simp
    rw [← hm3] at h3 hc3'
    have hL3 : L3.length = m3 := by rw [hL, List.length_drop]; omega
    have t3 : Tch [rb, gb] w w3 := (Tch.ofBelow (Below.drewN' B2.out nq) [rb, gb]).trans tq (fun g hg => .inl hg)
    have hc3 : ∀ i x, L3[i]? = some x → c3 (pl n f3 i) = x := fun i x hx => by
      have hi : i < m3 := by rw [← hL3]; exact (List.getElem?_eq_some_iff.1 hx).1
      rw [hc3' i hi]
      rw [hL, List.getElem?_drop, Nat.add_comm] at hx
      exact hc (i + 1) x hx
    have hlt3 : m3 < n := by omega
    clear CD H2 h2 hc hm c0 c2 hc3' tq hL B2 hm3
    have TT := Lib.hid t3
    have hn3 := h3.hn
    have hf3 := h3.hf
    have hpl : pl n f3 m3 < n := pl_lt hf3 (by omega)
    obtain ⟨p, hp⟩ : ∃ p, p = pl n f3 m3 := ⟨_, rfl⟩
    have CP := Lib.hid (placeQ (World.drew w3) rb gb n cp f3 m3 h3.c0 h3.c1 hf3 (by omega) hn3.2)
    rw [← hp] at CP hpl
    obtain ⟨w4, hw4⟩ : ∃ w4, w4 = ((w3.setCell ⟨gb, p * 2, none⟩ (.int .i64 xa)).setCell ⟨gb, p * 2 + 1, none⟩ (.int .i64 xv)).drew := ⟨_, rfl⟩
    have h4 : RgQ w4 rb gb n cp f3 m3 (upd c3 p (xa, xv)) := by rw [hw4]; exact (h3.setS hpl (xa, xv)).drewN 1
    obtain ⟨w5, hw5⟩ : ∃ w5, w5 = w4.setCell ⟨rb, 2, none⟩ (.int .i64 ((m3 : Int) + 1)) := ⟨_, rfl⟩
    have h5 : RgQ w5 rb gb n cp f3 (m3 + 1) (upd c3 p (xa, xv)) := by
      rw [hw5, show ((m3 : Int) + 1) = ((m3 + 1 : Nat) : Int) by omega]
      exact h4.setM (by omega)
    have c0 := h3.c0
    have c2 := h3.c2
    have a0 := h3.at0 hpl
    have a1 := h3.at1 hpl
    have u0 := h3.uat (p * 2)
    have u1 := h3.uat (p * 2 + 1)
    have d2 := h4.c2
    have v2 := h4.u2
    have p0 : (0 : Int) ≤ (p : Int) := Int.natCast_nonneg _
    have p1 : (p : Int) < (n : Int) := by omega
    have FIN : Hid (HasQ w5 rb gb n (L3 ++ [(xa, xv)]) ∧ Tch [rb, gb] w w5) := by
      refine ⟨⟨cp, f3, _, by rw [List.length_append, hL3]; exact h5, fun i x hx => ?_⟩, ?_⟩
      · by_cases hi : i < m3
        · rw [List.getElem?_append_left (by omega)] at hx
          rw [upd_other _ _ (fun e => by rw [hp] at e; have := pl_inj hf3 (by omega) (by omega) e; omega)]
          exact hc3 i x hx
        · rw [List.getElem?_append_right (by omega)] at hx
          have hi0 : i - L3.length = 0 := by
            rcases Nat.eq_zero_or_pos (i - L3.length) with e | e
            · exact e
            · rw [List.getElem?_eq_none (by simp; omega)] at hx; cases hx
          rw [hi0] at hx
          simp only [List.getElem?_cons_zero, Option.some.injEq] at hx
          rw [show i = m3 by omega, ← hp, upd_same]
          exact hx
      · rw [hw5, hw4]
        exact (((TT.out.setCell _ _ (.inl (by simp))).setCell _ _ (.inl (by simp))).drewN 1).setCell _ _ (.inl (by simp))
    have HW : Hid (((w3.setCell ⟨gb, p * 2, none⟩ (.int .i64 xa)).setCell ⟨gb, p * 2 + 1, none⟩ (.int .i64 xv)).drew = w4 ∧ w4.setCell ⟨rb, 2, none⟩ (.int .i64 ((m3 : Int) + 1)) = w5) := ⟨hw4.symm, hw5.symm⟩
    clear h3 t3 hL3 hc3 hp hw4 h4 hw5 h5 TT
    go_upto_region 8 with fail
    refine wp_region_still_tail 14 (by kernel_rfl) (by kernel_rfl) ?_
    simp only [List.take_succ_cons, List.take_zero, List.drop_succ_cons, List.drop_zero]
    repeat still_step
    still_call (CP.out.mono fun e w' q => ⟨q.1, q.2.symm⟩)
    repeat still_step
    refine wpStill_nil ?_
    change wpList _ _ _ _ _ (World.drew w3)
    go_upto_region 9 with fail
    rw [HW.out.1]
    clear a0 a1 u0 u1 c0 c2
    go_upto_region 10 with fail
    rw [HW.out.2]
    go_wp2
    go_ret
    exact ⟨rfl, FIN.out.1, FIN.out.2⟩
  · have hmb : ((m : Int) == (n : Int)) = false := by rw [beq_eq_false_iff_ne]; omega
    have hmb2 : (m == n) = false := by rw [beq_eq_false_iff_ne]; omega
    have H2 := Lib.hid (And.intro h2 (And.intro hc hm))
    clear h2 hc hm
    go_upto_region 6 with fail
    go_quiet (fail)
    go_upto_region 8 with fail
    obtain ⟨w3, hw3⟩ : ∃ w3, w3 = w2.drewN nq := ⟨_, rfl⟩
    rw [← hw3]
    obtain ⟨h2, hc, hm⟩ := H2.out
    have h3 : RgQ w3 rb gb n cp f m c := by rw [hw3]; exact h2.drewN nq
    have t3 : Tch [rb, gb] w w3 := by rw [hw3]; exact Tch.ofBelow (Below.drewN' B2.out nq) _
    obtain ⟨f3, hf3'⟩ : ∃ f3, f3 = f := ⟨_, rfl⟩
    obtain ⟨c3, hc3'⟩ : ∃ c3, c3 = c := ⟨_, rfl⟩
    obtain ⟨m3, hm3⟩ : ∃ m3, m3 = m := ⟨_, rfl⟩
    have hL : L3 = L := by rw [HL.out, if_neg hfull]
    rw [← hf3', ← hc3', ← hm3] at h3
    rw [← hf3', ← hc3', ← hL] at hc
    have hL3 : L3.length = m3 := by rw [hL, hm3, hm]
    have hc3 := hc
    have hlt3 : m3 < n := by omega
    clear h2 hc hm c0 c2 hc3' hf3' hL hm3 B2 H2 hw3 hmb hmb2
    have TT := Lib.hid t3
    have hn3 := h3.hn
    have hf3 := h3.hf
    have hpl : pl n f3 m3 < n := pl_lt hf3 (by omega)
    obtain ⟨p, hp⟩ : ∃ p, p = pl n f3 m3 := ⟨_, rfl⟩
    have CP := Lib.hid (placeQ (World.drew w3) rb gb n cp f3 m3 h3.c0 h3.c1 hf3 (by omega) hn3.2)
    rw [← hp] at CP hpl
    obtain ⟨w4, hw4⟩ : ∃ w4, w4 = ((w3.setCell ⟨gb, p * 2, none⟩ (.int .i64 xa)).setCell ⟨gb, p * 2 + 1, none⟩ (.int .i64 xv)).drew := ⟨_, rfl⟩
    have h4 : RgQ w4 rb gb n cp f3 m3 (upd c3 p (xa, xv)) := by rw [hw4]; exact (h3.setS hpl (xa, xv)).drewN 1
    obtain ⟨w5, hw5⟩ : ∃ w5, w5 = w4.setCell ⟨rb, 2, none⟩ (.int .i64 ((m3 : Int) + 1)) := ⟨_, rfl⟩
    have h5 : RgQ w5 rb gb n cp f3 (m3 + 1) (upd c3 p (xa, xv)) := by
      rw [hw5, show ((m3 : Int) + 1) = ((m3 + 1 : Nat) : Int) by omega]
      exact h4.setM (by omega)
    have c0 := h3.c0
    have c2 := h3.c2
    have a0 := h3.at0 hpl
    have a1 := h3.at1 hpl
    have u0 := h3.uat (p * 2)
    have u1 := h3.uat (p * 2 + 1)
    have d2 := h4.c2
    have v2 := h4.u2
    have p0 : (0 : Int) ≤ (p : Int) := Int.natCast_nonneg _
    have p1 : (p : Int) < (n : Int) := by omega
    have FIN : Hid (HasQ w5 rb gb n (L3 ++ [(xa, xv)]) ∧ Tch [rb, gb] w w5) := by
      refine ⟨⟨cp, f3, _, by rw [List.length_append, hL3]; exact h5, fun i x hx => ?_⟩, ?_⟩
      · by_cases hi : i < m3
        · rw [List.getElem?_append_left (by omega)] at hx
          rw [upd_other _ _ (fun e => by rw [hp] at e; have := pl_inj hf3 (by omega) (by omega) e; omega)]
          exact hc3 i x hx
        · rw [List.getElem?_append_right (by omega)] at hx
          have hi0 : i - L3.length = 0 := by
            rcases Nat.eq_zero_or_pos (i - L3.length) with e | e
            · exact e
            · rw [List.getElem?_eq_none (by simp; omega)] at hx; cases hx
          rw [hi0] at hx
          simp only [List.getElem?_cons_zero, Option.some.injEq] at hx
          rw [show i = m3 by omega, ← hp, upd_same]
          exact hx
      · rw [hw5, hw4]
        exact (((TT.out.setCell _ _ (.inl (by simp))).setCell _ _ (.inl (by simp))).drewN 1).setCell _ _ (.inl (by simp))
    have HW : Hid (((w3.setCell ⟨gb, p * 2, none⟩ (.int .i64 xa)).setCell ⟨gb, p * 2 + 1, none⟩ (.int .i64 xv)).drew = w4 ∧ w4.setCell ⟨rb, 2, none⟩ (.int .i64 ((m3 : Int) + 1)) = w5) := ⟨hw4.symm, hw5.symm⟩
    clear h3 t3 hL3 hc3 hp hw4 h4 hw5 h5 TT
    go_upto_region 8 with fail
    refine wp_region_still_tail 14 (by kernel_rfl) (by kernel_rfl) ?_
    simp only [List.take_succ_cons, List.take_zero, List.drop_succ_cons, List.drop_zero]
    repeat still_step
    still_call (CP.out.mono fun e w' q => ⟨q.1, q.2.symm⟩)
    repeat still_step
    refine wpStill_nil ?_
    change wpList _ _ _ _ _ (World.drew w3)
    go_upto_region 9 with fail
    rw [HW.out.1]
    clear a0 a1 u0 u1 c0 c2
    go_upto_region 10 with fail
    rw [HW.out.2]
    go_wp2
    go_ret
    exact ⟨rfl, FIN.out.1, FIN.out.2⟩
end Go.Proofs.Ytajkhbdniadkkaa
/- A ring of trimtab/api.Milli: all from a tick on, in new memory. -/
namespace Go.Proofs.Ytajkhbdniadkkaa
open Go.RowKit Go.Lib
open Go.Joins (cell_of_block unfrozen_of_block block_setCell)
set_option linter.unusedVariables false
set_option linter.unusedSimpArgs false
set_option maxRecDepth 20000

/-- Samples' cells. -/
def flQ (l : List (Int × Int)) : List Value := l.flatMap (fun x => [.int .i64 x.1, (.int .i64 x.2)])
theorem fl_snocQ (l : List (Int × Int)) (x : Int × Int) : flQ (l ++ [x]) = flQ l ++ [.int .i64 x.1, (.int .i64 x.2)] := by unfold flQ; rw [List.flatMap_append]; rfl
theorem fl_lenQ : ∀ l : List (Int × Int), (flQ l).length = l.length * 2
  | [] => rfl
  | x :: l => by
    have := fl_lenQ l
    unfold flQ at this ⊢
    rw [List.flatMap_cons, List.length_append, this]
    simp only [List.length_cons, List.length_nil]
    omega
theorem fl_atQ : ∀ (l : List (Int × Int)) (i : Nat) (x : Int × Int), l[i]? = some x → (flQ l)[i * 2]? = some (.int .i64 x.1) ∧ (flQ l)[i * 2 + 1]? = some (.int .i64 x.2)
  | [], i, x, h => by simp at h
  | y :: l, 0, x, h => by
    simp at h
    subst h
    exact ⟨rfl, rfl⟩
  | y :: l, i + 1, x, h => by
    have := fl_atQ l i x (by simpa using h)
    have e : (i + 1) * 2 = i * 2 + 1 + 1 := by omega
    rw [e]
    exact this

/-- Those from a tick on. -/
def frmQ (at_ : Int) (l : List (Int × Int)) : List (Int × Int) := l.filter (fun x => decide (at_ ≤ x.1))
theorem frm_nextQ (at_ : Int) {L : List (Int × Int)} {j : Nat} {x : Int × Int} (h : L[j]? = some x) : frmQ at_ (L.take (j + 1)) = frmQ at_ (L.take j) ++ (if at_ ≤ x.1 then [x] else []) := by
  obtain ⟨hl, rfl⟩ := List.getElem?_eq_some_iff.1 h
  unfold frmQ
  rw [List.take_succ_eq_append_getElem hl, List.filter_append]
  congr 1
  by_cases e : at_ ≤ L[j].1 <;> simp [List.filter_cons, e]
theorem frm_fewQ (at_ : Int) (l : List (Int × Int)) : (frmQ at_ l).length ≤ l.length := List.length_filter_le _ _

set_option maxHeartbeats 4000000 in
theorem fromQ (w : World) (rb gb n : Nat) (L : List (Int × Int)) (at_ : Int) (H : HasQ w rb gb n L) :
    Calls Try.prog 85 #[.pointer (some ⟨rb, 0, none⟩), .int .i64 at_] w fun e w' =>
      (∃ v, e = .returned v ∧ w'.ownsRow w.heap.size TSQ 2 v (frmQ at_ L).length (flQ (frmQ at_ L))) ∧ Below w.heap.size w w' := by
  have mixed : Try.prog.follows .mixedOrders = true := by kernel_rfl
  obtain ⟨cp, f, c, h, hc⟩ := H
  obtain ⟨m, hm⟩ : ∃ m, m = L.length := ⟨_, rfl⟩
  rw [← hm] at h
  obtain ⟨B, hB⟩ : ∃ B, B = w.heap.size := ⟨_, rfl⟩
  have hmn := h.hm
  have hn32 := h.hn
  have hf := h.hf
  have c2 := h.c2
  have CL := Lib.hid (rlenQ w rb m c2)
  have HH := Lib.hid (And.intro h (And.intro hc (And.intro hm hB)))
  have S0 : Hid (w.ownsRow B TSQ 2 (.slice none 0 0) (frmQ at_ (L.take 0)).length (flQ (frmQ at_ (L.take 0))) ∧ Below B w w) := ⟨World.ownsRow_nil _ _ _ _, Below.refl _ _⟩
  obtain ⟨inf, i1, i2, i3, i4⟩ := infoQ
  have HI := Lib.hid (And.intro i1 (And.intro i2 (And.intro i3 i4)))
  clear h hc hm hB i1 i2 i3 i4
  go_enter Try.func85, Try.ntmps85
  go_wp2_with fail
  refine CL.out.mono ?_
  rintro e w' ⟨rfl, rfl⟩
  go_wp2_with fail
  clear c2 CL
  go_loopg [5, 10] m (fun g v5 vi wr => ∃ j : Nat, vi = .int .i64 (j : Int) ∧ j ≤ m ∧ m - j ≤ g ∧ Hid (wr.ownsRow B TSQ 2 v5 (frmQ at_ (L.take j)).length (flQ (frmQ at_ (L.take j))) ∧ Below B w wr))
  case atStart => exact ⟨0, rfl, by omega, by omega, S0⟩
  case round =>
    obtain ⟨j, rfl, hj, hg, HR⟩ := hrel
    by_cases hlt : j < m
    · obtain ⟨own, low⟩ := HR.out
      obtain ⟨h, hc, hm, hB⟩ := HH.out
      have lt := h.lt
      rw [← hB] at lt
      have hr := h.gr (w' := wr) (by rw [← hB]; exact low)
      obtain ⟨x, hx⟩ : ∃ x, L[j]? = some x := ⟨L[j]'(by omega), List.getElem?_eq_getElem (by omega)⟩
      have hcx := hc j x hx
      have hpl : pl n f j < n := pl_lt hf (by omega)
      have c0 := hr.c0
      have c1 := hr.c1
      have a0 := hr.at0 hpl
      have a1 := hr.at1 hpl
      rw [hcx] at a0 a1
      have CP := Lib.hid (fun (W : World) (q : W.cell? ⟨rb, 0, none⟩ = some (.slice (some ⟨gb, 0, none⟩) n cp) ∧ W.cell? ⟨rb, 1, none⟩ = some (.int .i64 (f : Int))) => placeQ W rb gb n cp f j q.1 q.2 hf (by omega) hn32.2)
      obtain ⟨p, hp⟩ : ∃ p, p = pl n f j := ⟨_, rfl⟩
      rw [← hp] at CP a0 a1 hpl
      obtain ⟨xa, xv⟩ := x
      simp only at a0 a1
      have p0 : (0 : Int) ≤ (p : Int) := Int.natCast_nonneg _
      have p1 : (p : Int) < (n : Int) := by omega
      have HN := Lib.hid (frm_nextQ at_ hx)
      have HX := Lib.hid (And.intro own low)
      have LT := Lib.hid lt
      have hBr : Hid (B ≤ wr.heap.size) := by have := low.size; show _ ≤ _; omega
      clear own low h hc hm hB hr hx hcx hp HR lt
      have hlr : rb < wr.heap.size ∧ gb < wr.heap.size := by have := LT.out; have := hBr.out; omega
      obtain ⟨hlr1, hlr2⟩ := hlr
      have e0 : (wr.alloc (.cells #[.int .i64 0, (.int .i64 0)] TSQ)).cell? ⟨gb, p * 2, none⟩ = some (.int .i64 xa) := (World.cell?_of_block (Below.heap_alloc wr _ _ hlr2)).trans a0
      have e1 : (wr.alloc (.cells #[.int .i64 0, (.int .i64 0)] TSQ)).cell? ⟨gb, p * 2 + 1, none⟩ = some (.int .i64 xv) := (World.cell?_of_block (Below.heap_alloc wr _ _ hlr2)).trans a1
      have g0 : (wr.alloc (.cells #[.int .i64 0, (.int .i64 0)] TSQ)).cell? ⟨rb, 0, none⟩ = some (.slice (some ⟨gb, 0, none⟩) n cp) := (World.cell?_of_block (Below.heap_alloc wr _ _ hlr1)).trans c0
      have g1 : (wr.alloc (.cells #[.int .i64 0, (.int .i64 0)] TSQ)).cell? ⟨rb, 1, none⟩ = some (.int .i64 (f : Int)) := (World.cell?_of_block (Below.heap_alloc wr _ _ hlr1)).trans c1
      obtain ⟨A, hA⟩ : ∃ A, A = wr.heap.size := ⟨_, rfl⟩
      obtain ⟨w2, hw2⟩ : ∃ w2, w2 = (wr.alloc (.cells #[.int .i64 xa, (.int .i64 xv)] TSQ)).drew := ⟨_, rfl⟩
      have HW := Lib.hid (And.intro hA hw2)
      clear hA hw2
      go_upto_region 5 with fail
      go_cut [7] from 13 to 21 (fun v wx => v = .pointer (some ⟨A, 0, none⟩) ∧ Hid (wx = w2))
      case first =>
        go_region_with (go_at_call 93; refine (CP.out _ (by constructor <;> first | assumption | simp [*])).mono ?_; rintro e w' ⟨rfl, rfl⟩)
        all_goals (go_wp2_with fail; go_meet; case rel => exact ⟨by rw [HW.out.1], HW.out.2.symm⟩)
      case rest =>
        obtain ⟨rfl, hwx⟩ := hcut
        have e := hwx.out
        subst e
        have hz2 : wc.heap.size = A + 1 := by rw [HW.out.2, HW.out.1]; simp
        have k0 : wc.heap[A]? = some (.cells #[.int .i64 xa, (.int .i64 xv)] TSQ (0, 0)) := by rw [HW.out.2, HW.out.1]; exact heap_alloc_new wr _
        have d0 : wc.cell? ⟨A, 0, none⟩ = some (.int .i64 xa) := cell_of_block k0 0
        have d1 : wc.cell? ⟨A, 1, none⟩ = some (.int .i64 xv) := cell_of_block k0 1
        have b2 : Below B wr wc := by rw [HW.out.2]; exact Below.drewN' ((Below.refl B wr).alloc hBr.out _) 1
        have own2 : Hid (wc.ownsRow B TSQ 2 u5 (frmQ at_ (L.take j)).length (flQ (frmQ at_ (L.take j)))) := by
          show World.ownsRow _ _ _ _ _ _ _
          rw [HW.out.2]; exact (HX.out.1.alloc _).drew
        have LOW : Hid (Below B w wc) := HX.out.2.trans b2
        clear a0 a1 e0 e1 c0 c1 g0 g1 CP hlr1 hlr2 k0 b2 hwx
        by_cases hge : at_ ≤ xa
        · have hnext : frmQ at_ (L.take (j + 1)) = frmQ at_ (L.take j) ++ [(xa, xv)] := by rw [HN.out, if_pos hge]
          have hfew := frm_fewQ at_ (L.take j)
          rw [List.length_take] at hfew
          obtain ⟨acc, hacc⟩ : ∃ acc, acc = frmQ at_ (L.take j) := ⟨_, rfl⟩
          rw [← hacc] at hnext own2 hfew
          have NEW : Hid (∀ (t : Nat) u, ([.int .i64 xa, (.int .i64 xv)] : List Value)[t]? = some u → (wc.alloc (.cells #[.int .i64 xa, (.int .i64 xv)] TSQ)).cell? ((⟨A + 1, 0, none⟩ : Addr).add t) = some u) := by
            have := World.news_of_block (w := wc.alloc (.cells #[.int .i64 xa, (.int .i64 xv)] TSQ)) (B := A + 1) (cs := #[.int .i64 xa, (.int .i64 xv)]) (t := TSQ) (fr := (0, 0)) (by rw [← hz2]; exact heap_alloc_new wc _)
            exact this
          have OW := Lib.hid (own2.out.alloc (.cells #[.int .i64 xa, (.int .i64 xv)] TSQ))
          have BS : Hid (B ≤ (wc.alloc (.cells #[.int .i64 xa, (.int .i64 xv)] TSQ)).heap.size) := by show _ ≤ _; have := LOW.out.size; have := LT.out; have := hBr.out; have := HW.out.1; simp; omega
          have HNX := Lib.hid (And.intro hnext hacc)
          clear hnext hacc own2
          go_wp2_with (at_builtin; refine wpList_append_lies _ rfl _ _ 105 (by rfl) B TSQ inf (.agg #[.int .i64 0, (.int .i64 0)]) 2 16 Try.underlying105 HI.out.1 HI.out.2.1 HI.out.2.2.1 HI.out.2.2.2 rfl (by omega) u5 acc.length (flQ acc) (by rfl) OW.out ⟨A + 1, 0, none⟩ 1 1 [.int .i64 xa, (.int .i64 xv)] (by rfl) rfl NEW.out (by intro u hu; simp at hu; rcases hu with rfl | rfl <;> rfl) (by omega) (by unfold maxLen; omega) (by omega) BS.out (A + 2) (by simp; omega) ?_; intro g cap w4 hown4 hgrow4 hat4 hlt4)
          have FIN : Hid (w4.ownsRow B TSQ 2 (.slice (some ⟨g, 0, none⟩) (acc.length + 1) cap) (frmQ at_ (L.take (j + 1))).length (flQ (frmQ at_ (L.take (j + 1)))) ∧ Below B w w4) := by
            refine ⟨?_, ?_⟩
            · rw [HNX.out.1, fl_snocQ, List.length_append]
              exact hown4
            · refine (LOW.out.alloc (by have := HH.out.2.2.2; have := LOW.out.size; omega) _).grown hgrow4 BS.out ?_
              exact fun k e => (OW.out.lt k e).1
          clear hown4 hgrow4 hat4 hlt4 OW BS NEW HNX
          go_wp2
          go_roundg (m - (j + 1))
          case measure => omega
          case rel => exact ⟨j + 1, by push_cast; rfl, by omega, by omega, FIN⟩
        · have FIN : Hid (wc.ownsRow B TSQ 2 u5 (frmQ at_ (L.take (j + 1))).length (flQ (frmQ at_ (L.take (j + 1)))) ∧ Below B w wc) := by
            rw [HN.out, if_neg hge, List.append_nil]
            exact ⟨own2.out, LOW.out⟩
          clear own2 LOW HN
          go_wp2
          go_roundg (m - (j + 1))
          case measure => omega
          case rel => exact ⟨j + 1, by push_cast; rfl, by omega, by omega, FIN⟩
    · have e : j = m := by omega
      subst e
      obtain ⟨own, low⟩ := HR.out
      rw [HH.out.2.2.1, List.take_length] at own
      rw [HH.out.2.2.2] at own low
      have FIN := Lib.hid (And.intro own low)
      clear own low HR S0
      go_wp2
      go_ret
      exact ⟨⟨_, rfl, FIN.out.1⟩, FIN.out.2⟩
end Go.Proofs.Ytajkhbdniadkkaa
/- A ring of trimtab/api.Milli: cut. -/
namespace Go.Proofs.Ytajkhbdniadkkaa
open Go.RowKit Go.Lib
open Go.Joins (cell_of_block unfrozen_of_block block_setCell)
set_option linter.unusedVariables false
set_option linter.unusedSimpArgs false
set_option maxRecDepth 20000

theorem own_sliceQ {w : World} {N : Nat} {v : Value} {n : Nat} {xs : List Value} (h : w.ownsRow N TSQ 2 v n xs) : ∃ q c, v = .slice q n c := by
  rcases h.2 with ⟨rfl, rfl⟩ | ⟨g, cap, cur, rfl, _⟩
  · exact ⟨_, _, rfl⟩
  · exact ⟨_, _, rfl⟩
theorem drop_nilQ (w : World) : Calls Try.prog 92 #[.pointer none, .int .i64 0] w fun e w' => e = .returned (.tuple #[]) ∧ w = w' := by
  go_enter Try.func92, Try.ntmps92
  go_wp2_with fail
  go_loopg [5] 0 (fun g vi wr => vi = .int .i64 0 ∧ wr = w)
  case atStart => exact ⟨rfl, rfl⟩
  case round =>
    obtain ⟨rfl, rfl⟩ := hrel
    go_wp2
    go_end0
    exact ⟨rfl, rfl⟩
theorem from_nilQ (w : World) (at_ : Int) : Calls Try.prog 85 #[.pointer none, .int .i64 at_] w fun e w' => e = .returned (.slice none 0 0) ∧ w = w' := by
  have CL := Lib.hid (rlen_nilQ w)
  go_enter Try.func85, Try.ntmps85
  go_wp2_with fail
  refine CL.out.mono ?_
  rintro e w' ⟨rfl, rfl⟩
  go_wp2_with fail
  go_loopg [5, 10] 0 (fun g v5 vi wr => v5 = .slice none 0 0 ∧ vi = .int .i64 0 ∧ wr = w)
  case atStart => exact ⟨rfl, rfl, rfl⟩
  case round =>
    obtain ⟨rfl, rfl, rfl⟩ := hrel
    go_wp2
    go_ret
    exact ⟨rfl, rfl⟩
end Go.Proofs.Ytajkhbdniadkkaa
/- A ring of trimtab/api.Milli: one apart. -/
namespace Go.Proofs.Ytajkhbdniadkkaa
open Go.RowKit Go.Lib
open Go.Joins (cell_of_block unfrozen_of_block block_setCell)
set_option linter.unusedVariables false
set_option linter.unusedSimpArgs false
set_option maxRecDepth 20000

/-- A ring that lies behind all that was. -/
def ApartQ (w w' : World) (rb n : Nat) (L : List (Int × Int)) : Prop := ∃ gb, w.heap.size ≤ rb ∧ w.heap.size ≤ gb ∧ HasQ w' rb gb n L ∧ Below w.heap.size w w'
theorem copiedQ {w w1 : World} {q : Option Addr} {n c' f m : Nat} {c : Nat → Int × Int} {L : List (Int × Int)} (hn : 1 ≤ n ∧ n ≤ 32) (hf : f < n) (hm : m ≤ n) (hL : m = L.length) (hc : ∀ i x, L[i]? = some x → c (pl n f i) = x)
    (own : w1.ownsRow w.heap.size TSQ 2 (.slice q n c') n (flQ ((List.range n).map c))) (b : Below w.heap.size w w1) :
    ApartQ w (w1.alloc (.cells #[.slice q n c', .int .i64 (f : Int), .int .i64 (m : Int)] TRQ)) w1.heap.size n L := by
  rcases own.2 with ⟨h0, h1⟩ | ⟨g, cap, cur, hv, hb, hgb, hnc, hcm, hcs, hct⟩
  · omega
  · simp only [Value.slice.injEq] at hv
    obtain ⟨rfl, -, rfl⟩ := hv
    have lg := (Array.getElem?_eq_some_iff.1 hgb).1
    have hlc : ∀ j, j < n → ((List.range n).map c)[j]? = some (c j) := fun j hj => by rw [List.getElem?_map, List.getElem?_range hj]; rfl
    refine ⟨g, b.size, hb, ⟨c', f, c, ⟨?_, ⟨cur, (Below.heap_alloc w1 _ _ lg).trans hgb, by rw [hcs]; exact Nat.mul_le_mul_right _ hnc, fun j hj => ?_⟩, by omega, hn, hf, by omega⟩, hc⟩, b.alloc b.size _⟩
    · rw [← hL]; exact heap_alloc_new w1 _
    · have h2 := fl_atQ _ j (c j) (hlc j hj)
      rw [← hct] at h2
      rw [List.getElem?_take_of_lt (by omega), List.getElem?_take_of_lt (by omega), Array.getElem?_toList, Array.getElem?_toList] at h2
      exact h2
end Go.Proofs.Ytajkhbdniadkkaa
/- A ring of trimtab/api.Milli: all from a tick on are told. -/
namespace Go.Proofs.Ytajkhbdniadkkaa
open Go.RowKit Go.Lib Go.Shelf
open Go.Joins (cell_of_block unfrozen_of_block block_setCell)
set_option linter.unusedVariables false
set_option linter.unusedSimpArgs false
set_option maxRecDepth 20000

theorem sinceQ (w : World) (p : Option Addr) (at_ : Int) : Calls Try.prog 66 #[.pointer p, .int .i64 at_] w fun e w' => e = .returned (.func (.func 84) #[] #[.pointer (some ⟨w.heap.size, 0, none⟩), .pointer (some ⟨w.heap.size + 1, 0, none⟩)]) ∧
    w' = (w.alloc (.cells #[.pointer p] 141)).alloc (.cells #[.int .i64 at_] 2) := by
  have hmf : ∀ (fn : Fn) (first cap : Array Value) (w : World), (Instr.makeFunc fn first cap).run Try.prog w = .ok (.func fn first cap) w := fun _ _ _ _ => rfl
  go_enter Try.func66, Try.ntmps66
  go_wp2
  go_ret
  exact ⟨rfl, rfl⟩

set_option maxHeartbeats 1000000 in
theorem tells_nilQ (n base : Nat) (w : World) (b : Nat) (at_ : Int) (h1 : w.cell? ⟨b, 0, none⟩ = some (.pointer none)) (h2 : w.cell? ⟨b + 1, 0, none⟩ = some (.int .i64 at_)) (hb : b + 1 < w.heap.size) :
    TellsD n Try.prog 84 #[.pointer (some ⟨b, 0, none⟩), .pointer (some ⟨b + 1, 0, none⟩)] (fun x : Empty => x.elim) (fun pre x _ => x.elim) (fun xs => xs = []) (fun _ => False) base w := fun l' J Jx W hW bJ hY h0 => by
  have c1 : W.cell? ⟨b, 0, none⟩ = some (.pointer none) := (hW.cell (p := ⟨b, 0, none⟩) (by show b < _; omega)).trans h1
  have c2 : W.cell? ⟨b + 1, 0, none⟩ = some (.int .i64 at_) := (hW.cell (p := ⟨b + 1, 0, none⟩) hb).trans h2
  have CA := Lib.hid (from_nilQ W at_)
  have HJ := Lib.hid (h0 _ (Nat.le_refl _))
  clear h0 hY hW h1 h2 bJ hb
  refine callsIn_wide.2 ?_
  show Calls Try.prog 84 #[.func (.yield l') #[] #[], .pointer (some ⟨b, 0, none⟩), .pointer (some ⟨b + 1, 0, none⟩)] W _
  go_enter Try.func84, Try.ntmps84
  go_wp2_with fail
  refine CA.out.mono ?_
  rintro e w' ⟨rfl, rfl⟩
  go_wp2_with fail
  go_loopg [10] 0 (fun g vi wr => vi = .int .i64 0 ∧ wr = W)
  case atStart => exact ⟨rfl, rfl⟩
  case round =>
    obtain ⟨rfl, rfl⟩ := hrel
    go_wp2
    go_end0
    exact ⟨⟨_, rfl⟩, .inl ⟨_, [], Nat.le_refl _, rfl, HJ.out⟩⟩
/-- An owned row's cells. -/
theorem own_atQ {w : World} {N : Nat} {q : Option Addr} {n c : Nat} {l : List (Int × Int)} (h : w.ownsRow N TSQ 2 (.slice q n c) n (flQ l)) (hn : l.length = n) {j : Nat} {x : Int × Int} (hx : l[j]? = some x) :
    ∃ g : Nat, q = some ⟨g, 0, none⟩ ∧ N ≤ g ∧ g < w.heap.size ∧ w.cell? ⟨g, j * 2, none⟩ = some (.int .i64 x.1) ∧ w.cell? ⟨g, j * 2 + 1, none⟩ = some (.int .i64 x.2) := by
  have hj := (List.getElem?_eq_some_iff.1 hx).1
  rcases h.2 with ⟨h0, h1⟩ | ⟨g, cap, cur, hv, hb, hgb, hnc, hcm, hcs, hct⟩
  · omega
  · simp only [Value.slice.injEq] at hv
    obtain ⟨rfl, -, rfl⟩ := hv
    have h2 := fl_atQ l j x hx
    rw [← hct] at h2
    rw [List.getElem?_take_of_lt (by omega), List.getElem?_take_of_lt (by omega), Array.getElem?_toList, Array.getElem?_toList] at h2
    refine ⟨g, rfl, hb, (Array.getElem?_eq_some_iff.1 hgb).1, ?_, ?_⟩
    · rw [cell_of_block hgb]; exact h2.1
    · rw [cell_of_block hgb]; exact h2.2

set_option maxHeartbeats 2000000 in
theorem tellsQ (n base : Nat) (w : World) (rb gb nn b : Nat) (L : List (Int × Int)) (at_ : Int) (H : HasQ w rb gb nn L) (h1 : w.cell? ⟨b, 0, none⟩ = some (.pointer (some ⟨rb, 0, none⟩))) (h2 : w.cell? ⟨b + 1, 0, none⟩ = some (.int .i64 at_)) (hb : b + 1 < w.heap.size) (hbase : base ≤ w.heap.size) :
    TellsD n Try.prog 84 #[.pointer (some ⟨b, 0, none⟩), .pointer (some ⟨b + 1, 0, none⟩)] (fun x : Int × Int => #[.agg #[.int .i64 x.1, (.int .i64 x.2)]]) (fun pre x _ => (frmQ at_ L)[pre.length]? = some x ∧ pre = (frmQ at_ L).take pre.length) (fun xs => xs = frmQ at_ L) (fun pre => pre ≠ []) base w := fun l' J Jx W hW bJ hY h0 => by
  have c1 : W.cell? ⟨b, 0, none⟩ = some (.pointer (some ⟨rb, 0, none⟩)) := (hW.cell (p := ⟨b, 0, none⟩) (by show b < _; omega)).trans h1
  have c2 : W.cell? ⟨b + 1, 0, none⟩ = some (.int .i64 at_) := (hW.cell (p := ⟨b + 1, 0, none⟩) hb).trans h2
  have CA := Lib.hid (fromQ W rb gb nn L at_ (H.gr hW))
  have HJ := Lib.hid (And.intro h0 (And.intro bJ hY))
  have HBW : Hid (base ≤ W.heap.size) := by have := hW.size; show _ ≤ _; omega
  obtain ⟨l, hl⟩ : ∃ l, l = frmQ at_ L := ⟨_, rfl⟩
  obtain ⟨M, hM⟩ : ∃ M, M = l.length := ⟨_, rfl⟩
  rw [← hl, ← hM] at CA
  have HL : Hid (l = frmQ at_ L ∧ M = l.length ∧ M ≤ 32) := ⟨hl, hM, by have := frm_fewQ at_ L; have := H.few; rw [hM, hl]; omega⟩
  rw [← hl] at HJ ⊢
  clear h0 hY hW h1 h2 H bJ hb hbase hM hl
  refine callsIn_wide.2 ?_
  show Calls Try.prog 84 #[.func (.yield l') #[] #[], .pointer (some ⟨b, 0, none⟩), .pointer (some ⟨b + 1, 0, none⟩)] W _
  go_enter Try.func84, Try.ntmps84
  go_wp2_with fail
  refine CA.out.mono ?_
  rintro e w1 ⟨⟨v, rfl, own⟩, bw1⟩
  obtain ⟨q, c, rfl⟩ := own_sliceQ own
  have hlM : M ≤ 32 := HL.out.2.2
  have HC := Lib.hid (And.intro own bw1)
  clear own bw1 CA c1 c2
  go_wp2_with fail
  go_loopg [10] M (fun g vi wr => ∃ j : Nat, vi = .int .i64 (j : Int) ∧ j ≤ M ∧ M - j ≤ g ∧ Hid (J w1.heap.size (l.take j) wr ∧ StaysD base W.heap.size w1.heap.size w1 wr))
  case atStart => exact ⟨0, rfl, Nat.zero_le _, by omega, HJ.out.2.1 _ _ W w1 [] (HJ.out.1 _ HC.out.2.size) (Tch.ofBelow HC.out.2 []) (fun g hg => by cases hg), StaysD.refl _ _ _ _⟩
  case round =>
    obtain ⟨j, rfl, hj1, hj2, HP⟩ := hrel
    by_cases hlt : j < M
    · obtain ⟨hj, hst⟩ := HP.out
      obtain ⟨own, bw1⟩ := HC.out
      have hlen := HL.out.2.1
      obtain ⟨x, hx⟩ : ∃ x, l[j]? = some x := ⟨l[j]'(by omega), List.getElem?_eq_getElem (by omega)⟩
      obtain ⟨g, rfl, hgB, hgl, a0, a1⟩ := own_atQ own hlen.symm hx
      have e0 : wr.cell? ⟨g, j * 2, none⟩ = some (.int .i64 x.1) := (World.cell?_of_block (hst.rest g hgB hgl hgl)).trans a0
      have e1 : wr.cell? ⟨g, j * 2 + 1, none⟩ = some (.int .i64 x.2) := (World.cell?_of_block (hst.rest g hgB hgl hgl)).trans a1
      obtain ⟨w3, hw3⟩ : ∃ w3, w3 = wr.alloc (.cells #[.int .i64 x.1, (.int .i64 x.2)] TSQ) := ⟨_, rfl⟩
      obtain ⟨A, hA⟩ : ∃ A, A = wr.heap.size := ⟨_, rfl⟩
      have b3 : Below wr.heap.size wr w3 := hw3 ▸ (Below.refl _ _).alloc (Nat.le_refl _) _
      have k0 : w3.heap[A]? = some (.cells #[.int .i64 x.1, (.int .i64 x.2)] TSQ (0, 0)) := by rw [hw3, hA]; exact heap_alloc_new wr _
      have d0 : w3.cell? ⟨A, 0, none⟩ = some (.int .i64 x.1) := cell_of_block k0 0
      have d1 : w3.cell? ⟨A, 1, none⟩ = some (.int .i64 x.2) := cell_of_block k0 1
      have hbr : base ≤ wr.heap.size := by have := HBW.out; have := bw1.size; have := hst.fx.size; omega
      have j3 : J w1.heap.size (l.take j) w3 := HJ.out.2.1 _ _ wr w3 [] hj (Tch.ofBelow b3 []) (fun g hg => by cases hg)
      have s3 : StaysD base W.heap.size w1.heap.size w1 w3 := hst.trans (StaysD.ofBelow b3 hbr)
      have hpl : (l.take j).length = j := by rw [List.length_take]; omega
      obtain ⟨fn, tmps, assign, body, hy, hR⟩ := HJ.out.2.2 _ (l.take j) x w3 HC.out.2.size s3.fx.size j3 ⟨by rw [hpl]; exact hx, by rw [hpl]⟩
      have hnext : l.take j ++ [x] = l.take (j + 1) := by
        obtain ⟨h3, h4⟩ := List.getElem?_eq_some_iff.1 hx
        rw [List.take_succ_eq_append_getElem h3, h4]
      have HRD := Lib.hid hR
      have HN := Lib.hid (And.intro hnext s3)
      have HW3 : Hid (wr.alloc (.cells #[.int .i64 x.1, (.int .i64 x.2)] TSQ) = w3 ∧ wr.heap.size = A) := ⟨hw3.symm, hA.symm⟩
      clear hj hst own bw1 hlen hx hgB hgl a0 a1 hw3 hA b3 k0 hbr j3 s3 hpl hR hnext HP
      go_upto_region 3 with fail
      rw [HW3.out.1, HW3.out.2]
      refine (wpIn_wide (n := n)).1 ?_
      gi_wp2_with fail
      refine ⟨fun e => (nomatch e), HRD.out.mono ?_⟩
      rintro e W' (⟨rfl, hJ', st'⟩ | ⟨rfl, hJx'⟩)
      · have RN : Hid (J w1.heap.size (l.take (j + 1)) W' ∧ StaysD base W.heap.size w1.heap.size w1 W') := ⟨by rw [← HN.out.1]; exact hJ', HN.out.2.trans st'⟩
        clear hJ' st' HN HRD
        gi_wp2
        go_wp2
        go_roundg (M - (j + 1))
        case measure => omega
        case rel => exact ⟨j + 1, by push_cast; rfl, by omega, by omega, RN⟩
      · have RN : Hid (∃ C pre, pre ≠ [] ∧ Jx C pre W') := ⟨_, _, by simp, hJx'⟩
        clear hJx' HN HRD
        gi_wp2
        go_wp2
        (try simp only [Exit.inBlock, Exit.then]); refine bodyPost_ret (results_none rfl _ _ _) rfl ?_
        exact ⟨⟨_, rfl⟩, .inr RN.out⟩
    · obtain ⟨hj, hst⟩ := HP.out
      have e : j = M := by omega
      have FIN : Hid (∃ C, ∃ xs : List (Int × Int), W.heap.size ≤ C ∧ xs = l ∧ J C xs wr) := ⟨_, _, HC.out.2.size, rfl, by rw [e, HL.out.2.1, List.take_length] at hj; exact hj⟩
      clear hj hst HP HC HJ
      go_wp2
      go_end0
      exact ⟨⟨_, rfl⟩, .inl FIN.out⟩
end Go.Proofs.Ytajkhbdniadkkaa
