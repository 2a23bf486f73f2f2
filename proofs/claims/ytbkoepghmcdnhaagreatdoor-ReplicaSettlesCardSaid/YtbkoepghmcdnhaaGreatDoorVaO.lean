/- Policies filled in: fillWay, fill. -/
import Derived.Test.YtbkoepghmcdnhaaGreatDoorVaN
import Derived.Deep.RegionHeld3
namespace Go.Proofs.YtbkoepghmcdnhaaGreatDoor
open Go.RowKit Go.Shelf Go.Lib Go.Sort Go.Deep
open Go.Joins (cell_of_block unfrozen_of_block block_setCell)
set_option linter.unusedVariables false
set_option linter.unusedSimpArgs false
set_option maxRecDepth 20000

def dblP : Pol := (true, 1000, 15)
def fourP : Pol := (false, 4, 15)
/-- The policies of a way, filled in. -/
def wayR (l : List Pol) (pick : Int) (m : List Pol) : List Pol := if l = [] ∧ pick ≠ 2 then m else l
set_option maxHeartbeats 4000000 in
theorem way_any (w : World) (B p : Nat) (L : Array Value) (TO : TypeId) (q qs : Option Addr) (n c ns cc : Nat) (k : Int) (hB : w.heap[B]? = some (.cells L TO (0, 0))) (hk : L[p + 1]? = some (.int .i64 k)) (hr : L[p + 2]? = some (.slice q n c)) (hn : n ≤ 9223372036854775807) :
    Calls Tryz.prog 81 #[.pointer (some ⟨B, p, none⟩), .slice qs ns cc] w fun e w' => e = .returned (.tuple #[]) ∧ w' = if n = 0 ∧ k ≠ 2 then w.setCell ⟨B, p + 2, none⟩ (.slice qs ns cc) else w := by
  have mixed : Tryz.prog.follows .mixedOrders = true := by kernel_rfl
  have d1 : w.cell? ⟨B, p + 1, none⟩ = some (.int .i64 k) := by rw [cell_of_block hB]; exact hk
  have d2 : w.cell? ⟨B, p + 2, none⟩ = some (.slice q n c) := by rw [cell_of_block hB]; exact hr
  have u2 := unfrozen_of_block hB (p + 2)
  clear hB hk hr
  generalize hR : (if n = 0 ∧ k ≠ 2 then w.setCell ⟨B, p + 2, none⟩ (.slice qs ns cc) else w) = R
  by_cases h0 : n = 0
  · have hn0 : ((n : Int) == 0) = true := by rw [h0]; rfl
    by_cases h2 : k = 2
    · have HE : Hid (w = R) := (if_neg (fun h => h.2 h2)).symm.trans hR
      subst h2
      clear h0 hR
      go_enter Tryz.func81, Tryz.ntmps81
      go_wp2
      go_end0
      exact ⟨rfl, HE.out⟩
    · have HE : Hid (w.setCell ⟨B, p + 2, none⟩ (.slice qs ns cc) = R) := (if_pos ⟨h0, h2⟩).symm.trans hR
      clear h0 hR
      go_enter Tryz.func81, Tryz.ntmps81
      go_wp2
      go_end0
      exact ⟨rfl, HE.out⟩
  · have HE : Hid (w = R) := (if_neg (fun h => h0 h.1)).symm.trans hR
    have hn0 : ((n : Int) == 0) = false := by rw [beq_eq_false_iff_ne]; omega
    clear h0 hR
    go_enter Tryz.func81, Tryz.ntmps81
    go_wp2
    go_end0
    exact ⟨rfl, HE.out⟩


/-- One way filled in. -/
theorem way_step {u : World} {B p N : Nat} {L : Array Value} {TO : TypeId} {l m : List Pol} {k : Int} (hB : u.heap[B]? = some (.cells L TO (0, 0))) (hN : B < N) (hNu : N ≤ u.heap.size) (ho : OwnC N u 135 3 encP L (p + 2) l) (hml : m.length ≤ 1000) :
    ∀ U, U = (u.alloc (.cells (flat encP m).toArray 135)).drew → ∀ R, R = (if l.length = 0 ∧ k ≠ 2 then U.setCell ⟨B, p + 2, none⟩ (.slice (some ⟨u.heap.size, 0, none⟩) m.length m.length) else U) →
    U.heap[B]? = some (.cells L TO (0, 0)) ∧ Xb B u U ∧ ∃ L1, R.heap[B]? = some (.cells L1 TO (0, 0)) ∧ L1.size = L.size ∧ (∀ i, i ≠ p + 2 → L1[i]? = L[i]?) ∧ OwnC N R 135 3 encP L1 (p + 2) (wayR l k m) ∧ Xb B u R := by
  intro U hU R hR
  have hlt : B < u.heap.size := (Array.getElem?_eq_some_iff.1 hB).1
  have hUu : ∀ g, g < u.heap.size → U.heap[g]? = u.heap[g]? := fun g hg => by rw [hU]; exact ((Gr.refl u).alloc _).heap hg
  have hX : Xb B u U := by
    rw [hU]
    exact (Xb.ofGr ((Gr.refl u).alloc _) B).trans ⟨rfl, rfl, rfl, Nat.le_refl _, fun _ _ _ => rfl⟩
  have hUB : U.heap[B]? = some (.cells L TO (0, 0)) := (hUu B hlt).trans hB
  refine ⟨hUB, hX, ?_⟩
  have hnew : U.heap[u.heap.size]? = some (.cells (flat encP m).toArray 135 (0, 0)) := by rw [hU]; exact heap_alloc_new u _
  have hlen : l = [] ↔ l.length = 0 := List.length_eq_zero_iff.symm
  by_cases hc : l.length = 0 ∧ k ≠ 2
  · rw [if_pos hc] at hR
    have hw : wayR l k m = m := if_pos ⟨hlen.2 hc.1, hc.2⟩
    obtain ⟨v0, hv0, _⟩ := ho
    have hp : p + 2 < L.size := (Array.getElem?_eq_some_iff.1 hv0).1
    refine ⟨L.setIfInBounds (p + 2) (.slice (some ⟨u.heap.size, 0, none⟩) m.length m.length), by rw [hR, block_setCell hUB], by simp, fun i hi => by rw [Array.getElem?_setIfInBounds_ne (fun e => hi e.symm)], ?_, ?_⟩
    · rw [hw]
      refine ⟨_, by rw [Array.getElem?_setIfInBounds_self_of_lt hp], flat_length lenP m, .inr ⟨u.heap.size, m.length, (flat encP m).toArray, rfl, hNu, ?_, Nat.le_refl _, Nat.le_trans hml (by decide), by simp [flat_length lenP], by rw [← flat_length lenP m]; simp⟩⟩
      rw [hR, Below.heap_setCell _ _ _ _ (by show u.heap.size ≠ B; omega)]
      exact hnew
    · rw [hR]
      exact hX.setCell _ _
  · rw [if_neg hc] at hR
    have hw : wayR l k m = l := if_neg (fun h => hc ⟨hlen.1 h.1, h.2⟩)
    rw [hR, hw]
    exact ⟨L, hUB, rfl, fun _ _ => rfl, ho.keep (fun g h1 h2 => hUu g h2) rfl, hX⟩

set_option maxHeartbeats 8000000 in
theorem fill_ob (w : World) (B N : Nat) (L : Array Value) (x : Hp) (hN : B < N) (hw : N ≤ w.heap.size) (hB : w.heap[B]? = some (.cells L 51 (0, 0))) (hu : L[41]? = some (.int .i64 x.up)) (hd : L[44]? = some (.int .i64 x.dp)) (o1 : OwnC N w 135 3 encP L 42 x.upol) (o2 : OwnC N w 135 3 encP L 45 x.dpol) (l1 : x.upol.length ≤ 1000) (l2 : x.dpol.length ≤ 1000) :
    Calls Tryz.prog 59 #[.pointer (some ⟨B, 35, none⟩)] w fun e w' => e = .returned (.tuple #[]) ∧ (∃ L' : Array Value, w'.heap[B]? = some (.cells L' 51 (0, 0)) ∧ L'.size = L.size ∧ (∀ i, i ∉ ([42, 45] : List Nat) → L'[i]? = L[i]?) ∧ OwnC N w' 135 3 encP L' 42 (wayR x.upol x.up [dblP, fourP]) ∧ OwnC N w' 135 3 encP L' 45 (wayR x.dpol x.dp [dblP])) ∧ Xb B w w' := by
  have mixed : Tryz.prog.follows .mixedOrders = true := by kernel_rfl
  obtain ⟨d, hdd⟩ : ∃ d, d = w.heap.size := ⟨_, rfl⟩
  obtain ⟨u, huu⟩ : ∃ u, u = w.alloc (.cells #[.bool true, .int .i64 1000, .int .i64 15] 135) := ⟨_, rfl⟩
  have gu : Gr w u := huu ▸ (Gr.refl w).alloc _
  have bu : u.heap[d]? = some (.cells #[.bool true, .int .i64 1000, .int .i64 15] 135 (0, 0)) := by rw [huu, hdd]; exact heap_alloc_new w _
  have hlt : B < w.heap.size := (Array.getElem?_eq_some_iff.1 hB).1
  have hdB : d ≠ B := by omega
  have f0 : u.cell? ⟨d, 0, none⟩ = some (.bool true) := by rw [cell_of_block bu]; rfl
  have f1 : u.cell? ⟨d, 1, none⟩ = some (.int .i64 1000) := by rw [cell_of_block bu]; rfl
  have f2 : u.cell? ⟨d, 2, none⟩ = some (.int .i64 15) := by rw [cell_of_block bu]; rfl
  have hBu : u.heap[B]? = some (.cells L 51 (0, 0)) := (gu.heap hlt).trans hB
  have ou1 : OwnC N u 135 3 encP L 42 x.upol := o1.keep (fun g h1 h2 => gu.heap h2) rfl
  have ou2 : OwnC N u 135 3 encP L 45 x.dpol := o2.keep (fun g h1 h2 => gu.heap h2) rfl
  have hNu : N ≤ u.heap.size := Nat.le_trans hw gu.size
  obtain ⟨U1, hU1⟩ : ∃ U, U = (u.alloc (.cells (flat encP [dblP, fourP]).toArray 135)).drew := ⟨_, rfl⟩
  obtain ⟨R1, hR1⟩ : ∃ R, R = (if x.upol.length = 0 ∧ x.up ≠ 2 then U1.setCell ⟨B, 40 + 2, none⟩ (.slice (some ⟨u.heap.size, 0, none⟩) [dblP, fourP].length [dblP, fourP].length) else U1) := ⟨_, rfl⟩
  obtain ⟨hUB1, hXU1, L1, hB1, hs1, ho1, hw1, hX1⟩ := way_step (p := 40) hBu hN hNu ou1 (by decide) U1 hU1 R1 hR1
  obtain ⟨v1, hv1, hown1⟩ := ou1
  obtain ⟨q1, c1, rfl, _, _⟩ := own_lies lenP hown1
  have C1 : Hid (Calls Tryz.prog 81 #[.pointer (some ⟨B, 40, none⟩), .slice (some ⟨u.heap.size, 0, none⟩) 2 2] U1 fun e w' => e = .returned (.tuple #[]) ∧ w' = R1) := by
    rw [hR1]
    exact way_any U1 B 40 L _ q1 _ _ c1 2 2 x.up hUB1 hu hv1 (by omega)
  have hNr : N ≤ R1.heap.size := Nat.le_trans hNu hX1.size
  have or2 : OwnC N R1 135 3 encP L1 45 x.dpol := ou2.keep (fun g h1 h2 => hX1.block g h2 (by omega)) (ho1 45 (by decide))
  obtain ⟨U2, hU2⟩ : ∃ U, U = (R1.alloc (.cells (flat encP [dblP]).toArray 135)).drew := ⟨_, rfl⟩
  obtain ⟨R2, hR2⟩ : ∃ R, R = (if x.dpol.length = 0 ∧ x.dp ≠ 2 then U2.setCell ⟨B, 43 + 2, none⟩ (.slice (some ⟨R1.heap.size, 0, none⟩) [dblP].length [dblP].length) else U2) := ⟨_, rfl⟩
  obtain ⟨hUB2, hXU2, L2, hB2, hs2, ho2, hw2, hX2⟩ := way_step (p := 43) hB1 hN hNr or2 (by decide) U2 hU2 R2 hR2
  obtain ⟨v2, hv2, hown2⟩ := or2
  obtain ⟨q2, c2, rfl, _, _⟩ := own_lies lenP hown2
  have C2 : Hid (Calls Tryz.prog 81 #[.pointer (some ⟨B, 43, none⟩), .slice (some ⟨R1.heap.size, 0, none⟩) 1 1] U2 fun e w' => e = .returned (.tuple #[]) ∧ w' = R2) := by
    rw [hR2]
    exact way_any U2 B 43 L1 _ q2 _ _ c2 1 1 x.dp hUB2 ((ho1 44 (by decide)).trans hd) hv2 (by omega)
  have SU1 : Hid (U1.cell? ⟨d, 0, none⟩ = some (.bool true) ∧ U1.cell? ⟨d, 1, none⟩ = some (.int .i64 1000) ∧ U1.cell? ⟨d, 2, none⟩ = some (.int .i64 15)) := ⟨hXU1.cell f0 hdB, hXU1.cell f1 hdB, hXU1.cell f2 hdB⟩
  have SR1 : Hid (R1.cell? ⟨d, 0, none⟩ = some (.bool true) ∧ R1.cell? ⟨d, 1, none⟩ = some (.int .i64 1000) ∧ R1.cell? ⟨d, 2, none⟩ = some (.int .i64 15)) := ⟨hX1.cell f0 hdB, hX1.cell f1 hdB, hX1.cell f2 hdB⟩
  have SU2 : Hid (U2.cell? ⟨d, 0, none⟩ = some (.bool true) ∧ U2.cell? ⟨d, 1, none⟩ = some (.int .i64 1000) ∧ U2.cell? ⟨d, 2, none⟩ = some (.int .i64 15)) := ⟨hXU2.cell SR1.out.1 hdB, hXU2.cell SR1.out.2.1 hdB, hXU2.cell SR1.out.2.2 hdB⟩
  have SR2 : Hid (R2.cell? ⟨d, 0, none⟩ = some (.bool true) ∧ R2.cell? ⟨d, 1, none⟩ = some (.int .i64 1000) ∧ R2.cell? ⟨d, 2, none⟩ = some (.int .i64 15)) := ⟨hX2.cell SR1.out.1 hdB, hX2.cell SR1.out.2.1 hdB, hX2.cell SR1.out.2.2 hdB⟩
  have FIN : Hid ((∃ L' : Array Value, R2.heap[B]? = some (.cells L' 51 (0, 0)) ∧ L'.size = L.size ∧ (∀ i, i ∉ ([42, 45] : List Nat) → L'[i]? = L[i]?) ∧ OwnC N R2 135 3 encP L' 42 (wayR x.upol x.up [dblP, fourP]) ∧ OwnC N R2 135 3 encP L' 45 (wayR x.dpol x.dp [dblP])) ∧ Xb B w R2) := by
    refine ⟨⟨L2, hB2, hs2.trans hs1, fun i hi => ?_, hw1.keep (fun g h1 h2 => hX2.block g h2 (by omega)) (ho2 42 (by decide)), hw2⟩, (Xb.ofGr gu B).trans (hX1.trans hX2)⟩
    simp only [List.mem_cons, List.not_mem_nil, or_false, not_or] at hi
    exact (ho2 i hi.2).trans (ho1 i hi.1)
  have HU := Lib.hid (And.intro huu hdd)
  have HU1 : Hid (U1 = (u.alloc (.cells #[.bool true, .int .i64 1000, .int .i64 15, .bool false, .int .i64 4, .int .i64 15] 135)).drew) := hU1
  have HU2 : Hid (U2 = (R1.alloc (.cells #[.bool true, .int .i64 1000, .int .i64 15] 135)).drew) := hU2
  clear hN hw hB hu hd o1 o2 l1 l2 hdd huu gu bu hlt hBu ou2 hNu hU1 hR1 hUB1 hXU1 hB1 hs1 ho1 hw1 hX1 hv1 hown1 hNr hU2 hR2 hUB2 hXU2 hB2 hs2 ho2 hw2 hX2 hv2 hown2
  go_enter Tryz.func59, Tryz.ntmps59
  go_upto_region 1 with fail
  rw [← HU.out.1, ← HU.out.2]
  go_region_held3 (fun W => W.cell? ⟨d, 0, none⟩ = some (.bool true) ∧ W.cell? ⟨d, 1, none⟩ = some (.int .i64 1000) ∧ W.cell? ⟨d, 2, none⟩ = some (.int .i64 15)) (first | (rw [← HU1.out]; exact SU1.out) | exact SR1.out | simp [*]) (first | (rw [← HU1.out]; refine C1.out.mono ?_; rintro e w' ⟨rfl, rfl⟩))
  clear f0 f1 f2
  obtain ⟨f0, f1, f2⟩ := SR1.out
  go_upto_region 2 with fail
  go_region_held3 (fun W => W.cell? ⟨d, 0, none⟩ = some (.bool true) ∧ W.cell? ⟨d, 1, none⟩ = some (.int .i64 1000) ∧ W.cell? ⟨d, 2, none⟩ = some (.int .i64 15)) (first | (rw [← HU2.out]; exact SU2.out) | exact SR2.out | simp [*]) (first | (rw [← HU2.out]; refine C2.out.mono ?_; rintro e w' ⟨rfl, rfl⟩))
  go_wp2
  go_end0
  exact ⟨rfl, FIN.out⟩
end Go.Proofs.YtbkoepghmcdnhaaGreatDoor
