/- Layer 13: a row of one is sorted; Row of one pod; Split of one use. -/
import Derived.Test.YtndbpijkepchgaaQyD
import Derived.Deep.AppendLies
namespace Go.Proofs.Ytndbpijkepchgaa.Qy
open Go.RowKit Go.Deep Go.Lib Go.Shelf Go.Sort
open Go.Joins (cell_of_block unfrozen_of_block block_setCell)
set_option linter.unusedVariables false
set_option linter.unusedSimpArgs false
set_option maxRecDepth 20000

set_option maxHeartbeats 1000000 in
theorem ins_one (w : World) (q : Option Addr) (c : Nat) (fv : Value) :
    Calls Try.prog 48 #[.slice q 1 c, .int .i64 0, .int .i64 1, fv] w fun e w' => e = .returned (.tuple #[]) ∧ w = w' := by
  go_enter Try.func48, Try.ntmps48
  go_wp2_with fail
  go_loopg [8] 0 (fun g vi wr => vi = .int .i64 1 ∧ wr = w)
  case atStart => exact ⟨rfl, rfl⟩
  case round =>
    obtain ⟨rfl, rfl⟩ := hrel
    go_wp2
    go_end0
    exact ⟨rfl, rfl⟩
set_option maxHeartbeats 1000000 in
theorem stab_one (w : World) (q : Option Addr) (c : Nat) (fv : Value) :
    Calls Try.prog 38 #[.slice q 1 c, .int .i64 1, fv] w fun e w' => e = .returned (.tuple #[]) ∧ w = w' := by
  have C := Lib.hid (ins_one w q c fv)
  go_enter Try.func38, Try.ntmps38
  go_wp2_with fail
  go_loopg [7, 8] 0 (fun g va vb wr => va = .int .i64 0 ∧ vb = .int .i64 20 ∧ wr = w)
  case atStart => exact ⟨rfl, rfl, rfl⟩
  case round =>
    obtain ⟨rfl, rfl, rfl⟩ := hrel
    go_wp2_with fail
    refine C.out.mono ?_
    rintro e w' ⟨rfl, h⟩
    go_wp2_with fail
    go_loopg [6] 0 (fun g va w2 => va = .int .i64 20 ∧ w2 = w')
    case atStart => exact ⟨rfl, rfl⟩
    case round =>
      obtain ⟨rfl, h2⟩ := hrel
      have FIN := Lib.hid (h.trans h2.symm)
      clear h h2
      go_wp2
      go_end0
      exact ⟨rfl, FIN.out⟩
set_option maxHeartbeats 1000000 in
theorem sort_one (w : World) (q : Option Addr) (c : Nat) (fv : Value) :
    Calls Try.prog 23 #[.slice q 1 c, fv] w fun e w' => e = .returned (.tuple #[]) ∧ w = w' := by
  have C := Lib.hid (stab_one w q c fv)
  go_enter Try.func23, Try.ntmps23
  go_wp2_with fail
  refine C.out.mono ?_
  rintro e w' ⟨rfl, h⟩
  have h' := h.symm
  subst h'
  go_wp2
  go_end0
  exact ⟨rfl, rfl⟩

abbrev SlU : TypeId := 45
theorem infoU : ∃ i : TypeInfo, Try.prog.info? UT = some i ∧ i.zero = some (.agg zU) ∧ i.size = 5 ∧ i.bytes = 40 := by
  have hinf : (Try.prog.info? UT).map (fun i => (i.zero, i.size, i.bytes)) = some (some (.agg zU), 5, 40) := by kernel_rfl
  cases hi : Try.prog.info? UT with
  | none => rw [hi] at hinf; cases hinf
  | some i =>
    rw [hi] at hinf
    simp only [Option.map_some, Option.some.injEq, Prod.mk.injEq] at hinf
    exact ⟨i, rfl, hinf.1, hinf.2.1, hinf.2.2⟩
/-- A row of one use, of the call's own. -/
def RowU (N : Nat) (W w : World) (q : Option Addr) (c : Nat) (X : Array Value) : Prop := w.ownsRow N UT 5 (.slice q 1 c) 1 X.toList ∧ Below N W w
theorem RowU.at_ {N : Nat} {W w : World} {q : Option Addr} {c : Nat} {X : Array Value} (h : RowU N W w q c X) : ∃ g : Nat, q = some ⟨g, 0, none⟩ ∧ N ≤ g ∧ g < w.heap.size ∧ ∀ j u, X[j]? = some u → w.cell? ⟨g, j, none⟩ = some u := by
  obtain ⟨⟨hl, h⟩, _⟩ := h
  rcases h with ⟨_, h0⟩ | ⟨g, cap, cur, hv, hb, hgb, hnc, hcm, hcs, hct⟩
  · omega
  · simp only [Value.slice.injEq] at hv
    obtain ⟨rfl, -, rfl⟩ := hv
    refine ⟨g, rfl, hb, (Array.getElem?_eq_some_iff.1 hgb).1, fun j u hu => ?_⟩
    rw [cell_of_block hgb]
    have h2 : X.toList[j]? = some u := by simpa using hu
    rw [← hct, List.getElem?_take] at h2
    split at h2
    · simpa using h2
    · cases h2
theorem RowU.below {N : Nat} {W w w' : World} {q : Option Addr} {c : Nat} {X : Array Value} (h : RowU N W w q c X) (hN : N ≤ w.heap.size) (b : Below w.heap.size w w') : RowU N W w' q c X := by
  obtain ⟨⟨hl, h⟩, h2⟩ := h
  refine ⟨⟨hl, ?_⟩, h2.trans (b.mono hN)⟩
  rcases h with h | ⟨g, cap, cur, e, hb, hg, r⟩
  · exact .inl h
  · exact .inr ⟨g, cap, cur, e, hb, (b.block g (Array.getElem?_eq_some_iff.1 hg).1).trans hg, r⟩

set_option maxHeartbeats 4000000 in
theorem split_unready (w : World) (B c : Nat) (nm : ByteArray) (hs : Bool) (ak us : Int) (hB : B < w.heap.size) (h : ∀ j u, (useC nm false hs ak us)[j]? = some u → w.cell? ⟨B, j, none⟩ = some u) :
    Calls Try.prog 14 #[.slice (some ⟨B, 0, none⟩) 1 c] w fun r w' => ∃ q c', r = .returned (.tuple #[.slice none 0 0, .slice none 0 0, .slice q 1 c']) ∧ RowU w.heap.size w w' q c' (useC nm false hs ak us) := by
  obtain ⟨inf, i1, i2, i3, i4⟩ := infoU
  have HI := Lib.hid (And.intro i1 (And.intro i2 (And.intro i3 i4)))
  have a0 : w.cell? ⟨B, 0, none⟩ = some (.string nm) := h 0 _ rfl
  have a1 : w.cell? ⟨B, 1, none⟩ = some (.bool false) := h 1 _ rfl
  have a2 : w.cell? ⟨B, 2, none⟩ = some (.bool hs) := h 2 _ rfl
  have a3 : w.cell? ⟨B, 3, none⟩ = some (.int .i64 ak) := h 3 _ rfl
  have a4 : w.cell? ⟨B, 4, none⟩ = some (.int .i64 us) := h 4 _ rfl
  obtain ⟨N, hN⟩ : ∃ N, N = w.heap.size := ⟨_, rfl⟩
  have HN := Lib.hid hN
  rw [← hN]
  clear h hB i1 i2 i3 i4
  go_enter Try.func14, Try.ntmps14
  go_wp2_with fail
  go_loopg [9, 2, 3, 4] 1 (fun g vi v2 v3 v4 wr => v2 = .slice none 0 0 ∧ v3 = .slice none 0 0 ∧ ((vi = .int .i64 0 ∧ 1 ≤ g ∧ v4 = .slice none 0 0 ∧ wr = w) ∨ (vi = .int .i64 1 ∧ ∃ q c', v4 = .slice q 1 c' ∧ Hid (RowU N w wr q c' (useC nm false hs ak us)))))
  case atStart => exact ⟨rfl, rfl, .inl ⟨rfl, by omega, rfl, rfl⟩⟩
  case round =>
    obtain ⟨rfl, rfl, ⟨rfl, hg, rfl, hwr⟩ | ⟨rfl, q, c', rfl, HR⟩⟩ := hrel
    · subst hwr
      obtain ⟨w1, hw1⟩ : ∃ w1, w1 = wr.alloc (.cells (useC nm false hs ak us) UT) := ⟨_, rfl⟩
      have k1 : w1.heap[N]? = some (.cells (useC nm false hs ak us) UT (0, 0)) := by rw [hw1, hN]; exact heap_alloc_new wr _
      have b1 : Below N wr w1 := by rw [hw1, hN]; exact (Below.refl _ _).alloc (Nat.le_refl _) _
      have z1 : w1.heap.size = N + 1 := by rw [hw1, hN]; simp
      have c0 : w1.cell? ⟨N, 0, none⟩ = some (.string nm) := cell_of_block k1 0
      have c1 : w1.cell? ⟨N, 1, none⟩ = some (.bool false) := cell_of_block k1 1
      have c2 : w1.cell? ⟨N, 2, none⟩ = some (.bool hs) := cell_of_block k1 2
      have c3 : w1.cell? ⟨N, 3, none⟩ = some (.int .i64 ak) := cell_of_block k1 3
      have c4 : w1.cell? ⟨N, 4, none⟩ = some (.int .i64 us) := cell_of_block k1 4
      have HW1 : Hid (wr.alloc (.cells #[.string nm, .bool false, .bool hs, .int .i64 ak, .int .i64 us] UT) = w1 ∧ wr.heap.size = N) := ⟨hw1.symm, hN.symm⟩
      obtain ⟨w2, hw2⟩ : ∃ w2, w2 = w1.alloc (.cells (useC nm false hs ak us) UT) := ⟨_, rfl⟩
      obtain ⟨M, hM⟩ : ∃ M, M = w1.heap.size := ⟨_, rfl⟩
      have NEW : Hid (∀ (t : Nat) u, ([.string nm, .bool false, .bool hs, .int .i64 ak, .int .i64 us] : List Value)[t]? = some u → w2.cell? ((⟨M, 0, none⟩ : Addr).add t) = some u) := by
        have := World.news_of_block (w := w2) (B := M) (cs := useC nm false hs ak us) (t := UT) (fr := (0, 0)) (by rw [hw2, hM]; exact heap_alloc_new w1 _)
        exact this
      have OW : Hid (w2.ownsRow N UT 5 (.slice none 0 0) 0 []) := World.ownsRow_nil _ _ _ _
      have L2 : Hid (Below N wr w2) := by show Below _ _ _; rw [hw2]; exact b1.alloc (by omega) _
      have BS : Hid (N ≤ w2.heap.size) := by show _ ≤ _; rw [hw2]; simp; omega
      have HW2 : Hid (w1.alloc (.cells #[.string nm, .bool false, .bool hs, .int .i64 ak, .int .i64 us] UT) = w2 ∧ w1.heap.size = M ∧ N + 1 = M) := ⟨hw2.symm, hM.symm, by omega⟩
      clear hw1 k1 b1 z1 hw2 hM hN
      go_upto_region 5 with fail
      rw [HW1.out.1, HW1.out.2]
      go_wp2_with (at_builtin; rw [HW2.out.1]; (first | rw [HW2.out.2.1] | rw [HW2.out.2.2] | skip); refine wpList_append_lies _ rfl _ _ SlU (by rfl) N UT inf (.agg zU) 5 40 Try.underlying45 HI.out.1 HI.out.2.1 HI.out.2.2.1 HI.out.2.2.2 rfl (by omega) (.slice none 0 0) 0 [] (by rfl) OW.out ⟨M, 0, none⟩ 1 1 [.string nm, .bool false, .bool hs, .int .i64 ak, .int .i64 us] (by rfl) rfl NEW.out (by intro u hu; simp at hu; rcases hu with rfl | rfl | rfl | rfl | rfl <;> rfl) (by omega) (by unfold maxLen; omega) (by omega) BS.out _ rfl ?_; intro g cap w6 hown6 hgrow6 hat6 hlt6)
      have FIN : Hid (RowU N wr w6 (some ⟨g, 0, none⟩) cap (useC nm false hs ak us)) := ⟨by simpa using hown6, L2.out.grown hgrow6 BS.out (fun k e => by simp [Value.ownBlock] at e)⟩
      clear hown6 hgrow6 hat6 hlt6 OW BS NEW L2 c0 c1 c2 c3 c4
      go_wp2_with fail
      go_roundg 0
      case measure => omega
      case rel => exact ⟨rfl, rfl, .inr ⟨rfl, _, _, rfl, FIN⟩⟩
    · go_wp2
      go_ret3
      exact ⟨_, _, rfl, HR.out⟩
end Go.Proofs.Ytndbpijkepchgaa.Qy
