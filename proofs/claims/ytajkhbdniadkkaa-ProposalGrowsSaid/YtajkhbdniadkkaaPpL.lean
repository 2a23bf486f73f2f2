/- Layer 20: the law's example. -/
import Derived.Test.YtajkhbdniadkkaaPpR
import Derived.Great.BuildSlice
namespace Go.Proofs.Ytajkhbdniadkkaa.Pp
open Go.RowKit Go.Shelf Go.Lib Go.Sort Go.Deep
open Go.Joins (cell_of_block unfrozen_of_block block_setCell)
open Go.Proofs.Ytajkhbdniadkkaa.Ow Go.Proofs.Ytajkhbdniadkkaa.Ld
set_option linter.unusedVariables false
set_option linter.unusedSimpArgs false
set_option maxRecDepth 20000

/-- A slice literal of two whole structs, at the list of a plain region's operations. -/
theorem list_build2 {P : Program} {ops : Array Oper} {rest : List Oper} {o : Oper} {a : Act} {w : World} {Q : Exit → Act → World → Prop} (hw : Region.wanted o (yielded ops a.tmps) = true) (t e : TypeId) (x y : Operand) (ho : o.op = .buildSlice t 2 #[(0, x), (1, y)]) (z : Value) (s : Nat) (X Y : Array Value) (hx : a.eval x = .agg X) (hy : a.eval y = .agg Y) (hX : X.size = s) (hY : Y.size = s) (h0 : 0 < s) (h1 : s ≤ 1000000)
    (hu : P.underlying t = some (.slice e)) (hinfo : (P.info? e).map (fun i => (i.zero, i.size)) = some (some z, s)) (k : wpList P ops Q rest (a.put o.dst (.slice (some ⟨w.heap.size, 0, none⟩) 2 2)) (w.alloc (.cells (X ++ Y) e))) : wpList P ops Q (o :: rest) a w := by
  refine wpList_step fun K hK => ?_
  rw [if_pos hw]
  cases hie : P.info? e with
  | none => rw [hie] at hinfo; cases hinfo
  | some i =>
    rw [hie] at hinfo
    simp only [Option.map_some, Option.some.injEq, Prod.mk.injEq] at hinfo
    obtain ⟨hz, hs⟩ := hinfo
    refine wp_buildSlice t e 2 _ ho (X ++ Y) i z hu hie hz (by rw [hs]; omega) (by rw [hs]; omega) ?_ (hK _ _ k)
    have hc : (Value.agg X).cells = X := rfl
    have hc2 : (Value.agg Y).cells = Y := rfl
    have := Great.fill_whole h0 [Value.agg X, Value.agg Y] ((Array.range (2 * i.size)).map (z.cells[· % z.cells.size]!)) (fun v hv => by
      simp only [List.mem_cons, List.not_mem_nil, or_false] at hv
      rcases hv with rfl | rfl
      · rw [hc]; exact hX
      · rw [hc2]; exact hY) (by simp [hs])
    rw [hs] at this ⊢
    have e : (X.toList ++ Y.toList).toArray = X ++ Y := by
      apply Array.toList_inj.1
      simp
    simp [hx, hy, hc, hc2] at this ⊢
    rw [this, e]
/-- A row of two uses in a block of its own. -/
theorem row_two {w : World} {M : Nat} {x y : Ut} (h : w.heap[M]? = some (.cells (utA x ++ utA y) UT (0, 0))) : RowR 5 encT w (some ⟨M, 0, none⟩) [x, y] := by
  intro j z hj
  refine ⟨M, 0, rfl, (Array.getElem?_eq_some_iff.1 h).1, fun t v hv => ?_⟩
  have sx : (utA x).size = 5 := rfl
  have ht : t < 5 := by rw [← encT_len z]; exact (List.getElem?_eq_some_iff.1 hv).1
  rw [cell_of_block h]
  match j, hj with
  | 0, hj =>
    cases hj
    rw [show 0 + 0 * 5 + t = t by omega, Array.getElem?_append_left (by omega), ← Array.getElem?_toList]
    exact hv
  | 1, hj =>
    cases hj
    rw [Array.getElem?_append_right (by omega), sx, show 0 + 1 * 5 + t - 5 = t by omega, ← Array.getElem?_toList]
    exact hv
  | n + 2, hj => simp at hj
def exU : Ut := ⟨{ data := #[] }, true, true, 1000, 900⟩
theorem ex_row : rowV 0 500 [exU, exU] 2 100 = 4 ∧ rowE 0 500 [exU, exU] = 0 := ⟨by kernel_rfl, by kernel_rfl⟩
theorem info_UT2 : (Try.prog.info? UT).map (fun i => (i.zero, i.size)) = some (some (.agg zerU), 5) := by
  obtain ⟨i, h, h1, h2, _⟩ := info_UT
  rw [h, Option.map_some, h1, h2]
set_option maxHeartbeats 4000000 in
theorem plives (w : World) : Calls Try.prog 7 #[] w fun e w' => e = .returned (.bool true) ∧ Below w.heap.size w w' := by
  obtain ⟨X, hX⟩ : ∃ X, X = utA exU := ⟨_, rfl⟩
  obtain ⟨th, eb, bl⟩ := cell_new w UT zerU X (by rw [hX]; rfl)
  have TH := Lib.hid th
  have IN : Hid ((Try.prog.info? UT).map (·.size) = some X.size) := by show _ = _; rw [hX]; kernel_rfl
  have ON : Hid (X.all (·.oneCell') = true) := by rw [hX]; exact utA_all _
  obtain ⟨w1, hw1⟩ : ∃ W', W' = (w.alloc (.cells zerU UT)).setCells w.heap.size 0 X.toList := ⟨_, rfl⟩
  obtain ⟨O, hO⟩ : ∃ A, A = w.heap.size := ⟨_, rfl⟩
  have HW1 : Hid ((w.alloc (.cells zerU UT)).setCells w.heap.size 0 X.toList = w1 ∧ w.heap.size = O) := ⟨hw1.symm, hO.symm⟩
  rw [← hw1] at eb bl
  rw [← hO] at eb
  have XS : Hid (X.size = 5) := by show _ = _; rw [hX]; rfl
  have LD1 := Lib.hid (load_ut (Ld.rangeAt_block eb) XS.out)
  have XE : Hid (#[.string { data := #[] }, .bool true, .bool true, .int .i64 1000, .int .i64 900] = X) := hX.symm
  obtain ⟨w2, hw2⟩ : ∃ x, x = w1.alloc (.cells (X ++ X) UT) := ⟨_, rfl⟩
  obtain ⟨M, hM⟩ : ∃ M, M = w1.heap.size := ⟨_, rfl⟩
  have HW2 : Hid (w1.alloc (.cells (X ++ X) UT) = w2 ∧ w1.heap.size = M) := ⟨hw2.symm, hM.symm⟩
  have k2 : w2.heap[M]? = some (.cells (X ++ X) UT (0, 0)) := by rw [hw2, hM]; exact heap_alloc_new w1 _
  have b12 : Below w1.heap.size w1 w2 := by rw [hw2]; exact ((Gr.refl w1).alloc _).below
  have B2 := Lib.hid (bl.trans (b12.mono bl.size))
  rw [hX] at k2
  have CR := row_ok w2 0 { data := #[99, 112, 117] } 500 2 100 (by omega) (by omega) (by omega) (by omega) (some ⟨M, 0, none⟩) 2 [exU, exU] (row_two k2) (by simp) (by kernel_rfl)
  rw [ex_row.1, ex_row.2] at CR
  have CR2 : Hid (Calls Try.prog 14 #[.agg #[.int .i64 0, .string { data := #[99, 112, 117] }, .int .i64 500], .slice (some ⟨M, 0, none⟩) 2 2, .int .i64 2, .int .i64 100] w2 fun e w' => e = .returned (.tuple #[.int .i64 4, .int .i64 0]) ∧ Below w2.heap.size w2 w') := CR
  clear th eb bl hX hw1 hO hw2 hM k2 b12 CR
  go_enter Try.func7, Try.ntmps7
  go_upto_region 2 with (rw [XE.out]; refine wpList_store_mid rfl _ _ _ rfl w.heap.size 0 X (by rfl) (by rfl) TH.out IN.out ON.out ?_; rw [HW1.out.1, HW1.out.2])
  clear TH IN ON HW1
  go_wp2_with (first | (refine wpList_load_by (by kernel_rfl) UT _ rfl (.pointer (some ⟨O, 0, none⟩)) (.agg X) (by rfl) LD1.out ?_) | (refine list_build2 (by kernel_rfl) SlT UT _ _ rfl (.agg zerU) 5 X X (by rfl) (by rfl) XS.out XS.out (by decide) (by decide) Try.underlying38 info_UT2 ?_; rw [HW2.out.1, HW2.out.2]))
  refine CR2.out.mono ?_
  rintro e w3 ⟨rfl, b3⟩
  have FIN := Lib.hid (B2.out.trans (b3.mono B2.out.size))
  clear b3 CR2 LD1 B2
  go_wp2
  go_ret
  exact ⟨rfl, FIN.out⟩
end Go.Proofs.Ytajkhbdniadkkaa.Pp
