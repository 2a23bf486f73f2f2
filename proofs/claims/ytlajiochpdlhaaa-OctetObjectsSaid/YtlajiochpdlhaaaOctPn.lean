/- The reader's Object: the walk, of nil. -/
import Derived.Test.YtlajiochpdlhaaaOctP
namespace Go.Proofs.Ytlajiochpdlhaaa
open Go.RowKit Go.Shelf Go.Lib Go.Sort
open Go.Joins (cell_of_block unfrozen_of_block block_setCell)
set_option linter.unusedVariables false
set_option linter.unusedSimpArgs false
set_option maxRecDepth 20000


set_option maxHeartbeats 1000000 in
theorem robj_nil (w : World) (hpos : 0 < w.heap.size) :
    Calls Try.prog 26 #[.pointer none] w fun e w' => ∃ cs, e = .returned (.agg cs) ∧ ObjV w' cs (resO (objT (.rd none none) zerO)) ∧ Below w.heap.size w w' ∧ cs = zerC := by
  obtain ⟨A, hA⟩ : ∃ A, A = w.heap.size := ⟨_, rfl⟩
  obtain ⟨O, hO⟩ : ∃ O, O = w.heap.size + 1 := ⟨_, rfl⟩
  obtain ⟨C, hC⟩ : ∃ C, C = w.heap.size + 2 := ⟨_, rfl⟩
  obtain ⟨wa, hwa⟩ : ∃ wa, wa = ((w.alloc (.cells zerC 66)).alloc (.cells zerC 66)).alloc (.cells #[.pointer none, .pointer none, .bool false] 82) := ⟨_, rfl⟩
  have G : Gr w wa := hwa ▸ (((Gr.refl w).alloc _).alloc _).alloc _
  have b1 : wa.heap[A]? = some (.cells zerC 66 (0, 0)) := by
    rw [hwa, hA]
    rw [(((Gr.refl (w.alloc (.cells zerC 66))).alloc _).alloc _).heap (by simp)]
    exact heap_alloc_new w _
  have b2 : wa.heap[O]? = some (.cells zerC 66 (0, 0)) := by
    rw [hwa, hO]
    rw [((Gr.refl ((w.alloc (.cells zerC 66)).alloc (.cells zerC 66))).alloc _).heap (by simp)]
    have := heap_alloc_new (w.alloc (.cells zerC 66)) (.cells zerC 66)
    simpa using this
  have b3 : wa.heap[C]? = some (.cells #[.pointer none, .pointer none, .bool false] 82 (0, 0)) := by
    rw [hwa, hC]
    have := heap_alloc_new ((w.alloc (.cells zerC 66)).alloc (.cells zerC 66)) (.cells #[.pointer none, .pointer none, .bool false] 82)
    simpa using this
  have hsz : wa.heap.size = w.heap.size + 3 := by rw [hwa]; simp
  have hyb : yb wa A = none := by rw [yb_of (v := .int .i64 0) b1 rfl]; rfl
  have hc : CoreSt w.heap.size A C (.rd none none) wa := ⟨by omega, by omega, by omega, by omega, by omega, by omega, (fun b hb => by rw [hyb] at hb; cases hb), b3, .inl ⟨rfl, rfl, .inr b1⟩⟩
  have ht : Tg A C O zerC 66 (0, 0) wa := ⟨b2, by omega, by omega, by rw [hyb]; simp⟩
  have OC := Lib.hid (object_any wa w.heap.size A C O (.rd none none) zerC 66 (0, 0) zerO hc ht (fun _ => rfl) (obA_zero _ _ _ _) (obZ_zero _) (fun h => by cases h) (by simp only [St.len]; omega))
  have hst : ∃ s', (objT (.rd none none) zerO).1 = .rd none s' := objT_rd ⟨_, rfl⟩ _
  have HW := Lib.hid (And.intro hwa (And.intro hO (And.intro hC hA)))
  have HG := Lib.hid (And.intro G b1)
  clear hwa G b1 b2 b3 hsz hyb hc ht
  go_enter Try.func26, Try.ntmps26
  go_wp2_with fail
  rw [← HW.out.1, ← HW.out.2.2.1, ← HW.out.2.1, ← HW.out.2.2.2]
  refine OC.out.mono ?_
  rintro e w1 ⟨rfl, L', k1, k2⟩
  obtain ⟨s', hs'⟩ := hst
  rw [hs'] at k1
  have BC := Lib.hid (bad_any w1 w.heap.size A none s' k1.1.2.2.2.2.2.2.2.2)
  have hb1 : Hid (w1.heap[A]? = some (.cells zerC 66 (0, 0))) := by
    show _ = _
    have h := k1.1.2.2.2.2.2.2.2.2
    rcases h with ⟨_, _, h⟩ | ⟨h, _⟩
    · rcases h with h | h
      · omega
      · exact h
    · cases h
  have hb2 := Lib.hid k1.2.1.1
  have K := Lib.hid (And.intro k1 (And.intro k2 hs'))
  have hOR : Hid (O ≠ A ∧ C ≠ A) := ⟨by have := HW.out; omega, by have := HW.out; omega⟩
  clear k1 k2 OC
  go_wp2_with fail
  refine BC.out.mono ?_
  rintro e w2 ⟨rfl, rfl⟩
  have hu := Try.underlying66
  have hzz : ∀ (vs : List Value), vs.length = 47 → w1.there A 0 47 := by
    intro _ _ j hj
    rw [Nat.zero_add, cell_of_block hb1.out, unfrozen_of_block hb1.out]
    refine ⟨?_, rfl⟩
    rw [Array.getElem?_eq_getElem (by simpa using hj)]
    rfl
  have THERE := Lib.hid (hzz (List.replicate 47 undef) (by simp))
  clear hzz hu
  have ONE := Lib.hid (obA_one K.out.2.1)
  have hL' : Hid (L'.size = 47) := K.out.2.1.1
  have THERE2 : Hid (w1.there w.heap.size 0 L'.size) := by
    show World.there _ _ _ _
    rw [hL'.out]
    have h := THERE.out
    rw [HW.out.2.2.2] at h
    exact h
  have THERE3 : Hid (w1.there w.heap.size 0 (zerC : Array Value).size) := by
    have h := THERE.out
    rw [HW.out.2.2.2] at h
    exact h
  have hO2 : Hid (w1.heap[w.heap.size + 1]? = some (.cells L' 66 (0, 0))) := by
    have h := hb2.out
    rw [HW.out.2.1] at h
    exact h
  have hszi : Hid ((Try.prog.info? 66).map (·.size) = some L'.size) := by show _ = _; rw [hL'.out]; exact info_ob
  have fin : Hid (∀ (X : Array Value) (o' : Ob), X.size = 47 → (s' = none → X = zerC ∧ o' = zerO) → (s' ≠ none → X = L' ∧ o' = (objT (.rd none none) zerO).2) →
      (w1.setCells w.heap.size 0 X.toList).heap[w.heap.size]? = some (.cells X 66 (0, 0)) ∧ ∃ cs, Ending.returned (.agg X) = .returned (.agg cs) ∧ ObjV (w1.setCells w.heap.size 0 X.toList) cs (resO (objT (.rd none none) zerO)) ∧ Below w.heap.size w (w1.setCells w.heap.size 0 X.toList) ∧ cs = zerC) := by
    intro X o' hX h1 h2
    obtain ⟨e1, e2, e3, e4⟩ := HW.out
    have hbR := hb1.out
    rw [e4] at hbR
    refine ⟨by rw [setCells_block _ _ _ _ _ _ _ hbR, setAt_full (by rw [hX]; rfl)], X, rfl, ?_, ?_, ?_⟩
    · have hout : ∀ b, b < w1.heap.size → b + 2 ≠ C → (w1.setCells w.heap.size 0 X.toList).heap[b]? = w1.heap[b]? := fun b _ hb => setCells_out _ _ _ _ _ (by omega)
      have hs : w1.heap.size ≤ (w1.setCells w.heap.size 0 X.toList).heap.size := by rw [setCells_size]; exact Nat.le_refl _
      have hst1 := K.out.2.2
      cases s' with
      | none =>
        obtain ⟨rfl, _⟩ := h1 rfl
        have : resO (objT (.rd none none) zerO) = zerO := by unfold resO; rw [hst1]; rfl
        rw [this]
        exact obA_v (obA_zero A C O w1) hs hout
      | some m =>
        obtain ⟨rfl, _⟩ := h2 (by simp)
        have : resO (objT (.rd none none) zerO) = (objT (.rd none none) zerO).2 := by unfold resO; rw [hst1]; rfl
        rw [this]
        exact obA_v K.out.2.1 hs hout
    · have m := K.out.1.2.2
      have g := HG.out.1
      obtain ⟨r1, r2, r3⟩ := setCells_rest X.toList w1 w.heap.size 0
      exact ⟨r1.trans (m.os.trans g.below.os), r2.trans (m.tape.trans g.below.tape), r3.trans (m.output.trans g.below.output), by rw [setCells_size]; exact Nat.le_trans g.size m.size,
        fun k hk => by
          rw [setCells_out _ _ _ _ _ (by omega), m.blk k (Nat.lt_of_lt_of_le hk g.size) (by omega) (by omega) (by omega) (fun e => by rw [yb_of (v := .int .i64 0) HG.out.2 rfl] at e; cases e)]
          exact g.heap hk⟩
    · have hdead : s' = none := by
        rcases K.out.1.1.2.2.2.2.2.2.2.2 with ⟨_, h, _⟩ | ⟨h, _⟩
        · exact h
        · cases h
      exact (h1 hdead).1
  cases s' with
  | none =>
    obtain ⟨FB, FIN⟩ := fin.out zerC zerO rfl (fun _ => ⟨rfl, rfl⟩) (fun h => absurd rfl h)
    have FIN' := Lib.hid FIN
    have FB' := Lib.hid FB
    clear FIN FB fin
    go_upto_region 5 with fail
    go_wp2_with (refine wpList_store_mid rfl _ _ _ rfl w.heap.size 0 zerC (by rfl) (by rfl) THERE3.out info_ob (obA_one (obA_zero 0 0 0 w1)) ?_)
    refine bodyPost_ret (results_cell_row rfl _ _ w.heap.size 66 zerC (0, 0) _ (by rfl) FB'.out Try.underlying66 rfl info_ob) rfl ?_
    exact FIN'.out
  | some m =>
    obtain ⟨FB, FIN⟩ := fin.out L' _ hL'.out (fun h => by cases h) (fun _ => ⟨rfl, rfl⟩)
    have FIN' := Lib.hid FIN
    have FB' := Lib.hid FB
    clear FIN FB fin
    go_wp2_with (first | (refine wpList_load_row rfl 66 _ rfl (w.heap.size + 1) (by rfl) 66 L' (0, 0) _ hO2.out Try.underlying66 rfl hszi.out ?_) | (refine wpList_store_mid rfl _ _ _ rfl w.heap.size 0 L' (by rfl) (by rfl) THERE2.out hszi.out ONE.out ?_))
    refine bodyPost_ret (results_cell_row rfl _ _ w.heap.size 66 L' (0, 0) _ (by rfl) FB'.out Try.underlying66 rfl hszi.out) rfl ?_
    exact FIN'.out
end Go.Proofs.Ytlajiochpdlhaaa
