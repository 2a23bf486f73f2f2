/- Layer 15 (victim): a row of pods of the call's own sorted; all pods of a row, the first to go first (Order). -/
import Derived.Test.YticlncbhgdnoeaaSoOF
import Derived.Test.YticlncbhgdnoeaaViD
namespace Go.Proofs.Yticlncbhgdnoeaa.Vi
open Go.RowKit Go.Shelf Go.Lib Go.Sort Go.Deep
open Go.Joins (cell_of_block unfrozen_of_block block_setCell)
open Go.Proofs.Yticlncbhgdnoeaa.Ow
set_option linter.unusedVariables false
set_option linter.unusedSimpArgs false
set_option maxRecDepth 20000

theorem flat_K (l : List El) : flatK enc 47 l.toArray = (flat enc l).toArray := by
  refine ext_get! (by simp [flat_length enc_len]) fun t ht => ?_
  have ht' : t < l.length * 47 := by simpa using ht
  rw [get_flatK _ _ _ t (by simpa using ht')]
  have hlt : t / 47 < l.length := Nat.div_lt_of_lt_mul (by rw [Nat.mul_comm]; exact ht')
  have hm : t % 47 < 47 := Nat.mod_lt _ (by decide)
  obtain ⟨x, hx⟩ : ∃ x, l[t / 47]? = some x := ⟨l[t / 47], List.getElem?_eq_getElem hlt⟩
  have e2 : l.toArray[t / 47]! = x := by
    have hj := List.getElem?_eq_some_iff.1 hx
    rw [getElem!_pos _ _ (by simpa using hj.1)]
    simpa using hj.2
  have e3 := flat_at enc_len l (t / 47) (t % 47) x hx hm
  rw [show t / 47 * 47 + t % 47 = t by rw [Nat.mul_comm]; exact Nat.div_add_mod t 47] at e3
  have hlf : t < (flat enc l).length := by rw [flat_length enc_len]; exact ht'
  have hxl : t % 47 < (enc x).length := by rw [enc_len]; exact hm
  rw [e2, getElem!_pos (flat enc l).toArray t (by simpa using hlf), getElem!_pos (enc x) (t % 47) hxl]
  rw [List.getElem?_eq_getElem hlf, List.getElem?_eq_getElem hxl] at e3
  simpa using (Option.some.inj e3).symm
theorem holdsO {w : World} {N g c n : Nat} {l : List El} (h : w.ownsRow N OT 47 (.slice (some ⟨g, 0, none⟩) n c) n (flat enc l)) (hn : n = l.length) : HoldsK enc 47 w g 0 l.toArray ∧ g < w.heap.size ∧ N ≤ g := by
  subst hn
  obtain ⟨h0, h⟩ := h
  rcases h with ⟨e, _⟩ | ⟨g', c', cur, e, hb, hg, hc, hm, hsz, htk⟩
  · cases e
  · simp only [Value.slice.injEq, Option.some.injEq, Addr.mk.injEq, and_true, true_and] at e
    obtain ⟨rfl, rfl⟩ := e
    refine ⟨?_, (Array.getElem?_eq_some_iff.1 hg).1, hb⟩
    unfold HoldsK
    rw [flat_K]
    intro t ht
    have ht' : t < (flat enc l).length := by simpa using ht
    have e : cur.toList[t]? = some (flat enc l)[t] := by
      have h2 : (cur.toList.take (l.length * 47))[t]? = some (flat enc l)[t] := by rw [htk, List.getElem?_eq_getElem ht']
      rw [List.getElem?_take_of_lt (by rw [← flat_length enc_len]; exact ht')] at h2
      exact h2
    refine ⟨?_, by simp [World.frozen?, hg]⟩
    rw [Nat.zero_add, getElem!_pos _ _ (by simpa using ht')]
    simp only [World.cell?, hg, Option.isSome_none, Bool.false_eq_true, if_false]
    rw [← Array.getElem?_toList, e]
    simp
theorem grown_sorted {w W : World} {g off : Nat} {d : Array El} (h : SWK enc 47 w g off d W) : w.grownBy W (some g) := by
  obtain ⟨n, os, rfl⟩ := h
  refine ⟨rfl, rfl, rfl, by simp [sortWorldK, putRowK, putRow, mapBlock, Sort.ahead], fun k hk hm => ?_⟩
  unfold sortWorldK
  rw [heap_grow_old _ _ (by simp [putRowK, putRow, mapBlock, Sort.ahead]; omega)]
  have : g ≠ k := fun e => hm (by rw [e])
  simp [putRowK, putRow, mapBlock, Sort.ahead, Array.getElem?_modify, this]
theorem owns_sorted {w W : World} {N g c n : Nat} {l s : List El} (h : w.ownsRow N OT 47 (.slice (some ⟨g, 0, none⟩) n c) n (flat enc l)) (hn : n = l.length) (hs : s.length = l.length) (hw : SWK enc 47 w g 0 s.toArray W) : W.ownsRow N OT 47 (.slice (some ⟨g, 0, none⟩) n c) n (flat enc s) := by
  obtain ⟨h0, h⟩ := h
  refine ⟨by rw [flat_length enc_len, hs, hn], .inr ?_⟩
  rcases h with ⟨e, _⟩ | ⟨g', c', cur, e, hb, hg, hc, hm, hsz, htk⟩
  · cases e
  · simp only [Value.slice.injEq, Option.some.injEq, Addr.mk.injEq, and_true, true_and] at e
    obtain ⟨rfl, rfl⟩ := e
    obtain ⟨m, os, rfl⟩ := hw
    have hlt : g < w.heap.size := (Array.getElem?_eq_some_iff.1 hg).1
    refine ⟨g, c, putCells id 0 (flatK enc 47 s.toArray) cur, rfl, hb, ?_, hc, hm, by simp [putCells, hsz], ?_⟩
    · unfold sortWorldK
      rw [heap_grow_old _ _ (by simp [putRowK, putRow, mapBlock, Sort.ahead]; omega)]
      simp [putRowK, putRow, mapBlock, Sort.ahead, Array.getElem?_modify, hg, onCells]
    · rw [flat_K]
      have hL : (flat enc s).length = n * 47 := by rw [flat_length enc_len, hs, hn]
      have hc47 : n * 47 ≤ cur.size := by rw [hsz]; exact Nat.mul_le_mul_right _ hc
      apply List.ext_getElem?
      intro j
      by_cases hj : j < n * 47
      · rw [List.getElem?_take_of_lt hj, Array.getElem?_toList]
        have hj' : j < (flat enc s).length := by omega
        simp [putCells, hj', show j < cur.size by omega]
      · rw [List.getElem?_take_eq_none (by omega), List.getElem?_eq_none (by omega)]
set_option maxHeartbeats 2000000 in
theorem ins_none (fv : Value) (w : World) : Calls Try.prog 25 #[.slice none 0 0, .int .i64 0, .int .i64 0, fv] w fun e w' => e = .returned (.tuple #[]) ∧ w = w' := by
  go_enter Try.func25, Try.ntmps25
  go_wp2
  refine wp_loop_rounds 1 ?_
  rw [rounds_succ]
  go_wp2
  go_end0
  exact ⟨rfl, rfl⟩
set_option maxHeartbeats 2000000 in
theorem stab_none (fv : Value) (w : World) : Calls Try.prog 19 #[.slice none 0 0, .int .i64 0, fv] w fun e w' => e = .returned (.tuple #[]) ∧ w = w' := by
  have C := Lib.hid (fun W => ins_none fv W)
  go_enter Try.func19, Try.ntmps19
  go_wp2_with fail
  refine wp_loop_rounds 1 ?_
  rw [rounds_succ]
  go_wp2_with fail
  refine (C.out _).mono ?_
  rintro e w' ⟨rfl, rfl⟩
  go_wp2_with fail
  refine wp_loop_rounds 1 ?_
  rw [rounds_succ]
  go_wp2
  go_end0
  exact ⟨rfl, rfl⟩
set_option maxHeartbeats 2000000 in
theorem sort_none (fv : Value) (w : World) : Calls Try.prog 14 #[.slice none 0 0, fv] w fun e w' => e = .returned (.tuple #[]) ∧ w = w' := by
  have C := Lib.hid (fun W => stab_none fv W)
  go_enter Try.func14, Try.ntmps14
  go_wp2_with fail
  refine (C.out _).mono ?_
  rintro e w' ⟨rfl, rfl⟩
  go_wp2
  go_end0
  exact ⟨rfl, rfl⟩
/-- A row that is read as pods. -/
theorem els {l : List Obv} (h : ∀ x ∈ l, Fd x) : ∃ p : List El, p.map (·.1) = l := by
  induction l with
  | nil => exact ⟨[], rfl⟩
  | cons x r ih =>
    obtain ⟨p, hp⟩ := ih (fun y hy => h y (List.mem_cons_of_mem _ hy))
    exact ⟨⟨x, h x List.mem_cons_self⟩ :: p, by simp [hp]⟩
theorem flat_els (p : List El) : flat encOb (p.map (·.1)) = flat enc p := by
  unfold flat
  rw [List.flatMap_map]
  rfl
theorem fd_obj {w : World} {x : Obv} (h : ObjV w x.1.1 x.2) (hk : x.2.kind = 1) : Fd x := by
  obtain ⟨hsz, ⟨c0, c1, c2, hver⟩, hW, hP, hN, hG, hH⟩ := h
  exact ⟨by rw [c0, hk], c1, hP.2.2.1, hP.2.2.2.1⟩
theorem Firm.grown {v : Value} {w w' : World} {x : Obv} (h : Firm v w x) (g : w.grownBy w' v.ownBlock) : Firm v w' x := fun w'' g' =>
  h w'' ⟨g'.os.trans g.os, g'.tape.trans g.tape, g'.output.trans g.output, Nat.le_trans g.size g'.size, fun k hk hn => (g'.block k (Nat.lt_of_lt_of_le hk g.size) hn).trans (g.block k hk hn)⟩
theorem append_none (X : Value) : (#[X] ++ #[] : Array Value) = #[X] := by simp
theorem enters_pod : ∀ args w, (callFunc 13 args).run Try.prog w = .ok (.enter 13 args) w := enters_of Try.func13 (by kernel_rfl) rfl
/-- A row of pods of the call's own, sorted: the first to go first. -/
theorem sort_row (w : World) (N : Nat) (q : Option Addr) (c : Nat) (p : List El) (h : Row N w (.slice q p.length c) (p.map (·.1))) (hlen : p.length < 1000000) (hc : q = none → c = 0) :
    Calls Try.prog 14 #[.slice q p.length c, fvC] w fun e w' => e = .returned (.tuple #[]) ∧ (∃ s : List El, s.length = p.length ∧ Row N w' (.slice q p.length c) (s.map (·.1)) ∧ Sorted s ∧ Same1 p s) ∧ w.grownBy w' (Value.slice q p.length c).ownBlock := by
  obtain ⟨h1, h2⟩ := h
  rw [flat_els, List.length_map] at h1
  cases q with
  | none =>
    obtain rfl := hc rfl
    have e0 : p = [] := by
      rcases h1.2 with ⟨_, e⟩ | ⟨g, cap, cur, e, _⟩
      · exact List.eq_nil_of_length_eq_zero e
      · cases e
    subst e0
    refine (sort_none fvC w).mono ?_
    rintro e w' ⟨rfl, rfl⟩
    exact ⟨rfl, ⟨[], rfl, Row.nil _ _, Sorted.nil, Same1.refl _⟩, ⟨rfl, rfl, rfl, Nat.le_refl _, fun _ _ _ => rfl⟩⟩
  | some ad =>
    obtain ⟨g, rfl⟩ : ∃ g, ad = ⟨g, 0, none⟩ := by
      rcases h1.2 with ⟨e, _⟩ | ⟨g, cap, cur, e, _⟩
      · cases e
      · simp only [Value.slice.injEq, Option.some.injEq] at e
        exact ⟨g, e.1⟩
    obtain ⟨hH, hg, hN⟩ := holdsO h1 rfl
    refine (sortStable_any w g 0 c p hH hg hlen).mono ?_
    rintro e w' ⟨rfl, s, hs, ss, sm, sw⟩
    have gb : w.grownBy w' (Value.slice (some ⟨g, 0, none⟩) p.length c).ownBlock := grown_sorted sw
    refine ⟨rfl, ⟨s, hs, ⟨?_, fun x hx => ?_⟩, ss, sm⟩, gb⟩
    · rw [flat_els, List.length_map, hs]
      have := owns_sorted h1 rfl hs sw
      exact this
    · refine (h2 x ?_).grown gb
      obtain ⟨y, hy, rfl⟩ := List.mem_map.1 hx
      exact List.mem_map.2 ⟨y, sm.1.mem_iff.2 hy, rfl⟩
end Go.Proofs.Yticlncbhgdnoeaa.Vi
