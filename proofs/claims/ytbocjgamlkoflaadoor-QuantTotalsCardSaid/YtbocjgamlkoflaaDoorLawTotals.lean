/- Proved here: the law QuantTotals of layer 2 holds for every row of numbers: the sum of any row is that of its quantities, one by one, or the first error. Conditions: the library's variables that the row lists hold what the program's text lays. -/
import Derived.Test.YtbocjgamlkoflaaDoorCards
import Derived.Test.YtbocjgamlkoflaaDoorTie
import Derived.Test.YtbocjgamlkoflaaDoorQLawBase
import Derived.Test.YtbocjgamlkoflaaDoorSumB
import Derived.SevenTiedAt
import Derived.ChangeSlices
import Derived.JoinedAt
namespace Go.Proofs.YtbocjgamlkoflaaDoor.quantTotals
open Go.ChangeShapes Go.WideShapes Go.ChangeAt Go.RowKit
set_option linter.unusedVariables false

/-- A row that is too long is left out. -/
theorem long (a : Option Addr) (len cap : Nat) (w : World) (hL : Laid w) (hl : 100 < len) (hm : len ≤ maxLen) :
    Calls Tryd.prog 6 #[.slice a len cap] w fun e w' => e = .returned (.bool true) ∧ Below w.heap.size w w' := by
  unfold maxLen at hm
  have B0 : Below w.heap.size w (w.alloc (.cells #[.slice a len cap] 42)) := (Below.refl _ _).alloc (Nat.le_refl _) _
  have HL := Lib.hid (hL.below B0)
  have t1 : (100 : Int) < (len : Int) := by omega
  clear hL hl
  go_enter Tryd.func6, Tryd.ntmps6
  go_wp2_with fail
  refine (lives_any _ HL.out).mono ?_
  rintro e w1 ⟨rfl, b1⟩
  have hc : w1.cell? ⟨w.heap.size, 0, none⟩ = some (.slice a len cap) := (b1.cell (p := ⟨w.heap.size, 0, none⟩) (by simp)).trans (by simp)
  go_wp2_with fail
  refine (lives_any _ (HL.out.below b1)).mono ?_
  rintro e w2 ⟨rfl, b2⟩
  go_wp2
  go_ret
  have z1 := b1.size
  simp at b1 z1
  exact ⟨rfl, (B0.trans (b1.mono (by omega))).trans (b2.mono (by omega))⟩

theorem empty (a : Option Addr) (cap : Nat) (w : World) (hL : Laid w) :
    Calls Tryd.prog 6 #[.slice a 0 cap] w fun e w' => e = .returned (.bool true) ∧ Below w.heap.size w w' := by
  have hmf : ∀ (fn : Fn) (first cap : Array Value) (w : World), (Instr.makeFunc fn first cap).run Tryd.prog w = .ok (.func fn first cap) w := fun _ _ _ _ => rfl
  have B0 : Below w.heap.size w (w.alloc (.cells #[.slice a 0 cap] 42)) := (Below.refl _ _).alloc (Nat.le_refl _) _
  have HL := Lib.hid (hL.below B0)
  clear hL
  go_enter Tryd.func6, Tryd.ntmps6
  go_wp2_with fail
  refine (lives_any _ HL.out).mono ?_
  rintro e w1 ⟨rfl, b1⟩
  have hc : w1.cell? ⟨w.heap.size, 0, none⟩ = some (.slice a 0 cap) := (b1.cell (p := ⟨w.heap.size, 0, none⟩) (by simp)).trans (by simp)
  have z1 := b1.size
  simp at b1 z1
  go_wp2_with fail
  refine (sum_any w.heap.size _ [] (by decide) w1 (by omega) hc (.inl ⟨a, cap, rfl, rfl⟩)).mono ?_
  rintro e w2 ⟨rfl, b2⟩
  have hc2 : w2.cell? ⟨w.heap.size, 0, none⟩ = some (.slice a 0 cap) := (b2.cell (p := ⟨w.heap.size, 0, none⟩) z1).trans hc
  have e1 : (run []).1 = 0 := rfl
  have e2 : (run []).2 = 0 := rfl
  rw [e1, e2]
  clear e1 e2
  have hB := (B0.trans (b1.mono (by omega))).trans (b2.mono (by omega))
  clear hc b1 b2 B0
  go_wp2_with fail
  go_loop [5, 23] (fun s i => s = .int .i64 0 ∧ i = .int .i64 0) (fun _ _ => 0)
  case atStart => exact ⟨rfl, rfl⟩
  case round =>
    obtain ⟨rfl, rfl⟩ := hrel
    go_wp2
    go_ret
    exact ⟨rfl, hB⟩

theorem take_snoc (zs : List Int) (k : Nat) (h : k < zs.length) : zs.take (k + 1) = zs.take k ++ [zs[k]?.getD 0] := by
  rw [List.take_succ_eq_append_getElem h, List.getElem?_eq_getElem h]
  rfl

theorem short (b off cap : Nat) (zs : List Int) (w : World) (hL : Laid w) (hl : zs.length ≤ 100) (hb : b < w.heap.size)
    (hc : ∀ j, j < zs.length → w.cell? ⟨b, off + j, none⟩ = some (.int .i64 (zs[j]?.getD 0))) :
    Calls Tryd.prog 6 #[.slice (some ⟨b, off, none⟩) zs.length cap] w fun e w' => e = .returned (.bool true) ∧ Below w.heap.size w w' := by
  have hmf : ∀ (fn : Fn) (first cap : Array Value) (w : World), (Instr.makeFunc fn first cap).run Tryd.prog w = .ok (.func fn first cap) w := fun _ _ _ _ => rfl
  obtain ⟨len, hlen⟩ : ∃ len, len = zs.length := ⟨_, rfl⟩
  rw [← hlen] at hl ⊢
  have HN := Lib.hid hlen
  have HC := Lib.hid hc
  have B0 : Below w.heap.size w (w.alloc (.cells #[.slice (some ⟨b, off, none⟩) len cap] 42)) := (Below.refl _ _).alloc (Nat.le_refl _) _
  have HL := Lib.hid (hL.below B0)
  clear hL hlen hc
  go_enter Tryd.func6, Tryd.ntmps6
  go_wp2_with fail
  refine (lives_any _ HL.out).mono ?_
  rintro e w1 ⟨rfl, b1⟩
  have hc : w1.cell? ⟨w.heap.size, 0, none⟩ = some (.slice (some ⟨b, off, none⟩) len cap) := (b1.cell (p := ⟨w.heap.size, 0, none⟩) (by simp)).trans (by simp)
  have z1 := b1.size
  simp at b1 z1
  have hB1 := B0.trans (b1.mono (by omega))
  go_wp2_with fail
  refine (sum_any w.heap.size _ zs (by have := HN.out; omega) w1 (by omega) hc (.inr ⟨b, off, cap, by rw [HN.out], by omega, fun j hj => (hB1.cell (p := ⟨b, off + j, none⟩) hb).trans (HC.out j hj)⟩)).mono ?_
  rintro e w2 ⟨rfl, b2⟩
  have hc2 : w2.cell? ⟨w.heap.size, 0, none⟩ = some (.slice (some ⟨b, off, none⟩) len cap) := (b2.cell (p := ⟨w.heap.size, 0, none⟩) z1).trans hc
  have hB := hB1.trans (b2.mono (by omega))
  obtain ⟨p, hp⟩ : ∃ p, p = (run zs).1 := ⟨_, rfl⟩
  obtain ⟨q, hq⟩ : ∃ q, q = (run zs).2 := ⟨_, rfl⟩
  rw [← hp, ← hq]
  have HP := Lib.hid hp
  have HQ := Lib.hid hq
  clear hc b1 b2 B0 hB1 hp hq
  go_wp2_with fail
  go_loop [5, 23] (fun s i => ∃ (k : Nat) (S : Int), k ≤ len ∧ i = .int .i64 k ∧ s = .int .i64 S ∧ Hid (run (zs.take k) = (S, 0))) (fun _ i => len - (intOf i).toNat)
  case atStart => exact ⟨0, 0, Nat.zero_le _, rfl, rfl, rfl⟩
  case round =>
    obtain ⟨k, S, hk, rfl, rfl, hrun⟩ := hrel
    have hS := run_fine (zs.take k) (by rw [hrun.out])
    rw [hrun.out] at hS
    obtain ⟨S0, S1⟩ : 0 ≤ S ∧ S ≤ 9007199254740992 := hS
    by_cases hlt : k < len
    · have hcell : w2.cell? ⟨b, off + k, none⟩ = some (.int .i64 (zs[k]?.getD 0)) := (hB.cell (p := ⟨b, off + k, none⟩) hb).trans (HC.out k (by have := HN.out; omega))
      have HT := Lib.hid (take_snoc zs k (by have := HN.out; omega))
      have hpre : zs.take (k + 1) <+: zs := List.take_prefix _ _
      have HR := Lib.hid (run_pre hpre)
      obtain ⟨x, hx⟩ : ∃ x, x = zs[k]?.getD 0 := ⟨_, rfl⟩
      rw [← hx] at hcell HT
      have hsn := run_snoc (zs.take k) x
      rw [hrun.out, ← HT.out] at hsn
      unfold step at hsn
      rw [if_pos rfl] at hsn
      clear hx hpre
      by_cases hbad : x < 0 ∨ 9007199254740992 < x
      · rw [if_pos hbad] at hsn
        have hz := HR.out (by rw [hsn]; decide)
        rw [hsn] at hz
        obtain rfl : p = 0 := by rw [HP.out, hz]
        obtain rfl : q = 1 := by rw [HQ.out, hz]
        clear hsn hz
        rcases hbad with h1 | h1
        · go_wp2
          go_ret
          exact ⟨rfl, hB⟩
        · go_wp2
          go_ret
          exact ⟨rfl, hB⟩
      · rw [if_neg hbad] at hsn
        have x0 : ¬ x < 0 := by omega
        have x1 : ¬ 9007199254740992 < x := by omega
        have x2 : x ≤ 9007199254740992 := by omega
        have x3 : 0 ≤ x := by omega
        by_cases ho : 9007199254740992 < S + x
        · rw [if_pos ho] at hsn
          have hz := HR.out (by rw [hsn]; decide)
          rw [hsn] at hz
          obtain rfl : p = 0 := by rw [HP.out, hz]
          obtain rfl : q = 3 := by rw [HQ.out, hz]
          clear hsn hz hbad
          go_wp2
          go_ret
          exact ⟨rfl, hB⟩
        · rw [if_neg ho] at hsn
          have HSN := Lib.hid hsn
          clear hsn hbad
          go_wp2
          go_round
          case rel => exact ⟨k + 1, S + x, by omega, by go_num, rfl, HSN.out⟩
          case measure => simp [intOf]; omega
    · obtain rfl : k = len := by omega
      have e := hrun.out
      rw [HN.out, List.take_length] at e
      obtain rfl : p = S := by rw [HP.out, e]
      obtain rfl : q = 0 := by rw [HQ.out, e]
      clear e
      go_wp2
      go_ret
      exact ⟨rfl, hB⟩

theorem c_milli : Tryd.prog.cellsOf 29 = 1 := by kernel_rfl
/-! ### THE ROW's STEP: WRITTEN OUT: LEAVE IT -/
set_option maxRecDepth 100000 in
theorem lifted (os : Os) (started : os.Started) (H : Type) (enc : TypeId × Value → H) :
    ReturnsInHanded {} Tryd.checked os 6 .any (fun w args => (Rows.quantTotalsSpec.pre enc Tryd.prog Tryd.f6 [] false w args ∧ laidMetH Tryd.prog lst w) ∧ sizedMet enc Tryd.prog Tryd.f6 (OpenSpec.ofChange Rows.quantTotalsSpec) false w args)
      (Rows.quantTotalsSpec.post enc Tryd.prog Tryd.f6 false true false false) := by
  refine returnsInHanded_of_change_and (C := Tryd.checked) (X := fun w _ => laidMetH Tryd.prog lst w) (fun _ _ _ hh h => h.of_heap hh) own started (by kernel_rfl) Tryd.func6
    (ChangeSpec.witness_shaped (enc := enc) (C := Tryd.checked) (os := os) (X := fun w _ => laidMetH Tryd.prog lst w) false (World.doorLaid Tryd.prog 2000 os) #[.slice none 0 0] 8 rfl (World.shaped_of_RefB (by kernel_rfl) (by kernel_rfl)) (by kernel_rfl) (by kernel_rfl) (by kernel_rfl) (door_met os _)) ?_
  intro W base args ds gs before hval0 hW _ _ hL _
  have hval : ∀ (j : Nat) t v, Tryd.f6.params[j]? = some t → args[j]? = some v → Value.okWide Tryd.prog W .any base t v := hval0
  have hW' := hW
  obtain ⟨p, q, hA0, hV, rfl, hfz, hnd⟩ := hW
  have hA : DataW.TrodAll enc Tryd.prog W 0 (fun _ => true) true Tryd.f6.params.toList args.toList ds p := hA0
  rw [Tryd.params6] at hA hval
  obtain ⟨v0, d0, rfl, rfl, h0⟩ := trodAll_one hA
  obtain ⟨rfl, rfl⟩ := trodVars_none hV
  obtain ⟨a0, len, cap, rfl⟩ := okWide_slice Tryd.underlying42 (hval 0 42 v0 rfl rfl)
  obtain ⟨fuel, hf⟩ := h0
  clear hA0 hval0
  have hlaid := of_laid hL
  simp only [List.append_nil] at hW'
  rcases open_ints Tryd.underlying42 Tryd.underlying29 c_milli hf with ⟨hcs, hx⟩ | ⟨a, len', cap', zs, hcs, _, hl, hm, hz, hx, hcell, hwz⟩
  · simp [Value.cells] at hcs
    obtain ⟨rfl, rfl, rfl⟩ := hcs
    simp only [Prod.mk.injEq] at hx
    obtain ⟨rfl, rfl⟩ := hx
    refine (empty none 0 W hlaid).mono fun e W' ⟨he, hg⟩ => ?_
    subst he
    exact ⟨_, rfl, post_below hW' hg (fun _ _ _ => trodAll_mk1 (shut_bool Tryd.underlying4 _)) (fun sp _ => trodAll_mk1 (shut_slice_nil Tryd.underlying42)) (fun _ => rfl) (ok_one (by kernel_rfl) rfl (okWide_bool_mk Tryd.underlying4 _))⟩
  · simp [Value.cells] at hcs
    obtain ⟨rfl, rfl, rfl⟩ := hcs
    simp only [Prod.mk.injEq] at hx
    obtain ⟨rfl, rfl⟩ := hx
    simp only [if_true] at hz
    have hlen : (zs.take len).length = len := by rw [List.length_take]; omega
    have fin : Calls Tryd.prog 6 #[.slice (some a) len cap] W fun e W' => e = .returned (.bool true) ∧ Below W.heap.size W W' := by
      by_cases h1 : 100 < len
      · exact long (some a) len cap W hlaid h1 (by omega)
      · by_cases hl0 : len = 0
        · subst hl0
          exact empty (some a) cap W hlaid
        · obtain ⟨b, off, spot⟩ := a
          have h00 := hcell 0 (by omega)
          have hspot : spot = none := by simpa [Addr.add] using World.cell?_spot h00
          subst hspot
          have hb : b < W.heap.size := by
            rcases Nat.lt_or_ge b W.heap.size with h | h
            · exact h
            · rw [add_plain] at h00
              simp [World.cell?, Array.getElem?_eq_none h] at h00
          have := short b off cap (zs.take len) W hlaid (by omega) hb (fun j hj => by
            rw [hlen] at hj
            rw [← add_plain, hcell j (by omega), List.getD_eq_getElem?_getD, List.getElem?_take_of_lt hj])
          rwa [hlen] at this
    refine fin.mono fun e W' ⟨he, hg⟩ => ?_
    subst he
    have hcell' : ∀ i, i < zs.length → W'.cell? (a.add i) = some (.int .i64 (zs.getD i 0)) := fun i hi => by
      have h := hcell i hi
      rw [← h]
      refine hg.cell ?_
      rcases Nat.lt_or_ge (a.add i).block W.heap.size with h' | h'
      · exact h'
      · simp [World.cell?, Array.getElem?_eq_none h'] at h
    have again : ∀ sp : Nat → Bool, (∀ p ∈ MemPlace.row a zs.length, sp p.block = true) → DataW.TrodAll enc Tryd.prog W' 0 sp true [42] [.slice (some a) len cap] [.slice (lits .i64 (zs.take len)) (lits .i64 (zs.drop len))] (MemPlace.row a zs.length) := by
      intro sp hsp
      by_cases hz0 : zs.length = 0
      · have hc0 : cap = 0 := by omega
        have hl0 : len = 0 := by omega
        subst hc0; subst hl0
        have t0 := shut_ints (enc := enc) (w := W') (base := 0) (spare := sp) (held := true) (a := a) (len := 0) (cap := 0) (zs := zs) 0 Tryd.underlying42 Tryd.underlying29 c_milli (Nat.zero_le _) (Nat.le_refl _) hm (by simp [hz0]) hcell' hwz
        exact trodAll_mk1 ⟨2, by simpa [Value.cells] using t0⟩
      · have hspb : sp a.block = true := by
          have := hsp (.cell a.block a.off) (MemPlace.mem_row.2 ⟨0, by omega, by simp⟩)
          exact this
        have t0 := shut_ints (enc := enc) (w := W') (base := 0) (spare := sp) (held := true) (a := a) (len := len) (cap := cap) (zs := zs) 0 Tryd.underlying42 Tryd.underlying29 c_milli (Nat.zero_le _) hl hm (by simp [hspb, hz]) hcell' hwz
        exact trodAll_mk1 ⟨2, by simpa [Value.cells] using t0⟩
    refine ⟨_, rfl, post_below hW' hg (fun _ _ _ => trodAll_mk1 (shut_bool Tryd.underlying4 _)) (fun sp hsp => again sp (fun p hp => hsp p (by simpa using hp))) (fun _ => rfl) (ok_one (by kernel_rfl) rfl (okWide_bool_mk Tryd.underlying4 _))⟩

theorem over : Rows.QuantTotalsSaid :=
  OpenClaim.holds_of_wide 6 Tryd.f6 rfl rfl rfl rfl rfl rfl rfl ⟨rfl, rfl, rfl, rfl, rfl⟩ rfl rfl rfl rfl rfl (by kernel_rfl) Tryd.func6 (by kernel_rfl)
    (of_decide_eq_true (by kernel_rfl)) (by unfold Func.isWrapper; first | (rw [if_pos (by decide +kernel)]; kernel_rfl) | (rw [if_neg (by decide +kernel)]; exact ⟨rfl, rfl⟩))
    (fun os started H enc _ => lifted os started H enc)

/-- The statement: the row, with what it lists tied to the program's text. -/
theorem proved : Rows.QuantTotalsCardSaid :=
  Claim7.holds_tied_plain_at .later [] _ true _ true
    over (fun _ h => by cases h) (by kernel_rfl) (fun _ h => by cases h) quantTotals_row_tie rfl ⟨rfl, rfl⟩ (by kernel_rfl) rfl
    (fun f fn hf hfn => by
      obtain rfl : f = 6 := Option.some.inj ((show Tryd.prog.funcNamed Rows.quantTotalsRow.func = some 6 by kernel_rfl).symm.trans hf) |>.symm
      obtain rfl : fn = Tryd.f6 := (Option.some.inj (Tryd.func6.symm.trans hfn)).symm
      exact ⟨by kernel_rfl, fun j t ht => by
        rw [Tryd.params6] at ht
        have hm : t ∈ [42] := by simpa using Array.mem_of_getElem? ht
        have hall : ([42].all fun u => !Tryd.prog.wantsStandIn u) = true := by kernel_rfl
        exact (show Tryd.prog.wantsStandIn t = false by simpa using List.all_eq_true.1 hall t hm)⟩)
    (by kernel_rfl)
#print axioms proved
end Go.Proofs.YtbocjgamlkoflaaDoor.quantTotals

