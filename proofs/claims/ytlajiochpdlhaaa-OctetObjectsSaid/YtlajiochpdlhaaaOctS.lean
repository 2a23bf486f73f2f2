/- One byte through the course: single, truth; the loops, both ways at once. -/
import Derived.Test.YtlajiochpdlhaaaOctT
import Derived.Test.YtlajiochpdlhaaaOctN2
import Derived.Test.YtlajiochpdlhaaaOctN3
namespace Go.Proofs.Ytlajiochpdlhaaa
open Go.RowKit Go.Shelf Go.Lib Go.Sort
open Go.Joins (cell_of_block unfrozen_of_block block_setCell)
set_option linter.unusedVariables false
set_option maxRecDepth 20000

theorem len_one {n : Nat} (h : n < 256) : IntKind.i64.wrap (n : Int) = (n : Int) := by rw [IntKind.wrap_i64]; omega
theorem byte_lt (s : Sr) : valU (takeS 1 s) < 256 := lenS_lt s

set_option maxHeartbeats 1000000 in
theorem single_any (w : World) (N A C O i : Nat) (st : St) (L : Array Value) (T : TypeId) (fz : Nat × Nat) (x : Int) (hc : CoreSt N A C st w) (ht : Tg A C O L T fz w) (hf : st.isR = true → fz = (0, 0)) (hx : L[i]? = some (.int .i64 x)) (hl : st.len + 256 ≤ 1000000000) :
    Calls Try.prog 42 #[ptr C, .pointer (some ⟨O, i, none⟩)] w fun e w' => e = .returned (.tuple #[]) ∧ Pst N A C O (oneT st x).1 (L.setIfInBounds i (.int .i64 (oneT st x).2)) T fz w w' := by
  have mixed : Try.prog.follows .mixedOrders = true := by kernel_rfl
  have P0 := Pst.start hc ht
  have o1 : w.cell? ⟨O, i, none⟩ = some (.int .i64 x) := by rw [cell_of_block ht.1]; exact hx
  cases st with
  | wr lg bs =>
    have c0 : w.cell? ⟨C, 0, none⟩ = some (ptr A) := cell_of_block hc.2.2.2.2.2.2.2.1 0
    have cv := wrap_u64' x
    have WC : Hid (∀ W, Gr w W → Calls Try.prog 8 #[ptr A, .int .u64 (u64 x : Int), .int .i64 1] W fun e w' => e = .returned (.tuple #[]) ∧ WrM w' N A (bs ++ le (u64 x) 1) ∧ Mv A A A W w') := fun W g => put_ok W N A bs (u64 x) 1 (by unfold IsSz; omega) (u64_lt x) (hc.2.2.2.2.2.2.2.2.gr g) (Nat.le_trans hc.leN g.size) (by unfold St.len at hl; dsimp only at hl; omega)
    have e1 : (oneT (.wr lg bs) x).2 = x := rfl
    have e2 : (oneT (.wr lg bs) x).1 = .wr lg (bs ++ le (u64 x) 1) := rfl
    rw [e1, e2, set_same hx]
    generalize u64 x = u at cv WC ⊢
    have HP := Lib.hid P0
    clear P0 hc ht hx hf e1 e2
    go_enter Try.func42, Try.ntmps42
    go_wp2_with fail
    go_still_tail 8, (by kernel_rfl)
    change wpList _ _ _ _ _ w.drew
    have G2 : Hid (Gr w w.drew) := (Gr.refl w).drew
    generalize w.drew = w2 at *
    go_wp2_with fail
    refine (WC.out _ G2.out).mono ?_
    rintro e w3 ⟨rfl, k1, k2⟩
    have HP3 : Hid (Pst N A C O (.wr lg (bs ++ le u 1)) L T fz w w3) := (HP.out.gr1 G2.out).wr k1 k2
    clear k1 k2 WC
    go_wp2
    go_end0
    exact ⟨rfl, HP3.out⟩
  | rd ro s =>
    obtain rfl := hf rfl
    have c0 : w.cell? ⟨C, 0, none⟩ = some (.pointer none) := cell_of_block hc.2.2.2.2.2.2.2.1 0
    have c1 : w.cell? ⟨C, 1, none⟩ = some (.pointer ro) := cell_of_block hc.2.2.2.2.2.2.2.1 1
    have RC := Lib.hid (get_ok w N A ro s 1 hc.2.2.2.2.2.2.2.2 (by unfold IsSz; omega))
    have cv := len_one (byte_lt s)
    have e1 : (oneT (.rd ro s) x).2 = (valU (takeS 1 s) : Int) := rfl
    have e2 : (oneT (.rd ro s) x).1 = .rd ro (dropS 1 s) := rfl
    rw [e1, e2]
    generalize valU (takeS 1 s) = u at cv RC ⊢
    have HP := Lib.hid P0
    clear P0 hc ht hf e1 e2
    go_enter Try.func42, Try.ntmps42
    go_wp2_with fail
    refine RC.out.mono ?_
    rintro e w3 ⟨rfl, k1, k2⟩
    have HP3 : Pst N A C O (.rd ro (dropS 1 s)) L T (0, 0) w w3 := HP.out.rd k1 k2
    have HP4 : Hid (Pst N A C O (.rd ro (dropS 1 s)) (L.setIfInBounds i (.int .i64 (u : Int))) T (0, 0) w (w3.setCell ⟨O, i, none⟩ (.int .i64 (u : Int)))) := HP3.set _
    have o3 : w3.cell? ⟨O, i, none⟩ = some (.int .i64 x) := by rw [cell_of_block HP3.2.1.1]; exact hx
    have o4 : w3.frozen? ⟨O, i, none⟩ = false := unfrozen_of_block HP3.2.1.1 i
    clear k1 k2 RC HP3 hx
    go_wp2
    go_end0
    exact ⟨rfl, HP4.out⟩

/-- Behind a step on a block that was new: the fields' block is as it was. -/
theorem Pst.past {N A C O O' : Nat} {st st' : St} {L L' : Array Value} {T T' : TypeId} {fz fz' : Nat × Nat} {w w1 w2 : World} (h : Pst N A C O st L T fz w w1) (k : Pst N A C O' st' L' T' fz' w1 w2) (hO : w.heap.size ≤ O') (hne : O ≠ O') : Pst N A C O st' L T fz w w2 :=
  ⟨k.1, tg_mv h.2.1 k.2.2 h.2.1.2.2.1 hne, h.2.2.fresh k.2.2 hO⟩
theorem tg_new {N A C : Nat} {st : St} {w : World} (h : CoreSt N A C st w) (cs : Array Value) (T : TypeId) : Tg A C w.heap.size cs T (0, 0) (w.alloc (.cells cs T)) := by
  have hA := h.ltA
  have hC := h.ltC
  refine ⟨heap_alloc_new w _, by omega, by omega, fun e => ?_⟩
  rw [yb_block (((Gr.refl w).alloc _).heap hA)] at e
  have := core_yb h _ e
  omega

set_option maxHeartbeats 2000000 in
theorem truth_any (w : World) (N A C O i : Nat) (st : St) (L : Array Value) (T : TypeId) (fz : Nat × Nat) (x : Bool) (hc : CoreSt N A C st w) (ht : Tg A C O L T fz w) (hf : st.isR = true → fz = (0, 0)) (hx : L[i]? = some (.bool x)) (hl : st.len + 256 ≤ 1000000000) :
    Calls Try.prog 57 #[ptr C, .pointer (some ⟨O, i, none⟩)] w fun e w' => e = .returned (.tuple #[]) ∧ Pst N A C O (truT st x).1 (L.setIfInBounds i (.bool (truT st x).2)) T fz w w' := by
  obtain ⟨z, hz⟩ : ∃ z : Int, z = if x then 1 else 0 := ⟨_, rfl⟩
  obtain ⟨wa, hwa⟩ : ∃ wa, wa = w.alloc (.cells #[.int .i64 z] 3) := ⟨_, rfl⟩
  have G : Gr w wa := hwa ▸ (Gr.refl w).alloc _
  have P0 : Hid (Pst N A C O st L T fz w wa) := (Pst.start hc ht).gr1 G
  have hO := ht.lt
  have ht2 : Tg A C w.heap.size #[.int .i64 z] 3 (0, 0) wa := hwa ▸ tg_new hc _ _
  have SC := Lib.hid (single_any wa N A C w.heap.size 0 st #[.int .i64 z] 3 (0, 0) z (hc.gr G) ht2 (fun _ => rfl) rfl hl)
  have o1 : w.cell? ⟨O, i, none⟩ = some (.bool x) := by rw [cell_of_block ht.1]; exact hx
  have hne : O ≠ w.heap.size := by omega
  have o2 : (w.alloc (.cells #[.int .i64 0] 3)).cell? ⟨O, i, none⟩ = some (.bool x) := ((Gr.refl w).alloc _).cell o1
  obtain ⟨B, hB⟩ : ∃ B, B = w.heap.size := ⟨_, rfl⟩
  rw [← hB] at SC hne
  have HB := Lib.hid (And.intro hwa (And.intro hB hne))
  have HX := Lib.hid hx
  cases st with
  | wr lg bs =>
    have hz1 : (oneT (.wr lg bs) z).1 = .wr lg (bs ++ tru x) := by
      rw [hz]
      cases x <;> rfl
    rw [show (oneT (.wr lg bs) z).2 = z from rfl, hz1] at SC
    rw [show (truT (.wr lg bs) x).2 = x from rfl, show (truT (.wr lg bs) x).1 = .wr lg (bs ++ tru x) from rfl, set_same hx]
    have hz2 : decide ((1 : Int) < z) = false := by rw [hz]; cases x <;> rfl
    have HZ := Lib.hid hz
    clear hc ht hx hf hz hwa G ht2 hB hO hne hl hz1
    have fin : ∀ (w2 : World), Pst N A C B (.wr lg (bs ++ tru x)) ((#[.int .i64 z] : Array Value).setIfInBounds 0 (.int .i64 z)) 3 (0, 0) wa w2 → w2.cell? ⟨B, 0, none⟩ = some (.int .i64 z) ∧ w2.cell? ⟨C, 0, none⟩ = some (ptr A) ∧ Hid (Pst N A C O (.wr lg (bs ++ tru x)) L T fz w w2) := by
      intro w2 k
      exact ⟨by rw [cell_of_block k.2.1.1]; rfl, cell_of_block k.1.2.2.2.2.2.2.2.1 0, P0.out.past k (Nat.le_of_eq HB.out.2.1.symm) HB.out.2.2⟩
    have FIN := Lib.hid fin
    clear fin
    cases x
    all_goals
      obtain rfl := HZ.out
      simp only [if_true, if_false, Bool.false_eq_true] at SC FIN HB hz2
      clear hz2
      go_enter Try.func57, Try.ntmps57
      go_wp2_with fail
      rw [← HB.out.1, ← HB.out.2.1]
      refine SC.out.mono ?_
      rintro e w2 ⟨rfl, k⟩
      obtain ⟨d1, d2, HF⟩ := FIN.out w2 k
      clear k
      go_wp2
      go_end0
      exact ⟨rfl, HF.out⟩
  | rd ro s =>
    obtain rfl := hf rfl
    rw [show (oneT (.rd ro s) z).2 = (valU (takeS 1 s) : Int) from rfl, show (oneT (.rd ro s) z).1 = .rd ro (dropS 1 s) from rfl] at SC
    rw [show (truT (.rd ro s) x).2 = (valU (takeS 1 s) == 1) from rfl, show (truT (.rd ro s) x).1 = .rd ro (if 1 < valU (takeS 1 s) then none else dropS 1 s) from rfl]
    have hv := byte_lt s
    generalize valU (takeS 1 s) = v at SC hv ⊢
    generalize dropS 1 s = s1 at SC ⊢
    have HZ := Lib.hid hz
    clear hc ht hx hf hz hwa G ht2 hB hO hne hl
    have fin : ∀ (w2 : World), Pst N A C B (.rd ro s1) ((#[.int .i64 z] : Array Value).setIfInBounds 0 (.int .i64 (v : Int))) 3 (0, 0) wa w2 → w2.cell? ⟨B, 0, none⟩ = some (.int .i64 (v : Int)) ∧ w2.cell? ⟨C, 0, none⟩ = some (.pointer none) ∧ w2.cell? ⟨C, 1, none⟩ = some (.pointer ro) ∧ w2.cell? ⟨O, i, none⟩ = some (.bool x) ∧ w2.frozen? ⟨O, i, none⟩ = false ∧ Hid (Pst N A C O (.rd ro s1) L T (0, 0) w w2) ∧ Hid (Tg A C B #[.int .i64 (v : Int)] 3 (0, 0) w2) := by
      intro w2 k
      have h := P0.out.past k (Nat.le_of_eq HB.out.2.1.symm) HB.out.2.2
      exact ⟨by rw [cell_of_block k.2.1.1]; rfl, cell_of_block k.1.2.2.2.2.2.2.2.1 0, cell_of_block k.1.2.2.2.2.2.2.2.1 1, by rw [cell_of_block h.2.1.1]; exact HX.out, unfrozen_of_block h.2.1.1 i, h, k.2.1⟩
    have FIN := Lib.hid fin
    clear fin
    by_cases hv1 : 1 < v
    · rw [if_pos hv1]
      have hb : (v == 1) = false := beq_eq_false_iff_ne.2 (by omega)
      have hbi : ((v : Int) == 1) = false := beq_eq_false_iff_ne.2 (by omega)
      rw [hb]
      cases x
      all_goals
        obtain rfl := HZ.out
        simp only [if_true, if_false, Bool.false_eq_true] at SC FIN HB
        go_enter Try.func57, Try.ntmps57
        go_wp2_with fail
        rw [← HB.out.1, ← HB.out.2.1]
        refine SC.out.mono ?_
        rintro e w2 ⟨rfl, k⟩
        obtain ⟨d1, d2, d3, d4, d5, HF, HBB⟩ := FIN.out w2 k
        have SP := Lib.hid (spoil_any w2 N A ro s1 k.1.2.2.2.2.2.2.2.2)
        clear k
        go_wp2_with fail
        refine SP.out.mono ?_
        rintro e w3 ⟨rfl, k1, k2⟩
        have HP3 := HF.out.rd k1 k2
        have HP4 := Lib.hid (HP3.set (i := i) (.bool false))
        have g1 : w3.cell? ⟨B, 0, none⟩ = some (.int .i64 (v : Int)) := by
          rw [cell_of_block (tg_mv HBB.out k2 HBB.out.2.1 HBB.out.2.1).1]
          rfl
        have g2 : w3.cell? ⟨C, 0, none⟩ = some (.pointer none) := cell_of_block HP3.1.2.2.2.2.2.2.2.1 0
        have g3 : ∃ y, w3.cell? ⟨O, i, none⟩ = some y := ⟨_, by rw [cell_of_block HP3.2.1.1]; exact HX.out⟩
        obtain ⟨y, g3⟩ := g3
        have g4 := unfrozen_of_block HP3.2.1.1 i
        clear k1 k2 HP3 d1 d2 d3 d4 d5
        go_wp2
        go_end0
        exact ⟨rfl, HP4.out⟩
    · rw [if_neg hv1]
      have hd : v = 0 ∨ v = 1 := by omega
      have hvd : v = 0 ∨ v = 1 := by omega
      rcases hvd with rfl | rfl
      all_goals
        cases x
        all_goals
          obtain rfl := HZ.out
          simp only [if_true, if_false, Bool.false_eq_true] at SC FIN HB
          go_enter Try.func57, Try.ntmps57
          go_wp2_with fail
          rw [← HB.out.1, ← HB.out.2.1]
          refine SC.out.mono ?_
          rintro e w2 ⟨rfl, k⟩
          obtain ⟨d1, d2, d3, d4, d5, HF, HBB⟩ := FIN.out w2 k
          clear k
          first
          | (have HP4 := Lib.hid (HF.out.set (i := i) (.bool false))
             go_wp2
             go_end0
             exact ⟨rfl, HP4.out⟩)
          | (have HP4 := Lib.hid (HF.out.set (i := i) (.bool true))
             go_wp2
             go_end0
             exact ⟨rfl, HP4.out⟩)
end Go.Proofs.Ytlajiochpdlhaaa
