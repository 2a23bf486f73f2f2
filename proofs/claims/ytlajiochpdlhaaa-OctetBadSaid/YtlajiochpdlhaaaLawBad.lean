/- Proved here: the law OctetBad of layer 6 holds for every input: a reader that was told to read too much, or a number of another length, is bad, and stays it; one that isn't there is. No conditions. -/
import Derived.Test.YtlajiochpdlhaaaOLawBase
import Derived.ChangeMaps5
namespace Go.Proofs.Ytlajiochpdlhaaa.octetBad
open Go.ChangeShapes Go.WideShapes Go.ChangeAt Go.RowKit Go.ChangeMaps Go.Lib Go.Shelf
set_option linter.unusedVariables false
set_option maxRecDepth 20000

theorem short_take {n : Nat} {l : List UInt8} (h : l.length < n) : takeS n (some l) = [] ∧ dropS n (some l) = none := by
  unfold takeS dropS
  dsimp only
  rw [if_neg (by omega), if_neg (by omega)]
  exact ⟨rfl, rfl⟩

theorem field_one (w : World) : (Instr.field 66 (.agg zerC) 1).run Try.prog w = .ok (.string { data := #[] }) w := by
  kernel_rfl

set_option maxHeartbeats 4000000 in
theorem walk_at (W : World) (q : Option Addr) (c : Nat) (l : List UInt8) (n : Int) (h : RowR 1 encU W q l) (hq : q = none → c = 0 ∧ l = []) (hm : l.length ≤ 9223372036854775807) :
    Calls Try.prog 6 #[.slice q l.length c, .int .i64 n] W fun e w' => e = .returned (.bool true) ∧ Below W.heap.size W w' := by
  have V := Lib.hid lives_any
  have HR := Lib.hid h
  have HQ := Lib.hid hq
  clear h hq
  by_cases hbig : 300 < l.length
  · go_enter Try.func6, Try.ntmps6
    go_wp2_with fail
    refine (V.out _).mono ?_
    rintro e w1 ⟨rfl, b1, _⟩
    have B1 := Lib.hid b1
    clear b1
    go_wp2_with fail
    refine (V.out _).mono ?_
    rintro e w2 ⟨rfl, b2, _⟩
    have B2 := Lib.hid (B1.out.trans (b2.mono B1.out.size))
    clear b2
    go_wp2
    go_ret
    exact ⟨rfl, B2.out⟩
  · have hsm : l.length ≤ 300 := by omega
    clear hbig
    go_enter Try.func6, Try.ntmps6
    go_wp2_with fail
    refine (V.out _).mono ?_
    rintro e w1 ⟨rfl, b1, p1⟩
    have B1 := Lib.hid b1
    have ef := field_one
    have HP : Hid (0 < w1.heap.size) := by show _ < _; omega
    clear b1 p1
    go_wp2_with fail
    refine (bad_any w1 0 0 none none (rd_nil w1)).mono ?_
    rintro e w2 ⟨rfl, rfl⟩
    go_wp2_with fail
    refine (left_any w1 0 0 none none (rd_nil w1)).mono ?_
    rintro e w2 ⟨rfl, rfl⟩
    go_wp2_with fail
    refine (end_any w1 0 0 none none (rd_nil w1)).mono ?_
    rintro e w2 ⟨rfl, rfl⟩
    go_wp2_with fail
    refine (get_nil w1 1 (by unfold IsSz; omega)).mono ?_
    rintro e w2 ⟨rfl, rfl⟩
    go_wp2_with fail
    refine (text_nil w1).mono ?_
    rintro e w2 ⟨rfl, rfl⟩
    go_wp2_with fail
    refine (int_nil w1).mono ?_
    rintro e w2 ⟨rfl, rfl⟩
    go_wp2_with fail
    refine (robj_nil w1 HP.out).mono ?_
    rintro e w2 ⟨cs, rfl, _, b2, rfl⟩
    have B2 := Lib.hid (B1.out.trans (b2.mono B1.out.size))
    clear b2
    go_wp2_with fail
    refine (read_any w2 q c l (HR.out.below B2.out) HQ.out (by omega)).mono ?_
    rintro e w3 ⟨A, rfl, a1, a2, a3, a4⟩
    have RSH : Hid (RS W w3 w2.heap.size A (some l)) := RS.ofRead B2.out a1 a2 a3 a4
    clear a1 a2 a3 a4
    have fin : Hid (∀ (w : World) (N : Nat), RS W w N A none →
        (Calls Try.prog 19 #[ptr A] w fun e w' => e = .returned (.bool true) ∧ w = w') ∧
        (Calls Try.prog 16 #[ptr A, .int .i64 1] w fun e w' => e = .returned (.int .u64 0) ∧ RS W w' N A none) ∧
        (Calls Try.prog 18 #[ptr A] w fun e w' => e = .returned (.string { data := #[] }) ∧ RS W w' N A none) ∧
        (Calls Try.prog 21 #[ptr A] w fun e w' => e = .returned (.int .i64 0) ∧ w = w') ∧
        (Calls Try.prog 20 #[ptr A] w fun e w' => e = .returned (.bool false) ∧ w = w')) := by
      intro w N r
      refine ⟨bad_any w N A _ none r.1, (get_ok w N A _ none 1 r.1 (by unfold IsSz; omega)).mono ?_, (rtext_ok w N A _ none r.1).mono ?_, left_any w N A _ none r.1, end_any w N A _ none r.1⟩
      · rintro e w' ⟨rfl, k1, k2⟩
        exact ⟨rfl, r.step k1 k2⟩
      · rintro e w' ⟨rfl, k1, k2⟩
        exact ⟨rfl, r.step k1 k2⟩
    by_cases hv : n = 1 ∨ n = 2 ∨ n = 4 ∨ n = 8
    · rcases hv with rfl | rfl | rfl | rfl
      · go_wp2_with fail
        go_loopg [] l.length (fun g wr => ∃ l' : List UInt8, l'.length ≤ g ∧ Hid (RS W wr w2.heap.size A (some l')))
        case atStart => exact ⟨l, Nat.le_refl _, RSH.out⟩
        case round =>
          obtain ⟨l', hg, HS⟩ := hrel
          have LC := Lib.hid (left_any wr w2.heap.size A _ (some l') HS.out.1)
          have G1 := Lib.hid (get_ok wr w2.heap.size A _ (some l') 1 HS.out.1 (by unfold IsSz; omega))
          obtain ⟨ll, hll⟩ : ∃ ll, ll = l'.length := ⟨_, rfl⟩
          rw [show leftS (some l') = ll from hll.symm] at LC
          by_cases hlt : l'.length < 1
          · rw [(short_take hlt).1, (short_take hlt).2] at G1
            have hl2 : ll < 1 := by omega
            clear hll hlt hg
            go_wp2_with fail
            refine LC.out.mono ?_
            rintro e w4 ⟨rfl, rfl⟩
            go_wp2_with fail
            refine G1.out.mono ?_
            rintro e w5 ⟨rfl, k1, k2⟩
            have R5 := Lib.hid (HS.out.step k1 k2)
            clear k1 k2 G1 LC
            go_wp2_with fail
            refine (fin.out w5 _ R5.out).1.mono ?_
            rintro e w6 ⟨rfl, rfl⟩
            go_wp2_with fail
            refine (fin.out w5 _ R5.out).2.1.mono ?_
            rintro e w7 ⟨rfl, R7⟩
            have R7' := Lib.hid R7
            clear R7
            go_wp2_with fail
            refine (fin.out w7 _ R7'.out).2.2.1.mono ?_
            rintro e w8 ⟨rfl, R8⟩
            have R8' := Lib.hid R8
            clear R8
            go_wp2_with fail
            refine (fin.out w8 _ R8'.out).2.2.2.1.mono ?_
            rintro e w9 ⟨rfl, rfl⟩
            go_wp2_with fail
            refine (fin.out w8 _ R8'.out).2.2.2.2.mono ?_
            rintro e w10 ⟨rfl, rfl⟩
            go_wp2
            go_ret
            exact ⟨rfl, R8'.out.2.2.2.2.2⟩
          · have hd : dropS 1 (some l') = some (l'.drop 1) := if_pos (by omega)
            rw [hd] at G1
            generalize valU (takeS 1 (some l')) = vv at G1
            have hl2 : ¬ (ll < 1) := by omega
            have HL := Lib.hid (And.intro hll (And.intro hlt hg))
            clear hll hlt hd
            go_wp2_with fail
            refine LC.out.mono ?_
            rintro e w4 ⟨rfl, rfl⟩
            go_wp2_with fail
            refine G1.out.mono ?_
            rintro e w5 ⟨rfl, k1, k2⟩
            have R5 := Lib.hid (HS.out.step k1 k2)
            clear k1 k2 G1 LC
            go_wp2_with fail
            refine (bad_any w5 w2.heap.size A _ (some (l'.drop 1)) R5.out.1).mono ?_
            rintro e w6 ⟨rfl, rfl⟩
            go_wp2_with fail
            go_roundg (l'.length - 1)
            case measure => have := HL.out; omega
            case rel => exact ⟨l'.drop 1, by simp, R5.out⟩
      · go_wp2_with fail
        go_loopg [] l.length (fun g wr => ∃ l' : List UInt8, l'.length ≤ g ∧ Hid (RS W wr w2.heap.size A (some l')))
        case atStart => exact ⟨l, Nat.le_refl _, RSH.out⟩
        case round =>
          obtain ⟨l', hg, HS⟩ := hrel
          have LC := Lib.hid (left_any wr w2.heap.size A _ (some l') HS.out.1)
          have G1 := Lib.hid (get_ok wr w2.heap.size A _ (some l') 2 HS.out.1 (by unfold IsSz; omega))
          obtain ⟨ll, hll⟩ : ∃ ll, ll = l'.length := ⟨_, rfl⟩
          rw [show leftS (some l') = ll from hll.symm] at LC
          by_cases hlt : l'.length < 2
          · rw [(short_take hlt).1, (short_take hlt).2] at G1
            have hl2 : ll < 2 := by omega
            clear hll hlt hg
            go_wp2_with fail
            refine LC.out.mono ?_
            rintro e w4 ⟨rfl, rfl⟩
            go_wp2_with fail
            refine G1.out.mono ?_
            rintro e w5 ⟨rfl, k1, k2⟩
            have R5 := Lib.hid (HS.out.step k1 k2)
            clear k1 k2 G1 LC
            go_wp2_with fail
            refine (fin.out w5 _ R5.out).1.mono ?_
            rintro e w6 ⟨rfl, rfl⟩
            go_wp2_with fail
            refine (fin.out w5 _ R5.out).2.1.mono ?_
            rintro e w7 ⟨rfl, R7⟩
            have R7' := Lib.hid R7
            clear R7
            go_wp2_with fail
            refine (fin.out w7 _ R7'.out).2.2.1.mono ?_
            rintro e w8 ⟨rfl, R8⟩
            have R8' := Lib.hid R8
            clear R8
            go_wp2_with fail
            refine (fin.out w8 _ R8'.out).2.2.2.1.mono ?_
            rintro e w9 ⟨rfl, rfl⟩
            go_wp2_with fail
            refine (fin.out w8 _ R8'.out).2.2.2.2.mono ?_
            rintro e w10 ⟨rfl, rfl⟩
            go_wp2
            go_ret
            exact ⟨rfl, R8'.out.2.2.2.2.2⟩
          · have hd : dropS 2 (some l') = some (l'.drop 2) := if_pos (by omega)
            rw [hd] at G1
            generalize valU (takeS 2 (some l')) = vv at G1
            have hl2 : ¬ (ll < 2) := by omega
            have HL := Lib.hid (And.intro hll (And.intro hlt hg))
            clear hll hlt hd
            go_wp2_with fail
            refine LC.out.mono ?_
            rintro e w4 ⟨rfl, rfl⟩
            go_wp2_with fail
            refine G1.out.mono ?_
            rintro e w5 ⟨rfl, k1, k2⟩
            have R5 := Lib.hid (HS.out.step k1 k2)
            clear k1 k2 G1 LC
            go_wp2_with fail
            refine (bad_any w5 w2.heap.size A _ (some (l'.drop 2)) R5.out.1).mono ?_
            rintro e w6 ⟨rfl, rfl⟩
            go_wp2_with fail
            go_roundg (l'.length - 2)
            case measure => have := HL.out; omega
            case rel => exact ⟨l'.drop 2, by simp, R5.out⟩
      · go_wp2_with fail
        go_loopg [] l.length (fun g wr => ∃ l' : List UInt8, l'.length ≤ g ∧ Hid (RS W wr w2.heap.size A (some l')))
        case atStart => exact ⟨l, Nat.le_refl _, RSH.out⟩
        case round =>
          obtain ⟨l', hg, HS⟩ := hrel
          have LC := Lib.hid (left_any wr w2.heap.size A _ (some l') HS.out.1)
          have G1 := Lib.hid (get_ok wr w2.heap.size A _ (some l') 4 HS.out.1 (by unfold IsSz; omega))
          obtain ⟨ll, hll⟩ : ∃ ll, ll = l'.length := ⟨_, rfl⟩
          rw [show leftS (some l') = ll from hll.symm] at LC
          by_cases hlt : l'.length < 4
          · rw [(short_take hlt).1, (short_take hlt).2] at G1
            have hl2 : ll < 4 := by omega
            clear hll hlt hg
            go_wp2_with fail
            refine LC.out.mono ?_
            rintro e w4 ⟨rfl, rfl⟩
            go_wp2_with fail
            refine G1.out.mono ?_
            rintro e w5 ⟨rfl, k1, k2⟩
            have R5 := Lib.hid (HS.out.step k1 k2)
            clear k1 k2 G1 LC
            go_wp2_with fail
            refine (fin.out w5 _ R5.out).1.mono ?_
            rintro e w6 ⟨rfl, rfl⟩
            go_wp2_with fail
            refine (fin.out w5 _ R5.out).2.1.mono ?_
            rintro e w7 ⟨rfl, R7⟩
            have R7' := Lib.hid R7
            clear R7
            go_wp2_with fail
            refine (fin.out w7 _ R7'.out).2.2.1.mono ?_
            rintro e w8 ⟨rfl, R8⟩
            have R8' := Lib.hid R8
            clear R8
            go_wp2_with fail
            refine (fin.out w8 _ R8'.out).2.2.2.1.mono ?_
            rintro e w9 ⟨rfl, rfl⟩
            go_wp2_with fail
            refine (fin.out w8 _ R8'.out).2.2.2.2.mono ?_
            rintro e w10 ⟨rfl, rfl⟩
            go_wp2
            go_ret
            exact ⟨rfl, R8'.out.2.2.2.2.2⟩
          · have hd : dropS 4 (some l') = some (l'.drop 4) := if_pos (by omega)
            rw [hd] at G1
            generalize valU (takeS 4 (some l')) = vv at G1
            have hl2 : ¬ (ll < 4) := by omega
            have HL := Lib.hid (And.intro hll (And.intro hlt hg))
            clear hll hlt hd
            go_wp2_with fail
            refine LC.out.mono ?_
            rintro e w4 ⟨rfl, rfl⟩
            go_wp2_with fail
            refine G1.out.mono ?_
            rintro e w5 ⟨rfl, k1, k2⟩
            have R5 := Lib.hid (HS.out.step k1 k2)
            clear k1 k2 G1 LC
            go_wp2_with fail
            refine (bad_any w5 w2.heap.size A _ (some (l'.drop 4)) R5.out.1).mono ?_
            rintro e w6 ⟨rfl, rfl⟩
            go_wp2_with fail
            go_roundg (l'.length - 4)
            case measure => have := HL.out; omega
            case rel => exact ⟨l'.drop 4, by simp, R5.out⟩
      · go_wp2_with fail
        go_loopg [] l.length (fun g wr => ∃ l' : List UInt8, l'.length ≤ g ∧ Hid (RS W wr w2.heap.size A (some l')))
        case atStart => exact ⟨l, Nat.le_refl _, RSH.out⟩
        case round =>
          obtain ⟨l', hg, HS⟩ := hrel
          have LC := Lib.hid (left_any wr w2.heap.size A _ (some l') HS.out.1)
          have G1 := Lib.hid (get_ok wr w2.heap.size A _ (some l') 8 HS.out.1 (by unfold IsSz; omega))
          obtain ⟨ll, hll⟩ : ∃ ll, ll = l'.length := ⟨_, rfl⟩
          rw [show leftS (some l') = ll from hll.symm] at LC
          by_cases hlt : l'.length < 8
          · rw [(short_take hlt).1, (short_take hlt).2] at G1
            have hl2 : ll < 8 := by omega
            clear hll hlt hg
            go_wp2_with fail
            refine LC.out.mono ?_
            rintro e w4 ⟨rfl, rfl⟩
            go_wp2_with fail
            refine G1.out.mono ?_
            rintro e w5 ⟨rfl, k1, k2⟩
            have R5 := Lib.hid (HS.out.step k1 k2)
            clear k1 k2 G1 LC
            go_wp2_with fail
            refine (fin.out w5 _ R5.out).1.mono ?_
            rintro e w6 ⟨rfl, rfl⟩
            go_wp2_with fail
            refine (fin.out w5 _ R5.out).2.1.mono ?_
            rintro e w7 ⟨rfl, R7⟩
            have R7' := Lib.hid R7
            clear R7
            go_wp2_with fail
            refine (fin.out w7 _ R7'.out).2.2.1.mono ?_
            rintro e w8 ⟨rfl, R8⟩
            have R8' := Lib.hid R8
            clear R8
            go_wp2_with fail
            refine (fin.out w8 _ R8'.out).2.2.2.1.mono ?_
            rintro e w9 ⟨rfl, rfl⟩
            go_wp2_with fail
            refine (fin.out w8 _ R8'.out).2.2.2.2.mono ?_
            rintro e w10 ⟨rfl, rfl⟩
            go_wp2
            go_ret
            exact ⟨rfl, R8'.out.2.2.2.2.2⟩
          · have hd : dropS 8 (some l') = some (l'.drop 8) := if_pos (by omega)
            rw [hd] at G1
            generalize valU (takeS 8 (some l')) = vv at G1
            have hl2 : ¬ (ll < 8) := by omega
            have HL := Lib.hid (And.intro hll (And.intro hlt hg))
            clear hll hlt hd
            go_wp2_with fail
            refine LC.out.mono ?_
            rintro e w4 ⟨rfl, rfl⟩
            go_wp2_with fail
            refine G1.out.mono ?_
            rintro e w5 ⟨rfl, k1, k2⟩
            have R5 := Lib.hid (HS.out.step k1 k2)
            clear k1 k2 G1 LC
            go_wp2_with fail
            refine (bad_any w5 w2.heap.size A _ (some (l'.drop 8)) R5.out.1).mono ?_
            rintro e w6 ⟨rfl, rfl⟩
            go_wp2_with fail
            go_roundg (l'.length - 8)
            case measure => have := HL.out; omega
            case rel => exact ⟨l'.drop 8, by simp, R5.out⟩
    · have h1 : (n == 1) = false := beq_eq_false_iff_ne.2 (by omega)
      have h2 : (n == 2) = false := beq_eq_false_iff_ne.2 (by omega)
      have h4 : (n == 4) = false := beq_eq_false_iff_ne.2 (by omega)
      have h8 : (n == 8) = false := beq_eq_false_iff_ne.2 (by omega)
      have G1 := Lib.hid (get_bad w3 w2.heap.size A _ (some l) n RSH.out.1 h1 h2 h4 h8)
      clear hv
      go_wp2_with fail
      refine G1.out.mono ?_
      rintro e w5 ⟨rfl, k1, k2⟩
      have R5 := Lib.hid (RSH.out.step k1 k2)
      clear k1 k2 G1
      go_wp2_with fail
      refine (fin.out w5 _ R5.out).1.mono ?_
      rintro e w6 ⟨rfl, rfl⟩
      go_wp2_with fail
      refine (fin.out w5 _ R5.out).2.1.mono ?_
      rintro e w7 ⟨rfl, R7⟩
      have R7' := Lib.hid R7
      clear R7
      go_wp2_with fail
      refine (fin.out w7 _ R7'.out).2.2.1.mono ?_
      rintro e w8 ⟨rfl, R8⟩
      have R8' := Lib.hid R8
      clear R8
      go_wp2_with fail
      refine (fin.out w8 _ R8'.out).2.2.2.1.mono ?_
      rintro e w9 ⟨rfl, rfl⟩
      go_wp2_with fail
      refine (fin.out w8 _ R8'.out).2.2.2.2.mono ?_
      rintro e w10 ⟨rfl, rfl⟩
      go_wp2
      go_ret
      exact ⟨rfl, R8'.out.2.2.2.2.2⟩

theorem walk {H : Type} {enc : TypeId × Value → H} {base : Nat} (W : World) (v0 : Value) (d0 : DataW H) (p0 : List MemPlace) (o0 : Value.okWide Try.prog W .any base 25 v0) (h0 : DataW.Trod enc Try.prog W 0 (fun _ => true) true 25 v0 d0 p0)
    (v1 : Value) (d1 : DataW H) (p1 : List MemPlace) (o1 : Value.okWide Try.prog W .any base 3 v1) (h1 : DataW.Trod enc Try.prog W 0 (fun _ => true) true 3 v1 d1 p1) :
    Calls Try.prog 6 #[v0, v1] W fun e W' => e = .returned (.bool true) ∧ Below W.heap.size W W' := by
  obtain ⟨q, c, l, rfl, hl, hq, hm⟩ := open_u8s o0 h0
  obtain ⟨n, rfl, rfl, rfl, hn⟩ := open_int Try.underlying3 o1 h1
  unfold maxLen at hm
  exact walk_at W q c l n hl hq (by omega)

/-! ### THE ROW's STEP -/
set_option maxRecDepth 100000 in
theorem lifted (os : Os) (started : os.Started) (H : Type) (enc : TypeId × Value → H) :
    ReturnsInHanded {} Try.checked os 6 .any (Rows.octetBadSpec.pre6 enc Try.prog Try.f6 Rows.octetBadRow.domain false) (Rows.octetBadSpec.post enc Try.prog Try.f6 false true false false) := by
  refine returnsInHanded_of_change (C := Try.checked) own started (by kernel_rfl) Try.func6
    (ChangeSpec.witness6 (enc := enc) (C := Try.checked) false ⟨#[], #[.slice none 0 0, .int .i64 0], []⟩ 8 (by kernel_rfl) (by kernel_rfl) (by kernel_rfl) (by kernel_rfl)) ?_
  intro W base args ds gs before hval0 hW hcnd _
  have hval : ∀ (j : Nat) t v, Try.f6.params[j]? = some t → args[j]? = some v → Value.okWide Try.prog W .any base t v := hval0
  have hW' := hW
  obtain ⟨p, q, hA0, hV, rfl, hfz, hnd⟩ := hW
  have hA : DataW.TrodAll enc Try.prog W 0 (fun _ => true) true Try.f6.params.toList args.toList ds p := hA0
  have hlt : ∀ x ∈ p, x.block < W.heap.size := fun x hx => hW'.lt x (List.mem_append_left _ hx)
  rw [Try.params6] at hA hval
  have hread : ∀ t ∈ [25, 3], Try.prog.readableRec t = true ∧ t < Try.prog.types.size := by
    intro t ht
    simp only [List.mem_cons, List.not_mem_nil, or_false] at ht
    rcases ht with rfl | rfl <;> exact ⟨by kernel_rfl, of_decide_eq_true (by kernel_rfl)⟩
  have again : ∀ (W' : World), Below W.heap.size W W' → ∀ sp : Nat → Bool, (∀ x ∈ p, sp x.block = true) → DataW.TrodAll enc Try.prog W' 0 sp true [25, 3] args.toList ds p :=
    fun W' hb sp hsp => all_again (by kernel_rfl) hb [25, 3] args.toList ds p hread hA hlt hsp
  obtain ⟨v0, v1, d0, d1, p0, p1, rfl, rfl, rfl, h0, h1⟩ := trodAll_two hA
  obtain ⟨rfl, rfl⟩ := trodVars_none hV
  clear hA0 hval0
  simp only [List.append_nil] at hW'
  refine (walk W v0 d0 p0 (hval 0 25 v0 rfl rfl) h0 v1 d1 p1 (hval 1 3 v1 rfl rfl) h1).mono fun e W' ⟨he, hg⟩ => ?_
  subst he
  exact ⟨_, rfl, post_below hW' hg (fun _ _ _ => trodAll_mk1 (shut_bool Try.underlying4 _)) (fun sp hsp => again W' hg sp hsp) (fun _ => rfl) (ok_one (by kernel_rfl) rfl (okWide_bool_mk Try.underlying4 _))⟩

theorem over : Rows.octetBadRow.holds Try.pinned (OpenSpec.ofChange Rows.octetBadSpec) :=
  OpenClaim.holds_of_wide 6 Try.f6 rfl rfl rfl rfl rfl rfl rfl ⟨rfl, rfl, rfl, rfl, rfl⟩ rfl rfl rfl rfl rfl (by kernel_rfl) Try.func6 (by kernel_rfl)
    (of_decide_eq_true (by kernel_rfl)) (by unfold Func.isWrapper; first | (rw [if_pos (by decide +kernel)]; kernel_rfl) | (rw [if_neg (by decide +kernel)]; exact ⟨rfl, rfl⟩))
    (fun os started H enc _ => lifted os started H enc)

/-- The statement. -/
theorem proved : Rows.OctetBadSaid :=
  over
#print axioms proved
end Go.Proofs.Ytlajiochpdlhaaa.octetBad
