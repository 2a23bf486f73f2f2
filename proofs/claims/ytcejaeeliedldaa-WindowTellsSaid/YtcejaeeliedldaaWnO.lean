/- Layer 21 (window): the notes that are taken, and what is left of them (the law's kept). -/
import Derived.Test.YtcejaeeliedldaaWnN
namespace Go.Proofs.Ytcejaeeliedldaa.Wn
open Go.RowKit Go.Shelf Go.Lib Go.Sort Go.Deep
open Go.Joins (cell_of_block unfrozen_of_block block_setCell)
open Go.Proofs.Ytcejaeeliedldaa.Ow
set_option linter.unusedVariables false
set_option linter.unusedSimpArgs false
set_option maxRecDepth 20000

theorem filter_snoc (p : Nt → Bool) {l : List Nt} {j : Nat} {x : Nt} (h : l[j]? = some x) : (l.take (j + 1)).filter p = (l.take j).filter p ++ (if p x = true then [x] else []) := by
  rw [List.take_add_one, h, List.filter_append]
  congr 1
  by_cases hp : p x = true
  · rw [if_pos hp]; simp [hp]
  · rw [if_neg hp]; simp [hp]
set_option maxHeartbeats 32000000 in
theorem kept_any (W w : World) (low : Below W.heap.size W w) (N mb : Nat) (v : Value) (h : Mem N w mb v []) (hNW : W.heap.size ≤ N) (q : Option Addr) (c : Nat) (l : List Nt) (hr : RowR 2 encN W q l) (hl : l.length ≤ 100) :
    Calls Try.prog 8 #[.pointer (some ⟨mb, 0, none⟩), .slice q l.length c] w fun e w' => (∃ q' c' vo o v' L, e = .returned (.tuple #[.slice q' (leftN o).length c', .bool true]) ∧ Kp N mb w w' vo o v' L ∧ L.length ≤ 100 ∧ o.length ≤ 100 ∧ RowR 2 encN w' q' (leftN o)) ∧ Below N w w' := by
  have mixed : Try.prog.follows .mixedOrders = true := by kernel_rfl
  obtain ⟨n, hnl⟩ : ∃ n, n = l.length := ⟨_, rfl⟩
  rw [← hnl] at hl ⊢
  have K0 : Hid (Kp N mb w w (.slice none 0 0) [] v []) := ⟨Below.refl _ _, h, World.ownsRow_nil _ _ _ _, Rep.nil⟩
  have HH := Lib.hid (And.intro low (And.intro hr (And.intro hNW hnl)))
  clear low h hr hNW hnl
  go_enter Try.func8, Try.ntmps8
  go_wp2_with fail
  go_loopg [6, 15] n (fun g1 v6 vi wr => ∃ (j m c6 : Nat) (q6 : Option Addr), vi = .int .i64 (j : Int) ∧ j ≤ n ∧ n - j ≤ g1 ∧ v6 = .slice q6 m c6 ∧ m ≤ j ∧ Hid (∃ o v' L, o.length = m ∧ L.length ≤ j ∧ Kp N mb w wr (.slice q6 m c6) o v' L))
  case atStart => exact ⟨0, 0, 0, none, rfl, Nat.zero_le _, by omega, rfl, Nat.le_refl _, [], v, [], rfl, Nat.le_refl _, K0.out⟩
  case round =>
    obtain ⟨j, m, c6, q6, rfl, h1, h2, rfl, hm, HP⟩ := hrel
    by_cases hlt : j < n
    · obtain ⟨low, hr, hNW, hnl⟩ := HH.out
      obtain ⟨x, hx⟩ : ∃ x, l[j]? = some x := ⟨l[j]'(by omega), List.getElem?_eq_getElem (by omega)⟩
      obtain ⟨o, v1, L, ho, hL, kp⟩ := HP.out
      have hsz := kp.size
      obtain ⟨gb, off, rfl, c0, c1⟩ := note_at hr (low.trans (kp.low.mono hNW)) hx
      obtain ⟨xa, xn⟩ := x
      dsimp only at c0 c1
      obtain ⟨wb, E, HW, bb, bE, e0, e1⟩ := box_note wr xa xn
      have kb := kp.gr hsz bb
      have KB := Lib.hid (And.intro ho (And.intro hL (And.intro kb bE)))
      have hL9 : L.length ≤ 900000 := by omega
      by_cases hbad : badN xa xn
      · have CN := Lib.hid (note_bad wb mb xa xn hbad)
        have NX : Hid (∃ o v' L, o.length = m ∧ L.length ≤ j + 1 ∧ Kp N mb w wb (.slice q6 m c6) o v' L) := ⟨o, v1, L, ho, by omega, kb⟩
        have hb : (decide (xa < 0) = true) ∨ (decide (xa < 0) = false ∧ decide (xa > 4611686018427387904) = true) ∨ (decide (xa < 0) = false ∧ decide (xa > 4611686018427387904) = false ∧ decide (xn < 0) = true) := by
          unfold badN at hbad
          by_cases b1 : xa < 0
          · exact .inl (decide_eq_true b1)
          · by_cases b2 : xa > 4611686018427387904
            · exact .inr (.inl ⟨decide_eq_false b1, decide_eq_true b2⟩)
            · exact .inr (.inr ⟨decide_eq_false b1, decide_eq_false b2, decide_eq_true (by omega)⟩)
        clear low hr hNW hnl hx kp ho hL hsz bb bE kb KB hbad hL9 K0
        rcases hb with d1 | ⟨d1, d2⟩ | ⟨d1, d2, d3⟩
        all_goals
          go_upto_region 5 with fail
          rw [HW.out.1, HW.out.2]
          go_wp2_with fail
          refine CN.out.mono ?_
          rintro e w1 ⟨rfl, rfl⟩
          go_wp2
          go_roundg (n - (j + 1))
          case measure => omega
          case rel => exact ⟨j + 1, m, c6, q6, by push_cast; rfl, by omega, by omega, rfl, by omega, NX.out⟩
      · have d1 : decide (xa < 0) = false := decide_eq_false (by unfold badN at hbad; omega)
        have d2 : decide (xa > 4611686018427387904) = false := decide_eq_false (by unfold badN at hbad; omega)
        have d3 : decide (xn < 0) = false := decide_eq_false (by unfold badN at hbad; omega)
        have CX : Hid (¬ xa < lastT L → ∀ ws, Below wb.heap.size wb ws → Kp N mb w ws (.slice q6 m c6) o v1 L ∧ ws.heap[E]? = some (.cells #[.int .i64 xa, .int .i64 xn] NT (0, 0)) ∧ Rep (o ++ [(xa, xn)]) (noteL L xa xn) ∧ o.length = m ∧ L.length ≤ j ∧ Calls Try.prog 10 #[.pointer (some ⟨mb, 0, none⟩), .int .i64 xa, .int .i64 xn] ws fun e w' => e = .returned (.int .i64 0) ∧ (∃ v', Mem N w' mb v' (noteL L xa xn) ∧ ∀ g, v'.ownBlock = some g → v1.ownBlock = some g ∨ ws.heap.size ≤ g) ∧ Tch (Foot mb v1) ws w') := fun hst ws b =>
          ⟨kb.gr kb.size b, (b.block E (Array.getElem?_eq_some_iff.1 bE).1).trans bE, kb.rep.note hbad hst, ho, hL, note_ok N ws mb v1 L (kb.mem.below b) hL9 kb.rep.ris xa xn hbad hst⟩
        rcases List.eq_nil_or_concat o with hoe | ⟨o1, y, hoe⟩
        · have em : m = 0 := by rw [← ho, hoe]; rfl
          subst em
          have hst : ¬ xa < lastT L := by
            have := kb.rep.last
            have e : lastN [] = -1 := rfl
            rw [hoe, e] at this
            unfold badN at hbad
            omega
          have CY := Lib.hid (CX.out hst)
          clear low hr hNW hnl hx kp ho hsz bb bE kb KB hbad hL9 K0 hst CX hL hoe
          go_upto_region 8 with fail
          rw [HW.out.1, HW.out.2]
          clear HW
          go_quiet (fail)
          have KX := Lib.hid (CY.out (wb.drewN nq) ((Gr.refl wb).drewN nq).below)
          generalize wb.drewN nq = w5 at KX ⊢
          clear CY e0 e1
          have e0 : w5.cell? ⟨E, 0, none⟩ = some (.int .i64 xa) := cell_of_block KX.out.2.1 0
          have e1 : w5.cell? ⟨E, 1, none⟩ = some (.int .i64 xn) := cell_of_block KX.out.2.1 1
          go_wp2_with fail
          refine KX.out.2.2.2.2.2.mono ?_
          rintro e w6 ⟨rfl, ⟨v2, M2, _⟩, t6⟩
          obtain ⟨kp5, bE5, rp, hol, hLl, _⟩ := KX.out
          have bE6 := foot_block kp5.mem t6 bE5 (by decide) (by decide)
          have ou6 := foot_out kp5.mem t6 kp5.out
          have lo6 := kp5.low.trans ((foot_below kp5.mem t6))
          clear e0 e1
          have e0 : w6.cell? ⟨E, 0, none⟩ = some (.int .i64 xa) := cell_of_block bE6 0
          have e1 : w6.cell? ⟨E, 1, none⟩ = some (.int .i64 xn) := cell_of_block bE6 1
          obtain ⟨w7, B, HW7, b7, bB, _, _⟩ := box_note w6 xa xn
          have hN6 : N ≤ w6.heap.size := Nat.le_of_lt (Nat.lt_of_le_of_lt M2.bs M2.lt)
          have OU := Lib.hid (ou6.below b7)
          have BX := Lib.hid bB
          have HB : Hid (N ≤ w7.heap.size) := Nat.le_trans hN6 b7.size
          have HO := Lib.hid hol
          have M7 := Lib.hid (And.intro (M2.below b7) (And.intro (lo6.trans (b7.mono hN6)) (And.intro rp hLl)))
          clear kp5 bE5 rp hol hLl bE6 ou6 lo6 b7 bB hN6 M2 t6 KX
          go_wp2_with (at_builtin; rw [HW7.out.1, HW7.out.2]; refine wpList_push_nt rfl _ _ (by rfl) (xa, xn) HO.out (by rfl) OU.out HB.out (by omega) B (by rfl) BX.out ?_; intro q8 c8 w8 ho8 hg8)
          have NX : Hid (∃ o v' L, o.length = 0 + 1 ∧ L.length ≤ j + 1 ∧ Kp N mb w w8 (.slice q8 (0 + 1) c8) o v' L) := by
            obtain ⟨m7, l7, rp, hLl⟩ := M7.out
            refine ⟨o ++ [(xa, xn)], v2, noteL L xa xn, by rw [List.length_append, HO.out]; rfl, by have := noteL_len L xa xn; omega, l7.trans (grown_low HB.out OU.out hg8), grown_mem m7 OU.out hg8, ho8, rp⟩
          clear M7 HO HB BX OU HW7 ho8 hg8
          go_wp2
          go_roundg (n - (j + 1))
          case measure => omega
          case rel => exact ⟨j + 1, 0 + 1, c8, q8, by push_cast; rfl, by omega, by omega, rfl, by omega, NX.out⟩
        · rw [List.concat_eq_append] at hoe
          have em : m = o1.length + 1 := by rw [← ho, hoe]; simp
          have lt_y : lastT L = y.1 := by rw [kb.rep.last, hoe, lastN_app]
          obtain ⟨hm6, ro⟩ := kb.out.row
          have hoy : o[o1.length]? = some y := by rw [hoe]; simp
          obtain ⟨g6, off6, rfl, y0, _⟩ := note_at ro (Below.refl _ wb) hoy
          obtain ⟨ya, yn⟩ := y
          dsimp only at y0 lt_y
          obtain ⟨k, hk⟩ : ∃ k, k = o1.length := ⟨_, rfl⟩
          rw [← hk] at y0 em
          have m0 : (0 : Int) < (m : Int) := by omega
          have m1 : decide (0 < m) = true := decide_eq_true (by omega)
          have m2 : 0 < m := by omega
          have wm : IntKind.i64.wrap ((m : Int) - 1) = (k : Int) := by rw [IntKind.wrap_i64]; omega
          have k0 : (0 : Int) ≤ (k : Int) := by omega
          have k1 : (k : Int) < (m : Int) := by omega
          by_cases hst : xa < lastT L
          · have CN : Hid (∀ ws, Below wb.heap.size wb ws → Kp N mb w ws (.slice (some ⟨g6, off6, none⟩) m c6) o v1 L ∧ o.length = m ∧ L.length ≤ j ∧ ws.heap[E]? = some (.cells #[.int .i64 xa, .int .i64 xn] NT (0, 0)) ∧ Calls Try.prog 10 #[.pointer (some ⟨mb, 0, none⟩), .int .i64 xa, .int .i64 xn] ws fun e w' => e = .returned (.int .i64 13) ∧ Gr ws w') := fun ws b =>
              ⟨kb.gr kb.size b, ho, hL, (b.block E (Array.getElem?_eq_some_iff.1 bE).1).trans bE, note_stale N ws mb v1 L (kb.mem.below b) hL9 xa xn hbad hst⟩
            have d4 : decide (xa < ya) = true := decide_eq_true (by omega)
            clear low hr hNW hnl hx kp ho hsz bb bE kb KB hbad hL9 K0 hst CX hL hoe lt_y hm6 ro hoy hk em
            go_upto_region 8 with fail
            rw [HW.out.1, HW.out.2]
            clear HW
            go_quiet (fail)
            have KX := Lib.hid (CN.out (wb.drewN nq) ((Gr.refl wb).drewN nq).below)
            generalize wb.drewN nq = w5 at KX ⊢
            clear CN e0 e1 y0
            have e0 : w5.cell? ⟨E, 0, none⟩ = some (.int .i64 xa) := cell_of_block KX.out.2.2.2.1 0
            have e1 : w5.cell? ⟨E, 1, none⟩ = some (.int .i64 xn) := cell_of_block KX.out.2.2.2.1 1
            go_wp2_with fail
            refine KX.out.2.2.2.2.mono ?_
            rintro e w6 ⟨rfl, g6'⟩
            have NX : Hid (∃ o v' L, o.length = m ∧ L.length ≤ j + 1 ∧ Kp N mb w w6 (.slice (some ⟨g6, off6, none⟩) m c6) o v' L) := ⟨o, v1, L, KX.out.2.1, by have := KX.out.2.2.1; omega, KX.out.1.gr KX.out.1.size g6'.below⟩
            clear KX e0 e1 g6'
            go_wp2
            go_roundg (n - (j + 1))
            case measure => omega
            case rel => exact ⟨j + 1, m, c6, _, by push_cast; rfl, by omega, by omega, rfl, by omega, NX.out⟩
          · have CY := Lib.hid (CX.out hst)
            have d4 : decide (xa < ya) = false := decide_eq_false (by omega)
            clear low hr hNW hnl hx kp ho hsz bb bE kb KB hbad hL9 K0 hst CX hL hoe lt_y hm6 ro hoy hk em
            go_upto_region 8 with fail
            rw [HW.out.1, HW.out.2]
            clear HW
            go_quiet (fail)
            have KX := Lib.hid (CY.out (wb.drewN nq) ((Gr.refl wb).drewN nq).below)
            generalize wb.drewN nq = w5 at KX ⊢
            clear CY e0 e1 y0 wm k0 k1
            have e0 : w5.cell? ⟨E, 0, none⟩ = some (.int .i64 xa) := cell_of_block KX.out.2.1 0
            have e1 : w5.cell? ⟨E, 1, none⟩ = some (.int .i64 xn) := cell_of_block KX.out.2.1 1
            go_wp2_with fail
            refine KX.out.2.2.2.2.2.mono ?_
            rintro e w6 ⟨rfl, ⟨v2, M2, _⟩, t6⟩
            obtain ⟨kp5, bE5, rp, hol, hLl, _⟩ := KX.out
            have bE6 := foot_block kp5.mem t6 bE5 (by decide) (by decide)
            have ou6 := foot_out kp5.mem t6 kp5.out
            have lo6 := kp5.low.trans ((foot_below kp5.mem t6))
            clear e0 e1
            have e0 : w6.cell? ⟨E, 0, none⟩ = some (.int .i64 xa) := cell_of_block bE6 0
            have e1 : w6.cell? ⟨E, 1, none⟩ = some (.int .i64 xn) := cell_of_block bE6 1
            obtain ⟨w7, B, HW7, b7, bB, _, _⟩ := box_note w6 xa xn
            have hN6 : N ≤ w6.heap.size := Nat.le_of_lt (Nat.lt_of_le_of_lt M2.bs M2.lt)
            have OU := Lib.hid (ou6.below b7)
            have BX := Lib.hid bB
            have HB : Hid (N ≤ w7.heap.size) := Nat.le_trans hN6 b7.size
            have HO := Lib.hid hol
            have M7 := Lib.hid (And.intro (M2.below b7) (And.intro (lo6.trans (b7.mono hN6)) (And.intro rp hLl)))
            clear kp5 bE5 rp hol hLl bE6 ou6 lo6 b7 bB hN6 M2 t6 KX
            go_wp2_with (at_builtin; rw [HW7.out.1, HW7.out.2]; refine wpList_push_nt rfl _ _ (by rfl) (xa, xn) HO.out (by rfl) OU.out HB.out (by omega) B (by rfl) BX.out ?_; intro q8 c8 w8 ho8 hg8)
            have NX : Hid (∃ o v' L, o.length = m + 1 ∧ L.length ≤ j + 1 ∧ Kp N mb w w8 (.slice q8 (m + 1) c8) o v' L) := by
              obtain ⟨m7, l7, rp, hLl⟩ := M7.out
              refine ⟨o ++ [(xa, xn)], v2, noteL L xa xn, by rw [List.length_append, HO.out]; rfl, by have := noteL_len L xa xn; omega, l7.trans (grown_low HB.out OU.out hg8), grown_mem m7 OU.out hg8, ho8, rp⟩
            clear M7 HO HB BX OU HW7 ho8 hg8
            go_wp2
            go_roundg (n - (j + 1))
            case measure => omega
            case rel => exact ⟨j + 1, m + 1, c8, q8, by push_cast; rfl, by omega, by omega, rfl, by omega, NX.out⟩
    · obtain rfl : j = n := by omega
      rename World => wq
      obtain ⟨o, v1, L, ho, hL, kp⟩ := HP.out
      obtain ⟨hm6, ro⟩ := kp.out.row
      obtain ⟨M2, hM2⟩ : ∃ M, M = wq.heap.size := ⟨_, rfl⟩
      obtain ⟨Z, hZ⟩ : ∃ Z, Z = lastN o := ⟨_, rfl⟩
      have oko : Hid (∀ x ∈ o, 0 ≤ x.1 ∧ x.1 ≤ Z ∧ Z ≤ 4611686018427387904) := fun x hx => by
        have h1 := kp.rep.ok x hx
        refine ⟨h1.1, by rw [hZ]; exact h1.2, ?_⟩
        rw [hZ, ← kp.rep.last]
        rcases List.eq_nil_or_concat L with e | ⟨l1, t, e⟩
        · rw [e]; decide
        · rw [List.concat_eq_append] at e
          have := (kp.rep.ris.2 t (by rw [e]; simp)).2
          rw [e, lastT_app]
          exact this
      obtain ⟨p, hp⟩ : ∃ p : Nt → Bool, p = fun x => decide (Z - x.1 ≤ 1800) := ⟨_, rfl⟩
      have EL : Hid (o.filter p = leftN o) := by show _ = _; rw [hp, hZ]; rfl
      have HR := Lib.hid (And.intro kp (And.intro ho (And.intro hL (And.intro ro (And.intro hM2 (And.intro hp hZ))))))
      have S0 : Hid (OwnNt M2 wq (.slice none 0 0) [] ∧ Below M2 wq wq) := ⟨World.ownsRow_nil _ _ _ _, Below.refl _ _⟩
      have hm100 : m ≤ 100 := by omega
      clear ho hL kp hm6 ro hM2 hp hZ HP K0 hlt
      go_wp2_with fail
      go_loopg [10, 64] m (fun g1 v10 vi wr => ∃ (i m2 c2 : Nat) (q2 : Option Addr), vi = .int .i64 (i : Int) ∧ i ≤ m ∧ m - i ≤ g1 ∧ v10 = .slice q2 m2 c2 ∧ m2 ≤ i ∧ Hid (((o.take i).filter p).length = m2 ∧ OwnNt M2 wr (.slice q2 m2 c2) ((o.take i).filter p) ∧ Below M2 wq wr))
      case atStart => exact ⟨0, 0, 0, none, rfl, Nat.zero_le _, by omega, rfl, Nat.le_refl _, rfl, S0.out⟩
      case round =>
        obtain ⟨i, m2, c2, q2, rfl, h3, h4, rfl, hm2, HS⟩ := hrel
        by_cases hlt2 : i < m
        · obtain ⟨kp, ho, hL, ro, hM2, hp, hZ⟩ := HR.out
          obtain ⟨fl, fo, bl⟩ := HS.out
          obtain ⟨x, hx⟩ : ∃ x, o[i]? = some x := ⟨o[i]'(by omega), List.getElem?_eq_getElem (by omega)⟩
          have blt : Below wq.heap.size wq wr := by rw [← hM2]; exact bl
          obtain ⟨gb, off, rfl, c0, c1⟩ := note_at ro blt hx
          obtain ⟨y, hy⟩ : ∃ y, o[o.length - 1]? = some y := ⟨o[o.length - 1]'(by omega), List.getElem?_eq_getElem (by omega)⟩
          have ey : y.1 = Z := by
            rw [hZ]
            unfold lastN
            rw [List.getLast?_eq_getElem?, hy]
          obtain ⟨gb2, off2, eq2, y0, _⟩ := note_at ro blt hy
          cases eq2
          obtain ⟨k, hk⟩ : ∃ k, k = o.length - 1 := ⟨_, rfl⟩
          rw [← hk, ey] at y0
          have ok3 := oko.out x (List.mem_of_getElem? hx)
          have FS := filter_snoc p hx
          have hpx : p x = decide (Z - x.1 ≤ 1800) := by rw [hp]
          obtain ⟨xa, xn⟩ := x
          dsimp only at c0 c1 ok3 hpx
          obtain ⟨d, hd⟩ : ∃ d, d = Z - xa := ⟨_, rfl⟩
          have wd : IntKind.i64.wrap (Z - xa) = d := by rw [IntKind.wrap_i64]; omega
          rw [← hd] at hpx
          obtain ⟨wb, E, HW, bb, bE, e0, e1⟩ := box_note wr xa xn
          have lb : gb < wr.heap.size := World.block_lt_of_cell? _ _ y0
          have y1 : wb.cell? ⟨gb, off + k * 2, none⟩ = some (.int .i64 Z) := (bb.cell (p := ⟨gb, off + k * 2, none⟩) lb).trans y0
          have wm : IntKind.i64.wrap ((m : Int) - 1) = (k : Int) := by rw [IntKind.wrap_i64]; omega
          have k0 : (0 : Int) ≤ (k : Int) := by omega
          have k1 : (k : Int) < (m : Int) := by omega
          have hMt : M2 ≤ wr.heap.size := by have := bl.size; omega
          have FB : Hid (∀ ws, Below wb.heap.size wb ws → OwnNt M2 ws (.slice q2 m2 c2) ((o.take i).filter p) ∧ Below M2 wq ws ∧ ws.heap[E]? = some (.cells #[.int .i64 xa, .int .i64 xn] NT (0, 0))) := fun ws b =>
            ⟨(OwnNt.below fo bb).below b, bl.trans ((bb.trans (b.mono bb.size)).mono hMt), (b.block E (Array.getElem?_eq_some_iff.1 bE).1).trans bE⟩
          have FL := Lib.hid (And.intro fl hMt)
          cases hpb : p (xa, xn) with
          | false =>
            rw [hpb] at hpx FS
            have dd := hpx.symm
            have FS' : Hid ((o.take (i + 1)).filter p = (o.take i).filter p) := by show _ = _; rw [FS]; simp
            clear kp ho hL ro hM2 hp hZ fl fo bl hx blt hy ey y0 hk ok3 FS hpx hd bb bE lb hMt hpb S0
            go_upto_region 19 with fail
            rw [HW.out.1, HW.out.2]
            clear HW
            go_quiet (fail)
            have F5 := Lib.hid (FB.out (wb.drewN nq) ((Gr.refl wb).drewN nq).below)
            generalize wb.drewN nq = w5 at F5 ⊢
            clear FB e0 e1 y1
            go_wp2
            go_roundg (m - (i + 1))
            case measure => omega
            case rel => exact ⟨i + 1, m2, c2, q2, by push_cast; rfl, by omega, by omega, rfl, by omega, by rw [FS'.out]; exact ⟨FL.out.1, F5.out.1, F5.out.2.1⟩⟩
          | true =>
            rw [hpb] at hpx FS
            have dd := hpx.symm
            have FS' : Hid ((o.take (i + 1)).filter p = (o.take i).filter p ++ [(xa, xn)]) := by show _ = _; rw [FS]; simp
            clear kp ho hL ro hM2 hp hZ fl fo bl hx blt hy ey y0 hk ok3 FS hpx hd bb bE lb hMt hpb S0
            go_upto_region 19 with fail
            rw [HW.out.1, HW.out.2]
            clear HW
            go_quiet (fail)
            have F5 := Lib.hid (FB.out (wb.drewN nq) ((Gr.refl wb).drewN nq).below)
            have Z5 : Hid (M2 ≤ (wb.drewN nq).heap.size) := by
              have h1 := (FB.out (wb.drewN nq) ((Gr.refl wb).drewN nq).below).2.1.size
              have h2 := HR.out.2.2.2.2.1
              show _ ≤ _
              omega
            generalize wb.drewN nq = w5 at F5 Z5 ⊢
            clear FB e0 e1 y1
            have e0 : w5.cell? ⟨E, 0, none⟩ = some (.int .i64 xa) := cell_of_block F5.out.2.2 0
            have e1 : w5.cell? ⟨E, 1, none⟩ = some (.int .i64 xn) := cell_of_block F5.out.2.2 1
            obtain ⟨w7, B, HW7, b7, bB, _, _⟩ := box_note w5 xa xn
            have OU := Lib.hid (F5.out.1.below b7)
            have BX := Lib.hid bB
            have HB : Hid (M2 ≤ w7.heap.size) := Nat.le_trans Z5.out b7.size
            have L7 := Lib.hid (F5.out.2.1.trans (b7.mono Z5.out))
            have HO := Lib.hid FL.out.1
            clear b7 bB F5
            go_wp2_with (at_builtin; rw [HW7.out.1, HW7.out.2]; refine wpList_push_nt rfl _ _ (by rfl) (xa, xn) HO.out (by rfl) OU.out HB.out (by omega) B (by rfl) BX.out ?_; intro q8 c8 w8 ho8 hg8)
            have NX : Hid (((o.take (i + 1)).filter p).length = m2 + 1 ∧ OwnNt M2 w8 (.slice q8 (m2 + 1) c8) ((o.take (i + 1)).filter p) ∧ Below M2 wq w8) := by
              rw [FS'.out]
              exact ⟨by rw [List.length_append, HO.out]; rfl, ho8, L7.out.trans (grown_low HB.out OU.out hg8)⟩
            clear L7 HO HB BX OU HW7 ho8 hg8 FS' FL
            go_wp2
            go_roundg (m - (i + 1))
            case measure => omega
            case rel => exact ⟨i + 1, m2 + 1, c8, q8, by push_cast; rfl, by omega, by omega, rfl, by omega, NX.out⟩
        · obtain rfl : i = m := by omega
          have FIN : Hid (m2 = (leftN o).length ∧ Kp N mb w wr (.slice q6 i c6) o v1 L ∧ L.length ≤ 100 ∧ o.length ≤ 100 ∧ RowR 2 encN wr q2 (leftN o)) := by
            obtain ⟨kp, ho, hL, ro, hM2, hp, hZ⟩ := HR.out
            obtain ⟨fl, fo, bl⟩ := HS.out
            have et : (o.take i).filter p = leftN o := by rw [← EL.out, List.take_of_length_le (by omega)]
            rw [et] at fl fo
            exact ⟨fl.symm, kp.gr kp.size (by rw [← hM2]; exact bl), by omega, by omega, fo.row.2⟩
          clear HS HR EL oko S0
          go_wp2
          go_ret2
          obtain ⟨rfl, f2, f3, f4, f5⟩ := FIN.out
          exact ⟨⟨q2, c2, _, o, v1, L, rfl, f2, f3, f4, f5⟩, f2.low⟩
end Go.Proofs.Ytcejaeeliedldaa.Wn
