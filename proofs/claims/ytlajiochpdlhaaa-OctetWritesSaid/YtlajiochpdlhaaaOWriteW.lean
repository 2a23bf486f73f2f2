/- The walk of the law OctetWrites: the law of layer 6 holds for every input: any numbers and texts are written as the document says, and read again, one by one. No conditions. -/
import Derived.Test.YtlajiochpdlhaaaOLawBase
import Derived.Test.YtlajiochpdlhaaaOctU
import Derived.ChangeMaps5
import Derived.Deep.DeepCutAuto
import Derived.Deep.RegionHeld
namespace Go.Proofs.Ytlajiochpdlhaaa.octetWrites
open Go.ChangeShapes Go.WideShapes Go.ChangeAt Go.RowKit Go.ChangeMaps Go.Lib Go.Shelf Go.Sort Go.Deep
open Go.Joins (cell_of_block unfrozen_of_block block_setCell)
set_option linter.unusedVariables false
set_option linter.unusedSimpArgs false
set_option maxRecDepth 20000

abbrev Stp := Int × Int × Nat × ByteArray
def encT (x : Stp) : List Value := [.int .i64 x.1, .int .i64 x.2.1, .int .u64 (x.2.2.1 : Int), .string x.2.2.2]
/-- What a step writes. -/
def stB (x : Stp) : List UInt8 :=
  if x.1 = 0 then (if x.2.1 = 1 ∨ x.2.1 = 2 ∨ x.2.1 = 4 ∨ x.2.1 = 8 then le x.2.2.1 x.2.1.toNat else []) else if x.1 = 1 then le x.2.2.1 8 else txt (cut x.2.2.2)
theorem stB_len (x : Stp) : (stB x).length ≤ 256 := by
  unfold stB
  split
  · split
    · rename_i h
      rw [le_len]
      omega
    · simp
  · split
    · rw [le_len]; omega
    · rw [txt_len, cut_size]; omega
theorem drop_fl {l : List Stp} {k : Nat} {x : Stp} (h : l[k]? = some x) : (l.drop k).flatMap stB = stB x ++ (l.drop (k + 1)).flatMap stB := by
  obtain ⟨hk, rfl⟩ := List.getElem?_eq_some_iff.1 h
  rw [List.drop_eq_getElem_cons hk, List.flatMap_cons]

/-- A writer of the call's own, and what was there before the call. -/
def WS (W w : World) (N A : Nat) (bs : List UInt8) : Prop := WrM w N A bs ∧ W.heap.size ≤ N ∧ N ≤ w.heap.size ∧ Below W.heap.size W w
theorem WS.step {W w w' : World} {N A : Nat} {bs bs' : List UInt8} (h : WS W w N A bs) (r : WrM w' N A bs') (m : Mv A A A w w') : WS W w' N A bs' := by
  obtain ⟨h1, h2, h3, h4⟩ := h
  have hs := m.size
  have hl := h1.lo
  exact ⟨r, h2, by omega, h4.trans (m.below (by omega) (by omega) (by omega) (by omega) (fun b hb => by have := (h1.yb_lo b hb).1; omega))⟩
theorem WS.gr {W w w' : World} {N A : Nat} {bs : List UInt8} (h : WS W w N A bs) (g : Gr w w') : WS W w' N A bs :=
  ⟨h.1.gr g, h.2.1, Nat.le_trans h.2.2.1 g.size, h.2.2.2.trans (g.below.mono (by have := h.2.2.2.size; omega))⟩
theorem RS.gr {W w w' : World} {N A : Nat} {s : Sr} (h : RS W w N A s) (g : Gr w w') (hA : A < w.heap.size) : RS W w' N A s := by
  obtain ⟨h1, h2, h3, h4, h5, h6⟩ := h
  exact ⟨h1.gr g, h2, h3, Nat.le_trans h4 g.size, fun b hb => by rw [yb_block (g.heap hA)] at hb; exact (h5 b hb).imp id (fun h => Nat.lt_of_lt_of_le h g.size), h6.trans (g.below.mono (by omega))⟩
theorem keep_new {A : Nat} {w wx w1 : World} {X : Obj} (hwx : wx = w.alloc X) (hA : A < w.heap.size) (hy : ∀ b, yb w A = some b → b < w.heap.size) (m : Mv A A A wx w1) : w1.heap[w.heap.size]? = some X := by
  subst hwx
  rw [m.blk _ (by simp) (by omega) (by omega) (by omega) (fun e => by rw [yb_block (((Gr.refl w).alloc X).heap hA)] at e; have := hy _ e; omega)]
  exact heap_alloc_new w X

set_option maxHeartbeats 8000000 in
theorem walk_at (W : World) (q : Option Addr) (c : Nat) (l : List Stp) (h : RowR 4 encT W q l) (hX : ∀ x ∈ l, x.2.2.1 < 18446744073709551616) (hm : l.length ≤ 9223372036854775807) :
    Calls Try.prog 3 #[.slice q l.length c] W fun e w' => e = .returned (.bool true) ∧ Below W.heap.size W w' := by
  have mixed : Try.prog.follows .mixedOrders = true := by kernel_rfl
  have V := Lib.hid lives_any
  have HR := Lib.hid h
  have HX := Lib.hid hX
  clear h hX
  by_cases hbig : 40 < l.length
  · go_enter Try.func3, Try.ntmps3
    go_wp2_with fail
    refine (V.out _).mono ?_
    rintro e w1 ⟨rfl, b1, _⟩
    have B1 := Lib.hid b1
    clear b1
    go_wp2_with fail
    refine (V.out _).mono ?_
    rintro e w2 ⟨rfl, b2, _⟩
    have B2 := Lib.hid (B1.out.trans (b2.mono B1.out.size))
    clear b2
    go_wp2
    go_ret
    exact ⟨rfl, B2.out⟩
  · have hsm : l.length ≤ 40 := by omega
    clear hbig
    go_enter Try.func3, Try.ntmps3
    go_wp2_with fail
    refine (V.out _).mono ?_
    rintro e w1 ⟨rfl, b1, _⟩
    have B1 := Lib.hid b1
    clear b1
    obtain ⟨A, hA⟩ : ∃ A, A = w1.heap.size := ⟨_, rfl⟩
    obtain ⟨wn, hwn⟩ : ∃ wn, wn = w1.alloc (.cells #[.slice none 0 0] 27) := ⟨_, rfl⟩
    have W0 : Hid (WS W wn A A []) := by
      have hg : Gr w1 wn := hwn ▸ (Gr.refl w1).alloc _
      exact ⟨by rw [hwn, hA]; exact wr_new w1, by rw [hA]; exact B1.out.size, by rw [hA]; exact hg.size, B1.out.trans (hg.below.mono B1.out.size)⟩
    have HA := Lib.hid (And.intro hwn hA)
    clear hA hwn
    go_upto_region 5 with fail
    rw [← HA.out.1, ← HA.out.2]
    go_wp2_with fail
    go_loopg [4, 23] l.length (fun g vo vi wr => ∃ (j : Nat) (bs : List UInt8), j ≤ l.length ∧ l.length - j ≤ g ∧ vo = .string (mk bs) ∧ vi = .int .i64 (j : Int) ∧ bs.length ≤ j * 256 ∧ Hid (bs ++ (l.drop j).flatMap stB = l.flatMap stB) ∧ Hid (WS W wr A A bs))
    case atStart => exact ⟨0, [], Nat.zero_le _, by omega, rfl, rfl, by simp, rfl, W0.out⟩
    case round =>
      obtain ⟨j, bs, hj, hg, rfl, rfl, hbl, HF, HW⟩ := hrel
      by_cases hlt : j < l.length
      · obtain ⟨x, hx⟩ : ∃ x, l[j]? = some x := ⟨l[j], List.getElem?_eq_getElem hlt⟩
        obtain ⟨b, off, rfl, hb, hc⟩ := (HR.out.below HW.out.2.2.2) j x hx
        have hxx := HX.out x (List.mem_of_getElem? hx)
        have HD := Lib.hid (drop_fl hx)
        obtain ⟨kd, nn, X, S⟩ := x
        have c1 := hc 0 _ rfl
        have c2 := hc 1 _ rfl
        have c3 := hc 2 _ rfl
        have c4 := hc 3 _ rfl
        rw [Nat.add_zero] at c1
        dsimp only at c1 c2 c3 c4 hxx
        clear hc hx
        have hnx : ∀ (bs' : List UInt8), bs' = bs ++ stB (kd, nn, X, S) → bs'.length ≤ (j + 1) * 256 ∧ bs' ++ (l.drop (j + 1)).flatMap stB = l.flatMap stB := by
          intro bs' e
          have h1 := stB_len (kd, nn, X, S)
          refine ⟨by rw [e, List.length_append]; omega, ?_⟩
          have h := HF.out
          rw [HD.out] at h
          rw [e]
          simpa using h
        have HN := Lib.hid hnx
        obtain ⟨Bk, hBk⟩ : ∃ B, B = wr.heap.size := ⟨_, rfl⟩
        obtain ⟨wx, hwx⟩ : ∃ wx, wx = wr.alloc (.cells #[.int .i64 kd, .int .i64 nn, .int .u64 (X : Int), .string S] 30) := ⟨_, rfl⟩
        have G : Gr wr wx := hwx ▸ (Gr.refl wr).alloc _
        have WX : Hid (WS W wx A A bs) := HW.out.gr G
        have KN : Hid (∀ w1, Mv A A A wx w1 → w1.heap[Bk]? = some (.cells #[.int .i64 kd, .int .i64 nn, .int .u64 (X : Int), .string S] 30 (0, 0))) := fun w1 m => by rw [hBk]; exact keep_new hwx HW.out.1.lt (fun b hb => (HW.out.1.yb_lo b hb).2.1) m
        have hbx := KN.out wx (Mv.refl _ _ _ _)
        have d1 : wx.cell? ⟨Bk, 0, none⟩ = some (.int .i64 kd) := by rw [cell_of_block hbx]; rfl
        have d2 : wx.cell? ⟨Bk, 1, none⟩ = some (.int .i64 nn) := by rw [cell_of_block hbx]; rfl
        have d3 : wx.cell? ⟨Bk, 2, none⟩ = some (.int .u64 (X : Int)) := by rw [cell_of_block hbx]; rfl
        have d4 : wx.cell? ⟨Bk, 3, none⟩ = some (.string S) := by rw [cell_of_block hbx]; rfl
        have HB := Lib.hid (And.intro hwx hBk)
        have zb : (mk bs).size ≤ 20000 := by rw [mk_size]; omega
        have BG : Hid (∀ w, WS W w A A bs → Below W.heap.size W w) := fun w h => h.2.2.2
        clear G hbx hwx hBk hnx
        go_upto_region 8 with fail
        rw [← HB.out.1, ← HB.out.2]
        clear c1 c2 c3 c4
        by_cases hS : 600 < S.size
        · have hSi : (600 : Int) < (S.size : Int) := by omega
          go_wp2
          go_ret
          exact ⟨rfl, WX.out.2.2.2⟩
        · have hSi : ¬ (600 < S.size) := hS
          by_cases hk0 : kd = 0
          · subst hk0
            by_cases hv : nn = 1 ∨ nn = 2 ∨ nn = 4 ∨ nn = 8
            · rcases hv with rfl | rfl | rfl | rfl
              · have hk : stB (0, 1, X, S) = le X 1 := rfl
                have PC := Lib.hid (put_ok wx A A bs X 1 (by unfold IsSz; omega) hxx WX.out.1 WX.out.2.2.1 (by omega))
                have RC := Lib.hid (fun w => rput_any w X 1 hxx (by decide))
                have z1 : (mk (le X 1)).size = 1 := by rw [mk_size, le_len]
                have z2 : (mk bs).size + (mk (le X 1)).size ≤ 9223372036854775807 := by omega
                go_wp2_with fail
                refine PC.out.mono ?_
                rintro e w2 ⟨rfl, k1, k2⟩
                have W2 : Hid (WS W w2 A A (bs ++ le X 1)) := WX.out.step k1 k2
                have hb2 := KN.out w2 k2
                have e2 : w2.cell? ⟨Bk, 1, none⟩ = some (.int .i64 1) := by rw [cell_of_block hb2]; rfl
                have e3 : w2.cell? ⟨Bk, 2, none⟩ = some (.int .u64 (X : Int)) := by rw [cell_of_block hb2]; rfl
                clear k1 k2 hb2 d1 d2 d3 d4
                go_wp2_with fail
                refine (RC.out w2).mono ?_
                rintro e w3 ⟨rfl, g3⟩
                have W3 := Lib.hid (W2.out.gr g3)
                clear g3
                go_wp2_with fail
                go_roundg (l.length - (j + 1))
                case measure => omega
                case rel =>
                  have hh := HN.out (bs ++ le X 1) (by rw [hk])
                  exact ⟨j + 1, _, hlt, Nat.le_refl _, by rw [mk_app], by go_num, hh.1, hh.2, W3.out⟩
              · have hk : stB (0, 2, X, S) = le X 2 := rfl
                have PC := Lib.hid (put_ok wx A A bs X 2 (by unfold IsSz; omega) hxx WX.out.1 WX.out.2.2.1 (by omega))
                have RC := Lib.hid (fun w => rput_any w X 2 hxx (by decide))
                have z1 : (mk (le X 2)).size = 2 := by rw [mk_size, le_len]
                have z2 : (mk bs).size + (mk (le X 2)).size ≤ 9223372036854775807 := by omega
                go_wp2_with fail
                refine PC.out.mono ?_
                rintro e w2 ⟨rfl, k1, k2⟩
                have W2 : Hid (WS W w2 A A (bs ++ le X 2)) := WX.out.step k1 k2
                have hb2 := KN.out w2 k2
                have e2 : w2.cell? ⟨Bk, 1, none⟩ = some (.int .i64 2) := by rw [cell_of_block hb2]; rfl
                have e3 : w2.cell? ⟨Bk, 2, none⟩ = some (.int .u64 (X : Int)) := by rw [cell_of_block hb2]; rfl
                clear k1 k2 hb2 d1 d2 d3 d4
                go_wp2_with fail
                refine (RC.out w2).mono ?_
                rintro e w3 ⟨rfl, g3⟩
                have W3 := Lib.hid (W2.out.gr g3)
                clear g3
                go_wp2_with fail
                go_roundg (l.length - (j + 1))
                case measure => omega
                case rel =>
                  have hh := HN.out (bs ++ le X 2) (by rw [hk])
                  exact ⟨j + 1, _, hlt, Nat.le_refl _, by rw [mk_app], by go_num, hh.1, hh.2, W3.out⟩
              · have hk : stB (0, 4, X, S) = le X 4 := rfl
                have PC := Lib.hid (put_ok wx A A bs X 4 (by unfold IsSz; omega) hxx WX.out.1 WX.out.2.2.1 (by omega))
                have RC := Lib.hid (fun w => rput_any w X 4 hxx (by decide))
                have z1 : (mk (le X 4)).size = 4 := by rw [mk_size, le_len]
                have z2 : (mk bs).size + (mk (le X 4)).size ≤ 9223372036854775807 := by omega
                go_wp2_with fail
                refine PC.out.mono ?_
                rintro e w2 ⟨rfl, k1, k2⟩
                have W2 : Hid (WS W w2 A A (bs ++ le X 4)) := WX.out.step k1 k2
                have hb2 := KN.out w2 k2
                have e2 : w2.cell? ⟨Bk, 1, none⟩ = some (.int .i64 4) := by rw [cell_of_block hb2]; rfl
                have e3 : w2.cell? ⟨Bk, 2, none⟩ = some (.int .u64 (X : Int)) := by rw [cell_of_block hb2]; rfl
                clear k1 k2 hb2 d1 d2 d3 d4
                go_wp2_with fail
                refine (RC.out w2).mono ?_
                rintro e w3 ⟨rfl, g3⟩
                have W3 := Lib.hid (W2.out.gr g3)
                clear g3
                go_wp2_with fail
                go_roundg (l.length - (j + 1))
                case measure => omega
                case rel =>
                  have hh := HN.out (bs ++ le X 4) (by rw [hk])
                  exact ⟨j + 1, _, hlt, Nat.le_refl _, by rw [mk_app], by go_num, hh.1, hh.2, W3.out⟩
              · have hk : stB (0, 8, X, S) = le X 8 := rfl
                have PC := Lib.hid (put_ok wx A A bs X 8 (by unfold IsSz; omega) hxx WX.out.1 WX.out.2.2.1 (by omega))
                have RC := Lib.hid (fun w => rput_any w X 8 hxx (by decide))
                have z1 : (mk (le X 8)).size = 8 := by rw [mk_size, le_len]
                have z2 : (mk bs).size + (mk (le X 8)).size ≤ 9223372036854775807 := by omega
                go_wp2_with fail
                refine PC.out.mono ?_
                rintro e w2 ⟨rfl, k1, k2⟩
                have W2 : Hid (WS W w2 A A (bs ++ le X 8)) := WX.out.step k1 k2
                have hb2 := KN.out w2 k2
                have e2 : w2.cell? ⟨Bk, 1, none⟩ = some (.int .i64 8) := by rw [cell_of_block hb2]; rfl
                have e3 : w2.cell? ⟨Bk, 2, none⟩ = some (.int .u64 (X : Int)) := by rw [cell_of_block hb2]; rfl
                clear k1 k2 hb2 d1 d2 d3 d4
                go_wp2_with fail
                refine (RC.out w2).mono ?_
                rintro e w3 ⟨rfl, g3⟩
                have W3 := Lib.hid (W2.out.gr g3)
                clear g3
                go_wp2_with fail
                go_roundg (l.length - (j + 1))
                case measure => omega
                case rel =>
                  have hh := HN.out (bs ++ le X 8) (by rw [hk])
                  exact ⟨j + 1, _, hlt, Nat.le_refl _, by rw [mk_app], by go_num, hh.1, hh.2, W3.out⟩
            · have hk : stB (0, nn, X, S) = [] := by unfold stB; dsimp only; rw [if_pos rfl, if_neg (by omega)]
              have h1 : (nn == 1) = false := beq_eq_false_iff_ne.2 (by omega)
              have h2 : (nn == 2) = false := beq_eq_false_iff_ne.2 (by omega)
              have h4 : (nn == 4) = false := beq_eq_false_iff_ne.2 (by omega)
              have h8 : (nn == 8) = false := beq_eq_false_iff_ne.2 (by omega)
              have PC := Lib.hid (put_bad wx (some ⟨A, 0, none⟩) (X : Int) nn h1 h2 h4 h8 rfl)
              have hv' := Lib.hid hv
              clear hv
              go_wp2_with fail
              refine PC.out.mono ?_
              rintro e w2 ⟨rfl, rfl⟩
              go_wp2_with fail
              go_roundg (l.length - (j + 1))
              case measure => omega
              case rel =>
                have hh := HN.out (bs) (by rw [hk, List.append_nil])
                exact ⟨j + 1, _, hlt, Nat.le_refl _, rfl, by go_num, hh.1, hh.2, WX.out⟩
          · by_cases hk1 : kd = 1
            · subst hk1
              have hk : stB (1, nn, X, S) = le X 8 := rfl
              have cv := wrap_toI hxx
              have hn8 : num (toI X) = le X 8 := by unfold num; rw [u64_toI hxx]
              have PC := Lib.hid (wint_ok wx A A bs (toI X) WX.out.1 WX.out.2.2.1 (by omega))
              have RC := Lib.hid (fun w => rint_any w (toI X))
              rw [hn8] at PC
              simp only [hn8] at RC
              generalize toI X = tx at cv PC RC
              have z1 : (mk (le X 8)).size = 8 := by rw [mk_size, le_len]
              have z2 : (mk bs).size + (mk (le X 8)).size ≤ 9223372036854775807 := by omega
              clear hn8
              go_wp2_with fail
              refine PC.out.mono ?_
              rintro e w2 ⟨rfl, k1, k2⟩
              have W2 : Hid (WS W w2 A A (bs ++ le X 8)) := WX.out.step k1 k2
              have hb2 := KN.out w2 k2
              have e3 : w2.cell? ⟨Bk, 2, none⟩ = some (.int .u64 (X : Int)) := by rw [cell_of_block hb2]; rfl
              clear k1 k2 hb2 d1 d2 d3 d4
              go_wp2_with fail
              refine (RC.out w2).mono ?_
              rintro e w3 ⟨rfl, g3⟩
              have W3 := Lib.hid (W2.out.gr g3)
              clear g3
              go_wp2_with fail
              go_roundg (l.length - (j + 1))
              case measure => omega
              case rel =>
                have hh := HN.out (bs ++ le X 8) (by rw [hk])
                exact ⟨j + 1, _, hlt, Nat.le_refl _, by rw [mk_app], by go_num, hh.1, hh.2, W3.out⟩
            · by_cases h255 : S.size ≤ 255
              · have hk : stB (kd, nn, X, S) = txt (cut S) := by unfold stB; dsimp only; rw [if_neg (by omega), if_neg (by omega)]
                have j0 : (kd == 0) = false := beq_eq_false_iff_ne.2 (by omega)
                have j1 : (kd == 1) = false := beq_eq_false_iff_ne.2 (by omega)
                have PC := Lib.hid (wtext_ok wx A A bs S WX.out.1 WX.out.2.2.1 (by omega))
                have hz := cut_size S
                have hce := cut_short h255
                have hmi : ¬ (255 < S.size) := by omega
                have RC := Lib.hid (fun w => rtext_any w (cut S) (by omega))
                have z1 : (mk (txt (cut S))).size ≤ 256 := by rw [mk_size, txt_len]; omega
                have z2 : (mk bs).size + (mk (txt (cut S))).size ≤ 9223372036854775807 := by omega
                have HK := Lib.hid hk
                have hkd := Lib.hid (And.intro hk0 hk1)
                clear hk hk0 hk1 hz
                rw [hce] at PC RC z1 z2 HK
                clear hce z1
                go_wp2_with fail
                refine PC.out.mono ?_
                rintro e w2 ⟨rfl, k1, k2⟩
                have W2 : Hid (WS W w2 A A (bs ++ txt S)) := WX.out.step k1 k2
                have hb2 := KN.out w2 k2
                have e4 : w2.cell? ⟨Bk, 3, none⟩ = some (.string S) := by rw [cell_of_block hb2]; rfl
                clear k1 k2 hb2 d1 d2 d3 d4
                go_wp2_with fail
                refine (RC.out w2).mono ?_
                rintro e w3 ⟨rfl, g3⟩
                have W3 := Lib.hid (W2.out.gr g3)
                clear g3
                go_wp2_with fail
                go_roundg (l.length - (j + 1))
                case measure => omega
                case rel =>
                  have hh := HN.out (bs ++ txt S) (by rw [HK.out])
                  exact ⟨j + 1, _, hlt, Nat.le_refl _, by rw [mk_app], by go_num, hh.1, hh.2, W3.out⟩
              · have hk : stB (kd, nn, X, S) = txt (cut S) := by unfold stB; dsimp only; rw [if_neg (by omega), if_neg (by omega)]
                have j0 : (kd == 0) = false := beq_eq_false_iff_ne.2 (by omega)
                have j1 : (kd == 1) = false := beq_eq_false_iff_ne.2 (by omega)
                have PC := Lib.hid (wtext_ok wx A A bs S WX.out.1 WX.out.2.2.1 (by omega))
                have hz := cut_size S
                have hce := cut_extract S
                have hmi : 255 < S.size := by omega
                have hz5 : (cut S).size = 255 := by omega
                have RC := Lib.hid (fun w => rtext_any w (cut S) (by omega))
                have z1 : (mk (txt (cut S))).size ≤ 256 := by rw [mk_size, txt_len]; omega
                have z2 : (mk bs).size + (mk (txt (cut S))).size ≤ 9223372036854775807 := by omega
                have HK := Lib.hid hk
                have hkd := Lib.hid (And.intro hk0 hk1)
                clear hk hk0 hk1 hz
                generalize cut S = t at *
                clear hz5 z1
                go_wp2_with fail
                refine PC.out.mono ?_
                rintro e w2 ⟨rfl, k1, k2⟩
                have W2 : Hid (WS W w2 A A (bs ++ txt t)) := WX.out.step k1 k2
                have hb2 := KN.out w2 k2
                have e4 : w2.cell? ⟨Bk, 3, none⟩ = some (.string S) := by rw [cell_of_block hb2]; rfl
                clear k1 k2 hb2 d1 d2 d3 d4
                go_wp2_with fail
                refine (RC.out w2).mono ?_
                rintro e w3 ⟨rfl, g3⟩
                have W3 := Lib.hid (W2.out.gr g3)
                clear g3
                go_wp2_with fail
                go_roundg (l.length - (j + 1))
                case measure => omega
                case rel =>
                  have hh := HN.out (bs ++ txt t) (by rw [HK.out])
                  exact ⟨j + 1, _, hlt, Nat.le_refl _, by rw [mk_app], by go_num, hh.1, hh.2, W3.out⟩
      · obtain rfl : j = l.length := by omega
        have hbs : bs = l.flatMap stB := by
          have h := HF.out
          rw [List.drop_length, List.flatMap_nil, List.append_nil] at h
          exact h
        have BC := Lib.hid (bytes_ok wr A A bs HW.out.1 (by omega))
        have hbl2 : bs.length ≤ 20000 := by omega
        have HBS := Lib.hid hbs
        clear hbs HF hj hg
        go_wp2_with fail
        refine BC.out.mono ?_
        rintro e w2 ⟨v, rfl, k3, k4⟩
        obtain ⟨q1, c1, rfl, _, _, _, hr1, _, _⟩ := own_lies k3
        have rs := run_str w2 q1 c1 bs hr1
        have hws2 : WS W w2 A A bs := by
          obtain ⟨h1, h2, h3, h4⟩ := HW.out
          exact ⟨h1.stay (k4.block A h1.lt) (fun b hb => k4.block b (h1.yb_lo b hb).2.1), h2, Nat.le_trans h3 k4.size, h4.trans (k4.mono (by omega))⟩
        have W2 := Lib.hid hws2
        have BC2 := Lib.hid (bytes_ok w2 A A bs W2.out.1 (by omega))
        clear k3 k4 hr1 BC hws2
        go_wp2_with fail
        refine BC2.out.mono ?_
        rintro e w3 ⟨v, rfl, k3, k4⟩
        obtain ⟨q2, c2, rfl, _, _, _, hr2, _, hq2⟩ := own_lies k3
        have RC := Lib.hid (read_any w3 q2 c2 bs hr2 hq2 (by omega))
        have B3 : Hid (Below W.heap.size W w3) := W2.out.2.2.2.trans (k4.mono (by have h1 := W2.out.2.1; have h2 := W2.out.2.2.1; omega))
        clear k3 k4 hr2 hq2 BC2 rs
        go_wp2_with fail
        refine RC.out.mono ?_
        rintro e w4 ⟨R, rfl, a1, a2, a3, a4⟩
        have R4 : Hid (RS W w4 w3.heap.size R (some (l.flatMap stB))) := by
          have h := RS.ofRead B3.out a1 a2 a3 a4
          rw [HBS.out] at h
          exact h
        clear a1 a2 a3 a4 RC
        generalize w3.heap.size = NR at R4
        go_wp2_with fail
        go_loopg [104] l.length (fun g vi wr => ∃ k : Nat, k ≤ l.length ∧ l.length - k ≤ g ∧ vi = .int .i64 (k : Int) ∧ Hid (RS W wr NR R (some ((l.drop k).flatMap stB))))
        case atStart => exact ⟨0, Nat.zero_le _, by omega, rfl, R4.out⟩
        case round =>
          obtain ⟨k, hk, hg, rfl, HS⟩ := hrel
          by_cases hlt : k < l.length
          · obtain ⟨x, hx⟩ : ∃ x, l[k]? = some x := ⟨l[k], List.getElem?_eq_getElem hlt⟩
            obtain ⟨b, off, rfl, hb, hc⟩ := (HR.out.below HS.out.2.2.2.2.2) k x hx
            have hxx := HX.out x (List.mem_of_getElem? hx)
            have HD := Lib.hid (drop_fl hx)
            obtain ⟨kd, nn, X, S⟩ := x
            have c1 := hc 0 _ rfl
            have c2 := hc 1 _ rfl
            have c3 := hc 2 _ rfl
            have c4 := hc 3 _ rfl
            rw [Nat.add_zero] at c1
            dsimp only at c1 c2 c3 c4 hxx
            clear hc hx
            have hRlt : R < wr.heap.size := by
              rcases rd_cases HS.out.1 with ⟨h, _⟩ | ⟨_, _, h, _⟩ | ⟨_, _, _, _, _, h, _⟩
              · cases h
              · exact h
              · exact h
            obtain ⟨Bk, hBk⟩ : ∃ B, B = wr.heap.size := ⟨_, rfl⟩
            obtain ⟨wx, hwx⟩ : ∃ wx, wx = wr.alloc (.cells #[.int .i64 kd, .int .i64 nn, .int .u64 (X : Int), .string S] 30) := ⟨_, rfl⟩
            have G : Gr wr wx := hwx ▸ (Gr.refl wr).alloc _
            have RX : Hid (RS W wx NR R (some ((l.drop k).flatMap stB))) := RS.gr HS.out G hRlt
            have RXD0 : Hid (RS W wx.drew NR R (some ((l.drop k).flatMap stB))) := RS.gr RX.out (Gr.refl wx).drew (Nat.lt_of_lt_of_le hRlt G.size)
            have KD : Hid (∀ w1, Mv R R R wx.drew w1 → w1.heap[Bk]? = some (.cells #[.int .i64 kd, .int .i64 nn, .int .u64 (X : Int), .string S] 30 (0, 0))) := fun w1 m => by
              rw [hBk]
              exact keep_new hwx hRlt (fun b hb => (HS.out.2.2.2.2.1 b hb).2) ((Mv.gr (Nat.lt_of_lt_of_le hRlt G.size) (Gr.refl wx).drew).trans m)
            have hbx : wx.heap[Bk]? = some (.cells #[.int .i64 kd, .int .i64 nn, .int .u64 (X : Int), .string S] 30 (0, 0)) := by rw [hwx, hBk]; exact heap_alloc_new wr _
            have d1 : wx.cell? ⟨Bk, 0, none⟩ = some (.int .i64 kd) := by rw [cell_of_block hbx]; rfl
            have d2 : wx.cell? ⟨Bk, 1, none⟩ = some (.int .i64 nn) := by rw [cell_of_block hbx]; rfl
            have d3 : wx.cell? ⟨Bk, 2, none⟩ = some (.int .u64 (X : Int)) := by rw [cell_of_block hbx]; rfl
            have d4 : wx.cell? ⟨Bk, 3, none⟩ = some (.string S) := by rw [cell_of_block hbx]; rfl
            have HB := Lib.hid (And.intro hwx hBk)
            clear G hbx hwx hBk
            go_upto_region 27 with fail
            rw [← HB.out.1, ← HB.out.2]
            clear c1 c2 c3 c4
            by_cases hk0 : kd = 0
            · subst hk0
              by_cases hv : nn = 1 ∨ nn = 2 ∨ nn = 4 ∨ nn = 8
              · rcases hv with rfl | rfl | rfl | rfl
                · have hk : stB (0, 1, X, S) = le X 1 := rfl
                  rw [hk] at HD
                  have GC := Lib.hid (get_ok wx.drew NR R _ (some (le X 1 ++ (l.drop (k + 1)).flatMap stB)) 1 (by rw [← HD.out]; exact RXD0.out.1) (by unfold IsSz; omega))
                  rw [get_le.1, get_le.2] at GC
                  obtain ⟨v, hv⟩ : ∃ v, v = X % 256 ^ 1 := ⟨_, rfl⟩
                  rw [← hv] at GC
                  have hvi : (X : Int) % 256 = (v : Int) := by rw [hv]; omega
                  have RXD : Hid (RS W wx.drew NR R (some (le X 1 ++ (l.drop (k + 1)).flatMap stB))) := by
                    have h := RXD0.out
                    rw [HD.out] at h
                    exact h
                  have w8 : IntKind.i64.wrap 8 = 8 := by rw [IntKind.wrap_i64]; rfl
                  clear hv
                  go_upto_region 29 with fail
                  go_region_held (fun w' => w'.cell? ⟨Bk, 0, none⟩ = some (.int .i64 0) ∧ w'.cell? ⟨Bk, 1, none⟩ = some (.int .i64 1) ∧ w'.cell? ⟨Bk, 2, none⟩ = some (.int .u64 (X : Int))) (go_keep) (first | (go_at_call 16; refine GC.out.mono ?_; rintro e w2 ⟨rfl, k1, k2⟩; have R2 : Hid (RS W w2 NR R (some ((l.drop (k + 1)).flatMap stB))) := RXD.out.step k1 k2; have e0 : w2.cell? ⟨Bk, 0, none⟩ = some (.int .i64 0) := (by rw [cell_of_block (KD.out w2 k2)]; rfl); have e1 : w2.cell? ⟨Bk, 1, none⟩ = some (.int .i64 1) := (by rw [cell_of_block (KD.out w2 k2)]; rfl); have e2 : w2.cell? ⟨Bk, 2, none⟩ = some (.int .u64 (X : Int)) := (by rw [cell_of_block (KD.out w2 k2)]; rfl); clear k1 k2))
                  all_goals
                    go_wp2_with fail
                    refine (bad_any w2 NR R _ _ R2.out.1).mono ?_
                    rintro e w4 ⟨rfl, rfl⟩
                    go_wp2_with fail
                    go_roundg (l.length - (k + 1))
                    case measure => omega
                    case rel => exact ⟨k + 1, hlt, Nat.le_refl _, by go_num, R2.out⟩
                · have hk : stB (0, 2, X, S) = le X 2 := rfl
                  rw [hk] at HD
                  have GC := Lib.hid (get_ok wx.drew NR R _ (some (le X 2 ++ (l.drop (k + 1)).flatMap stB)) 2 (by rw [← HD.out]; exact RXD0.out.1) (by unfold IsSz; omega))
                  rw [get_le.1, get_le.2] at GC
                  obtain ⟨v, hv⟩ : ∃ v, v = X % 256 ^ 2 := ⟨_, rfl⟩
                  rw [← hv] at GC
                  have hvi : (X : Int) % 65536 = (v : Int) := by rw [hv]; omega
                  have RXD : Hid (RS W wx.drew NR R (some (le X 2 ++ (l.drop (k + 1)).flatMap stB))) := by
                    have h := RXD0.out
                    rw [HD.out] at h
                    exact h
                  have w8 : IntKind.i64.wrap 16 = 16 := by rw [IntKind.wrap_i64]; rfl
                  clear hv
                  go_upto_region 29 with fail
                  go_region_held (fun w' => w'.cell? ⟨Bk, 0, none⟩ = some (.int .i64 0) ∧ w'.cell? ⟨Bk, 1, none⟩ = some (.int .i64 2) ∧ w'.cell? ⟨Bk, 2, none⟩ = some (.int .u64 (X : Int))) (go_keep) (first | (go_at_call 16; refine GC.out.mono ?_; rintro e w2 ⟨rfl, k1, k2⟩; have R2 : Hid (RS W w2 NR R (some ((l.drop (k + 1)).flatMap stB))) := RXD.out.step k1 k2; have e0 : w2.cell? ⟨Bk, 0, none⟩ = some (.int .i64 0) := (by rw [cell_of_block (KD.out w2 k2)]; rfl); have e1 : w2.cell? ⟨Bk, 1, none⟩ = some (.int .i64 2) := (by rw [cell_of_block (KD.out w2 k2)]; rfl); have e2 : w2.cell? ⟨Bk, 2, none⟩ = some (.int .u64 (X : Int)) := (by rw [cell_of_block (KD.out w2 k2)]; rfl); clear k1 k2))
                  all_goals
                    go_wp2_with fail
                    refine (bad_any w2 NR R _ _ R2.out.1).mono ?_
                    rintro e w4 ⟨rfl, rfl⟩
                    go_wp2_with fail
                    go_roundg (l.length - (k + 1))
                    case measure => omega
                    case rel => exact ⟨k + 1, hlt, Nat.le_refl _, by go_num, R2.out⟩
                · have hk : stB (0, 4, X, S) = le X 4 := rfl
                  rw [hk] at HD
                  have GC := Lib.hid (get_ok wx.drew NR R _ (some (le X 4 ++ (l.drop (k + 1)).flatMap stB)) 4 (by rw [← HD.out]; exact RXD0.out.1) (by unfold IsSz; omega))
                  rw [get_le.1, get_le.2] at GC
                  obtain ⟨v, hv⟩ : ∃ v, v = X % 256 ^ 4 := ⟨_, rfl⟩
                  rw [← hv] at GC
                  have hvi : (X : Int) % 4294967296 = (v : Int) := by rw [hv]; omega
                  have RXD : Hid (RS W wx.drew NR R (some (le X 4 ++ (l.drop (k + 1)).flatMap stB))) := by
                    have h := RXD0.out
                    rw [HD.out] at h
                    exact h
                  have w8 : IntKind.i64.wrap 32 = 32 := by rw [IntKind.wrap_i64]; rfl
                  clear hv
                  go_upto_region 29 with fail
                  go_region_held (fun w' => w'.cell? ⟨Bk, 0, none⟩ = some (.int .i64 0) ∧ w'.cell? ⟨Bk, 1, none⟩ = some (.int .i64 4) ∧ w'.cell? ⟨Bk, 2, none⟩ = some (.int .u64 (X : Int))) (go_keep) (first | (go_at_call 16; refine GC.out.mono ?_; rintro e w2 ⟨rfl, k1, k2⟩; have R2 : Hid (RS W w2 NR R (some ((l.drop (k + 1)).flatMap stB))) := RXD.out.step k1 k2; have e0 : w2.cell? ⟨Bk, 0, none⟩ = some (.int .i64 0) := (by rw [cell_of_block (KD.out w2 k2)]; rfl); have e1 : w2.cell? ⟨Bk, 1, none⟩ = some (.int .i64 4) := (by rw [cell_of_block (KD.out w2 k2)]; rfl); have e2 : w2.cell? ⟨Bk, 2, none⟩ = some (.int .u64 (X : Int)) := (by rw [cell_of_block (KD.out w2 k2)]; rfl); clear k1 k2))
                  all_goals
                    go_wp2_with fail
                    refine (bad_any w2 NR R _ _ R2.out.1).mono ?_
                    rintro e w4 ⟨rfl, rfl⟩
                    go_wp2_with fail
                    go_roundg (l.length - (k + 1))
                    case measure => omega
                    case rel => exact ⟨k + 1, hlt, Nat.le_refl _, by go_num, R2.out⟩
                · have hk : stB (0, 8, X, S) = le X 8 := rfl
                  rw [hk] at HD
                  have GC := Lib.hid (get_ok wx.drew NR R _ (some (le X 8 ++ (l.drop (k + 1)).flatMap stB)) 8 (by rw [← HD.out]; exact RXD0.out.1) (by unfold IsSz; omega))
                  rw [get_le.1, get_le.2, show X % 256 ^ 8 = X from Nat.mod_eq_of_lt hxx] at GC
                  have RXD : Hid (RS W wx.drew NR R (some (le X 8 ++ (l.drop (k + 1)).flatMap stB))) := by
                    have h := RXD0.out
                    rw [HD.out] at h
                    exact h
                  go_upto_region 31 with fail
                  go_region_held (fun w' => w'.cell? ⟨Bk, 0, none⟩ = some (.int .i64 0) ∧ w'.cell? ⟨Bk, 1, none⟩ = some (.int .i64 8) ∧ w'.cell? ⟨Bk, 2, none⟩ = some (.int .u64 (X : Int))) (go_keep) (first | (go_at_call 16; refine GC.out.mono ?_; rintro e w2 ⟨rfl, k1, k2⟩; have R2 : Hid (RS W w2 NR R (some ((l.drop (k + 1)).flatMap stB))) := RXD.out.step k1 k2; have e0 : w2.cell? ⟨Bk, 0, none⟩ = some (.int .i64 0) := (by rw [cell_of_block (KD.out w2 k2)]; rfl); have e1 : w2.cell? ⟨Bk, 1, none⟩ = some (.int .i64 8) := (by rw [cell_of_block (KD.out w2 k2)]; rfl); have e2 : w2.cell? ⟨Bk, 2, none⟩ = some (.int .u64 (X : Int)) := (by rw [cell_of_block (KD.out w2 k2)]; rfl); clear k1 k2))
                  all_goals
                    go_wp2_with fail
                    refine (bad_any w2 NR R _ _ R2.out.1).mono ?_
                    rintro e w4 ⟨rfl, rfl⟩
                    go_wp2_with fail
                    go_roundg (l.length - (k + 1))
                    case measure => omega
                    case rel => exact ⟨k + 1, hlt, Nat.le_refl _, by go_num, R2.out⟩
              · have hk : stB (0, nn, X, S) = [] := by unfold stB; dsimp only; rw [if_pos rfl, if_neg (by omega)]
                have h1 : (nn == 1) = false := beq_eq_false_iff_ne.2 (by omega)
                have h2 : (nn == 2) = false := beq_eq_false_iff_ne.2 (by omega)
                have h4 : (nn == 4) = false := beq_eq_false_iff_ne.2 (by omega)
                have h8 : (nn == 8) = false := beq_eq_false_iff_ne.2 (by omega)
                rw [hk, List.nil_append] at HD
                have R2 : Hid (RS W wx NR R (some ((l.drop (k + 1)).flatMap stB))) := by
                  have h := RX.out
                  rw [HD.out] at h
                  exact h
                clear hv hk
                go_wp2_with fail
                refine (bad_any wx NR R _ _ R2.out.1).mono ?_
                rintro e w4 ⟨rfl, rfl⟩
                go_wp2_with fail
                go_roundg (l.length - (k + 1))
                case measure => omega
                case rel => exact ⟨k + 1, hlt, Nat.le_refl _, by go_num, R2.out⟩
            · by_cases hk1 : kd = 1
              · subst hk1
                have hk : stB (1, nn, X, S) = le X 8 := rfl
                rw [hk] at HD
                have cv := wrap_toI hxx
                have GC := Lib.hid (rint_ok wx.drew NR R _ (some (le X 8 ++ (l.drop (k + 1)).flatMap stB)) (by rw [← HD.out]; exact RXD0.out.1))
                have hi : intS (some (le X 8 ++ (l.drop (k + 1)).flatMap stB)) = toI X := by
                  unfold intS
                  rw [get_le.1, show X % 256 ^ 8 = X from Nat.mod_eq_of_lt hxx]
                rw [hi, get_le.2] at GC
                generalize toI X = tx at cv GC
                have RXD : Hid (RS W wx.drew NR R (some (le X 8 ++ (l.drop (k + 1)).flatMap stB))) := by
                  have h := RXD0.out
                  rw [HD.out] at h
                  exact h
                clear hi
                go_upto_region 33 with fail
                go_region_held (fun w' => w'.cell? ⟨Bk, 0, none⟩ = some (.int .i64 1) ∧ w'.cell? ⟨Bk, 1, none⟩ = some (.int .i64 nn) ∧ w'.cell? ⟨Bk, 2, none⟩ = some (.int .u64 (X : Int))) (go_keep) (first | (go_at_call 17; refine GC.out.mono ?_; rintro e w2 ⟨rfl, k1, k2⟩; have R2 : Hid (RS W w2 NR R (some ((l.drop (k + 1)).flatMap stB))) := RXD.out.step k1 k2; have e0 : w2.cell? ⟨Bk, 0, none⟩ = some (.int .i64 1) := (by rw [cell_of_block (KD.out w2 k2)]; rfl); have e1 : w2.cell? ⟨Bk, 1, none⟩ = some (.int .i64 nn) := (by rw [cell_of_block (KD.out w2 k2)]; rfl); have e2 : w2.cell? ⟨Bk, 2, none⟩ = some (.int .u64 (X : Int)) := (by rw [cell_of_block (KD.out w2 k2)]; rfl); clear k1 k2))
                all_goals
                  go_wp2_with fail
                  refine (bad_any w2 NR R _ _ R2.out.1).mono ?_
                  rintro e w4 ⟨rfl, rfl⟩
                  go_wp2_with fail
                  go_roundg (l.length - (k + 1))
                  case measure => omega
                  case rel => exact ⟨k + 1, hlt, Nat.le_refl _, by go_num, R2.out⟩
              · by_cases h255 : S.size ≤ 255
                · have hk : stB (kd, nn, X, S) = txt (cut S) := by unfold stB; dsimp only; rw [if_neg (by omega), if_neg (by omega)]
                  rw [hk] at HD
                  have j0 : (kd == 0) = false := beq_eq_false_iff_ne.2 (by omega)
                  have j1 : (kd == 1) = false := beq_eq_false_iff_ne.2 (by omega)
                  have hz := cut_size S
                  have GC := Lib.hid (rtext_ok wx.drew NR R _ (some (txt (cut S) ++ (l.drop (k + 1)).flatMap stB)) (by rw [← HD.out]; exact RXD0.out.1))
                  rw [(text_txt (by omega)).1, (text_txt (by omega)).2, mk_by] at GC
                  have RXD : Hid (RS W wx.drew NR R (some (txt (cut S) ++ (l.drop (k + 1)).flatMap stB))) := by
                    have h := RXD0.out
                    rw [HD.out] at h
                    exact h
                  have hce := cut_short h255
                  have hmi : ¬ (255 < S.size) := by omega
                  rw [hce] at GC RXD
                  clear hk hk0 hk1 hz hce HD
                  go_upto_region 35 with fail
                  go_region_held (fun w' => w'.cell? ⟨Bk, 0, none⟩ = some (.int .i64 kd) ∧ w'.cell? ⟨Bk, 1, none⟩ = some (.int .i64 nn) ∧ w'.cell? ⟨Bk, 3, none⟩ = some (.string S)) (go_keep) (first | (go_at_call 18; refine GC.out.mono ?_; rintro e w2 ⟨rfl, k1, k2⟩; have R2 : Hid (RS W w2 NR R (some ((l.drop (k + 1)).flatMap stB))) := RXD.out.step k1 k2; have e0 : w2.cell? ⟨Bk, 0, none⟩ = some (.int .i64 kd) := (by rw [cell_of_block (KD.out w2 k2)]; rfl); have e1 : w2.cell? ⟨Bk, 1, none⟩ = some (.int .i64 nn) := (by rw [cell_of_block (KD.out w2 k2)]; rfl); have e3 : w2.cell? ⟨Bk, 3, none⟩ = some (.string S) := (by rw [cell_of_block (KD.out w2 k2)]; rfl); clear k1 k2))
                  all_goals
                    go_wp2_with fail
                    refine (bad_any w2 NR R _ _ R2.out.1).mono ?_
                    rintro e w4 ⟨rfl, rfl⟩
                    go_wp2_with fail
                    go_roundg (l.length - (k + 1))
                    case measure => omega
                    case rel => exact ⟨k + 1, hlt, Nat.le_refl _, by go_num, R2.out⟩
                · have hk : stB (kd, nn, X, S) = txt (cut S) := by unfold stB; dsimp only; rw [if_neg (by omega), if_neg (by omega)]
                  rw [hk] at HD
                  have j0 : (kd == 0) = false := beq_eq_false_iff_ne.2 (by omega)
                  have j1 : (kd == 1) = false := beq_eq_false_iff_ne.2 (by omega)
                  have hz := cut_size S
                  have GC := Lib.hid (rtext_ok wx.drew NR R _ (some (txt (cut S) ++ (l.drop (k + 1)).flatMap stB)) (by rw [← HD.out]; exact RXD0.out.1))
                  rw [(text_txt (by omega)).1, (text_txt (by omega)).2, mk_by] at GC
                  have RXD : Hid (RS W wx.drew NR R (some (txt (cut S) ++ (l.drop (k + 1)).flatMap stB))) := by
                    have h := RXD0.out
                    rw [HD.out] at h
                    exact h
                  have hce := cut_extract S
                  have hmi : 255 < S.size := by omega
                  clear hk hk0 hk1 hz HD
                  generalize cut S = t at *
                  go_upto_region 35 with fail
                  go_region_held (fun w' => w'.cell? ⟨Bk, 0, none⟩ = some (.int .i64 kd) ∧ w'.cell? ⟨Bk, 1, none⟩ = some (.int .i64 nn) ∧ w'.cell? ⟨Bk, 3, none⟩ = some (.string S)) (go_keep) (first | (go_at_call 18; refine GC.out.mono ?_; rintro e w2 ⟨rfl, k1, k2⟩; have R2 : Hid (RS W w2 NR R (some ((l.drop (k + 1)).flatMap stB))) := RXD.out.step k1 k2; have e0 : w2.cell? ⟨Bk, 0, none⟩ = some (.int .i64 kd) := (by rw [cell_of_block (KD.out w2 k2)]; rfl); have e1 : w2.cell? ⟨Bk, 1, none⟩ = some (.int .i64 nn) := (by rw [cell_of_block (KD.out w2 k2)]; rfl); have e3 : w2.cell? ⟨Bk, 3, none⟩ = some (.string S) := (by rw [cell_of_block (KD.out w2 k2)]; rfl); clear k1 k2))
                  all_goals
                    go_wp2_with fail
                    refine (bad_any w2 NR R _ _ R2.out.1).mono ?_
                    rintro e w4 ⟨rfl, rfl⟩
                    go_wp2_with fail
                    go_roundg (l.length - (k + 1))
                    case measure => omega
                    case rel => exact ⟨k + 1, hlt, Nat.le_refl _, by go_num, R2.out⟩
          · obtain rfl : k = l.length := by omega
            have R5 : Hid (RS W wr NR R (some [])) := by
              have h := HS.out
              rw [List.drop_length, List.flatMap_nil] at h
              exact h
            clear HS
            go_wp2_with fail
            refine (end_any wr NR R _ _ R5.out.1).mono ?_
            rintro e w5 ⟨rfl, rfl⟩
            go_wp2_with fail
            refine (left_any wr NR R _ _ R5.out.1).mono ?_
            rintro e w6 ⟨rfl, rfl⟩
            go_wp2
            go_ret
            exact ⟨rfl, R5.out.2.2.2.2.2⟩


end Go.Proofs.Ytlajiochpdlhaaa.octetWrites
