/- Proved here: the law StorePlays of layer 8 holds for every input: whatever is created, updated and deleted, each answer, all objects, and all events since any version, are what the document says; a copy goes on by itself. No conditions. -/
import Derived.Test.YtbagicilmmkdhaaGreatStO
import Derived.Test.YtbagicilmmkdhaaGreatLsB
import Derived.Test.YtbagicilmmkdhaaGreatVLawBase
namespace Go.Proofs.YtbagicilmmkdhaaGreat.storePlays
open Go.ChangeShapes Go.WideShapes Go.ChangeAt Go.RowKit Go.Lib Go.Shelf Go.Sort Go.Deep
open Go.Joins (cell_of_block unfrozen_of_block block_setCell)
set_option linter.unusedVariables false
set_option linter.unusedSimpArgs false
set_option maxRecDepth 20000

theorem okA.below {W w : World} {x : Acv} (h : okA W x) (b : Below W.heap.size W w) : okA w x := ⟨h.1.below b, h.2.1, h.2.2⟩
/-- A row of acts that came in. -/
structure Acts (W : World) (q : Option Addr) (l : List Acv) : Prop where
  row : RowR 49 encA W q l
  ok : ∀ x ∈ l, okA W x
  len : l.length ≤ 140737488351232
theorem Acts.few {W w : World} {q : Option Addr} {l : List Acv} (h : Acts W q l) (c : Nat) (b : Below W.heap.size W w) : Calls Tryz.prog 6 #[.slice q l.length c] w fun e w' => e = .returned (.bool (fewA l)) ∧ Below w.heap.size w w' :=
  few_acts w q c l (h.row.below b) (fun x hx => okA.below (h.ok x hx) b) h.len
theorem Acts.at {W : World} {q : Option Addr} {l : List Acv} (h : Acts W q l) (hf : fewA l = true) {j : Nat} (hj : j < l.length) : ∃ x b off, l[j]? = some x ∧ q = some ⟨b, off, none⟩ ∧ okA W x ∧ fewB x.2.2.2 = true ∧ (∀ w, Below W.heap.size W w → (Instr.loadAt AcT (.pointer (some ⟨b, off + j * 49, none⟩))).run Tryz.prog w = .ok (.agg (cellsA x)) w) := by
  obtain ⟨x, hx⟩ : ∃ x, l[j]? = some x := ⟨l[j], List.getElem?_eq_getElem hj⟩
  obtain ⟨b, off, rfl, h1, h2⟩ := h.row j x hx
  unfold fewA at hf
  simp only [Bool.and_eq_true] at hf
  have := List.all_eq_true.1 hf.1 x (List.mem_of_getElem? hx)
  simp only [Bool.and_eq_true] at this
  exact ⟨x, b, off, hx, rfl, h.ok x (List.mem_of_getElem? hx), this.1, fun w g => load_act (rangeAt_below (fun t v hv => h2 t v hv) g h1)⟩
theorem few_len {l : List Acv} (hf : fewA l = true) : l.length ≤ 60 := by
  unfold fewA at hf
  simp only [Bool.and_eq_true, decide_eq_true_eq] at hf
  exact hf.2


set_option maxHeartbeats 16000000 in
theorem walk_at (W : World) (most : Int) (q0 : Option Addr) (c0 : Nat) (a0 : List Acv) (A0 : Acts W q0 a0) (q1 : Option Addr) (c1 : Nat) (a1 : List Acv) (A1 : Acts W q1 a1) (since : Nat) (hsi : since < 18446744073709551616) :
    Calls Tryz.prog 3 #[.int .i64 most, .slice q0 a0.length c0, .slice q1 a1.length c1, .int .u64 (since : Int)] W fun e W' => e = .returned (.bool true) ∧ Below W.heap.size W W' := by
  have mixed : Tryz.prog.follows .mixedOrders = true := by kernel_rfl
  have V := Lib.hid lives_any
  obtain ⟨n0, hn0⟩ : ∃ n, n = a0.length := ⟨_, rfl⟩
  obtain ⟨n1, hn1⟩ : ∃ n, n = a1.length := ⟨_, rfl⟩
  have F0 := Lib.hid (fun (w : World) (b : Below W.heap.size W w) => A0.few c0 b)
  have F1 := Lib.hid (fun (w : World) (b : Below W.heap.size W w) => A1.few c1 b)
  rw [← hn0] at F0 ⊢
  rw [← hn1] at F1 ⊢
  have HH := Lib.hid (And.intro A0 (And.intro A1 (And.intro hn0 hn1)))
  clear A0 A1 hn0 hn1
  obtain ⟨f0, hf0⟩ : ∃ f, f = fewA a0 := ⟨_, rfl⟩
  obtain ⟨f1, hf1⟩ : ∃ f, f = fewA a1 := ⟨_, rfl⟩
  rw [← hf0] at F0
  rw [← hf1] at F1
  have HF : Hid (f0 = fewA a0 ∧ f1 = fewA a1) := ⟨hf0, hf1⟩
  clear hf0 hf1
  go_enter Tryz.func3, Tryz.ntmps3
  go_wp2_with fail
  refine (V.out _).mono ?_
  rintro e w1 ⟨rfl, b1⟩
  have B1 := Lib.hid b1
  clear b1
  go_wp2_with fail
  refine (F0.out _ B1.out).mono ?_
  rintro e w2 ⟨rfl, b2⟩
  have B2 : Hid (Below W.heap.size W w2) := B1.out.trans (b2.mono B1.out.size)
  clear b2 B1
  cases f0 with
  | false =>
    go_wp2_with fail
    refine (V.out _).mono ?_
    rintro e w3 ⟨rfl, b3⟩
    have B3 : Hid (Below W.heap.size W w3) := B2.out.trans (b3.mono B2.out.size)
    clear b3
    go_wp2
    go_ret
    exact ⟨rfl, B3.out⟩
  | true =>
    go_wp2_with fail
    refine (F1.out _ B2.out).mono ?_
    rintro e w3 ⟨rfl, b3⟩
    have B3 : Hid (Below W.heap.size W w3) := B2.out.trans (b3.mono B2.out.size)
    clear b3 B2
    cases f1 with
    | false =>
      go_wp2_with fail
      refine (V.out _).mono ?_
      rintro e w4 ⟨rfl, b4⟩
      have B4 : Hid (Below W.heap.size W w4) := B3.out.trans (b4.mono B3.out.size)
      clear b4
      go_wp2
      go_ret
      exact ⟨rfl, B4.out⟩
    | true =>
      by_cases hm : most < 1 ∨ 512 < most
      · have CN := Lib.hid (new_bad w3 most hm)
        go_wp2_with fail
        refine CN.out.mono ?_
        rintro e w4 ⟨rfl, g4⟩
        have B4 : Hid (Below W.heap.size W w4) := B3.out.trans (g4.below.mono B3.out.size)
        clear g4 CN F0 F1
        by_cases h1 : most < 1
        · have t : decide (most < 1) = true := decide_eq_true h1
          go_wp2
          go_ret
          exact ⟨rfl, B4.out⟩
        · have t : decide (most < 1) = false := decide_eq_false h1
          have t2 : decide (512 < most) = true := decide_eq_true (by omega)
          clear hm
          go_wp2
          go_ret
          exact ⟨rfl, B4.out⟩
      · have hm1 : 1 ≤ most := by omega
        have hm2 : most ≤ 512 := by omega
        have CN := Lib.hid (new_any W.heap.size w3 most hm1 hm2 B3.out.size)
        have t : decide (most < 1) = false := decide_eq_false (by omega)
        have t2 : decide (512 < most) = false := decide_eq_false (by omega)
        clear hm hm1 hm2
        go_wp2_with fail
        refine CN.out.mono ?_
        rintro e w4 ⟨⟨S, sp, rfl, st, hS⟩, b4⟩
        have B4 : Below W.heap.size W w4 := B3.out.trans (b4.mono B3.out.size)
        obtain ⟨mp, hmp⟩ : ∃ m, m = w4.heap.size := ⟨_, rfl⟩
        obtain ⟨w5, hw5⟩ : ∃ x, x = w4.alloc (.cells #[.slice none 0 0, .int .u64 0, .slice none 0 0] MoT) := ⟨_, rfl⟩
        have R5 : Hid (Run W.heap.size W w5 sp mp most none [] [] [] [] 0 0) := by
          have := Run.made rfl st B4
          rw [← hw5, ← hmp] at this
          exact this
        have HW5 : Hid (w4.alloc (.cells #[.slice none 0 0, .int .u64 0, .slice none 0 0] MoT) = w5 ∧ w4.heap.size = mp) := ⟨hw5.symm, hmp.symm⟩
        have N0 : Hid (n0 ≤ 60 ∧ n1 ≤ 60) := ⟨by rw [HH.out.2.2.1]; exact few_len HF.out.1.symm, by rw [HH.out.2.2.2]; exact few_len HF.out.2.symm⟩
        obtain ⟨hz0, hz1⟩ := N0.out
        clear st hS b4 B4 hmp hw5 CN F0 F1 B3 V N0
        go_upto_region 7 with fail
        rw [HW5.out.1, HW5.out.2]
        clear HW5 t t2
        go_wp2_with fail
        go_loopg [56] n0 (fun g vi wr => ∃ j : Nat, vi = .int .i64 (j : Int) ∧ j ≤ n0 ∧ n0 - j ≤ g ∧ Hid (∃ l hist, Run W.heap.size W wr sp mp most none [] [] l hist j 0))
        case atStart => exact ⟨0, rfl, Nat.zero_le _, by omega, ⟨[], [], R5.out⟩⟩
        case round =>
          obtain ⟨j, rfl, h1, h2, HR⟩ := hrel
          by_cases hlt : j < n0
          · obtain ⟨l, hist, R⟩ := HR.out
            obtain ⟨A0, A1, hn0, hn1⟩ := HH.out
            obtain ⟨x, b, off, hx, rfl, hok, hfw, LX⟩ := A0.at HF.out.1.symm (j := j) (by omega)
            have LD := Lib.hid (LX wr R.low)
            obtain ⟨X, hX⟩ : ∃ X, X = cellsA x := ⟨_, rfl⟩
            rw [← hX] at LD
            have hXs : X.size = 49 := by rw [hX]; exact sizeA x
            obtain ⟨th, n0', b3⟩ := act_new wr X hXs
            obtain ⟨w3, hw3⟩ : ∃ W, W = (wr.alloc (.cells zerA AcT)).setCells wr.heap.size 0 X.toList := ⟨_, rfl⟩
            obtain ⟨A, hA⟩ : ∃ A, A = wr.heap.size := ⟨_, rfl⟩
            rw [← hw3] at n0' b3
            rw [← hA] at n0'
            have TH := Lib.hid th
            have IN : Hid ((Tryz.prog.info? AcT).map (·.size) = some X.size) := by show _ = _; rw [hXs]; exact info_act
            have ON : Hid (X.all (·.oneCell') = true) := by show _ = _; rw [hX]; exact oneA x
            have HW3 : Hid ((wr.alloc (.cells zerA AcT)).setCells wr.heap.size 0 X.toList = w3 ∧ wr.heap.size = A) := ⟨hw3.symm, hA.symm⟩
            have LB : Hid ((Instr.loadAt AcT (.pointer (some ⟨A, 0, none⟩))).run Tryz.prog w3 = .ok (.agg X) w3) := by
              rw [hX] at n0' ⊢
              exact load_act (rangeAt_block n0')
            have CD := Lib.hid ((R.gr b3).act rfl (by simp; omega) (by omega) x hok hfw)
            rw [← hX] at CD
            clear R A0 A1 hn0 hn1 hx hok hfw LX hX hXs th n0' b3 hw3 hA HR
            go_upto_region 10 with (first | (refine wpList_load_by (by kernel_rfl) AcT _ rfl (.pointer (some ⟨b, off + j * 49, none⟩)) (.agg X) (by rfl) LD.out ?_) | (refine wpList_store_mid rfl _ _ _ rfl wr.heap.size 0 X (by rfl) (by rfl) TH.out IN.out ON.out ?_; rw [HW3.out.1, HW3.out.2]))
            go_wp2_with (refine wpList_load_by (by kernel_rfl) AcT _ rfl (.pointer (some ⟨A, 0, none⟩)) (.agg X) (by kernel_rfl) LB.out ?_)
            refine CD.out.mono ?_
            rintro e w4 ⟨rfl, l', hist', R'⟩
            have RH : Hid (∃ l hist, Run W.heap.size W w4 sp mp most none [] [] l hist (j + 1) 0) := ⟨l', hist', R'⟩
            clear R' CD LD LB TH IN ON HW3
            go_wp2
            go_roundg (n0 - (j + 1))
            case measure => omega
            case rel => exact ⟨j + 1, by push_cast; rfl, by omega, by omega, RH⟩
          · obtain ⟨l, hist, R⟩ := HR.out
            have hj : j = n0 := by omega
            subst hj
            have hhl : hist.length ≤ j := by have := R.hist; simp at this; exact this
            have hll : l.length ≤ j := by have := R.few; omega
            obtain ⟨S, T, sys, _⟩ := R.sys
            have CC := Lib.hid (copy_any W.heap.size wr S sp most l hist sys.st (by omega))
            have HS := Lib.hid (And.intro sys (And.intro R.low (And.intro hhl hll)))
            clear R HR R5 sys hhl hll h1 h2 hlt
            go_upto_region 13 with fail
            go_wp2_with fail
            refine CC.out.mono ?_
            rintro e w6 ⟨⟨cp, S2, rfl, st2, hS2⟩, b6⟩
            obtain ⟨sys, low, hhl, hll⟩ := HS.out
            have sys6 := sys.gr b6
            obtain ⟨lv, mev, csl, hm⟩ := sys6.mo
            obtain ⟨ql, cl, hlv⟩ := own_slice hm.row
            obtain ⟨qe, ce, hme⟩ := own_slice hm.evs
            subst hlv hme
            obtain ⟨L, hL⟩ : ∃ L, L = csl.length := ⟨_, rfl⟩
            obtain ⟨H, hH⟩ : ∃ L, L = hist.length := ⟨_, rfl⟩
            obtain ⟨N0, hN0⟩ : ∃ N, N = w6.heap.size := ⟨_, rfl⟩
            have mblk := hm.blk
            have row := hm.row
            have evs := hm.evs
            rw [← hL, ← hH] at mblk
            rw [← hL] at row
            rw [← hH] at evs
            have hmpl : mp < w6.heap.size := (Array.getElem?_eq_some_iff.1 mblk).1
            have K0 : Hid (∀ ws : World, Below N0 w6 ws → ws.cell? ⟨mp, 0, none⟩ = some (.slice ql L cl)) := fun ws b => (World.cell?_of_block (b.block mp (by omega))).trans (cell_of_block mblk 0)
            have K1 : Hid (∀ ws : World, Below N0 w6 ws → ws.cell? ⟨mp, 1, none⟩ = some (.int .u64 (H : Int))) := fun ws b => (World.cell?_of_block (b.block mp (by omega))).trans (cell_of_block mblk 1)
            have K2 : Hid (∀ ws : World, Below N0 w6 ws → ws.cell? ⟨mp, 2, none⟩ = some (.slice qe H ce)) := fun ws b => (World.cell?_of_block (b.block mp (by omega))).trans (cell_of_block mblk 2)
            have OWL : Hid (∀ ws : World, Below N0 w6 ws → ws.ownsRow W.heap.size OT 47 (.slice ql L cl) L (flat encC csl)) := fun ws b => own_stays row (fun g _ hg => b.block g (by omega))
            have OWE : Hid (∀ ws : World, Below N0 w6 ws → ws.ownsRow W.heap.size ET 4 (.slice qe H ce) H (flat encE hist)) := fun ws b => own_stays evs (fun g _ hg => b.block g (by omega))
            have AL : Hid (∀ (v : World) (o : Obj), Below N0 w6 v → Below N0 w6 (v.alloc o)) := fun v o b => b.alloc (by rw [hN0]; exact b.size) _
            have S0 : Hid (Below N0 w6 w6.drew) := by show Below N0 w6 w6.drew; rw [hN0]; exact ((Gr.refl w6).drewN 1).below
            have hL6 : L ≤ 1000000 := by rw [hL, hm.len]; omega
            have hH6 : H ≤ 1000000 := by omega
            obtain ⟨by47, hinfO, hby47⟩ := info_OT
            have hinfE : (Tryz.prog.info? ET).map (fun i => (i.zero, i.size, i.bytes)) = some (some (.agg #[.int .i64 0, .int .i64 0, .string ⟨#[]⟩, .int .u64 0]), 4, 40) := by kernel_rfl
            have HSZ : N0 ≤ w6.heap.size := by omega
            have H6 := Lib.hid (And.intro hN0 (And.intro hL (And.intro hH (And.intro hm (And.intro b6 (And.intro st2 (And.intro hS2 (And.intro hmpl HSZ))))))))
            clear sys low hhl hll sys6 hm mblk row evs hmpl hL hH hN0 b6 st2 hS2 CC
            go_upto_region 14 with fail
            go_cut [15] from 69 to 86 (fun v wc => ∃ (np : Nat) (q5 : Option Addr) (c5 : Nat) (q15 : Option Addr) (c15 : Nat), v = .pointer (some ⟨np, 0, none⟩) ∧ Hid (wc.heap[np]? = some (.cells (moC (.slice q5 L c5) H (.slice q15 H c15)) MoT (0, 0)) ∧ wc.ownsRow N0 OT 47 (.slice q5 L c5) L (flat encC csl) ∧ wc.ownsRow N0 ET 4 (.slice q15 H c15) H (flat encE hist) ∧ N0 ≤ np ∧ Below N0 w6 wc))
            case first =>
              refine wp_region_held_drew (S := fun ws => Below N0 w6 ws) mixed S0.out (fun hS => ?_)
              refine wpAnyH_takeD (i := 1) (d := 70) (v := .pointer (some ⟨mp, 0, none⟩)) _ rfl rfl (by kernel_rfl) (by kernel_rfl) (by kernel_rfl) (fun _ _ _ h => h) (Or.inl ⟨by kernel_rfl, fun ws hSw => by first | (go_simp; done) | (go_simp; with_reducible rfl) | (go_simp; rfl)⟩) hS ?_
              simp only [Act.put, List.setIfInBounds_toArray, List.set_cons_zero, List.set_cons_succ]
              refine wpAnyH_takeD (i := 2) (d := 71) (v := .pointer (some ⟨mp, 0, none⟩)) _ rfl rfl (by kernel_rfl) (by kernel_rfl) (by kernel_rfl) (fun _ _ _ h => h) (Or.inl ⟨by kernel_rfl, fun ws hSw => by first | (go_simp; done) | (go_simp; with_reducible rfl) | (go_simp; rfl)⟩) hS ?_
              simp only [Act.put, List.setIfInBounds_toArray, List.set_cons_zero, List.set_cons_succ]
              refine wpAnyH_takeD (i := 3) (d := 72) (v := .pointer (some ⟨mp, 0, none⟩)) _ rfl rfl (by kernel_rfl) (by kernel_rfl) (by kernel_rfl) (fun _ _ _ h => h) (Or.inl ⟨by kernel_rfl, fun ws hSw => by first | (go_simp; done) | (go_simp; with_reducible rfl) | (go_simp; rfl)⟩) hS ?_
              simp only [Act.put, List.setIfInBounds_toArray, List.set_cons_zero, List.set_cons_succ]
              refine wpAnyH_takeD (i := 4) (d := 73) (v := .slice ql L cl) _ rfl rfl (by kernel_rfl) (by kernel_rfl) (by kernel_rfl) (fun _ _ _ h => h) (Or.inl ⟨by kernel_rfl, fun ws hSw => by have q := K0.out ws hSw; first | (go_simp; done) | (go_simp; with_reducible rfl) | (go_simp; rfl)⟩) hS ?_
              simp only [Act.put, List.setIfInBounds_toArray, List.set_cons_zero, List.set_cons_succ]
              refine wpAnyH_takeD (i := 6) (d := 75) (v := .pointer (some ⟨mp, 0, none⟩)) _ rfl rfl (by kernel_rfl) (by kernel_rfl) (by kernel_rfl) (fun _ _ _ h => h) (Or.inl ⟨by kernel_rfl, fun ws hSw => by first | (go_simp; done) | (go_simp; with_reducible rfl) | (go_simp; rfl)⟩) hS ?_
              simp only [Act.put, List.setIfInBounds_toArray, List.set_cons_zero, List.set_cons_succ]
              refine wpAnyH_takeD (i := 7) (d := 76) (v := .pointer (some ⟨mp, 0, none⟩)) _ rfl rfl (by kernel_rfl) (by kernel_rfl) (by kernel_rfl) (fun _ _ _ h => h) (Or.inl ⟨by kernel_rfl, fun ws hSw => by first | (go_simp; done) | (go_simp; with_reducible rfl) | (go_simp; rfl)⟩) hS ?_
              simp only [Act.put, List.setIfInBounds_toArray, List.set_cons_zero, List.set_cons_succ]
              refine wpAnyH_takeD (i := 8) (d := 77) (v := .pointer (some ⟨mp, 1, none⟩)) _ rfl rfl (by kernel_rfl) (by kernel_rfl) (by kernel_rfl) (fun _ _ _ h => h) (Or.inl ⟨by kernel_rfl, fun ws hSw => by first | (go_simp; done) | (go_simp; with_reducible rfl) | (go_simp; rfl)⟩) hS ?_
              simp only [Act.put, List.setIfInBounds_toArray, List.set_cons_zero, List.set_cons_succ]
              refine wpAnyH_takeD (i := 9) (d := 78) (v := .int .u64 (H : Int)) _ rfl rfl (by kernel_rfl) (by kernel_rfl) (by kernel_rfl) (fun _ _ _ h => h) (Or.inl ⟨by kernel_rfl, fun ws hSw => by have q := K1.out ws hSw; first | (go_simp; done) | (go_simp; with_reducible rfl) | (go_simp; rfl)⟩) hS ?_
              simp only [Act.put, List.setIfInBounds_toArray, List.set_cons_zero, List.set_cons_succ]
              refine wpAnyH_takeD (i := 11) (d := 80) (v := .pointer (some ⟨mp, 0, none⟩)) _ rfl rfl (by kernel_rfl) (by kernel_rfl) (by kernel_rfl) (fun _ _ _ h => h) (Or.inl ⟨by kernel_rfl, fun ws hSw => by first | (go_simp; done) | (go_simp; with_reducible rfl) | (go_simp; rfl)⟩) hS ?_
              simp only [Act.put, List.setIfInBounds_toArray, List.set_cons_zero, List.set_cons_succ]
              refine wpAnyH_takeD (i := 12) (d := 81) (v := .pointer (some ⟨mp, 0, none⟩)) _ rfl rfl (by kernel_rfl) (by kernel_rfl) (by kernel_rfl) (fun _ _ _ h => h) (Or.inl ⟨by kernel_rfl, fun ws hSw => by first | (go_simp; done) | (go_simp; with_reducible rfl) | (go_simp; rfl)⟩) hS ?_
              simp only [Act.put, List.setIfInBounds_toArray, List.set_cons_zero, List.set_cons_succ]
              refine wpAnyH_takeD (i := 13) (d := 82) (v := .pointer (some ⟨mp, 2, none⟩)) _ rfl rfl (by kernel_rfl) (by kernel_rfl) (by kernel_rfl) (fun _ _ _ h => h) (Or.inl ⟨by kernel_rfl, fun ws hSw => by first | (go_simp; done) | (go_simp; with_reducible rfl) | (go_simp; rfl)⟩) hS ?_
              simp only [Act.put, List.setIfInBounds_toArray, List.set_cons_zero, List.set_cons_succ]
              refine wpAnyH_takeD (i := 14) (d := 83) (v := .slice qe H ce) _ rfl rfl (by kernel_rfl) (by kernel_rfl) (by kernel_rfl) (fun _ _ _ h => h) (Or.inl ⟨by kernel_rfl, fun ws hSw => by have q := K2.out ws hSw; first | (go_simp; done) | (go_simp; with_reducible rfl) | (go_simp; rfl)⟩) hS ?_
              simp only [Act.put, List.setIfInBounds_toArray, List.set_cons_zero, List.set_cons_succ]
              refine wpAnyH_ready (rs := [0, 10]) (by kernel_rfl) (by simp) ?_
              refine AllReadyH.cons rfl (fun K hK => ?_) (AllReadyH.cons rfl (fun K hK => ?_) AllReadyH.nil)
              · skip
                go_simp
                refine hK _ _ (AL.out _ _ hS) (fun hS => ?_)
                try simp only [Act.put, List.setIfInBounds_toArray, List.set_cons_zero, List.set_cons_succ]
                obtain ⟨v1, hv1⟩ : ∃ x, x = (w6.alloc (.cells #[] OT)).drew := ⟨_, rfl⟩
                rw [← hv1] at hS ⊢
                obtain ⟨E0, hE0⟩ : ∃ x, x = w6.heap.size := ⟨_, rfl⟩
                have e0n : v1.heap[E0]? = some (.cells #[] OT (0, 0)) := by rw [hv1, hE0]; exact heap_alloc_new w6 _
                have grv1 : Gr w6 v1 := by rw [hv1]; exact ((Gr.refl w6).alloc _).drewN 1
                have nE0 : N0 ≤ E0 := by rw [hE0]; exact HSZ
                have HSZn : N0 ≤ v1.heap.size := Nat.le_trans HSZ grv1.below.size
                rw [← hE0]
                clear HSZ hv1 hE0 grv1 
                have e0n' := e0n
                clear e0n
                have e0 := e0n'
                clear e0n'
                have HSZ := HSZn
                clear HSZn
                refine wpAnyH_ready (rs := [5, 10]) (by kernel_rfl) (by simp) ?_
                refine AllReadyH.cons rfl (fun K hK => ?_) (AllReadyH.cons rfl (fun K hK => ?_) AllReadyH.nil)
                · skip
                  refine step_copy (by rfl) _ _ SlO OT rfl (.agg zerC) 47 by47 Tryz.underlying31 hinfO rfl (by decide) hby47 N0 E0 (by rfl) e0 nE0 W.heap.size L ql cl (flat encC csl) (by rfl) (OWL.out _ hS) (flat_one oneC csl) hL6 ?_
                  intro u v2 o5n cv2
                  obtain ⟨q5, c5, rfl⟩ := own_slice o5n
                  have hSn : Below N0 w6 v2 := hS.trans (cv2.below (fun g hg => by rw [List.mem_singleton] at hg; omega) HSZ)
                  have HSZn : N0 ≤ v2.heap.size := Nat.le_trans HSZ cv2.size
                  clear cv2 hS HSZ e0
                  have o5 := o5n
                  clear o5n
                  have HSZ := HSZn
                  clear HSZn
                  refine hK _ _ hSn (fun hS => ?_)
                  clear hSn
                  try simp only [Act.put, List.setIfInBounds_toArray, List.set_cons_zero, List.set_cons_succ]
                  refine wpAnyH_ready (rs := [10]) (by kernel_rfl) (by simp) ?_
                  refine AllReadyH.cons rfl (fun K hK => ?_) AllReadyH.nil
                  go_simp
                  refine hK _ _ (AL.out _ _ hS) (fun hS => ?_)
                  try simp only [Act.put, List.setIfInBounds_toArray, List.set_cons_zero, List.set_cons_succ]
                  obtain ⟨v3, hv3⟩ : ∃ x, x = v2.alloc (.cells #[] ET) := ⟨_, rfl⟩
                  rw [← hv3] at hS ⊢
                  obtain ⟨E1, hE1⟩ : ∃ x, x = v2.heap.size := ⟨_, rfl⟩
                  have e1n : v3.heap[E1]? = some (.cells #[] ET (0, 0)) := by rw [hv3, hE1]; exact heap_alloc_new v2 _
                  have grv3 : Gr v2 v3 := by rw [hv3]; exact (Gr.refl v2).alloc _
                  have nE1 : N0 ≤ E1 := by rw [hE1]; exact HSZ
                  have HSZn : N0 ≤ v3.heap.size := Nat.le_trans HSZ grv3.below.size
                  have o5n := own_stays o5 (fun k _ hk => grv3.heap hk)
                  rw [← hE1]
                  clear HSZ hv3 hE1 grv3 o5
                  have o5n' := o5n
                  have e1n' := e1n
                  clear o5n e1n
                  have o5 := o5n'
                  have e1 := e1n'
                  clear o5n' e1n'
                  have HSZ := HSZn
                  clear HSZn
                  refine wpAnyH_ready (rs := [15]) (by kernel_rfl) (by simp) ?_
                  refine AllReadyH.cons rfl (fun K hK => ?_) AllReadyH.nil
                  refine step_copy (by rfl) _ _ 32 ET rfl (.agg #[.int .i64 0, .int .i64 0, .string ⟨#[]⟩, .int .u64 0]) 4 40 Tryz.underlying32 hinfE rfl (by decide) (by decide) N0 E1 (by rfl) e1 nE1 W.heap.size H qe ce (flat encE hist) (by rfl) (OWE.out _ hS) (flat_one oneE hist) hH6 ?_
                  intro u v4 o15n cv4
                  obtain ⟨q15, c15, rfl⟩ := own_slice o15n
                  have hSn : Below N0 w6 v4 := hS.trans (cv4.below (fun g hg => by rw [List.mem_singleton] at hg; omega) HSZ)
                  have HSZn : N0 ≤ v4.heap.size := Nat.le_trans HSZ cv4.size
                  have o5n := own_block o5 (fun g hg => cv4.block g (World.ownsRow.lt o5 g hg).2 (by rw [List.mem_singleton]; intro e; exact own_ne o5 e1 (by decide) (e ▸ hg)))
                  clear cv4 hS HSZ o5 e1
                  have o5 := o5n
                  have o15 := o15n
                  clear o5n o15n
                  have HSZ := HSZn
                  clear HSZn
                  refine hK _ _ hSn (fun hS => ?_)
                  clear hSn
                  try simp only [Act.put, List.setIfInBounds_toArray, List.set_cons_zero, List.set_cons_succ]
                  refine wpAnyH_takeD (i := 16) (d := 85) (v := .agg #[.slice q5 L c5, .int .u64 (H : Int), .slice q15 H c15]) _ rfl rfl (by kernel_rfl) (by kernel_rfl) (by kernel_rfl) (fun _ _ _ h => h) (Or.inl ⟨by kernel_rfl, fun ws hSw => by first | (go_simp; done) | (go_simp; with_reducible rfl) | (go_simp; rfl)⟩) hS ?_
                  simp only [Act.put, List.setIfInBounds_toArray, List.set_cons_zero, List.set_cons_succ]
                  refine wpAnyH_ready (rs := [17]) (by kernel_rfl) (by simp) ?_
                  refine AllReadyH.cons rfl (fun K hK => ?_) AllReadyH.nil
                  go_simp
                  refine hK _ _ (AL.out _ _ hS) (fun hS => ?_)
                  obtain ⟨wz, hwz⟩ : ∃ x, x = v4.alloc (.cells (moC (.slice q5 L c5) H (.slice q15 H c15)) MoT) := ⟨_, rfl⟩
                  have gz : Gr v4 wz := hwz ▸ (Gr.refl v4).alloc _
                  have bz : wz.heap[v4.heap.size]? = some (.cells (moC (.slice q5 L c5) H (.slice q15 H c15)) MoT (0, 0)) := by rw [hwz]; exact heap_alloc_new v4 _
                  have nz : N0 ≤ v4.heap.size := HSZ
                  have FIN : Hid (wz.heap[v4.heap.size]? = some (.cells (moC (.slice q5 L c5) H (.slice q15 H c15)) MoT (0, 0)) ∧ wz.ownsRow N0 OT 47 (.slice q5 L c5) L (flat encC csl) ∧ wz.ownsRow N0 ET 4 (.slice q15 H c15) H (flat encE hist) ∧ N0 ≤ v4.heap.size ∧ Below N0 w6 wz) := ⟨bz, own_stays o5 (fun k _ hk => gz.heap hk), own_stays o15 (fun k _ hk => gz.heap hk), nz, by rw [hwz]; exact hS⟩
                  clear gz bz nz HSZ o5 o15
                  have HWZ : Hid (v4.alloc (.cells (moC (.slice q5 L c5) H (.slice q15 H c15)) MoT) = wz) := hwz.symm
                  clear hwz
                  try simp only [Act.put, List.setIfInBounds_toArray, List.set_cons_zero, List.set_cons_succ]
                  refine wpAnyH_takeD (i := 18) (d := 15) (v := .pointer (some ⟨v4.heap.size, 0, none⟩)) _ rfl rfl (by kernel_rfl) (by kernel_rfl) (by kernel_rfl) (fun _ _ _ h => h) (Or.inl ⟨by kernel_rfl, fun ws hSw => by first | (go_simp; done) | (go_simp; with_reducible rfl) | (go_simp; rfl)⟩) hS ?_
                  simp only [Act.put, List.setIfInBounds_toArray, List.set_cons_zero, List.set_cons_succ]
                  refine wpAnyH_done (by kernel_rfl) ?_ _
                  go_wp2_with fail
                  go_meet
                  case rel => exact ⟨_, _, _, _, _, rfl, HWZ.out ▸ FIN⟩
                · skip
                  go_simp
                  refine hK _ _ (AL.out _ _ hS) (fun hS => ?_)
                  try simp only [Act.put, List.setIfInBounds_toArray, List.set_cons_zero, List.set_cons_succ]
                  obtain ⟨v5, hv5⟩ : ∃ x, x = v1.alloc (.cells #[] ET) := ⟨_, rfl⟩
                  rw [← hv5] at hS ⊢
                  obtain ⟨E1, hE1⟩ : ∃ x, x = v1.heap.size := ⟨_, rfl⟩
                  have e1n : v5.heap[E1]? = some (.cells #[] ET (0, 0)) := by rw [hv5, hE1]; exact heap_alloc_new v1 _
                  have grv5 : Gr v1 v5 := by rw [hv5]; exact (Gr.refl v1).alloc _
                  have nE1 : N0 ≤ E1 := by rw [hE1]; exact HSZ
                  have HSZn : N0 ≤ v5.heap.size := Nat.le_trans HSZ grv5.below.size
                  have e0n := (grv5.heap (Array.getElem?_eq_some_iff.1 e0).1).trans e0
                  rw [← hE1]
                  clear HSZ hv5 hE1 grv5 e0
                  have e0n' := e0n
                  have e1n' := e1n
                  clear e0n e1n
                  have e0 := e0n'
                  have e1 := e1n'
                  clear e0n' e1n'
                  have HSZ := HSZn
                  clear HSZn
                  refine wpAnyH_ready (rs := [5]) (by kernel_rfl) (by simp) ?_
                  refine AllReadyH.cons rfl (fun K hK => ?_) AllReadyH.nil
                  refine step_copy (by rfl) _ _ SlO OT rfl (.agg zerC) 47 by47 Tryz.underlying31 hinfO rfl (by decide) hby47 N0 E0 (by rfl) e0 nE0 W.heap.size L ql cl (flat encC csl) (by rfl) (OWL.out _ hS) (flat_one oneC csl) hL6 ?_
                  intro u v6 o5n cv6
                  obtain ⟨q5, c5, rfl⟩ := own_slice o5n
                  have hSn : Below N0 w6 v6 := hS.trans (cv6.below (fun g hg => by rw [List.mem_singleton] at hg; omega) HSZ)
                  have HSZn : N0 ≤ v6.heap.size := Nat.le_trans HSZ cv6.size
                  have e1n := (cv6.block E1 (Array.getElem?_eq_some_iff.1 e1).1 (by rw [List.mem_singleton]; intro e; have q := e1; rw [e, e0] at q; injection q with q; injection q with q1 q2; exact absurd q2 (by decide))).trans e1
                  clear cv6 hS HSZ e0 e1
                  have e1 := e1n
                  have o5 := o5n
                  clear e1n o5n
                  have HSZ := HSZn
                  clear HSZn
                  refine hK _ _ hSn (fun hS => ?_)
                  clear hSn
                  try simp only [Act.put, List.setIfInBounds_toArray, List.set_cons_zero, List.set_cons_succ]
                  refine wpAnyH_ready (rs := [15]) (by kernel_rfl) (by simp) ?_
                  refine AllReadyH.cons rfl (fun K hK => ?_) AllReadyH.nil
                  refine step_copy (by rfl) _ _ 32 ET rfl (.agg #[.int .i64 0, .int .i64 0, .string ⟨#[]⟩, .int .u64 0]) 4 40 Tryz.underlying32 hinfE rfl (by decide) (by decide) N0 E1 (by rfl) e1 nE1 W.heap.size H qe ce (flat encE hist) (by rfl) (OWE.out _ hS) (flat_one oneE hist) hH6 ?_
                  intro u v7 o15n cv7
                  obtain ⟨q15, c15, rfl⟩ := own_slice o15n
                  have hSn : Below N0 w6 v7 := hS.trans (cv7.below (fun g hg => by rw [List.mem_singleton] at hg; omega) HSZ)
                  have HSZn : N0 ≤ v7.heap.size := Nat.le_trans HSZ cv7.size
                  have o5n := own_block o5 (fun g hg => cv7.block g (World.ownsRow.lt o5 g hg).2 (by rw [List.mem_singleton]; intro e; exact own_ne o5 e1 (by decide) (e ▸ hg)))
                  clear cv7 hS HSZ e1 o5
                  have o5 := o5n
                  have o15 := o15n
                  clear o5n o15n
                  have HSZ := HSZn
                  clear HSZn
                  refine hK _ _ hSn (fun hS => ?_)
                  clear hSn
                  try simp only [Act.put, List.setIfInBounds_toArray, List.set_cons_zero, List.set_cons_succ]
                  refine wpAnyH_takeD (i := 16) (d := 85) (v := .agg #[.slice q5 L c5, .int .u64 (H : Int), .slice q15 H c15]) _ rfl rfl (by kernel_rfl) (by kernel_rfl) (by kernel_rfl) (fun _ _ _ h => h) (Or.inl ⟨by kernel_rfl, fun ws hSw => by first | (go_simp; done) | (go_simp; with_reducible rfl) | (go_simp; rfl)⟩) hS ?_
                  simp only [Act.put, List.setIfInBounds_toArray, List.set_cons_zero, List.set_cons_succ]
                  refine wpAnyH_ready (rs := [17]) (by kernel_rfl) (by simp) ?_
                  refine AllReadyH.cons rfl (fun K hK => ?_) AllReadyH.nil
                  go_simp
                  refine hK _ _ (AL.out _ _ hS) (fun hS => ?_)
                  obtain ⟨wz, hwz⟩ : ∃ x, x = v7.alloc (.cells (moC (.slice q5 L c5) H (.slice q15 H c15)) MoT) := ⟨_, rfl⟩
                  have gz : Gr v7 wz := hwz ▸ (Gr.refl v7).alloc _
                  have bz : wz.heap[v7.heap.size]? = some (.cells (moC (.slice q5 L c5) H (.slice q15 H c15)) MoT (0, 0)) := by rw [hwz]; exact heap_alloc_new v7 _
                  have nz : N0 ≤ v7.heap.size := HSZ
                  have FIN : Hid (wz.heap[v7.heap.size]? = some (.cells (moC (.slice q5 L c5) H (.slice q15 H c15)) MoT (0, 0)) ∧ wz.ownsRow N0 OT 47 (.slice q5 L c5) L (flat encC csl) ∧ wz.ownsRow N0 ET 4 (.slice q15 H c15) H (flat encE hist) ∧ N0 ≤ v7.heap.size ∧ Below N0 w6 wz) := ⟨bz, own_stays o5 (fun k _ hk => gz.heap hk), own_stays o15 (fun k _ hk => gz.heap hk), nz, by rw [hwz]; exact hS⟩
                  clear gz bz nz HSZ o5 o15
                  have HWZ : Hid (v7.alloc (.cells (moC (.slice q5 L c5) H (.slice q15 H c15)) MoT) = wz) := hwz.symm
                  clear hwz
                  try simp only [Act.put, List.setIfInBounds_toArray, List.set_cons_zero, List.set_cons_succ]
                  refine wpAnyH_takeD (i := 18) (d := 15) (v := .pointer (some ⟨v7.heap.size, 0, none⟩)) _ rfl rfl (by kernel_rfl) (by kernel_rfl) (by kernel_rfl) (fun _ _ _ h => h) (Or.inl ⟨by kernel_rfl, fun ws hSw => by first | (go_simp; done) | (go_simp; with_reducible rfl) | (go_simp; rfl)⟩) hS ?_
                  simp only [Act.put, List.setIfInBounds_toArray, List.set_cons_zero, List.set_cons_succ]
                  refine wpAnyH_done (by kernel_rfl) ?_ _
                  go_wp2_with fail
                  go_meet
                  case rel => exact ⟨_, _, _, _, _, rfl, HWZ.out ▸ FIN⟩
              · skip
                go_simp
                refine hK _ _ (AL.out _ _ hS) (fun hS => ?_)
                try simp only [Act.put, List.setIfInBounds_toArray, List.set_cons_zero, List.set_cons_succ]
                obtain ⟨v8, hv8⟩ : ∃ x, x = (w6.alloc (.cells #[] ET)).drew := ⟨_, rfl⟩
                rw [← hv8] at hS ⊢
                obtain ⟨E1, hE1⟩ : ∃ x, x = w6.heap.size := ⟨_, rfl⟩
                have e1n : v8.heap[E1]? = some (.cells #[] ET (0, 0)) := by rw [hv8, hE1]; exact heap_alloc_new w6 _
                have grv8 : Gr w6 v8 := by rw [hv8]; exact ((Gr.refl w6).alloc _).drewN 1
                have nE1 : N0 ≤ E1 := by rw [hE1]; exact HSZ
                have HSZn : N0 ≤ v8.heap.size := Nat.le_trans HSZ grv8.below.size
                rw [← hE1]
                clear HSZ hv8 hE1 grv8 
                have e1n' := e1n
                clear e1n
                have e1 := e1n'
                clear e1n'
                have HSZ := HSZn
                clear HSZn
                refine wpAnyH_ready (rs := [0]) (by kernel_rfl) (by simp) ?_
                refine AllReadyH.cons rfl (fun K hK => ?_) AllReadyH.nil
                go_simp
                refine hK _ _ (AL.out _ _ hS) (fun hS => ?_)
                try simp only [Act.put, List.setIfInBounds_toArray, List.set_cons_zero, List.set_cons_succ]
                obtain ⟨v9, hv9⟩ : ∃ x, x = v8.alloc (.cells #[] OT) := ⟨_, rfl⟩
                rw [← hv9] at hS ⊢
                obtain ⟨E0, hE0⟩ : ∃ x, x = v8.heap.size := ⟨_, rfl⟩
                have e0n : v9.heap[E0]? = some (.cells #[] OT (0, 0)) := by rw [hv9, hE0]; exact heap_alloc_new v8 _
                have grv9 : Gr v8 v9 := by rw [hv9]; exact (Gr.refl v8).alloc _
                have nE0 : N0 ≤ E0 := by rw [hE0]; exact HSZ
                have HSZn : N0 ≤ v9.heap.size := Nat.le_trans HSZ grv9.below.size
                have e1n := (grv9.heap (Array.getElem?_eq_some_iff.1 e1).1).trans e1
                rw [← hE0]
                clear HSZ hv9 hE0 grv9 e1
                have e1n' := e1n
                have e0n' := e0n
                clear e1n e0n
                have e1 := e1n'
                have e0 := e0n'
                clear e1n' e0n'
                have HSZ := HSZn
                clear HSZn
                refine wpAnyH_ready (rs := [5]) (by kernel_rfl) (by simp) ?_
                refine AllReadyH.cons rfl (fun K hK => ?_) AllReadyH.nil
                refine step_copy (by rfl) _ _ SlO OT rfl (.agg zerC) 47 by47 Tryz.underlying31 hinfO rfl (by decide) hby47 N0 E0 (by rfl) e0 nE0 W.heap.size L ql cl (flat encC csl) (by rfl) (OWL.out _ hS) (flat_one oneC csl) hL6 ?_
                intro u v10 o5n cv10
                obtain ⟨q5, c5, rfl⟩ := own_slice o5n
                have hSn : Below N0 w6 v10 := hS.trans (cv10.below (fun g hg => by rw [List.mem_singleton] at hg; omega) HSZ)
                have HSZn : N0 ≤ v10.heap.size := Nat.le_trans HSZ cv10.size
                have e1n := (cv10.block E1 (Array.getElem?_eq_some_iff.1 e1).1 (by rw [List.mem_singleton]; intro e; have q := e1; rw [e, e0] at q; injection q with q; injection q with q1 q2; exact absurd q2 (by decide))).trans e1
                clear cv10 hS HSZ e1 e0
                have e1 := e1n
                have o5 := o5n
                clear e1n o5n
                have HSZ := HSZn
                clear HSZn
                refine hK _ _ hSn (fun hS => ?_)
                clear hSn
                try simp only [Act.put, List.setIfInBounds_toArray, List.set_cons_zero, List.set_cons_succ]
                refine wpAnyH_ready (rs := [15]) (by kernel_rfl) (by simp) ?_
                refine AllReadyH.cons rfl (fun K hK => ?_) AllReadyH.nil
                refine step_copy (by rfl) _ _ 32 ET rfl (.agg #[.int .i64 0, .int .i64 0, .string ⟨#[]⟩, .int .u64 0]) 4 40 Tryz.underlying32 hinfE rfl (by decide) (by decide) N0 E1 (by rfl) e1 nE1 W.heap.size H qe ce (flat encE hist) (by rfl) (OWE.out _ hS) (flat_one oneE hist) hH6 ?_
                intro u v11 o15n cv11
                obtain ⟨q15, c15, rfl⟩ := own_slice o15n
                have hSn : Below N0 w6 v11 := hS.trans (cv11.below (fun g hg => by rw [List.mem_singleton] at hg; omega) HSZ)
                have HSZn : N0 ≤ v11.heap.size := Nat.le_trans HSZ cv11.size
                have o5n := own_block o5 (fun g hg => cv11.block g (World.ownsRow.lt o5 g hg).2 (by rw [List.mem_singleton]; intro e; exact own_ne o5 e1 (by decide) (e ▸ hg)))
                clear cv11 hS HSZ e1 o5
                have o5 := o5n
                have o15 := o15n
                clear o5n o15n
                have HSZ := HSZn
                clear HSZn
                refine hK _ _ hSn (fun hS => ?_)
                clear hSn
                try simp only [Act.put, List.setIfInBounds_toArray, List.set_cons_zero, List.set_cons_succ]
                refine wpAnyH_takeD (i := 16) (d := 85) (v := .agg #[.slice q5 L c5, .int .u64 (H : Int), .slice q15 H c15]) _ rfl rfl (by kernel_rfl) (by kernel_rfl) (by kernel_rfl) (fun _ _ _ h => h) (Or.inl ⟨by kernel_rfl, fun ws hSw => by first | (go_simp; done) | (go_simp; with_reducible rfl) | (go_simp; rfl)⟩) hS ?_
                simp only [Act.put, List.setIfInBounds_toArray, List.set_cons_zero, List.set_cons_succ]
                refine wpAnyH_ready (rs := [17]) (by kernel_rfl) (by simp) ?_
                refine AllReadyH.cons rfl (fun K hK => ?_) AllReadyH.nil
                go_simp
                refine hK _ _ (AL.out _ _ hS) (fun hS => ?_)
                obtain ⟨wz, hwz⟩ : ∃ x, x = v11.alloc (.cells (moC (.slice q5 L c5) H (.slice q15 H c15)) MoT) := ⟨_, rfl⟩
                have gz : Gr v11 wz := hwz ▸ (Gr.refl v11).alloc _
                have bz : wz.heap[v11.heap.size]? = some (.cells (moC (.slice q5 L c5) H (.slice q15 H c15)) MoT (0, 0)) := by rw [hwz]; exact heap_alloc_new v11 _
                have nz : N0 ≤ v11.heap.size := HSZ
                have FIN : Hid (wz.heap[v11.heap.size]? = some (.cells (moC (.slice q5 L c5) H (.slice q15 H c15)) MoT (0, 0)) ∧ wz.ownsRow N0 OT 47 (.slice q5 L c5) L (flat encC csl) ∧ wz.ownsRow N0 ET 4 (.slice q15 H c15) H (flat encE hist) ∧ N0 ≤ v11.heap.size ∧ Below N0 w6 wz) := ⟨bz, own_stays o5 (fun k _ hk => gz.heap hk), own_stays o15 (fun k _ hk => gz.heap hk), nz, by rw [hwz]; exact hS⟩
                clear gz bz nz HSZ o5 o15
                have HWZ : Hid (v11.alloc (.cells (moC (.slice q5 L c5) H (.slice q15 H c15)) MoT) = wz) := hwz.symm
                clear hwz
                try simp only [Act.put, List.setIfInBounds_toArray, List.set_cons_zero, List.set_cons_succ]
                refine wpAnyH_takeD (i := 18) (d := 15) (v := .pointer (some ⟨v11.heap.size, 0, none⟩)) _ rfl rfl (by kernel_rfl) (by kernel_rfl) (by kernel_rfl) (fun _ _ _ h => h) (Or.inl ⟨by kernel_rfl, fun ws hSw => by first | (go_simp; done) | (go_simp; with_reducible rfl) | (go_simp; rfl)⟩) hS ?_
                simp only [Act.put, List.setIfInBounds_toArray, List.set_cons_zero, List.set_cons_succ]
                refine wpAnyH_done (by kernel_rfl) ?_ _
                go_wp2_with fail
                go_meet
                case rel => exact ⟨_, _, _, _, _, rfl, HWZ.out ▸ FIN⟩
            case rest =>
              obtain ⟨np, q5, c5, q15, c15, rfl, HM⟩ := hcut
              have DU : Hid (Duo W.heap.size wc sp mp cp np most l hist l hist ∧ Below W.heap.size W wc ∧ l.length ≤ 60 ∧ hist.length ≤ 60) := by
                obtain ⟨bn, o5, o15, hNn, bc⟩ := HM.out
                obtain ⟨hN0, hL, hH, hm, b6, st2, hS2, hmpl, HSZ⟩ := H6.out
                obtain ⟨sys, low, hhl, hll⟩ := HS.out
                have bc' : Below w6.heap.size w6 wc := by rw [← hN0]; exact bc
                have hlw := low.size
                have hb6 := b6.size
                have hcz := bc.size
                have T5 : ∀ g, (Value.slice q5 L c5).ownBlock = some g → N0 ≤ g := fun g hg => (World.ownsRow.lt o5 g hg).1
                have T15 : ∀ g, (Value.slice q15 H c15).ownBlock = some g → N0 ≤ g := fun g hg => (World.ownsRow.lt o15 g hg).1
                have mo2 : MoAt W.heap.size wc (np :: ((Value.slice q5 L c5).ownBlock.toList ++ (Value.slice q15 H c15).ownBlock.toList)) np (.slice q5 L c5) (.slice q15 H c15) csl l hist :=
                  ⟨rfl, by omega, by omega, by rw [← hH]; exact bn, by rw [← hL]; exact own_mono o5 (by omega), hm.len, fun i o hi => by
                    obtain ⟨c, h1, h2⟩ := hm.objs i o hi
                    exact ⟨c, h1, h2.fx (Fx.ofBelow bc')⟩, by rw [← hH]; exact own_mono o15 (by omega)⟩
                have t2 : ∀ g ∈ np :: ((Value.slice q5 L c5).ownBlock.toList ++ (Value.slice q15 H c15).ownBlock.toList), N0 ≤ g := fun g hg => by
                  simp only [List.mem_cons, List.mem_append, Option.mem_toList] at hg
                  rcases hg with rfl | hg | hg
                  · exact hNn
                  · exact T5 g hg
                  · exact T15 g hg
                refine ⟨⟨S, T, S2, _, sys.gr (b6.trans (bc'.mono b6.size)), ⟨st2.gr bc', ⟨_, _, _, mo2⟩, fun g hg hm2 => ?_⟩, fun g hg hm1 => ?_⟩, low.trans ((b6.trans (bc'.mono b6.size)).mono low.size), by omega, by omega⟩
                · have h1 := (st2.prot g hg).2.1
                  have h2 := t2 g hm2
                  omega
                · have h1 := (sys.prot g hm1).2.1
                  rcases List.mem_append.1 hg with hg | hg
                  · have := hS2 g hg; omega
                  · have := t2 g hg; omega
              clear K0 K1 K2 OWL OWE AL S0 hL6 hH6 hinfO hby47 hinfE HSZ H6 HS HM
              go_wp2_with fail
              go_loopg [89] n1 (fun g vi wr => ∃ j : Nat, vi = .int .i64 (j : Int) ∧ j ≤ n1 ∧ n1 - j ≤ g ∧ Hid (∃ l2 h2, Duo W.heap.size wr sp mp cp np most l hist l2 h2 ∧ Below W.heap.size W wr ∧ l2.length ≤ 60 + j ∧ h2.length ≤ 60 + j))
              case atStart => exact ⟨0, rfl, Nat.zero_le _, by omega, ⟨l, hist, DU.out.1, DU.out.2.1, by have := DU.out.2.2.1; omega, by have := DU.out.2.2.2; omega⟩⟩
              case round =>
                obtain ⟨j', rfl, h1, h2, HR⟩ := hrel
                by_cases hlt : j' < n1
                · obtain ⟨l2, hh2, DD, low, hl2, hg2⟩ := HR.out
                  obtain ⟨A0, A1, hn0, hn1⟩ := HH.out
                  obtain ⟨x, b, off, hx, rfl, hok, hfw, LX⟩ := A1.at HF.out.2.symm (j := j') (by omega)
                  have LD := Lib.hid (LX wr low)
                  obtain ⟨X, hX⟩ : ∃ X, X = cellsA x := ⟨_, rfl⟩
                  rw [← hX] at LD
                  have hXs : X.size = 49 := by rw [hX]; exact sizeA x
                  obtain ⟨th, n0', b3⟩ := act_new wr X hXs
                  obtain ⟨w3, hw3⟩ : ∃ W, W = (wr.alloc (.cells zerA AcT)).setCells wr.heap.size 0 X.toList := ⟨_, rfl⟩
                  obtain ⟨A, hA⟩ : ∃ A, A = wr.heap.size := ⟨_, rfl⟩
                  rw [← hw3] at n0' b3
                  rw [← hA] at n0'
                  have TH := Lib.hid th
                  have IN : Hid ((Tryz.prog.info? AcT).map (·.size) = some X.size) := by show _ = _; rw [hXs]; exact info_act
                  have ON : Hid (X.all (·.oneCell') = true) := by show _ = _; rw [hX]; exact oneA x
                  have HW3 : Hid ((wr.alloc (.cells zerA AcT)).setCells wr.heap.size 0 X.toList = w3 ∧ wr.heap.size = A) := ⟨hw3.symm, hA.symm⟩
                  have LB : Hid ((Instr.loadAt AcT (.pointer (some ⟨A, 0, none⟩))).run Tryz.prog w3 = .ok (.agg X) w3) := by
                    rw [hX] at n0' ⊢
                    exact load_act (rangeAt_block n0')
                  have CD := Lib.hid ((DD.gr b3).act rfl (low.trans (b3.mono low.size)) (by omega) (by omega) x hok hfw)
                  rw [← hX] at CD
                  have HLN : Hid (l2.length ≤ 60 + j' ∧ hh2.length ≤ 60 + j') := ⟨hl2, hg2⟩
                  clear DD low hl2 hg2 A0 A1 hn0 hn1 hx hok hfw LX hX hXs th n0' b3 hw3 hA HR
                  go_upto_region 18 with (first | (refine wpList_load_by (by kernel_rfl) AcT _ rfl (.pointer (some ⟨b, off + j' * 49, none⟩)) (.agg X) (by rfl) LD.out ?_) | (refine wpList_store_mid rfl _ _ _ rfl wr.heap.size 0 X (by rfl) (by rfl) TH.out IN.out ON.out ?_; rw [HW3.out.1, HW3.out.2]))
                  go_wp2_with (refine wpList_load_by (by kernel_rfl) AcT _ rfl (.pointer (some ⟨A, 0, none⟩)) (.agg X) (by kernel_rfl) LB.out ?_)
                  refine CD.out.mono ?_
                  rintro e w4 ⟨rfl, ⟨l', hist', hq1, hq2, D'⟩, low'⟩
                  have RH : Hid (∃ l2 h2, Duo W.heap.size w4 sp mp cp np most l hist l2 h2 ∧ Below W.heap.size W w4 ∧ l2.length ≤ 60 + (j' + 1) ∧ h2.length ≤ 60 + (j' + 1)) := ⟨l', hist', D', low', by have := HLN.out.1; omega, by have := HLN.out.2; omega⟩
                  clear D' low' hq1 hq2 HLN CD LD LB TH IN ON HW3
                  go_wp2
                  go_roundg (n1 - (j' + 1))
                  case measure => omega
                  case rel => exact ⟨j' + 1, by push_cast; rfl, by omega, by omega, RH⟩
                · obtain ⟨l2, hh2, ⟨S1, T1, S2', T2', s1, s2, hd⟩, low, hl2, hg2⟩ := HR.out
                  have hlh := DU.out.2.2
                  have I1 : Hid (∀ ws : World, Below wr.heap.size wr ws → Calls Tryz.prog 11 #[.pointer (some ⟨sp, 0, none⟩), .pointer (some ⟨mp, 0, none⟩)] ws fun e w' => e = .returned (.bool true) ∧ Below wr.heap.size wr w') := fun ws b => (is_any W.heap.size ws S1 T1 sp mp most l hist (s1.gr b) (by omega) (by omega)).mono fun e w' h => ⟨h.1, b.trans (h.2.mono b.size)⟩
                  have I2 : Hid (∀ ws : World, Below wr.heap.size wr ws → Calls Tryz.prog 11 #[.pointer (some ⟨cp, 0, none⟩), .pointer (some ⟨np, 0, none⟩)] ws fun e w' => e = .returned (.bool true) ∧ Below wr.heap.size wr w') := fun ws b => (is_any W.heap.size ws S2' T2' cp np most l2 hh2 (s2.gr b) (by omega) (by omega)).mono fun e w' h => ⟨h.1, b.trans (h.2.mono b.size)⟩
                  obtain ⟨lv, mev, csl', hm⟩ := s1.mo
                  obtain ⟨qv, cv, hme⟩ := own_slice hm.evs
                  have mblk := hm.blk
                  have evs := hm.evs
                  subst hme
                  obtain ⟨H, hH⟩ : ∃ L, L = hist.length := ⟨_, rfl⟩
                  rw [← hH] at mblk evs
                  have hH6 : H ≤ 60 := by omega
                  have hmpl : mp < wr.heap.size := (Array.getElem?_eq_some_iff.1 mblk).1
                  have HX := Lib.hid (And.intro mblk (And.intro evs (And.intro low (And.intro hH (And.intro s1.st hmpl)))))
                  clear s1 s2 hd low hl2 hg2 hm mblk evs hH HR DU h1 h2 hlh hmpl
                  go_upto_region 21 with fail
                  by_cases hsa : H < since
                  · have CS := Lib.hid (since_above W.heap.size wr S1 sp most l hist since HX.out.2.2.2.2.1 (by have := HX.out.2.2.2.1; omega) (by have := HX.out.2.2.2.1; omega))
                    go_wp2_with fail
                    refine CS.out.mono ?_
                    rintro e w7 ⟨rfl, rfl⟩
                    have cH : wr.cell? ⟨mp, 1, none⟩ = some (.int .u64 (H : Int)) := cell_of_block HX.out.1 1
                    have tg : decide ((H : Int) < (since : Int)) = true := decide_eq_true (by omega)
                    clear CS
                    go_wp2_with fail
                    refine (I1.out _ (Below.refl _ _)).mono ?_
                    rintro e w8 ⟨rfl, b8⟩
                    have B8 := Lib.hid b8
                    clear b8
                    go_wp2_with fail
                    refine (I2.out _ B8.out).mono ?_
                    rintro e w9 ⟨rfl, b9⟩
                    have FIN : Hid (Below W.heap.size W w9) := HX.out.2.2.1.trans (b9.mono HX.out.2.2.1.size)
                    clear b9 B8 HX I1 I2
                    go_wp2
                    go_ret
                    exact ⟨rfl, FIN.out⟩
                  · have hev : hist.length ≤ 60 := by have := HX.out.2.2.2.1; omega
                    have hss : since ≤ hist.length := by have := HX.out.2.2.2.1; omega
                    have CS := since_any W.heap.size wr S1 sp most l hist since HX.out.2.2.2.2.1 (by omega) hss (by omega)
                    obtain ⟨M, hM⟩ : ∃ M, M = (hist.drop since).length := ⟨_, rfl⟩
                    rw [← hM] at CS
                    have CS := Lib.hid CS
                    have hMH : since + M = H := by rw [hM, List.length_drop, HX.out.2.2.2.1]; omega
                    have HM := Lib.hid (And.intro hM (And.intro hev hss))
                    clear hM hev hss
                    go_wp2_with fail
                    refine CS.out.mono ?_
                    rintro e w7 ⟨⟨v, rfl, ov⟩, b7⟩
                    obtain ⟨q', c', rfl⟩ := own_slice ov
                    have mblk7 := (b7.block mp HX.out.2.2.2.2.2).trans HX.out.1
                    have c1 : w7.cell? ⟨mp, 1, none⟩ = some (.int .u64 (H : Int)) := cell_of_block mblk7 1
                    have c2 : w7.cell? ⟨mp, 2, none⟩ = some (.slice qv H cv) := cell_of_block mblk7 2
                    have tg : decide ((H : Int) < (since : Int)) = false := decide_eq_false (by omega)
                    have H7 := Lib.hid (And.intro ov (And.intro b7 mblk7))
                    have hsH : since ≤ H := by omega
                    have hcv : H ≤ cv := by
                      rcases HX.out.2.1.2 with ⟨e, h0⟩ | ⟨g, cap, cur, e, _, _, hc, _⟩
                      · omega
                      · cases e; exact hc
                    clear CS ov b7 mblk7
                    go_upto_region 24 with fail
                    have hMs : H - since = M := by omega
                    go_cut [20] from 129 to 134 (fun v wx => ∃ (qw : Option Addr) (cw : Nat), v = .slice qw M cw ∧ wx = w7 ∧ Hid (∀ i e, (hist.drop since)[i]? = some e → ∃ g o : Nat, qw = some ⟨g, o, none⟩ ∧ ∀ t u, (encE e)[t]? = some u → w7.cell? ⟨g, o + i * 4 + t, none⟩ = some u))
                    case first =>
                      by_cases hcs : cv = since
                      · have hM0 : M = 0 := by omega
                        have hv : Hid (∀ i e, (hist.drop since)[i]? = some e → ∃ g o : Nat, qv = some ⟨g, o, none⟩ ∧ ∀ t u, (encE e)[t]? = some u → w7.cell? ⟨g, o + i * 4 + t, none⟩ = some u) := fun i e he => by
                          have := (List.getElem?_eq_some_iff.1 he).1
                          have := HM.out.1
                          omega
                        go_wp2_with fail
                        go_meet
                        case rel => exact ⟨qv, 0, by first | rw [hM0] | rw [hMs, hM0] | rw [hcs, hM0], rfl, hv⟩
                      · obtain ⟨g, rfl⟩ : ∃ g : Nat, qv = some ⟨g, 0, none⟩ := by
                          rcases HX.out.2.1.2 with ⟨e, h0⟩ | ⟨g, cap, cur, e, _⟩
                          · cases e; omega
                          · cases e; exact ⟨g, rfl⟩
                        have hv : Hid (∀ i e, (hist.drop since)[i]? = some e → ∃ g' o : Nat, (some ⟨g, since * 4, none⟩ : Option Addr) = some ⟨g', o, none⟩ ∧ ∀ t u, (encE e)[t]? = some u → w7.cell? ⟨g', o + i * 4 + t, none⟩ = some u) := fun i e he => by
                          refine ⟨g, since * 4, rfl, fun t u hu => ?_⟩
                          have ht : t < 4 := by
                            have := (List.getElem?_eq_some_iff.1 hu).1
                            rwa [lenE] at this
                          rw [List.getElem?_drop] at he
                          have hgl : g < wr.heap.size := (World.ownsRow.lt HX.out.2.1 g rfl).2
                          have := HX.out.2.1.cells (g := g) rfl ((since + i) * 4 + t) u (by rw [flat_at lenE hist (since + i) t e he ht]; exact hu)
                          rw [add_none', Nat.zero_add] at this
                          rw [show since * 4 + i * 4 + t = (since + i) * 4 + t by omega]
                          exact (World.cell?_of_block (H7.out.2.1.block g hgl)).trans this
                        go_wp2_with fail
                        go_meet
                        case rel => exact ⟨_, cv - since, by first | rfl | rw [hMs], rfl, hv⟩
                    case rest =>
                      obtain ⟨qw, cw, rfl, rfl, HV⟩ := hcut
                      clear hMs c1 c2 tg hcv
                      have rows : Hid (∀ i e, (hist.drop since)[i]? = some e → ∃ g : Nat, q' = some ⟨g, 0, none⟩ ∧ ∀ t u, (encE e)[t]? = some u → wc.cell? ⟨g, i * 4 + t, none⟩ = some u) := fun i e he => by
                        have hi : i < M := by rw [HM.out.1]; exact (List.getElem?_eq_some_iff.1 he).1
                        obtain ⟨g, cap, hgq⟩ : ∃ g cap, Value.slice q' M c' = .slice (some ⟨g, 0, none⟩) M cap := by
                          rcases H7.out.1.2 with ⟨_, h0⟩ | ⟨g, cap, cur, e1, _⟩
                          · have := HM.out.1; omega
                          · exact ⟨g, cap, e1⟩
                        simp only [Value.slice.injEq, true_and] at hgq
                        obtain ⟨rfl, rfl⟩ := hgq
                        refine ⟨g, rfl, fun t u hu => ?_⟩
                        have ht : t < 4 := by
                          have := (List.getElem?_eq_some_iff.1 hu).1
                          rwa [lenE] at this
                        have := H7.out.1.cells (g := g) rfl (i * 4 + t) u (by rw [flat_at lenE (hist.drop since) i t e he ht]; exact hu)
                        rwa [add_none', Nat.zero_add] at this
                      have hM6 : M ≤ 60 := by omega
                      go_wp2_with fail
                      go_loopg [146] M (fun g vi w => ∃ i : Nat, vi = .int .i64 (i : Int) ∧ i ≤ M ∧ M - i ≤ g ∧ Hid (Below wc.heap.size wc w))
                      case atStart => exact ⟨0, rfl, Nat.zero_le _, by omega, Below.refl _ _⟩
                      case round =>
                        obtain ⟨i, rfl, hi1, hi2, HB⟩ := hrel
                        by_cases hlt : i < M
                        · obtain ⟨e, he⟩ : ∃ e, (hist.drop since)[i]? = some e := ⟨_, List.getElem?_eq_getElem (by have := HM.out.1; omega)⟩
                          obtain ⟨g, rfl, hg⟩ := rows.out i e he
                          obtain ⟨g', o', rfl, hg'⟩ := HV.out i e he
                          have cw : ∀ {a : Addr} {v : Value}, wc.cell? a = some v → ∀ n os, (grow (wr.drewN n) os).cell? a = some v := fun {a v} h n os => by
                            have hl := World.block_lt_of_cell? _ _ h
                            exact cell_grown (by have := HB.out.size; omega) ((World.cell?_of_block (HB.out.block a.block hl)).trans h) n os
                          obtain ⟨wa, kd, nm, vr⟩ := e
                          have x0 := cw (hg 0 _ rfl)
                          have x1 := cw (hg 1 _ rfl)
                          have x2 := cw (hg 2 _ rfl)
                          have x3 := cw (hg 3 _ rfl)
                          have y0 := cw (hg' 0 _ rfl)
                          have y1 := cw (hg' 1 _ rfl)
                          have y2 := cw (hg' 2 _ rfl)
                          have y3 := cw (hg' 3 _ rfl)
                          rw [Nat.add_zero] at x0 y0
                          have NE : ∀ ws : World, (binOp .neq ET (.agg #[.int .i64 wa, .int .i64 kd, .string nm, .int .u64 (vr : Int)]) (.agg #[.int .i64 wa, .int .i64 kd, .string nm, .int .u64 (vr : Int)])).run Tryz.prog ws = .ok (.bool false) ws := fun ws => neq_ev ⟨wa, kd, nm, vr⟩ ws
                          clear hg hg' cw he
                          go_upto_region 30 with fail
                          refine wp_region_quiet_grown (by assumption) (by kernel_rfl) ?_
                          iterate 8 (quiet_step (fail))
                          quiet_step (fail)
                          refine wpQuiet_nil ?_
                          intro _ hw'
                          obtain ⟨⟨nq, osq⟩, hw''⟩ := hw'
                          subst hw''
                          have RN : Hid (Below wc.heap.size wc (grow (wr.drewN nq) osq)) := HB.out.trans ((Gr.put wr nq osq).below.mono HB.out.size)
                          clear x0 x1 x2 x3 y0 y1 y2 y3 NE HB
                          go_wp2
                          go_roundg (M - (i + 1))
                          case measure => omega
                          case rel => exact ⟨i + 1, by push_cast; rfl, by omega, by omega, RN⟩
                        · have hiM : i = M := by omega
                          subst hiM
                          have B7 := Lib.hid (H7.out.2.1.trans (HB.out.mono H7.out.2.1.size))
                          clear HB rows HV
                          go_wp2_with fail
                          refine (I1.out _ B7.out).mono ?_
                          rintro e w8 ⟨rfl, b8⟩
                          have B8 := Lib.hid b8
                          clear b8
                          go_wp2_with fail
                          refine (I2.out _ B8.out).mono ?_
                          rintro e w9 ⟨rfl, b9⟩
                          have FIN : Hid (Below W.heap.size W w9) := HX.out.2.2.1.trans (b9.mono HX.out.2.2.1.size)
                          clear b9 B8 HX I1 I2 B7 H7
                          go_wp2
                          go_ret
                          exact ⟨rfl, FIN.out⟩

theorem walk {H : Type} {enc : TypeId × Value → H} {base : Nat} (W : World) (v0 : Value) (d0 : DataW H) (p0 : List MemPlace) (o0 : Value.okWide Tryz.prog W .any base 3 v0) (h0 : DataW.Trod enc Tryz.prog W 0 (fun _ => true) true 3 v0 d0 p0)
    (v1 : Value) (d1 : DataW H) (p1 : List MemPlace) (o1 : Value.okWide Tryz.prog W .any base 22 v1) (h1 : DataW.Trod enc Tryz.prog W 0 (fun _ => true) true 22 v1 d1 p1)
    (v2 : Value) (d2 : DataW H) (p2 : List MemPlace) (o2 : Value.okWide Tryz.prog W .any base 22 v2) (h2 : DataW.Trod enc Tryz.prog W 0 (fun _ => true) true 22 v2 d2 p2)
    (v3 : Value) (d3 : DataW H) (p3 : List MemPlace) (o3 : Value.okWide Tryz.prog W .any base 23 v3) (h3 : DataW.Trod enc Tryz.prog W 0 (fun _ => true) true 23 v3 d3 p3)
    (wt0 : Wt 3 d0) (wt1 : Wt 22 d1) (wt2 : Wt 22 d2) (wt3 : Wt 23 d3) :
    Calls Tryz.prog 3 #[v0, v1, v2, v3] W fun e W' => e = .returned (.bool true) ∧ Below W.heap.size W W' := by
  obtain ⟨n, rfl, rfl, rfl, hn⟩ := open_int Tryz.underlying3 o0 h0
  obtain ⟨q0, c0, a0, rfl, r0, k0, n0⟩ := open_acts o1 h1 wt1
  obtain ⟨q1, c1, a1, rfl, r1, k1, n1⟩ := open_acts o2 h2 wt2
  obtain ⟨m, rfl, rfl, rfl, hm⟩ := open_int Tryz.underlying23 o3 h3
  obtain ⟨s, rfl⟩ : ∃ s : Nat, m = (s : Int) := ⟨m.toNat, by
    simp [Lit.wf, IntKind.min, IntKind.max, IntKind.signed, IntKind.bits] at hm
    omega⟩
  exact walk_at W n q0 c0 a0 ⟨r0, k0, n0⟩ q1 c1 a1 ⟨r1, k1, n1⟩ s (by
    simp [Lit.wf, IntKind.min, IntKind.max, IntKind.signed, IntKind.bits] at hm
    omega)

/-! ### THE ROW's STEP -/
set_option maxRecDepth 100000 in
theorem lifted (os : Os) (started : os.Started) (H : Type) (enc : TypeId × Value → H) :
    ReturnsInHanded {} Tryz.checked os 3 .any (Rows.storePlaysSpec.pre6 enc Tryz.prog Tryz.f3 Rows.storePlaysRow.domain false) (Rows.storePlaysSpec.post enc Tryz.prog Tryz.f3 false true false false) := by
  refine returnsInHanded_of_change_sized (C := Tryz.checked) own started (by kernel_rfl) Tryz.func3
    (ChangeSpec.witness6 (enc := enc) (C := Tryz.checked) false ⟨#[], #[.int .i64 0, .slice none 0 0, .slice none 0 0, .int .u64 0], []⟩ 8 (by kernel_rfl) (by kernel_rfl) (by kernel_rfl) (by kernel_rfl)) ?_
  intro W base args ds gs before hval0 hW hcnd hsz0 _
  have hval : ∀ (j : Nat) t v, Tryz.f3.params[j]? = some t → args[j]? = some v → Value.okWide Tryz.prog W .any base t v := hval0
  have hW' := hW
  obtain ⟨p, q, hA0, hV, rfl, hfz, hnd⟩ := hW
  have hA : DataW.TrodAll enc Tryz.prog W 0 (fun _ => true) true Tryz.f3.params.toList args.toList ds p := hA0
  have hlt : ∀ x ∈ p, x.block < W.heap.size := fun x hx => hW'.lt x (List.mem_append_left _ hx)
  rw [Tryz.params3] at hA hval
  have hread : ∀ t ∈ [3, 22, 22, 23], Tryz.prog.readableRec t = true ∧ t < Tryz.prog.types.size := by
    intro t ht
    simp only [List.mem_cons, List.not_mem_nil, or_false] at ht
    rcases ht with rfl | rfl | rfl | rfl <;> exact ⟨by kernel_rfl, of_decide_eq_true (by kernel_rfl)⟩
  have again : ∀ (W' : World), Below W.heap.size W W' → ∀ sp : Nat → Bool, (∀ x ∈ p, sp x.block = true) → DataW.TrodAll enc Tryz.prog W' 0 sp true [3, 22, 22, 23] args.toList ds p :=
    fun W' hb sp hsp => all_again (by kernel_rfl) hb [3, 22, 22, 23] args.toList ds p hread hA hlt hsp
  obtain ⟨v0, v1, v2, v3, d0, d1, d2, d3, p0, p1, p2, p3, rfl, rfl, rfl, h0, h1, h2, h3⟩ := trodAll_four hA
  obtain ⟨rfl, rfl⟩ := trodVars_none hV
  have wt0 : Wt 3 d0 := fun n hn => by
    have := List.all_eq_true.1 hsz0 n (DataW.weights_mem_each (j := 0) (t := 3) (d := d0) (by kernel_rfl) rfl n hn)
    simpa using this
  have wt1 : Wt 22 d1 := fun n hn => by
    have := List.all_eq_true.1 hsz0 n (DataW.weights_mem_each (j := 1) (t := 22) (d := d1) (by kernel_rfl) rfl n hn)
    simpa using this
  have wt2 : Wt 22 d2 := fun n hn => by
    have := List.all_eq_true.1 hsz0 n (DataW.weights_mem_each (j := 2) (t := 22) (d := d2) (by kernel_rfl) rfl n hn)
    simpa using this
  have wt3 : Wt 23 d3 := fun n hn => by
    have := List.all_eq_true.1 hsz0 n (DataW.weights_mem_each (j := 3) (t := 23) (d := d3) (by kernel_rfl) rfl n hn)
    simpa using this
  clear hA0 hval0
  simp only [List.append_nil] at hW'
  refine (walk W v0 d0 p0 (hval 0 3 v0 rfl rfl) h0 v1 d1 p1 (hval 1 22 v1 rfl rfl) h1 v2 d2 p2 (hval 2 22 v2 rfl rfl) h2 v3 d3 p3 (hval 3 23 v3 rfl rfl) h3 wt0 wt1 wt2 wt3).mono fun e W' ⟨he, hg⟩ => ?_
  subst he
  exact ⟨_, rfl, post_below hW' hg (fun _ _ _ => trodAll_mk1 (shut_bool Tryz.underlying4 _)) (fun sp hsp => again W' hg sp hsp) (fun _ => rfl) (ok_one (by kernel_rfl) rfl (okWide_bool_mk Tryz.underlying4 _))⟩

theorem over : Rows.storePlaysRow.holds Tryz.pinned (OpenSpec.ofChange Rows.storePlaysSpec) :=
  OpenClaim.holds_of_wide 3 Tryz.f3 rfl rfl rfl rfl rfl rfl rfl ⟨rfl, rfl, rfl, rfl, rfl⟩ rfl rfl rfl rfl rfl (by kernel_rfl) Tryz.func3 (by kernel_rfl)
    (of_decide_eq_true (by kernel_rfl)) (by unfold Func.isWrapper; first | (rw [if_pos (by decide +kernel)]; kernel_rfl) | (rw [if_neg (by decide +kernel)]; exact ⟨rfl, rfl⟩))
    (fun os started H enc _ => lifted os started H enc)

/-- The statement. -/
theorem proved : Rows.StorePlaysSaid :=
  over
#print axioms proved
end Go.Proofs.YtbagicilmmkdhaaGreat.storePlays


