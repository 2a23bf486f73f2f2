/- Proved here: the law StoreFollows of layer 8 holds for every input: whoever has the names of a version, and goes by the events since, has the names of now. No conditions. -/
import Derived.Test.YtacgbagcddjlnaaStT
import Derived.Test.YtacgbagcddjlnaaStA
import Derived.Maps.RangeWalk
import Derived.Test.YtacgbagcddjlnaaVLawBase
namespace Go.Proofs.Ytacgbagcddjlnaa.storeFollows
open Go.ChangeShapes Go.WideShapes Go.ChangeAt Go.RowKit Go.Lib Go.Shelf Go.Sort Go.Deep
open Go.Joins (cell_of_block unfrozen_of_block block_setCell)
set_option linter.unusedVariables false
set_option linter.unusedSimpArgs false
set_option maxRecDepth 20000

theorem okA.below {W w : World} {x : Acv} (h : okA W x) (b : Below W.heap.size W w) : okA w x := ⟨h.1.below b, h.2.1, h.2.2⟩
/-- A row of acts that came in. -/
structure Acts (W : World) (q : Option Addr) (l : List Acv) : Prop where
  row : RowR 49 encA W q l
  ok : ∀ x ∈ l, okA W x
  len : l.length ≤ 140737488351232
theorem Acts.few {W w : World} {q : Option Addr} {l : List Acv} (h : Acts W q l) (c : Nat) (b : Below W.heap.size W w) : Calls Try.prog 7 #[.slice q l.length c] w fun e w' => e = .returned (.bool (fewA l)) ∧ Below w.heap.size w w' :=
  few_acts w q c l (h.row.below b) (fun x hx => okA.below (h.ok x hx) b) h.len
theorem Acts.at {W : World} {q : Option Addr} {l : List Acv} (h : Acts W q l) (hf : fewA l = true) {j : Nat} (hj : j < l.length) : ∃ x b off, l[j]? = some x ∧ q = some ⟨b, off, none⟩ ∧ okA W x ∧ fewB x.2.2.2 = true ∧ (∀ w, Below W.heap.size W w → (Instr.loadAt AcT (.pointer (some ⟨b, off + j * 49, none⟩))).run Try.prog w = .ok (.agg (cellsA x)) w) := by
  obtain ⟨x, hx⟩ : ∃ x, l[j]? = some x := ⟨l[j], List.getElem?_eq_getElem hj⟩
  obtain ⟨b, off, rfl, h1, h2⟩ := h.row j x hx
  unfold fewA at hf
  simp only [Bool.and_eq_true] at hf
  have := List.all_eq_true.1 hf.1 x (List.mem_of_getElem? hx)
  simp only [Bool.and_eq_true] at this
  exact ⟨x, b, off, hx, rfl, h.ok x (List.mem_of_getElem? hx), this.1, fun w g => load_act (rangeAt_below (fun t v hv => h2 t v hv) g h1)⟩
theorem few_len {l : List Acv} (hf : fewA l = true) : l.length ≤ 60 := by
  unfold fewA at hf
  simp only [Bool.and_eq_true, decide_eq_true_eq] at hf
  exact hf.2

set_option maxHeartbeats 16000000 in
theorem walk_at (W : World) (q0 : Option Addr) (c0 : Nat) (a0 : List Acv) (A0 : Acts W q0 a0) (q1 : Option Addr) (c1 : Nat) (a1 : List Acv) (A1 : Acts W q1 a1) :
    Calls Try.prog 3 #[.slice q0 a0.length c0, .slice q1 a1.length c1] W fun e w' => e = .returned (.bool true) ∧ Below W.heap.size W w' := by
  have mixed : Try.prog.follows .mixedOrders = true := by kernel_rfl
  have V := Lib.hid lives_any
  obtain ⟨n0, hn0⟩ : ∃ n, n = a0.length := ⟨_, rfl⟩
  obtain ⟨n1, hn1⟩ : ∃ n, n = a1.length := ⟨_, rfl⟩
  have F0 := Lib.hid (fun (w : World) (b : Below W.heap.size W w) => A0.few c0 b)
  have F1 := Lib.hid (fun (w : World) (b : Below W.heap.size W w) => A1.few c1 b)
  rw [← hn0] at F0 ⊢
  rw [← hn1] at F1 ⊢
  have HH := Lib.hid (And.intro A0 (And.intro A1 (And.intro hn0 hn1)))
  clear A0 A1 hn0 hn1
  obtain ⟨f0, hf0⟩ : ∃ f, f = fewA a0 := ⟨_, rfl⟩
  obtain ⟨f1, hf1⟩ : ∃ f, f = fewA a1 := ⟨_, rfl⟩
  rw [← hf0] at F0
  rw [← hf1] at F1
  have HF : Hid (f0 = fewA a0 ∧ f1 = fewA a1) := ⟨hf0, hf1⟩
  clear hf0 hf1
  go_enter Try.func3, Try.ntmps3
  go_wp2_with fail
  refine (V.out _).mono ?_
  rintro e w1 ⟨rfl, b1⟩
  have B1 := Lib.hid b1
  clear b1
  go_wp2_with fail
  refine (F0.out _ B1.out).mono ?_
  rintro e w2 ⟨rfl, b2⟩
  have B2 : Hid (Below W.heap.size W w2) := B1.out.trans (b2.mono B1.out.size)
  clear b2 B1
  cases f0 with
  | false =>
    go_wp2_with fail
    refine (V.out _).mono ?_
    rintro e w3 ⟨rfl, b3⟩
    have B3 : Hid (Below W.heap.size W w3) := B2.out.trans (b3.mono B2.out.size)
    clear b3
    go_wp2
    go_ret
    exact ⟨rfl, B3.out⟩
  | true =>
    go_wp2_with fail
    refine (F1.out _ B2.out).mono ?_
    rintro e w3 ⟨rfl, b3⟩
    have B3 : Hid (Below W.heap.size W w3) := B2.out.trans (b3.mono B2.out.size)
    clear b3 B2
    cases f1 with
    | false =>
      go_wp2_with fail
      refine (V.out _).mono ?_
      rintro e w4 ⟨rfl, b4⟩
      have B4 : Hid (Below W.heap.size W w4) := B3.out.trans (b4.mono B3.out.size)
      clear b4
      go_wp2
      go_ret
      exact ⟨rfl, B4.out⟩
    | true =>
      have CN := Lib.hid (new_any W.heap.size w3 100 (by decide) (by decide) B3.out.size)
      go_wp2_with fail
      refine CN.out.mono ?_
      rintro e w4 ⟨⟨S, sp, rfl, st, hS⟩, b4⟩
      have B4 : Below W.heap.size W w4 := B3.out.trans (b4.mono B3.out.size)
      obtain ⟨mp, hmp⟩ : ∃ m, m = w4.heap.size := ⟨_, rfl⟩
      obtain ⟨w5, hw5⟩ : ∃ x, x = w4.alloc (.cells #[.slice none 0 0, .int .u64 0, .slice none 0 0] MoT) := ⟨_, rfl⟩
      have R5 : Hid (Run W.heap.size W w5 sp mp 100 none [] [] [] [] 0 0) := by
        have := Run.made rfl st B4
        rw [← hw5, ← hmp] at this
        exact this
      have HW5 : Hid (w4.alloc (.cells #[.slice none 0 0, .int .u64 0, .slice none 0 0] MoT) = w5 ∧ w4.heap.size = mp) := ⟨hw5.symm, hmp.symm⟩
      have N0 : Hid (n0 ≤ 60 ∧ n1 ≤ 60) := ⟨by rw [HH.out.2.2.1]; exact few_len HF.out.1.symm, by rw [HH.out.2.2.2]; exact few_len HF.out.2.symm⟩
      obtain ⟨hz0, hz1⟩ := N0.out
      clear st hS b4 B4 hmp hw5 CN F0 F1 B3 V N0
      go_upto_region 5 with fail
      rw [HW5.out.1, HW5.out.2]
      clear HW5
      go_wp2_with fail
      go_loopg [47] n0 (fun g vi wr => ∃ j : Nat, vi = .int .i64 (j : Int) ∧ j ≤ n0 ∧ n0 - j ≤ g ∧ Hid (∃ l hist, Run W.heap.size W wr sp mp 100 none [] [] l hist j 0))
      case atStart => exact ⟨0, rfl, Nat.zero_le _, by omega, ⟨[], [], R5.out⟩⟩
      case round =>
        obtain ⟨j, rfl, h1, h2, HR⟩ := hrel
        by_cases hlt : j < n0
        · obtain ⟨l, hist, R⟩ := HR.out
          obtain ⟨A0, A1, hn0, hn1⟩ := HH.out
          obtain ⟨x, b, off, hx, rfl, hok, hfw, LX⟩ := A0.at HF.out.1.symm (j := j) (by omega)
          have LD := Lib.hid (LX wr R.low)
          obtain ⟨X, hX⟩ : ∃ X, X = cellsA x := ⟨_, rfl⟩
          rw [← hX] at LD
          have hXs : X.size = 49 := by rw [hX]; exact sizeA x
          obtain ⟨th, n0', b3⟩ := act_new wr X hXs
          obtain ⟨w3, hw3⟩ : ∃ W, W = (wr.alloc (.cells zerA AcT)).setCells wr.heap.size 0 X.toList := ⟨_, rfl⟩
          obtain ⟨A, hA⟩ : ∃ A, A = wr.heap.size := ⟨_, rfl⟩
          rw [← hw3] at n0' b3
          rw [← hA] at n0'
          have TH := Lib.hid th
          have IN : Hid ((Try.prog.info? AcT).map (·.size) = some X.size) := by show _ = _; rw [hXs]; exact info_act
          have ON : Hid (X.all (·.oneCell') = true) := by show _ = _; rw [hX]; exact oneA x
          have HW3 : Hid ((wr.alloc (.cells zerA AcT)).setCells wr.heap.size 0 X.toList = w3 ∧ wr.heap.size = A) := ⟨hw3.symm, hA.symm⟩
          have LB : Hid ((Instr.loadAt AcT (.pointer (some ⟨A, 0, none⟩))).run Try.prog w3 = .ok (.agg X) w3) := by
            rw [hX] at n0' ⊢
            exact load_act (rangeAt_block n0')
          have CD := Lib.hid ((R.gr b3).act rfl (by simp; omega) (by omega) x hok hfw)
          rw [← hX] at CD
          clear R A0 A1 hn0 hn1 hx hok hfw LX hX hXs th n0' b3 hw3 hA HR
          go_upto_region 8 with (first | (refine wpList_load_by (by kernel_rfl) AcT _ rfl (.pointer (some ⟨b, off + j * 49, none⟩)) (.agg X) (by rfl) LD.out ?_) | (refine wpList_store_mid rfl _ _ _ rfl wr.heap.size 0 X (by rfl) (by rfl) TH.out IN.out ON.out ?_; rw [HW3.out.1, HW3.out.2]))
          go_wp2_with (refine wpList_load_by (by kernel_rfl) AcT _ rfl (.pointer (some ⟨A, 0, none⟩)) (.agg X) (by kernel_rfl) LB.out ?_)
          refine CD.out.mono ?_
          rintro e w4 ⟨rfl, l', hist', R'⟩
          have RH : Hid (∃ l hist, Run W.heap.size W w4 sp mp 100 none [] [] l hist (j + 1) 0) := ⟨l', hist', R'⟩
          clear R' CD LD LB TH IN ON HW3
          go_wp2
          go_roundg (n0 - (j + 1))
          case measure => omega
          case rel => exact ⟨j + 1, by push_cast; rfl, by omega, by omega, RH⟩
        · obtain ⟨l, hist, R⟩ := HR.out
          have hj : j = n0 := by omega
          subst hj
          have HRR := Lib.hid R
          clear HR R R5
          have mk := @run_makeMap Try.prog
          obtain ⟨mb, hmb⟩ : ∃ m, m = wr.heap.size := ⟨_, rfl⟩
          obtain ⟨w5', hw5'⟩ : ∃ x, x = wr.alloc (.map #[] 0) := ⟨_, rfl⟩
          have R := HRR.out
          have RM : Run W.heap.size W w5' sp mp 100 (some (mb, .map #[] 0)) [] [] l hist j 0 := by rw [hw5', hmb]; exact R.have_ _
          have NM : NmIs w5' mb 0 (.map []) [] := by rw [hw5', hmb]; exact NmIs.made wr
          obtain ⟨q, c, m0, rows⟩ := RM.row
          have hfew := RM.few
          have HM : Hid (wr.alloc (.map #[] 0) = w5' ∧ wr.heap.size = mb) := ⟨hw5'.symm, hmb.symm⟩
          have hbm : W.heap.size ≤ mb := by rw [hmb]; exact R.low.size
          have fine := RM.fine
          have HS := Lib.hid (And.intro RM (And.intro NM (And.intro rows (And.intro hbm fine))))
          obtain ⟨N, hN⟩ : ∃ N, N = l.length := ⟨_, rfl⟩
          have hNj : N ≤ j := by omega
          rw [← hN] at m0
          have HN := Lib.hid hN
          clear R RM NM rows hmb hw5' hfew hbm fine HRR hN h1 h2 hlt
          go_upto_region 12 with fail
          rw [HM.out.1, HM.out.2]
          clear HM mk
          go_wp2_with fail
          go_loopg [63] N (fun g vi w => ∃ i : Nat, vi = .int .i64 (i : Int) ∧ i ≤ N ∧ N - i ≤ g ∧ Hid (∃ n D o, NmIs w mb n D (l.take i) ∧ n ≤ i ∧ Run W.heap.size W w sp mp 100 (some (mb, o)) [] [] l hist j 0 ∧ Chg [mb] w5' w))
          case atStart => exact ⟨0, rfl, Nat.zero_le _, by omega, ⟨0, _, _, by rw [List.take_zero]; exact HS.out.2.1, Nat.le_refl _, HS.out.1, Chg.refl _ _⟩⟩
          case round =>
            obtain ⟨i, rfl, h1, h2, HR⟩ := hrel
            by_cases hlt : i < N
            · obtain ⟨n, D, o, NM, hn, R, C⟩ := HR.out
              obtain ⟨RM, _, rows, hbm, fine⟩ := HS.out
              have hNl := HN.out
              obtain ⟨x, hx⟩ : ∃ x, l[i]? = some x := ⟨l[i]'(by omega), List.getElem?_eq_getElem (by omega)⟩
              obtain ⟨g, y, rfl, hg, hgb, hra, hob⟩ := rows i x hx
              have hgm : g ≠ mb := hgb mb _ rfl
              have hraw : wr.rangeAt g (i * 47) y.1.toList := fun t v hv => (World.cell?_of_block (C.block g hg (by simpa using hgm))).trans (hra t v hv)
              have LD := Lib.hid (load_at47 (c := y) hraw)
              obtain ⟨X, hX⟩ : ∃ X, X = y.1 := ⟨_, rfl⟩
              rw [← hX] at LD
              have hXs : X.size = 47 := by rw [hX]; exact y.2.1
              have z0 : (wr.alloc (.cells zerC OT)).heap[wr.heap.size]? = some (.cells zerC OT (0, 0)) := heap_alloc_new wr _
              obtain ⟨th, n0', fx1, c1'⟩ := store_ob (base := wr.heap.size) z0 rfl hXs (Nat.le_refl _)
              obtain ⟨w3, hw3⟩ : ∃ W, W = (wr.alloc (.cells zerC OT)).setCells wr.heap.size 0 X.toList := ⟨_, rfl⟩
              obtain ⟨A, hA⟩ : ∃ A, A = wr.heap.size := ⟨_, rfl⟩
              rw [← hw3] at n0' c1'
              rw [← hA] at n0' c1'
              have b3 : Below wr.heap.size wr w3 := by
                have g : Gr wr (wr.alloc (.cells zerC OT)) := (Gr.refl wr).alloc _
                exact ((Xb.ofGr g A).trans ⟨c1'.os, c1'.tape, c1'.output, c1'.size, fun k hk hne => c1'.block k hk (by simpa using hne)⟩).below (by omega) (Nat.le_refl _)
              have TH := Lib.hid th
              have IN : Hid ((Try.prog.info? OT).map (·.size) = some X.size) := by show _ = _; rw [hXs]; exact info_ob47
              have ON : Hid (X.all (·.oneCell') = true) := by show _ = _; rw [hX]; exact y.2.2
              have HW3 : Hid ((wr.alloc (.cells zerC OT)).setCells wr.heap.size 0 X.toList = w3 ∧ wr.heap.size = A) := ⟨hw3.symm, hA.symm⟩
              rw [← hX] at hob
              have k0 : w3.cell? ⟨A, 0, none⟩ = some (.int .i64 x.kind) := by rw [cell_of_block n0' 0]; exact hob.2.1.1
              have k1 : w3.cell? ⟨A, 1, none⟩ = some (.string x.name) := by rw [cell_of_block n0' 1]; exact hob.2.1.2.1
              have okx := fine.2 x (List.mem_of_getElem? hx)
              have R3 := R.gr b3
              have NM3 := NM.stay (b3.block mb NM.lt)
              obtain ⟨w4, hr, NM4, t4⟩ := NM3.set (l' := l.take (i + 1)) (by unfold maxLen; omega) okx.1 okx.2 true (fun k' nm' _ _ => by
                rw [List.take_add_one, hx]
                simp only [Option.toList_some, List.any_append, List.any_cons, List.any_nil, Bool.or_false]
                rw [hit_own x]
                by_cases e : k' = x.kind ∧ nm' = x.name
                · simp [e]
                · simp [e])
              obtain ⟨o', ho'⟩ := NM4.obj
              have RN : Hid (∃ n D o, NmIs w4 mb n D (l.take (i + 1)) ∧ n ≤ i + 1 ∧ Run W.heap.size W w4 sp mp 100 (some (mb, o)) [] [] l hist j 0 ∧ Chg [mb] w5' w4) :=
                ⟨_, _, o', NM4, by omega, R3.chg rfl hbm (NM3.unprot hbm) (turned_chg t4) o' ho', (C.trans (Chg.ofBelow b3 []) (by simp)).trans (turned_chg t4) (fun g hg => .inl hg)⟩
              obtain ⟨kx, hkx⟩ : ∃ k, k = x.kind := ⟨_, rfl⟩
              obtain ⟨nx, hnx⟩ : ∃ k, k = x.name := ⟨_, rfl⟩
              have hr' : (Instr.mapUpdate NT (.map (some mb)) (.agg #[.int .i64 kx, .string nx]) (.bool true)).run Try.prog w3 = .ok () w4 := by rw [hkx, hnx]; exact hr
              rw [← hkx] at k0
              rw [← hnx] at k1
              clear NM hn R C RM rows hbm fine hNl hx hg hgb hra hob hgm hraw hX hXs z0 th n0' fx1 c1' hw3 hA b3 okx R3 NM3 hr NM4 t4 ho' hkx hnx HR
              go_upto_region 15 with (first | (refine wpList_load_by (by kernel_rfl) OT _ rfl (.pointer (some ⟨g, i * 47, none⟩)) (.agg X) (by rfl) LD.out ?_) | (refine wpList_store_mid rfl _ _ _ rfl wr.heap.size 0 X (by rfl) (by rfl) TH.out IN.out ON.out ?_; rw [HW3.out.1, HW3.out.2]))
              go_wp2_with fail
              go_roundg (N - (i + 1))
              case measure => omega
              case rel => exact ⟨i + 1, by push_cast; rfl, by omega, by omega, RN⟩
            · obtain ⟨n, D, o, NM, hn, R, C⟩ := HR.out
              have hi : i = N := by omega
              subst hi
              have NM' : NmIs wr mb n D l := by
                have := NM
                rwa [show i = l.length from HN.out, List.take_length] at this
              obtain ⟨S', st'⟩ := R.st
              have CNow := Lib.hid (now_any _ wr S' sp 100 l hist st')
              obtain ⟨ver, hver⟩ : ∃ n, n = hist.length := ⟨_, rfl⟩
              rw [← hver] at CNow
              have hvj : ver ≤ j := by
                have := R.hist
                simp at this
                omega
              obtain ⟨i', hi'⟩ : ∃ i', i' = j := ⟨_, rfl⟩
              have R0 : Hid (Run W.heap.size W wr sp mp 100 (some (mb, o)) l hist l hist 0 (0 + i')) := by rw [hi']; exact R.again
              have hob : wr.heap[mb]? = some o := by
                obtain ⟨S2, T2, _, x2⟩ := R.sys
                exact (x2 mb o rfl).2
              have HNM : Hid (NmIs wr mb n D l ∧ wr.heap[mb]? = some o ∧ n ≤ 60 ∧ ver = hist.length ∧ W.heap.size ≤ mb ∧ l.length ≤ 60) := ⟨NM', hob, by omega, hver, HS.out.2.2.2.1, by have := HN.out; omega⟩
              have hi6 : i' ≤ 60 := by omega
              clear NM hn R C NM' st' hver hob HR HS HN hlt h1 h2 hi'
              go_upto_region 17 with fail
              go_wp2_with fail
              refine CNow.out.mono ?_
              rintro e w6 ⟨rfl, rfl⟩
              clear CNow
              go_wp2_with fail
              go_loopg [78] n1 (fun g vi w => ∃ i2 : Nat, vi = .int .i64 (i2 : Int) ∧ i2 ≤ n1 ∧ n1 - i2 ≤ g ∧ Hid (∃ l' hist', Run W.heap.size W w sp mp 100 (some (mb, o)) l hist l' hist' i2 (0 + i')))
              case atStart => exact ⟨0, rfl, Nat.zero_le _, by omega, ⟨l, hist, R0.out⟩⟩
              case round =>
                obtain ⟨i2, rfl, h1, h2, HR⟩ := hrel
                by_cases hlt : i2 < n1
                · obtain ⟨l', hist', R⟩ := HR.out
                  obtain ⟨A0, A1, hn0, hn1⟩ := HH.out
                  obtain ⟨x, b, off, hx, rfl, hok, hfw, LX⟩ := A1.at HF.out.2.symm (j := i2) (by omega)
                  have LD := Lib.hid (LX wr R.low)
                  obtain ⟨X, hX⟩ : ∃ X, X = cellsA x := ⟨_, rfl⟩
                  rw [← hX] at LD
                  have hXs : X.size = 49 := by rw [hX]; exact sizeA x
                  obtain ⟨th, n0', b3⟩ := act_new wr X hXs
                  obtain ⟨w3, hw3⟩ : ∃ W, W = (wr.alloc (.cells zerA AcT)).setCells wr.heap.size 0 X.toList := ⟨_, rfl⟩
                  obtain ⟨A, hA⟩ : ∃ A, A = wr.heap.size := ⟨_, rfl⟩
                  rw [← hw3] at n0' b3
                  rw [← hA] at n0'
                  have TH := Lib.hid th
                  have IN : Hid ((Try.prog.info? AcT).map (·.size) = some X.size) := by show _ = _; rw [hXs]; exact info_act
                  have ON : Hid (X.all (·.oneCell') = true) := by show _ = _; rw [hX]; exact oneA x
                  have HW3 : Hid ((wr.alloc (.cells zerA AcT)).setCells wr.heap.size 0 X.toList = w3 ∧ wr.heap.size = A) := ⟨hw3.symm, hA.symm⟩
                  have LB : Hid ((Instr.loadAt AcT (.pointer (some ⟨A, 0, none⟩))).run Try.prog w3 = .ok (.agg X) w3) := by
                    rw [hX] at n0' ⊢
                    exact load_act (rangeAt_block n0')
                  have CD := Lib.hid ((R.gr b3).act rfl (by have := HNM.out.2.2.2.1; omega) (by omega) x hok hfw)
                  rw [← hX] at CD
                  clear R A0 A1 hn0 hn1 hx hok hfw LX hX hXs th n0' b3 hw3 hA HR
                  go_upto_region 21 with (first | (refine wpList_load_by (by kernel_rfl) AcT _ rfl (.pointer (some ⟨b, off + i2 * 49, none⟩)) (.agg X) (by rfl) LD.out ?_) | (refine wpList_store_mid rfl _ _ _ rfl wr.heap.size 0 X (by rfl) (by rfl) TH.out IN.out ON.out ?_; rw [HW3.out.1, HW3.out.2]))
                  go_wp2_with (refine wpList_load_by (by kernel_rfl) AcT _ rfl (.pointer (some ⟨A, 0, none⟩)) (.agg X) (by kernel_rfl) LB.out ?_)
                  refine CD.out.mono ?_
                  rintro e w4 ⟨rfl, l2, hist2, R'⟩
                  have RH : Hid (∃ l' hist', Run W.heap.size W w4 sp mp 100 (some (mb, o)) l hist l' hist' (i2 + 1) (0 + i')) := ⟨l2, hist2, R'⟩
                  clear R' CD LD LB TH IN ON HW3
                  go_wp2
                  go_roundg (n1 - (i2 + 1))
                  case measure => omega
                  case rel => exact ⟨i2 + 1, by push_cast; rfl, by omega, by omega, RH⟩
                · obtain ⟨l', hist', R⟩ := HR.out
                  have hi : i2 = n1 := by omega
                  subst hi
                  obtain ⟨nmi, hob, hn6, hvl, hbm, hl6⟩ := HNM.out
                  obtain ⟨ext, hext, ⟨f, hf0, hf1, hst⟩, hel⟩ := R.chain
                  obtain ⟨S2, T2, _, x2⟩ := R.sys
                  have NM : NmIs wr mb n D l := nmi.stay ((x2 mb o rfl).2.trans hob.symm)
                  obtain ⟨S', st'⟩ := R.st
                  have hd : hist'.drop ver = ext := by rw [hext, hvl]; simp
                  have hh := R.hist
                  have CS := since_any _ wr S' sp 100 l' hist' ver st' (by omega) (by omega) (by omega)
                  rw [hd] at CS
                  obtain ⟨M, hM⟩ : ∃ M, M = ext.length := ⟨_, rfl⟩
                  rw [← hM] at CS
                  have CS := Lib.hid CS
                  have HS3 := Lib.hid (And.intro NM (And.intro R (And.intro hst (And.intro hf0 (And.intro hf1 (And.intro hM (And.intro hbm hn6)))))))
                  have hMi : M ≤ i2 := by omega
                  clear nmi hob hn6 hvl hbm hl6 hext hf0 hf1 hst hel x2 NM R st' hd hh HR hM h1 h2 hlt R0 HNM
                  go_upto_region 24 with fail
                  go_wp2_with fail
                  refine CS.out.mono ?_
                  rintro e w7 ⟨⟨v, rfl, ov⟩, b7⟩
                  obtain ⟨q', c', rfl⟩ := own_slice ov
                  obtain ⟨NM, R, hst, hf0, hf1, hM, hbm, hn6⟩ := HS3.out
                  have R7 := R.gr b7
                  have NM7 := NM.stay (b7.block mb NM.lt)
                  obtain ⟨o7, ho7⟩ := NM7.obj
                  have R7' : Run W.heap.size W w7 sp mp 100 (some (mb, o7)) l hist l' hist' i2 (0 + i') := by
                    refine ⟨?_, R7.chain, R7.few, R7.low⟩
                    obtain ⟨S3, T3, s3, x3⟩ := R7.sys
                    exact ⟨S3, T3, s3, fun b o e => by cases e; exact ⟨(x3 mb _ rfl).1, ho7⟩⟩
                  have lm := NM.lt
                  have rows : ∀ i e, ext[i]? = some e → ∃ g : Nat, q' = some ⟨g, 0, none⟩ ∧ g < w7.heap.size ∧ g ≠ mb ∧ ∀ t u, (encE e)[t]? = some u → w7.cell? ⟨g, i * 4 + t, none⟩ = some u := fun i e he => by
                    have hi : i < M := by rw [hM]; exact (List.getElem?_eq_some_iff.1 he).1
                    obtain ⟨g, cap, cur, hgq, hgb, hgh⟩ : ∃ g cap cur, Value.slice q' M c' = .slice (some ⟨g, 0, none⟩) M cap ∧ _ ≤ g ∧ w7.heap[g]? = some (.cells cur ET (0, 0)) := by
                      rcases ov.2 with ⟨_, h0⟩ | ⟨g, cap, cur, e1, e2, e3, _⟩
                      · omega
                      · exact ⟨g, cap, cur, e1, e2, e3⟩
                    simp only [Value.slice.injEq, true_and] at hgq
                    obtain ⟨rfl, rfl⟩ := hgq
                    refine ⟨g, rfl, (Array.getElem?_eq_some_iff.1 hgh).1, by omega, fun t u hu => ?_⟩
                    have ht : t < 4 := by
                      have := (List.getElem?_eq_some_iff.1 hu).1
                      rwa [lenE] at this
                    have := ov.cells (g := g) rfl (i * 4 + t) u (by rw [flat_at lenE ext i t e he ht]; exact hu)
                    rwa [add_none', Nat.zero_add] at this
                  have HS4 := Lib.hid (And.intro NM7 (And.intro R7' (And.intro hst (And.intro hf0 (And.intro hf1 (And.intro hM (And.intro hbm (And.intro hn6 rows))))))))
                  clear ov b7 NM R hst hf0 hf1 hM hbm hn6 R7 NM7 ho7 R7' lm rows CS HS3
                  go_wp2_with fail
                  go_loopg [96] M (fun g vi w => ∃ i3 : Nat, vi = .int .i64 (i3 : Int) ∧ i3 ≤ M ∧ M - i3 ≤ g ∧ Hid (∃ n' D' o', NmIs w mb n' D' (f i3) ∧ n' ≤ 60 + i3 ∧ Run W.heap.size W w sp mp 100 (some (mb, o')) l hist l' hist' i2 (0 + i') ∧ Chg [mb] w7 w))
                  case atStart => exact ⟨0, rfl, Nat.zero_le _, by omega, ⟨n, D, o7, by rw [HS4.out.2.2.2.1]; exact HS4.out.1, by have := HS4.out.2.2.2.2.2.2.2.1; omega, HS4.out.2.1, Chg.refl _ _⟩⟩
                  case round =>
                    obtain ⟨i3, rfl, h1, h2, HR⟩ := hrel
                    by_cases hlt : i3 < M
                    · obtain ⟨n', D', o', NM, hn, R, C⟩ := HR.out
                      obtain ⟨_, _, hst, _, _, hM, hbm, _, rows⟩ := HS4.out
                      obtain ⟨e, he⟩ : ∃ e, ext[i3]? = some e := ⟨ext[i3]'(by omega), List.getElem?_eq_getElem (by omega)⟩
                      obtain ⟨g, rfl, hg, hgm, hcs⟩ := rows i3 e he
                      have sp_ := hst i3 e he
                      have cc : ∀ t u, (encE e)[t]? = some u → wr.cell? ⟨g, i3 * 4 + t, none⟩ = some u := fun t u hu => (World.cell?_of_block (C.block g hg (by simpa using hgm))).trans (hcs t u hu)
                      obtain ⟨wa, kd, nm, vr⟩ := e
                      have k0 := cc 0 _ rfl
                      have k1 := cc 1 _ rfl
                      have k2 := cc 2 _ rfl
                      have k3 := cc 3 _ rfl
                      rw [Nat.add_zero] at k0
                      have HE := Lib.hid (And.intro NM (And.intro hn (And.intro R (And.intro C (And.intro sp_ hbm)))))
                      clear NM hn R C hst hM hbm rows he hg hgm hcs sp_ cc HR
                      go_upto_region 29 with fail
                      obtain ⟨NM, hn, R, C, sp_, hbm⟩ := HE.out
                      obtain ⟨A, hA⟩ : ∃ A, A = wr.heap.size := ⟨_, rfl⟩
                      obtain ⟨wb, hwb⟩ : ∃ x, x = (wr.alloc (.cells #[.int .i64 wa, .int .i64 kd, .string nm, .int .u64 (vr : Int)] ET)).alloc (.cells #[.int .i64 kd, .string nm] NK) := ⟨_, rfl⟩
                      have G1 : Gr wr (wr.alloc (.cells #[.int .i64 wa, .int .i64 kd, .string nm, .int .u64 (vr : Int)] ET)) := (Gr.refl wr).alloc _
                      have Gb : Gr wr wb := hwb ▸ G1.alloc _
                      have z1 : (wr.alloc (.cells #[.int .i64 wa, .int .i64 kd, .string nm, .int .u64 (vr : Int)] ET)).heap.size = A + 1 := by rw [hA]; simp
                      have e1 : wb.heap[A]? = some (.cells #[.int .i64 wa, .int .i64 kd, .string nm, .int .u64 (vr : Int)] ET (0, 0)) := by
                        rw [hwb, ((Gr.refl (wr.alloc (.cells #[.int .i64 wa, .int .i64 kd, .string nm, .int .u64 (vr : Int)] ET))).alloc _).heap (by rw [z1]; omega), hA]
                        exact heap_alloc_new wr _
                      have e2 : wb.heap[A + 1]? = some (.cells #[.int .i64 kd, .string nm] NK (0, 0)) := by
                        rw [hwb, ← z1]
                        exact heap_alloc_new _ _
                      rw [← hwb, ← hA]
                      obtain ⟨bz, hbz⟩ : ∃ b, b = (wa == 0) := ⟨_, rfl⟩
                      obtain ⟨b2, hb2⟩ : ∃ b, b = (wa != 2) := ⟨_, rfl⟩
                      have hwas : (f i3).any (hit kd nm) = !bz := by
                        rw [hbz]
                        have := sp_.was
                        simp only at this
                        rw [this]
                        cases h : (wa == 0) <;> simp_all
                      have gd : Below wb.heap.size wb wb.drew := ((Gr.refl wb).drewN 1).below
                      have NMb : NmIs wb.drew mb n' D' (f i3) := (NM.stay (Gb.heap NM.lt)).stay rfl
                      have lml : mb < wb.heap.size := NMb.lt
                      obtain ⟨w9, hr, NM9, t9⟩ := NMb.set (l' := f (i3 + 1)) (by unfold maxLen; omega) sp_.kind sp_.name b2 (fun k' nm' _ _ => by
                        have := sp_.now k' nm'
                        simp only at this
                        rw [this]
                        congr 1
                        rw [hb2]
                        cases h : (wa != 2) <;> simp_all)
                      obtain ⟨o9, ho9⟩ := NM9.obj
                      have bwd : Below wr.heap.size wr wb.drew := Gb.below.trans (gd.mono Gb.below.size)
                      have Rd := R.gr bwd
                      obtain ⟨od, hod⟩ := NMb.obj
                      have Rd' : Run W.heap.size W wb.drew sp mp 100 (some (mb, od)) l hist l' hist' i2 (0 + i') := by
                        refine ⟨?_, Rd.chain, Rd.few, Rd.low⟩
                        obtain ⟨S3, T3, s3, x3⟩ := Rd.sys
                        exact ⟨S3, T3, s3, fun b o e => by cases e; exact ⟨(x3 mb _ rfl).1, hod⟩⟩
                      have RN : Hid (∃ n' D' o', NmIs w9 mb n' D' (f (i3 + 1)) ∧ n' ≤ 60 + (i3 + 1) ∧ Run W.heap.size W w9 sp mp 100 (some (mb, o')) l hist l' hist' i2 (0 + i') ∧ Chg [mb] w7 w9) :=
                        ⟨_, _, o9, NM9, by omega, Rd'.chg rfl hbm (NMb.unprot hbm) (turned_chg t9) o9 ho9, (C.trans (Chg.ofBelow bwd []) (by simp)).trans (turned_chg t9) (fun g hg => .inl hg)⟩
                      have KE : Hid (∀ ws : World, Below wb.heap.size wb ws → ws.cell? ⟨A, 0, none⟩ = some (.int .i64 wa)) := fun ws b => (World.cell?_of_block (b.block A (Array.getElem?_eq_some_iff.1 e1).1)).trans (cell_of_block e1 0)
                      have KL : Hid (∀ ws : World, Below wb.heap.size wb ws → ws.rangeAt (A + 1) 0 [.int .i64 kd, .string nm]) := fun ws b => rangeAt_block (cs := #[.int .i64 kd, .string nm]) ((b.block (A + 1) (Array.getElem?_eq_some_iff.1 e2).1).trans e2)
                      have KK : Hid (∀ ws : World, Below wb.heap.size wb ws → (Instr.lookup NT (.map (some mb)) (.agg #[.int .i64 kd, .string nm]) false).run Try.prog ws = .ok (.bool (!bz)) ws) := fun ws b => by
                        rw [← hwas]
                        exact NMb.look sp_.kind sp_.name ws (b.block mb lml)
                      have hik : (Try.prog.info? NK).map (·.size) = some ([.int .i64 kd, .string nm] : List Value).length := by kernel_rfl
                      have huk := Try.underlying62
                      have d0 : wb.drew.cell? ⟨A, 0, none⟩ = some (.int .i64 wa) := cell_of_block (w := wb.drew) e1 0
                      have d1 : wb.drew.cell? ⟨A + 1, 0, none⟩ = some (.int .i64 kd) := cell_of_block (w := wb.drew) e2 0
                      have d2 : wb.drew.cell? ⟨A + 1, 1, none⟩ = some (.string nm) := cell_of_block (w := wb.drew) e2 1
                      have hr' : (Instr.mapUpdate NT (.map (some mb)) (.agg #[.int .i64 kd, .string nm]) (.bool b2)).run Try.prog wb.drew = .ok () w9 := hr
                      have t0 : (wa == 0) = bz := hbz.symm
                      have t2 : (wa != 2) = b2 := hb2.symm
                      have GD := Lib.hid gd
                      clear NM hn R C sp_ hbm hA hwb G1 Gb z1 e1 e2 hbz hb2 hwas gd NMb lml hr NM9 t9 ho9 bwd Rd hod Rd' HE k0 k1 k2 k3
                      go_cut [111] from 105 to 111 (fun v wx => v = .bool false ∧ wx = wb.drew)
                      case first =>
                        refine wp_region_held_drew (S := fun ws => Below wb.heap.size wb ws) mixed GD.out (fun hS => ?_)
                        refine wpAnyH_takeD (i := 0) (d := 105) (v := .map (some mb)) _ rfl rfl (by kernel_rfl) (by kernel_rfl) (by kernel_rfl) (fun _ _ _ h => h) (Or.inl ⟨by kernel_rfl, fun ws hSw => by first | (go_simp; done) | (go_simp; with_reducible rfl) | (go_simp; rfl)⟩) hS ?_
                        simp only [Act.put, List.setIfInBounds_toArray, List.set_cons_zero, List.set_cons_succ]
                        refine wpAnyH_takeD (i := 1) (d := 106) (v := .agg #[.int .i64 kd, .string nm]) _ rfl rfl (by kernel_rfl) (by kernel_rfl) (by kernel_rfl) (fun _ _ _ h => h) (yieldsIf_load_mid (by kernel_rfl) _ _ rfl (A + 1) 0 (by kernel_rfl) [.int .i64 kd, .string nm] _ (fun ws hSw => KL.out ws hSw) huk rfl hik) hS ?_
                        simp only [Act.put, List.setIfInBounds_toArray, List.set_cons_zero, List.set_cons_succ]
                        refine wpAnyH_takeD (i := 2) (d := 107) (v := .bool (!bz)) _ rfl rfl (by kernel_rfl) (by kernel_rfl) (by kernel_rfl) (fun _ _ _ h => h) (Or.inl ⟨by kernel_rfl, fun ws hSw => by have q := KK.out ws hSw; first | (go_simp; done) | (go_simp; with_reducible rfl) | (go_simp; rfl)⟩) hS ?_
                        simp only [Act.put, List.setIfInBounds_toArray, List.set_cons_zero, List.set_cons_succ]
                        refine wpAnyH_takeD (i := 3) (d := 108) (v := .pointer (some ⟨A, 0, none⟩)) _ rfl rfl (by kernel_rfl) (by kernel_rfl) (by kernel_rfl) (fun _ _ _ h => h) (Or.inl ⟨by kernel_rfl, fun ws hSw => by first | (go_simp; done) | (go_simp; with_reducible rfl) | (go_simp; rfl)⟩) hS ?_
                        simp only [Act.put, List.setIfInBounds_toArray, List.set_cons_zero, List.set_cons_succ]
                        refine wpAnyH_takeD (i := 4) (d := 109) (v := .int .i64 wa) _ rfl rfl (by kernel_rfl) (by kernel_rfl) (by kernel_rfl) (fun _ _ _ h => h) (Or.inl ⟨by kernel_rfl, fun ws hSw => by have q := KE.out ws hSw; first | (go_simp; done) | (go_simp; with_reducible rfl) | (go_simp; rfl)⟩) hS ?_
                        simp only [Act.put, List.setIfInBounds_toArray, List.set_cons_zero, List.set_cons_succ]
                        refine wpAnyH_takeD (i := 5) (d := 110) (v := .bool bz) _ rfl rfl (by kernel_rfl) (by kernel_rfl) (by kernel_rfl) (fun _ _ _ h => h) (Or.inl ⟨by kernel_rfl, fun ws hSw => by first | (go_simp; done) | (go_simp; with_reducible rfl) | (go_simp; rfl)⟩) hS ?_
                        simp only [Act.put, List.setIfInBounds_toArray, List.set_cons_zero, List.set_cons_succ]
                        refine wpAnyH_takeD (i := 6) (d := 111) (v := .bool false) _ rfl rfl (by kernel_rfl) (by kernel_rfl) (by kernel_rfl) (fun _ _ _ h => h) (Or.inl ⟨by kernel_rfl, fun ws hSw => by first | (go_simp; done) | (go_simp; with_reducible rfl) | (go_simp; rfl)⟩) hS ?_
                        simp only [Act.put, List.setIfInBounds_toArray, List.set_cons_zero, List.set_cons_succ]
                        refine wpAnyH_done (by kernel_rfl) ?_ _
                        go_wp2_with fail
                        go_meet
                        case rel => exact ⟨rfl, rfl⟩
                      case rest =>
                        obtain ⟨rfl, rfl⟩ := hcut
                        clear KE KL KK hik huk GD
                        go_wp2_with fail
                        go_roundg (M - (i3 + 1))
                        case measure => omega
                        case rel => exact ⟨i3 + 1, by push_cast; rfl, by omega, by omega, RN⟩
                    · obtain ⟨n', D', o', NM, hn, R, C⟩ := HR.out
                      have hi : i3 = M := by omega
                      subst hi
                      obtain ⟨_, _, hst, _, hf1, hM, hbm, _, rows⟩ := HS4.out
                      have hl : f i3 = l' := by rw [hM]; exact hf1
                      rw [hl] at NM
                      have fine := R.fine
                      obtain ⟨S5, st5⟩ := R.st
                      have hle : l'.length ≤ 120 := by have := R.few; omega
                      have hlow := R.low
                      have own := Lib.hid NM.own
                      obtain ⟨r, hr⟩ : ∃ r, r = wr.heap.size := ⟨_, rfl⟩
                      have HS5 := Lib.hid (And.intro NM (And.intro fine (And.intro st5 (And.intro hle (And.intro hlow hr)))))
                      clear NM hn R C hst hf1 hM hbm rows hl fine st5 hle hlow HR HS4 h1 h2 hlt hr
                      go_upto_region 34 with fail
                      go_wp2_with (first
                        | (at_range; refine wpList_range_own _ rfl _ NT rfl NK 4 lawN mapN hR mb n' D' rfl own.out ?_; intro w0 hrg0 hg0 hs0)
                        | go_in)
                      go_frame
                      obtain ⟨NM, fine, st5, hle, hlow, hr⟩ := HS5.out
                      rw [← hr] at hrg0 ⊢
                      have hb0 : Below wr.heap.size wr w0 := ⟨hg0.os, hg0.tape, hg0.output, hg0.size, fun g hg => hg0.block g hg (by simp)⟩
                      have st0 := st5.gr hb0
                      have low0 : Below W.heap.size W w0 := hlow.trans (hb0.mono hlow.size)
                      have hWr : W.heap.size ≤ r := by rw [hr]; exact hlow.size
                      have hrS : ∀ g ∈ S5, g ∉ [r] := fun g hg hm => by
                        simp at hm
                        have := (st5.prot g hg).2.1
                        omega
                      have hrP : ∀ g ∈ [r], g < w0.heap.size → ¬ Prot W.heap.size w0 g := fun g hg _ => by
                        simp at hg
                        subst hg
                        obtain ⟨es, cl, si, se, c0, _, _, _, _, hri, _⟩ := hrg0
                        rintro (hp | ⟨cs, T, fz, h3, h4⟩)
                        · omega
                        · rw [hri] at h3; cases h3
                      have HT := Lib.hid (And.intro NM (And.intro fine (And.intro st0 (And.intro hle (And.intro low0 (And.intro hWr (And.intro hrS hrP)))))))
                      have HR0 := Lib.hid hrg0
                      clear NM fine st5 hle hlow hr hb0 st0 low0 hWr hrS hrP HS5 hrg0 hg0 hs0 own
                      go_loopw [21] (fun v wx => ∃ (left : Lit → Bool) (cnt m : Nat), v = .int .i64 (m : Int) ∧ m ≤ 120 ∧ wx.ranges Try.prog NK hR mb r n' D' left cnt ∧ Hid (m = seen left l' ∧ Chg [r] w0 wx ∧ ∀ z, left z = true → Maps.has D' z = true))
                        (fun _ wx => wx.rangeLeft mb r)
                      case atStart =>
                        obtain ⟨NM, fine, _⟩ := HT.out
                        exact ⟨_, _, 0, rfl, by omega, HR0.out, (seen_none (fun o ho => NM.has (fine.2 o ho).1 (fine.2 o ho).2 (List.any_eq_true.2 ⟨o, ho, hit_self o⟩))).symm, Chg.refl _ _, fun z h => h⟩
                      case round =>
                        obtain ⟨left, cnt, m, rfl, hm120, hrg, HX⟩ := hrel
                        go_wp2_with (first
                          | (at_next; refine wpList_next_ranges _ rfl _ rfl NK lawN hR (fun v : Value => v) (fun v : Value => v) (fun key _ _ => ⟨key, rfl⟩) (fun v _ _ => ⟨v, rfl⟩) mb r n' D' _ _ rfl hrg ?_ ?_)
                          | go_in)
                        · intro hc0 hl0
                          obtain ⟨hm, C, _⟩ := HX.out
                          obtain ⟨NM, fine, st0, hle, low0, hWr, hrS, hrP⟩ := HT.out
                          have stx := st0.chg C hrS hrP
                          obtain ⟨L, hLL⟩ : ∃ L, L = l'.length := ⟨_, rfl⟩
                          have hL : m = L := by rw [hm, hLL]; exact seen_all hl0
                          have CL := Lib.hid (len_any _ wr S5 sp 100 l' hist' stx)
                          rw [← hLL] at CL
                          have FIN : Hid (Below W.heap.size W wr) := low0.trans (C.below (base := W.heap.size) (fun g hg => by simp at hg; omega) low0.size)
                          subst hL
                          clear hm C NM fine st0 hle low0 hWr hrS hrP stx hLL HX hrg hl0 hc0 HR0 HT
                          go_wp2_with fail
                          refine CL.out.mono ?_
                          rintro e w9 ⟨rfl, rfl⟩
                          go_wp2
                          go_ret
                          exact ⟨rfl, FIN.out⟩
                        · intro x c klit y yp w1 cnt1 hkey hlx hv hat hrg1 hlt hg1 hs1 hen
                          obtain ⟨hm, C, hsub⟩ := HX.out
                          obtain ⟨NM, fine, st0, hle, low0, hWr, hrS, hrP⟩ := HT.out
                          obtain ⟨k, nm, hk, hn, rfl⟩ := NM.keys klit (hsub klit hlx)
                          have hkey' : keyOf Try.prog NK x = some (kl k nm) := hkey
                          have hxk : x = thing k nm := lawN.inj hkey' (key_atN hk hn)
                          subst hxk
                          have hc : c = .bool (l'.any (hit k nm)) := by
                            have h1 : D'.atKey (kl k nm) (.held (.bool false)) = y := hat _
                            rw [NM.vals k nm hk hn] at h1
                            have hv' : hR c = some (y, yp) := hv
                            simp only [hR, Option.some.injEq, Prod.mk.injEq] at hv'
                            rw [← hv'.1] at h1
                            simp only [DataW.held.injEq] at h1
                            exact h1.symm
                          subst hc
                          obtain ⟨an, han⟩ : ∃ b, b = l'.any (hit k nm) := ⟨_, rfl⟩
                          have hen' : (Instr.entry (.pointer (some ⟨r, 0, none⟩))).run Try.prog w1 = .ok (.tuple #[.agg #[.int .i64 k, .string nm], .bool an]) w1 := by rw [han]; exact hen
                          obtain ⟨K, hK⟩ : ∃ K, K = w1.heap.size := ⟨_, rfl⟩
                          obtain ⟨wn, hwn⟩ : ∃ x, x = w1.alloc (.cells #[.int .i64 k, .string nm] NK) := ⟨_, rfl⟩
                          have Gn : Gr w1 wn := hwn ▸ (Gr.refl w1).alloc _
                          have en : wn.heap[K]? = some (.cells #[.int .i64 k, .string nm] NK (0, 0)) := by rw [hwn, hK]; exact heap_alloc_new w1 _
                          have d1 : wn.cell? ⟨K, 0, none⟩ = some (.int .i64 k) := cell_of_block en 0
                          have d2 : wn.cell? ⟨K, 1, none⟩ = some (.string nm) := cell_of_block en 1
                          have C1 : Chg [r] w0 w1 := C.trans (Chg.ofGrown (S := [r]) hg1 (fun g e => .inl (by simp at e; simp [e]))) (fun g hg => .inl hg)
                          have stn := (st0.chg C1 hrS hrP).gr Gn.below
                          have CG := Lib.hid (get_any _ wn S5 sp 100 l' hist' k nm stn hk hn)
                          rw [← han] at CG
                          have hsame : ∀ o ∈ l', (kl o.kind o.name).sameKey (kl k nm) = hit k nm o := fun o ho => by
                            rw [Bool.eq_iff_iff, WideAt.sameKey_iff (isKey _ _), hit_iff]
                            exact ⟨fun h => kl_inj (fine.2 o ho).1 (fine.2 o ho).2 hk hn h, fun h => by rw [h.1, h.2]⟩
                          have hseen : seen (fun z => left z && !z.sameKey (kl k nm)) l' = m + (if an then 1 else 0) := by
                            rw [hm, han]
                            exact seen_step hlx l' fine.1 (fun o ho => by rw [hsame o ho])
                          have hm2 : m + (if an then 1 else 0) ≤ 120 := by
                            rw [← hseen]
                            exact Nat.le_trans (List.length_filter_le _ _) hle
                          have HY := Lib.hid (And.intro hrg1 (And.intro hlt (And.intro C1 (And.intro hsub (And.intro hseen (And.intro hm2 (And.intro Gn hrg)))))))
                          have HWN : Hid (w1.alloc (.cells #[.int .i64 k, .string nm] NK) = wn ∧ w1.heap.size = K) := ⟨hwn.symm, hK.symm⟩
                          clear hm C hsub NM fine st0 hle low0 hWr hrS hrP hk hn hkey hkey' hlx hv hat hrg1 hlt hg1 hs1 hen han hK hwn Gn en C1 stn hsame hseen hm2 HX hrg HR0 HT
                          go_upto_region 37 with fail
                          rw [HWN.out.1, HWN.out.2]
                          go_wp2_with fail
                          refine CG.out.mono ?_
                          rintro e w5 ⟨⟨V, rfl, hVs, hVo, _⟩, b5⟩
                          have z0 : (w5.alloc (.cells zerC OT)).heap[w5.heap.size]? = some (.cells zerC OT (0, 0)) := heap_alloc_new w5 _
                          obtain ⟨th, n0', fx1, c1'⟩ := store_ob (base := w5.heap.size) z0 rfl hVs (Nat.le_refl _)
                          obtain ⟨w6, hw6⟩ : ∃ W, W = (w5.alloc (.cells zerC OT)).setCells w5.heap.size 0 V.toList := ⟨_, rfl⟩
                          obtain ⟨A, hA⟩ : ∃ A, A = w5.heap.size := ⟨_, rfl⟩
                          rw [← hw6] at n0' c1'
                          rw [← hA] at n0' c1'
                          have b6 : Below w5.heap.size w5 w6 := by
                            have g : Gr w5 (w5.alloc (.cells zerC OT)) := (Gr.refl w5).alloc _
                            exact ((Xb.ofGr g A).trans ⟨c1'.os, c1'.tape, c1'.output, c1'.size, fun k hk hne => c1'.block k hk (by simpa using hne)⟩).below (by omega) (Nat.le_refl _)
                          have TH := Lib.hid th
                          have IN : Hid ((Try.prog.info? OT).map (·.size) = some V.size) := by show _ = _; rw [hVs]; exact info_ob47
                          have ON : Hid (V.all (·.oneCell') = true) := hVo
                          have HW6 : Hid ((w5.alloc (.cells zerC OT)).setCells w5.heap.size 0 V.toList = w6 ∧ w5.heap.size = A) := ⟨hw6.symm, hA.symm⟩
                          obtain ⟨hrg1, hlt, C1, hsub, hseen, hm2, Gn, hrg⟩ := HY.out
                          have b16 : Below w1.heap.size w1 w6 := Gn.below.trans ((b5.mono Gn.below.size).trans (b6.mono (Nat.le_trans Gn.below.size b5.size)))
                          have hg6 : w1.grownBy w6 none := ⟨b16.os, b16.tape, b16.output, b16.size, fun i hi _ => b16.block i hi⟩
                          have hrg6 := hrg1.kept hg6 (by simp) (by simp)
                          have RN := Lib.hid (And.intro hseen (And.intro (C1.trans (Chg.ofBelow b16 []) (by simp)) (fun z (hz : (left z && !z.sameKey (kl k nm)) = true) => hsub z (by rw [Bool.and_eq_true] at hz; exact hz.1))))
                          have HRG := Lib.hid (And.intro hrg6 (And.intro hlt hrg))
                          clear z0 th n0' fx1 c1' hw6 hA b6 hVs hVo hrg1 hlt C1 hsub hseen Gn hrg b16 hg6 hrg6 b5 CG HY HWN d1 d2 hen'
                          go_upto_region 38 with (refine wpList_store_mid rfl _ _ _ rfl w5.heap.size 0 V (by rfl) (by rfl) TH.out IN.out ON.out ?_; rw [HW6.out.1, HW6.out.2])
                          clear TH IN ON HW6
                          cases an with
                          | false =>
                            go_wp2
                            go_roundw
                            case rel => exact ⟨_, cnt1, m, rfl, by omega, HRG.out.1, RN.out.1.symm, RN.out.2.1, RN.out.2.2⟩
                            case measure => rw [HRG.out.1.left_eq, HRG.out.2.2.left_eq]; exact HRG.out.2.1
                          | true =>
                            have hm3 : m + 1 ≤ 120 := hm2
                            go_wp2
                            go_roundw
                            case rel => exact ⟨_, cnt1, m + 1, by push_cast; rfl, hm3, HRG.out.1, RN.out.1.symm, RN.out.2.1, RN.out.2.2⟩
                            case measure => rw [HRG.out.1.left_eq, HRG.out.2.2.left_eq]; exact HRG.out.2.1

theorem walk {H : Type} {enc : TypeId × Value → H} {base : Nat} (W : World) (v0 : Value) (d0 : DataW H) (p0 : List MemPlace) (o0 : Value.okWide Try.prog W .any base 22 v0) (h0 : DataW.Trod enc Try.prog W 0 (fun _ => true) true 22 v0 d0 p0)
    (v1 : Value) (d1 : DataW H) (p1 : List MemPlace) (o1 : Value.okWide Try.prog W .any base 22 v1) (h1 : DataW.Trod enc Try.prog W 0 (fun _ => true) true 22 v1 d1 p1) (wt0 : Wt 22 d0) (wt1 : Wt 22 d1) :
    Calls Try.prog 3 #[v0, v1] W fun e W' => e = .returned (.bool true) ∧ Below W.heap.size W W' := by
  obtain ⟨q0, c0, a0, rfl, r0, k0, n0⟩ := open_acts o0 h0 wt0
  obtain ⟨q1, c1, a1, rfl, r1, k1, n1⟩ := open_acts o1 h1 wt1
  exact walk_at W q0 c0 a0 ⟨r0, k0, n0⟩ q1 c1 a1 ⟨r1, k1, n1⟩

/-! ### THE ROW's STEP -/
set_option maxRecDepth 100000 in
theorem lifted (os : Os) (started : os.Started) (H : Type) (enc : TypeId × Value → H) :
    ReturnsInHanded {} Try.checked os 3 .any (Rows.storeFollowsSpec.pre6 enc Try.prog Try.f3 Rows.storeFollowsRow.domain false) (Rows.storeFollowsSpec.post enc Try.prog Try.f3 false true false false) := by
  refine returnsInHanded_of_change_sized (C := Try.checked) own started (by kernel_rfl) Try.func3
    (ChangeSpec.witness6 (enc := enc) (C := Try.checked) false ⟨#[], #[.slice none 0 0, .slice none 0 0], []⟩ 8 (by kernel_rfl) (by kernel_rfl) (by kernel_rfl) (by kernel_rfl)) ?_
  intro W base args ds gs before hval0 hW hcnd hsz0 _
  have hval : ∀ (j : Nat) t v, Try.f3.params[j]? = some t → args[j]? = some v → Value.okWide Try.prog W .any base t v := hval0
  have hW' := hW
  obtain ⟨p, q, hA0, hV, rfl, hfz, hnd⟩ := hW
  have hA : DataW.TrodAll enc Try.prog W 0 (fun _ => true) true Try.f3.params.toList args.toList ds p := hA0
  have hlt : ∀ x ∈ p, x.block < W.heap.size := fun x hx => hW'.lt x (List.mem_append_left _ hx)
  rw [Try.params3] at hA hval
  have hread : ∀ t ∈ [22, 22], Try.prog.readableRec t = true ∧ t < Try.prog.types.size := by
    intro t ht
    simp only [List.mem_cons, List.not_mem_nil, or_false] at ht
    rcases ht with rfl | rfl <;> exact ⟨by kernel_rfl, of_decide_eq_true (by kernel_rfl)⟩
  have again : ∀ (W' : World), Below W.heap.size W W' → ∀ sp : Nat → Bool, (∀ x ∈ p, sp x.block = true) → DataW.TrodAll enc Try.prog W' 0 sp true [22, 22] args.toList ds p :=
    fun W' hb sp hsp => all_again (by kernel_rfl) hb [22, 22] args.toList ds p hread hA hlt hsp
  obtain ⟨v0, v1, d0, d1, p0, p1, rfl, rfl, rfl, h0, h1⟩ := trodAll_two hA
  obtain ⟨rfl, rfl⟩ := trodVars_none hV
  have wt0 : Wt 22 d0 := fun n hn => by
    have := List.all_eq_true.1 hsz0 n (DataW.weights_mem_each (j := 0) (t := 22) (d := d0) (by kernel_rfl) rfl n hn)
    simpa using this
  have wt1 : Wt 22 d1 := fun n hn => by
    have := List.all_eq_true.1 hsz0 n (DataW.weights_mem_each (j := 1) (t := 22) (d := d1) (by kernel_rfl) rfl n hn)
    simpa using this
  clear hA0 hval0
  simp only [List.append_nil] at hW'
  refine (walk W v0 d0 p0 (hval 0 22 v0 rfl rfl) h0 v1 d1 p1 (hval 1 22 v1 rfl rfl) h1 wt0 wt1).mono fun e W' ⟨he, hg⟩ => ?_
  subst he
  exact ⟨_, rfl, post_below hW' hg (fun _ _ _ => trodAll_mk1 (shut_bool Try.underlying4 _)) (fun sp hsp => again W' hg sp hsp) (fun _ => rfl) (ok_one (by kernel_rfl) rfl (okWide_bool_mk Try.underlying4 _))⟩

theorem over : Rows.storeFollowsRow.holds Try.pinned (OpenSpec.ofChange Rows.storeFollowsSpec) :=
  OpenClaim.holds_of_wide 3 Try.f3 rfl rfl rfl rfl rfl rfl rfl ⟨rfl, rfl, rfl, rfl, rfl⟩ rfl rfl rfl rfl rfl (by kernel_rfl) Try.func3 (by kernel_rfl)
    (of_decide_eq_true (by kernel_rfl)) (by unfold Func.isWrapper; first | (rw [if_pos (by decide +kernel)]; kernel_rfl) | (rw [if_neg (by decide +kernel)]; exact ⟨rfl, rfl⟩))
    (fun os started H enc _ => lifted os started H enc)

/-- The statement. -/
theorem proved : Rows.StoreFollowsSaid :=
  over
#print axioms proved
end Go.Proofs.Ytacgbagcddjlnaa.storeFollows
