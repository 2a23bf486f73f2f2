/- Proved here: the law PolicyKeeps of layer 22 holds for every input: of what was done Keep tells the last 32, not too long ago, in order; what is handed in stays, whatever is written into the answer; and the chapter's example. No conditions. -/
import Derived.Test.YtfmllfolpcimpaaPyM
import Derived.Test.YtfmllfolpcimpaaPyLawBase
namespace Go.Proofs.Ytfmllfolpcimpaa.policyKeeps
open Go.ChangeShapes Go.WideShapes Go.ChangeAt Go.RowKit Go.Lib Go.Shelf Go.Sort Go.Deep
open Go.Joins (cell_of_block unfrozen_of_block block_setCell)
open Go.Proofs.Ytfmllfolpcimpaa.Ow Go.Proofs.Ytfmllfolpcimpaa.Py
set_option linter.unusedVariables false
set_option linter.unusedSimpArgs false
set_option maxRecDepth 20000

set_option maxHeartbeats 4000000 in
theorem bad (W : World) (q : Option Addr) (c : Nat) (l : List Sca) (hr : RowR 3 encS W q l) (hl : l.length ≤ 140737488351232) (now : Int) (h : rightB l now = false) :
    Calls Try.prog 3 #[.slice q l.length c, .int .i64 now] W fun e W' => e = .returned (.bool true) ∧ Below W.heap.size W W' := by
  have CL := Lib.hid (fun w => pylives w)
  have CR : Hid (∀ w, Below W.heap.size W w → Calls Try.prog 6 #[.slice q l.length c, .int .i64 now] w fun e w' => e = .returned (.bool false) ∧ Below w.heap.size w w') := fun w b => by
    have := py_right w q c l (hr.below b) hl now
    rw [h] at this
    exact this
  generalize l.length = n at CR ⊢
  clear hr hl h
  go_enter Try.func3, Try.ntmps3
  go_wp2_with fail
  refine (CL.out _).mono ?_
  rintro y w2 ⟨rfl, b2⟩
  have C2 := Lib.hid (CR.out w2 b2)
  have B2 := Lib.hid b2
  clear b2 CR
  go_wp2_with fail
  refine C2.out.mono ?_
  rintro y w3 ⟨rfl, b3⟩
  have B3 := Lib.hid (B2.out.trans (b3.mono B2.out.size))
  clear b3 B2 C2
  go_wp2_with fail
  refine (CL.out _).mono ?_
  rintro y w4 ⟨rfl, b4⟩
  have B4 := Lib.hid (B3.out.trans (b4.mono B3.out.size))
  clear b4 B3 CL
  go_wp2
  go_ret
  exact ⟨rfl, B4.out⟩

set_option maxHeartbeats 32000000 in
theorem good (W : World) (q : Option Addr) (c : Nat) (l : List Sca) (hr : RowR 3 encS W q l) (hq : q = none → c = 0) (now : Int) (h : rightB l now = true) :
    Calls Try.prog 3 #[.slice q l.length c, .int .i64 now] W fun e W' => e = .returned (.bool true) ∧ Below W.heap.size W W' := by
  have mixed : Try.prog.follows .mixedOrders = true := by kernel_rfl
  obtain ⟨hA, hn0, hn1, hl⟩ := rightB_true h
  have hI : I64 now := by unfold I64; omega
  have hAI : ∀ x ∈ l, I64 x.1 := fun x hx => by have := hA x hx; unfold I64; omega
  have CL := Lib.hid (fun w => pylives w)
  have CR : Hid (∀ w, Below W.heap.size W w → Calls Try.prog 6 #[.slice q l.length c, .int .i64 now] w fun e w' => e = .returned (.bool true) ∧ Below w.heap.size w w') := fun w b => by
    have := py_right w q c l (hr.below b) (by omega) now
    rw [h] at this
    exact this
  have CK : Hid (∀ w q' c', RowR 3 encS w q' l → Calls Try.prog 7 #[.slice q' l.length c', .int .i64 now] w fun e w' => (∃ q' c', e = .returned (.slice q' (keepL now l).length c') ∧ NewSc w.heap.size w' q' (keepL now l)) ∧ Below w.heap.size w w') := fun w q' c' hr' => py_keep w q' c' l hr' (by omega) hAI now hI
  obtain ⟨n, hnl⟩ : ∃ n, n = l.length := ⟨_, rfl⟩
  obtain ⟨p, hp⟩ : ∃ p, p = kpS now := ⟨_, rfl⟩
  have EK : Hid (keepL now l = (l.filter p).drop ((l.filter p).length - 32)) := by show _ = _; rw [hp]; rfl
  have EP : Hid (∀ x, p x = decide (now - x.1 < 1800)) := fun x => by rw [hp]; exact kpS_eq now x
  generalize keepL now l = K at EK CK
  rw [← hnl] at CR CK hl
  rw [← hnl]
  have HH := Lib.hid (And.intro hr (And.intro hnl (And.intro hA (And.intro hn0 (And.intro hn1 hq)))))
  clear hr hnl hA hn0 hn1 h hI hAI hp hq
  go_enter Try.func3, Try.ntmps3
  go_wp2_with fail
  refine (CL.out _).mono ?_
  rintro y wa ⟨rfl, ba⟩
  have C2 := Lib.hid (CR.out wa ba)
  have BA := Lib.hid ba
  clear ba CR
  go_wp2_with fail
  refine C2.out.mono ?_
  rintro y wb ⟨rfl, bb⟩
  have BB := Lib.hid (BA.out.trans (bb.mono BA.out.size))
  clear bb BA C2 CL
  obtain ⟨E, hE⟩ : ∃ E, E = wb.heap.size := ⟨_, rfl⟩
  obtain ⟨w1, hw1⟩ : ∃ x, x = wb.alloc (.cells #[] ScT) := ⟨_, rfl⟩
  have g1 : Below wb.heap.size wb w1 := by rw [hw1]; exact ((Gr.refl wb).alloc _).below
  have e1 : w1.heap[E]? = some (.cells #[] ScT (0, 0)) := by rw [hw1, hE]; exact heap_alloc_new wb _
  have o1 : OwnSc E w1 (.slice (some ⟨E, 0, none⟩) 0 0) [] := ⟨by rfl, .inr ⟨E, 0, #[], rfl, Nat.le_refl _, e1, Nat.le_refl _, Nat.zero_le _, rfl, rfl⟩⟩
  have z1 : E ≤ w1.heap.size := by rw [hE]; exact g1.size
  have L1 : Below W.heap.size W w1 := BB.out.trans (g1.mono BB.out.size)
  have O1 := Lib.hid (And.intro o1 (And.intro z1 (And.intro L1 (And.intro (HH.out.1.below L1) (show W.heap.size ≤ E by rw [hE]; exact BB.out.size)))))
  have HW : Hid (wb.alloc (.cells #[] ScT) = w1 ∧ wb.heap.size = E) := ⟨hw1.symm, hE.symm⟩
  clear hE hw1 g1 e1 o1 z1 L1 BB
  go_upto_region 3 with fail
  go_wp2_with (at_builtin; rw [HW.out.1, HW.out.2]; refine wpList_append_scs rfl _ _ rfl E (.slice (some ⟨E, 0, none⟩) 0 0) [] (by rfl) O1.out.1 q n c l HH.out.2.1 (by rfl) O1.out.2.2.2.1 HH.out.2.2.2.2.2 (by have := HH.out.2.1; simp; omega) O1.out.2.1 ?_; intro v2 w2 ho2 hg2)
  rw [List.nil_append] at ho2
  obtain ⟨qo, co, rfl⟩ := slc_own ho2
  have ho3 := ho2
  unfold OwnSc at ho3
  have OR := Lib.hid (OwnSc.row ho2).2
  have B2 : Hid (Below W.heap.size W w2) := O1.out.2.2.1.trans ((grown_low O1.out.2.1 O1.out.1 hg2).mono O1.out.2.2.2.2)
  have C2 := Lib.hid (CK.out w2 qo co OR.out)
  have NL : Hid (l.length = n) := HH.out.2.1.symm
  rw [NL.out]
  clear ho2 ho3 hg2 O1 HW CK
  go_wp2_with fail
  refine C2.out.mono ?_
  rintro y w3 ⟨⟨qg, cg, rfl, gr⟩, b3⟩
  obtain ⟨k, hk⟩ : ∃ k, k = K.length := ⟨_, rfl⟩
  obtain ⟨N2, hN2⟩ : ∃ N, N = w2.heap.size := ⟨_, rfl⟩
  rw [← hN2] at gr
  rw [← hk]
  have GR := Lib.hid gr
  have B23 := Lib.hid b3
  have HK : Hid (K.length = k) := hk.symm
  have HN2 : Hid (w2.heap.size = N2) := hN2.symm
  clear gr b3 hk hN2 C2 NL
  obtain ⟨M, hM⟩ : ∃ M, M = w3.heap.size := ⟨_, rfl⟩
  have HM : Hid (w3.heap.size = M) := hM.symm
  have B3 : Hid (Below W.heap.size W w3) := B2.out.trans (B23.out.mono B2.out.size)
  have S0 : Hid (OwnSc M w3 (.slice none 0 0) [] ∧ Below M w3 w3) := ⟨World.ownsRow_nil _ _ _ _, Below.refl _ _⟩
  clear hM
  go_wp2_with fail
  go_loopg [7, 30] n (fun g1 v7 vi wr => ∃ (j m c7 : Nat) (q7 : Option Addr), vi = .int .i64 (j : Int) ∧ j ≤ n ∧ n - j ≤ g1 ∧ v7 = .slice q7 m c7 ∧ m ≤ j ∧ Hid (((l.take j).filter p).length = m ∧ OwnSc M wr (.slice q7 m c7) ((l.take j).filter p) ∧ Below M w3 wr))
  case atStart => exact ⟨0, 0, 0, none, rfl, Nat.zero_le _, by omega, rfl, Nat.le_refl _, rfl, S0.out⟩
  case round =>
    clear S0
    obtain ⟨j, m, c7, q7, rfl, h1, h2, rfl, hm, HS⟩ := hrel
    by_cases hlt : j < n
    · obtain ⟨hr, hnl, hA, hn0, hn1, _⟩ := HH.out
      obtain ⟨fl, fo, bl⟩ := HS.out
      obtain ⟨x, hx⟩ : ∃ x, l[j]? = some x := ⟨l[j]'(by omega), List.getElem?_eq_getElem (by omega)⟩
      have bm : Below w3.heap.size w3 wr := by rw [HM.out]; exact bl
      obtain ⟨gb, off, rfl, c0, c1, c2⟩ := sca_at hr (B3.out.trans (bm.mono B3.out.size)) hx
      have PX := EP.out x
      have hx1 := hA x (List.mem_of_getElem? hx)
      have FS := filter_snoc p hx
      obtain ⟨xa, xf, xt⟩ := x
      dsimp only at c0 c1 c2 PX hx1
      obtain ⟨d, hd⟩ : ∃ d, d = now - xa := ⟨_, rfl⟩
      have wd : IntKind.i64.wrap (now - xa) = d := by rw [IntKind.wrap_i64]; omega
      rw [← hd] at PX
      obtain ⟨wb, E', HW, bb, bE, e0, e1, e2⟩ := box_sca wr xa xf xt
      have hNr : M ≤ wr.heap.size := by have := bm.size; have := HM.out; omega
      have FB := Lib.hid (And.intro fl (And.intro (fo.below bb) (And.intro (bl.trans (bb.mono hNr)) (Nat.le_trans hNr bb.size))))
      cases hpb : p (xa, xf, xt) with
      | false =>
        rw [hpb] at FS PX
        have dd := PX.symm
        have FS' : Hid ((l.take (j + 1)).filter p = (l.take j).filter p) := by show _ = _; rw [FS]; simp
        clear hr hnl hA hn0 hn1 fl fo bl hx bm FS bb bE hNr hpb PX hx1 hd
        go_upto_region 9 with fail
        rw [HW.out.1, HW.out.2]
        go_wp2
        go_roundg (n - (j + 1))
        case measure => omega
        case rel => exact ⟨j + 1, m, c7, q7, by push_cast; rfl, by omega, by omega, rfl, by omega, by rw [FS'.out]; exact ⟨FB.out.1, FB.out.2.1, FB.out.2.2.1⟩⟩
      | true =>
        rw [hpb] at FS PX
        have dd := PX.symm
        have FS' : Hid ((l.take (j + 1)).filter p = (l.take j).filter p ++ [(xa, xf, xt)]) := by show _ = _; rw [FS]; simp
        obtain ⟨w7, B, HW7, b7, bB, _, _, _⟩ := box_sca wb xa xf xt
        have OU := Lib.hid (FB.out.2.1.below b7)
        have BX := Lib.hid bB
        have HB : Hid (M ≤ w7.heap.size) := Nat.le_trans FB.out.2.2.2 b7.size
        have L7 := Lib.hid (FB.out.2.2.1.trans (b7.mono FB.out.2.2.2))
        have HO := Lib.hid FB.out.1
        clear hr hnl hA hn0 hn1 fl fo bl hx bm FS bb bE hNr hpb b7 bB FB PX hx1 hd
        go_upto_region 9 with fail
        rw [HW.out.1, HW.out.2]
        go_wp2_with (at_builtin; rw [HW7.out.1, HW7.out.2]; refine wpList_push_sca rfl _ _ (by rfl) (xa, xf, xt) HO.out (by rfl) OU.out HB.out (by omega) B (by rfl) BX.out ?_; intro q8 c8 w8 ho8 hg8)
        have NX : Hid (((l.take (j + 1)).filter p).length = m + 1 ∧ OwnSc M w8 (.slice q8 (m + 1) c8) ((l.take (j + 1)).filter p) ∧ Below M w3 w8) := by
          rw [FS'.out]
          exact ⟨by rw [List.length_append, HO.out]; rfl, ho8, L7.out.trans (grown_low HB.out OU.out hg8)⟩
        clear L7 HO HB BX OU HW7 ho8 hg8 FS'
        go_wp2
        go_roundg (n - (j + 1))
        case measure => omega
        case rel => exact ⟨j + 1, m + 1, c8, q8, by push_cast; rfl, by omega, by omega, rfl, by omega, NX.out⟩
    · have ejn : n = j := by omega
      subst ejn
      rename World => w4
      obtain ⟨fl, fo, bl⟩ := HS.out
      have et : (l.take n).filter p = l.filter p := by rw [List.take_of_length_le (by have := HH.out.2.1; omega)]
      rw [et] at fl fo
      have W4 : Hid (K.length = k ∧ Below w3.heap.size w3 w4) := ⟨HK.out, by rw [HM.out]; exact bl⟩
      have cap : m ≤ c7 ∧ c7 ≤ maxLen := by
        rcases fo.2 with ⟨e, e0⟩ | ⟨g, cap, cur, e, hb, hg, hc, hm, hsz, htk⟩
        · simp only [Value.slice.injEq] at e
          obtain ⟨_, _, rfl⟩ := e
          rw [fl] at e0
          exact ⟨by omega, Nat.zero_le _⟩
        · simp only [Value.slice.injEq] at e
          obtain ⟨_, h, rfl⟩ := e
          exact ⟨by omega, hm⟩
      have EKl : Hid (K = (l.filter p).drop (m - 32)) := by show _ = _; rw [EK.out, fl]
      have S1 := Lib.hid fo
      obtain ⟨cm, cx⟩ := cap
      unfold maxLen at cx
      clear et fl fo bl EK EP hlt
      by_cases h32 : m > 32
      · obtain ⟨b, hb⟩ : ∃ b, b = m - 32 := ⟨_, rfl⟩
        have t1 : decide ((m : Int) > 32) = true := decide_eq_true (by omega)
        have wm : IntKind.i64.wrap ((m : Int) - 32) = (b : Int) := by rw [IntKind.wrap_i64]; omega
        have b0 : (0 : Int) ≤ (b : Int) := by omega
        have bm : b ≤ m := by omega
        have bcz : (b : Int) ≤ (m : Int) := by omega
        have cb1 : b < c7 := by omega
        have cb2 : ¬ c7 = b := by omega
        have cb3 : ¬ c7 - b = 0 := by omega
        have cb4 : ¬ c7 ≤ b := by omega
        obtain ⟨qw, hqw⟩ : ∃ x, x = Option.map (fun x => x.add (b * 3)) q7 := ⟨_, rfl⟩
        obtain ⟨cw, hcw⟩ : ∃ x, x = c7 - b := ⟨_, rfl⟩
        have RW : Hid (RowR 3 encS w4 qw K) := by
          show RowR 3 encS w4 qw K
          rw [EKl.out, ← hb, hqw]
          exact (NewSc.cut S1.out b).row
        have HV : Hid (Option.map (fun x => x.add (b * 3)) q7 = qw ∧ c7 - b = cw ∧ m - b = k) := by
          refine ⟨hqw.symm, hcw.symm, ?_⟩
          rw [← HK.out, EKl.out, List.length_drop, ← hb]
          have := (OwnSc.row S1.out).1
          omega
        clear hqw hcw hb EKl h32
        go_upto_region 14 with fail
        rw [HV.out.1, HV.out.2.1, HV.out.2.2]
        have hk9 : k ≤ 60 := by have := HV.out.2.2; omega
        have kk : ((k : Int) != (k : Int)) = false := by simp
        clear S1 HS
        go_wp2_with fail
        go_loopg [59] k (fun g1 vi wr => ∃ (j : Nat), vi = .int .i64 (j : Int) ∧ j ≤ k ∧ k - j ≤ g1 ∧ Hid (Below w4.heap.size w4 wr))
        case atStart => exact ⟨0, rfl, Nat.zero_le _, by omega, Below.refl _ _⟩
        case round =>
          obtain ⟨j, rfl, h1, h2, HB⟩ := hrel
          by_cases hlt : j < k
          · obtain ⟨x, hx⟩ : ∃ x, K[j]? = some x := ⟨K[j]'(by have := W4.out.1; omega), List.getElem?_eq_getElem (by have := W4.out.1; omega)⟩
            obtain ⟨gb, off, rfl, c0, c1, c2⟩ := sca_at RW.out HB.out hx
            obtain ⟨ga, ofa, rfl, a0, a1, a2⟩ := sca_at GR.out.row (W4.out.2.trans (HB.out.mono W4.out.2.size)) hx
            have NE := neq_sca x
            obtain ⟨xa, xf, xt⟩ := x
            dsimp only at c0 c1 c2 a0 a1 a2 NE
            have k0 : (0 : Int) ≤ (j : Int) := by omega
            have k1 : (j : Int) < (k : Int) := by omega
            clear hx
            go_upto_region 19 with fail
            go_quiet (fail)
            have HB5 : Hid (Below w4.heap.size w4 (wr.drewN nq)) := HB.out.trans (((Gr.refl wr).drewN nq).below.mono HB.out.size)
            generalize wr.drewN nq = w5 at HB5 ⊢
            clear HB c0 c1 c2 a0 a1 a2 NE
            go_wp2
            go_roundg (k - (j + 1))
            case measure => omega
            case rel => exact ⟨j + 1, by push_cast; rfl, by omega, by omega, HB5.out⟩
          · have ejk : k = j := by omega
            subst ejk
            rename World => w5
            have B5 : Hid (Below w3.heap.size w3 w5) := W4.out.2.trans (HB.out.mono W4.out.2.size)
            clear HB RW W4 hlt
            go_wp2_with fail
            go_loopg [74] k (fun g1 vi wr => ∃ (i : Nat), vi = .int .i64 (i : Int) ∧ i ≤ k ∧ k - i ≤ g1 ∧ Hid (Below N2 w3 wr ∧ (k = 0 ∨ ∃ g off cs, qg = some ⟨g, off, none⟩ ∧ N2 ≤ g ∧ wr.heap[g]? = some (.cells cs ScT (0, 0)) ∧ ∀ i, i < k → off + i * 3 + 2 < cs.size)))
            case atStart =>
              refine ⟨0, rfl, Nat.zero_le _, by omega, B5.out.mono (by rw [← HN2.out]; exact B23.out.size), ?_⟩
              rcases GR.out with e | ⟨g, off, cs, e1, e2, e3, e4⟩
              · exact .inl (by rw [← HK.out, e]; rfl)
              · refine .inr ⟨g, off, cs, e1, e2, (B5.out.block g (Array.getElem?_eq_some_iff.1 e3).1).trans e3, fun i hi => ?_⟩
                have := e4 i (K[i]'(by have := HK.out; omega)) (List.getElem?_eq_getElem (by have := HK.out; omega)) 2 _ rfl
                exact (Array.getElem?_eq_some_iff.1 this).1
            case round =>
              obtain ⟨i, rfl, h3, h4, HP⟩ := hrel
              by_cases hlt2 : i < k
              · obtain ⟨bl, hc⟩ := HP.out
                rcases hc with e | ⟨g, off, cs, rfl, hN, hg, hsz⟩
                · omega
                · have f2 : wr.cell? ⟨g, off + i * 3 + 2, none⟩ = some (cs[off + i * 3 + 2]'(hsz i hlt2)) := by rw [cell_of_block hg]; exact Array.getElem?_eq_getElem _
                  have u2 : wr.frozen? ⟨g, off + i * 3 + 2, none⟩ = false := unfrozen_of_block hg _
                  have k0 : (0 : Int) ≤ (i : Int) := by omega
                  have k1 : (i : Int) < (k : Int) := by omega
                  have NX : Hid (Below N2 w3 (wr.setCell ⟨g, off + i * 3 + 2, none⟩ (.int .i64 (-1))) ∧ (k = 0 ∨ ∃ g' off' cs', (some (⟨g, off, none⟩ : Addr)) = some ⟨g', off', none⟩ ∧ N2 ≤ g' ∧ (wr.setCell ⟨g, off + i * 3 + 2, none⟩ (.int .i64 (-1))).heap[g']? = some (.cells cs' ScT (0, 0)) ∧ ∀ i, i < k → off' + i * 3 + 2 < cs'.size)) :=
                    ⟨bl.setCell (p := ⟨g, off + i * 3 + 2, none⟩) hN _, .inr ⟨g, off, _, rfl, hN, put_to hg _, fun i hi => by rw [Array.size_setIfInBounds]; exact hsz i hi⟩⟩
                  generalize cs[off + i * 3 + 2]'(hsz i hlt2) = u at f2
                  clear bl hN hg hsz HP
                  go_wp2
                  go_roundg (k - (i + 1))
                  case measure => omega
                  case rel => exact ⟨i + 1, by push_cast; rfl, by omega, by omega, NX.out⟩
              · have eik : k = i := by omega
                subst eik
                rename World => w6
                have B6 : Hid (Below N2 w2 w6) := by
                  have b23 := B23.out
                  rw [HN2.out] at b23
                  exact b23.trans HP.out.1
                clear HP B5 GR hlt2
                go_wp2_with fail
                go_loopg [84] n (fun g1 vi wr => ∃ (a : Nat), vi = .int .i64 (a : Int) ∧ a ≤ n ∧ n - a ≤ g1 ∧ Hid (Below N2 w2 wr))
                case atStart => exact ⟨0, rfl, Nat.zero_le _, by omega, B6.out⟩
                case round =>
                  obtain ⟨a, rfl, h5, h6, HQ⟩ := hrel
                  by_cases hlt3 : a < n
                  · obtain ⟨x, hx⟩ : ∃ x, l[a]? = some x := ⟨l[a]'(by have := HH.out.2.1; omega), List.getElem?_eq_getElem (by have := HH.out.2.1; omega)⟩
                    have bq : Below w2.heap.size w2 wr := by rw [HN2.out]; exact HQ.out
                    obtain ⟨gb, off, rfl, c0, c1, c2⟩ := sca_at HH.out.1 (B2.out.trans (bq.mono B2.out.size)) hx
                    obtain ⟨ga, ofa, rfl, a0, a1, a2⟩ := sca_at OR.out bq hx
                    have NE := neq_sca x
                    obtain ⟨xa, xf, xt⟩ := x
                    dsimp only at c0 c1 c2 a0 a1 a2 NE
                    have k0 : (0 : Int) ≤ (a : Int) := by omega
                    have k1 : (a : Int) < (n : Int) := by omega
                    clear hx bq
                    go_upto_region 30 with fail
                    go_quiet (fail)
                    have HB5 : Hid (Below N2 w2 (wr.drewN nq)) := HQ.out.trans (((Gr.refl wr).drewN nq).below.mono (by have := HQ.out.size; have := HN2.out; omega))
                    generalize wr.drewN nq = w7 at HB5 ⊢
                    clear HQ c0 c1 c2 a0 a1 a2 NE
                    go_wp2
                    go_roundg (n - (a + 1))
                    case measure => omega
                    case rel => exact ⟨a + 1, by push_cast; rfl, by omega, by omega, HB5.out⟩
                  · have ean : n = a := by omega
                    subst ean
                    have F : Hid (Below W.heap.size W wr) := B2.out.trans ((show Below w2.heap.size w2 wr by rw [HN2.out]; exact HQ.out).mono B2.out.size)
                    go_wp2
                    go_ret
                    exact ⟨rfl, F.out⟩
      · have t1 : decide ((m : Int) > 32) = false := decide_eq_false (by omega)
        have e0 : m - 32 = 0 := by omega
        have RW : Hid (RowR 3 encS w4 q7 K) := by
          show RowR 3 encS w4 q7 K
          rw [EKl.out, e0]
          exact (OwnSc.row S1.out).2
        have em : k = m := by
          rw [← HK.out, EKl.out, List.length_drop, e0]
          have := (OwnSc.row S1.out).1
          omega
        subst em
        clear EKl h32 e0
        go_upto_region 14 with fail
        have hk9 : k ≤ 60 := by omega
        have kk : ((k : Int) != (k : Int)) = false := by simp
        clear S1 HS
        go_wp2_with fail
        go_loopg [59] k (fun g1 vi wr => ∃ (j : Nat), vi = .int .i64 (j : Int) ∧ j ≤ k ∧ k - j ≤ g1 ∧ Hid (Below w4.heap.size w4 wr))
        case atStart => exact ⟨0, rfl, Nat.zero_le _, by omega, Below.refl _ _⟩
        case round =>
          obtain ⟨j, rfl, h1, h2, HB⟩ := hrel
          by_cases hlt : j < k
          · obtain ⟨x, hx⟩ : ∃ x, K[j]? = some x := ⟨K[j]'(by have := W4.out.1; omega), List.getElem?_eq_getElem (by have := W4.out.1; omega)⟩
            obtain ⟨gb, off, rfl, c0, c1, c2⟩ := sca_at RW.out HB.out hx
            obtain ⟨ga, ofa, rfl, a0, a1, a2⟩ := sca_at GR.out.row (W4.out.2.trans (HB.out.mono W4.out.2.size)) hx
            have NE := neq_sca x
            obtain ⟨xa, xf, xt⟩ := x
            dsimp only at c0 c1 c2 a0 a1 a2 NE
            have k0 : (0 : Int) ≤ (j : Int) := by omega
            have k1 : (j : Int) < (k : Int) := by omega
            clear hx
            go_upto_region 19 with fail
            go_quiet (fail)
            have HB5 : Hid (Below w4.heap.size w4 (wr.drewN nq)) := HB.out.trans (((Gr.refl wr).drewN nq).below.mono HB.out.size)
            generalize wr.drewN nq = w5 at HB5 ⊢
            clear HB c0 c1 c2 a0 a1 a2 NE
            go_wp2
            go_roundg (k - (j + 1))
            case measure => omega
            case rel => exact ⟨j + 1, by push_cast; rfl, by omega, by omega, HB5.out⟩
          · have ejk : k = j := by omega
            subst ejk
            rename World => w5
            have B5 : Hid (Below w3.heap.size w3 w5) := W4.out.2.trans (HB.out.mono W4.out.2.size)
            clear HB RW W4 hlt
            go_wp2_with fail
            go_loopg [74] k (fun g1 vi wr => ∃ (i : Nat), vi = .int .i64 (i : Int) ∧ i ≤ k ∧ k - i ≤ g1 ∧ Hid (Below N2 w3 wr ∧ (k = 0 ∨ ∃ g off cs, qg = some ⟨g, off, none⟩ ∧ N2 ≤ g ∧ wr.heap[g]? = some (.cells cs ScT (0, 0)) ∧ ∀ i, i < k → off + i * 3 + 2 < cs.size)))
            case atStart =>
              refine ⟨0, rfl, Nat.zero_le _, by omega, B5.out.mono (by rw [← HN2.out]; exact B23.out.size), ?_⟩
              rcases GR.out with e | ⟨g, off, cs, e1, e2, e3, e4⟩
              · exact .inl (by rw [← HK.out, e]; rfl)
              · refine .inr ⟨g, off, cs, e1, e2, (B5.out.block g (Array.getElem?_eq_some_iff.1 e3).1).trans e3, fun i hi => ?_⟩
                have := e4 i (K[i]'(by have := HK.out; omega)) (List.getElem?_eq_getElem (by have := HK.out; omega)) 2 _ rfl
                exact (Array.getElem?_eq_some_iff.1 this).1
            case round =>
              obtain ⟨i, rfl, h3, h4, HP⟩ := hrel
              by_cases hlt2 : i < k
              · obtain ⟨bl, hc⟩ := HP.out
                rcases hc with e | ⟨g, off, cs, rfl, hN, hg, hsz⟩
                · omega
                · have f2 : wr.cell? ⟨g, off + i * 3 + 2, none⟩ = some (cs[off + i * 3 + 2]'(hsz i hlt2)) := by rw [cell_of_block hg]; exact Array.getElem?_eq_getElem _
                  have u2 : wr.frozen? ⟨g, off + i * 3 + 2, none⟩ = false := unfrozen_of_block hg _
                  have k0 : (0 : Int) ≤ (i : Int) := by omega
                  have k1 : (i : Int) < (k : Int) := by omega
                  have NX : Hid (Below N2 w3 (wr.setCell ⟨g, off + i * 3 + 2, none⟩ (.int .i64 (-1))) ∧ (k = 0 ∨ ∃ g' off' cs', (some (⟨g, off, none⟩ : Addr)) = some ⟨g', off', none⟩ ∧ N2 ≤ g' ∧ (wr.setCell ⟨g, off + i * 3 + 2, none⟩ (.int .i64 (-1))).heap[g']? = some (.cells cs' ScT (0, 0)) ∧ ∀ i, i < k → off' + i * 3 + 2 < cs'.size)) :=
                    ⟨bl.setCell (p := ⟨g, off + i * 3 + 2, none⟩) hN _, .inr ⟨g, off, _, rfl, hN, put_to hg _, fun i hi => by rw [Array.size_setIfInBounds]; exact hsz i hi⟩⟩
                  generalize cs[off + i * 3 + 2]'(hsz i hlt2) = u at f2
                  clear bl hN hg hsz HP
                  go_wp2
                  go_roundg (k - (i + 1))
                  case measure => omega
                  case rel => exact ⟨i + 1, by push_cast; rfl, by omega, by omega, NX.out⟩
              · have eik : k = i := by omega
                subst eik
                rename World => w6
                have B6 : Hid (Below N2 w2 w6) := by
                  have b23 := B23.out
                  rw [HN2.out] at b23
                  exact b23.trans HP.out.1
                clear HP B5 GR hlt2
                go_wp2_with fail
                go_loopg [84] n (fun g1 vi wr => ∃ (a : Nat), vi = .int .i64 (a : Int) ∧ a ≤ n ∧ n - a ≤ g1 ∧ Hid (Below N2 w2 wr))
                case atStart => exact ⟨0, rfl, Nat.zero_le _, by omega, B6.out⟩
                case round =>
                  obtain ⟨a, rfl, h5, h6, HQ⟩ := hrel
                  by_cases hlt3 : a < n
                  · obtain ⟨x, hx⟩ : ∃ x, l[a]? = some x := ⟨l[a]'(by have := HH.out.2.1; omega), List.getElem?_eq_getElem (by have := HH.out.2.1; omega)⟩
                    have bq : Below w2.heap.size w2 wr := by rw [HN2.out]; exact HQ.out
                    obtain ⟨gb, off, rfl, c0, c1, c2⟩ := sca_at HH.out.1 (B2.out.trans (bq.mono B2.out.size)) hx
                    obtain ⟨ga, ofa, rfl, a0, a1, a2⟩ := sca_at OR.out bq hx
                    have NE := neq_sca x
                    obtain ⟨xa, xf, xt⟩ := x
                    dsimp only at c0 c1 c2 a0 a1 a2 NE
                    have k0 : (0 : Int) ≤ (a : Int) := by omega
                    have k1 : (a : Int) < (n : Int) := by omega
                    clear hx bq
                    go_upto_region 30 with fail
                    go_quiet (fail)
                    have HB5 : Hid (Below N2 w2 (wr.drewN nq)) := HQ.out.trans (((Gr.refl wr).drewN nq).below.mono (by have := HQ.out.size; have := HN2.out; omega))
                    generalize wr.drewN nq = w7 at HB5 ⊢
                    clear HQ c0 c1 c2 a0 a1 a2 NE
                    go_wp2
                    go_roundg (n - (a + 1))
                    case measure => omega
                    case rel => exact ⟨a + 1, by push_cast; rfl, by omega, by omega, HB5.out⟩
                  · have ean : n = a := by omega
                    subst ean
                    have F : Hid (Below W.heap.size W wr) := B2.out.trans ((show Below w2.heap.size w2 wr by rw [HN2.out]; exact HQ.out).mono B2.out.size)
                    go_wp2
                    go_ret
                    exact ⟨rfl, F.out⟩

theorem walk {H : Type} {enc : TypeId × Value → H} {base : Nat} (W : World) (v0 : Value) (d0 : DataW H) (p0 : List MemPlace) (o0 : Value.okWide Try.prog W .any base 22 v0) (h0 : DataW.Trod enc Try.prog W 0 (fun _ => true) true 22 v0 d0 p0)
    (v1 : Value) (d1 : DataW H) (p1 : List MemPlace) (o1 : Value.okWide Try.prog W .any base 2 v1) (h1 : DataW.Trod enc Try.prog W 0 (fun _ => true) true 2 v1 d1 p1)
    (wt0 : Wt 22 d0) (wt1 : Wt 2 d1) :
    Calls Try.prog 3 #[v0, v1] W fun e W' => e = .returned (.bool true) ∧ Below W.heap.size W W' := by
  obtain ⟨q, c, l, rfl, hr, hq, hl⟩ := open_scs o0 h0 wt0
  obtain ⟨now, rfl, rfl, rfl, _⟩ := open_int Try.underlying2 o1 h1
  cases h : rightB l now with
  | false => exact bad W q c l hr hl now h
  | true => exact good W q c l hr hq now h

/-! ### THE ROW's STEP -/
set_option maxRecDepth 100000 in
theorem lifted (os : Os) (started : os.Started) (H : Type) (enc : TypeId × Value → H) :
    ReturnsInHanded {} Try.checked os 3 .any (Rows.policyKeepsSpec.pre6 enc Try.prog Try.f3 Rows.policyKeepsRow.domain false) (Rows.policyKeepsSpec.post enc Try.prog Try.f3 false true false false) := by
  refine returnsInHanded_of_change_sized (C := Try.checked) own started (by kernel_rfl) Try.func3
    (ChangeSpec.witness6 (enc := enc) (C := Try.checked) false ⟨#[], #[.slice none 0 0, .int .i64 0], []⟩ 8 (by kernel_rfl) (by kernel_rfl) (by kernel_rfl) (by kernel_rfl)) ?_
  intro W base args ds gs before hval0 hW hcnd hsz0 _
  have hval : ∀ (j : Nat) t v, Try.f3.params[j]? = some t → args[j]? = some v → Value.okWide Try.prog W .any base t v := hval0
  have hW' := hW
  obtain ⟨p, q, hA0, hV, rfl, hfz, hnd⟩ := hW
  have hA : DataW.TrodAll enc Try.prog W 0 (fun _ => true) true Try.f3.params.toList args.toList ds p := hA0
  have hlt : ∀ x ∈ p, x.block < W.heap.size := fun x hx => hW'.lt x (List.mem_append_left _ hx)
  rw [Try.params3] at hA hval
  have hread : ∀ t ∈ [22, 2], Try.prog.readableRec t = true ∧ t < Try.prog.types.size := by
    intro t ht
    simp only [List.mem_cons, List.not_mem_nil, or_false] at ht
    rcases ht with rfl | rfl <;> exact ⟨by kernel_rfl, of_decide_eq_true (by kernel_rfl)⟩
  have again : ∀ (W' : World), Below W.heap.size W W' → ∀ sp : Nat → Bool, (∀ x ∈ p, sp x.block = true) → DataW.TrodAll enc Try.prog W' 0 sp true [22, 2] args.toList ds p :=
    fun W' hb sp hsp => all_again (by kernel_rfl) hb [22, 2] args.toList ds p hread hA hlt hsp
  obtain ⟨v0, v1, d0, d1, p0, p1, rfl, rfl, rfl, h0, h1⟩ := trodAll_two hA
  obtain ⟨rfl, rfl⟩ := trodVars_none hV
  have wt0 : Wt 22 d0 := fun n hn => by
    have := List.all_eq_true.1 hsz0 n (DataW.weights_mem_each (j := 0) (t := 22) (d := d0) (by kernel_rfl) rfl n hn)
    simpa using this
  have wt1 : Wt 2 d1 := fun n hn => by
    have := List.all_eq_true.1 hsz0 n (DataW.weights_mem_each (j := 1) (t := 2) (d := d1) (by kernel_rfl) rfl n hn)
    simpa using this
  clear hA0 hval0
  simp only [List.append_nil] at hW' again
  refine (walk W v0 d0 p0 (hval 0 22 v0 rfl rfl) h0 v1 d1 p1 (hval 1 2 v1 rfl rfl) h1 wt0 wt1).mono fun e W' ⟨he, hg⟩ => ?_
  subst he
  exact ⟨_, rfl, post_below hW' hg (fun _ _ _ => trodAll_mk1 (shut_bool Try.underlying4 _)) (fun sp hsp => again W' hg sp hsp) (fun _ => rfl) (ok_one (by kernel_rfl) rfl (okWide_bool_mk Try.underlying4 _))⟩

theorem over : Rows.policyKeepsRow.holds Try.pinned (OpenSpec.ofChange Rows.policyKeepsSpec) :=
  OpenClaim.holds_of_wide 3 Try.f3 rfl rfl rfl rfl rfl rfl rfl ⟨rfl, rfl, rfl, rfl, rfl⟩ rfl rfl rfl rfl rfl (by kernel_rfl) Try.func3 (by kernel_rfl)
    (of_decide_eq_true (by kernel_rfl)) (by unfold Func.isWrapper; first | (rw [if_pos (by decide +kernel)]; kernel_rfl) | (rw [if_neg (by decide +kernel)]; exact ⟨rfl, rfl⟩))
    (fun os started H enc _ => lifted os started H enc)

/-- The statement. -/
theorem proved : Rows.PolicyKeepsSaid :=
  over
#print axioms proved
end Go.Proofs.Ytfmllfolpcimpaa.policyKeeps


