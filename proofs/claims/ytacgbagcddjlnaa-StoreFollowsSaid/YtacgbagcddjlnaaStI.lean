/- An act upon a store and its model: Delete (by wip/tools/genstdo.py). -/
import Derived.Test.YtacgbagcddjlnaaStO
import Derived.Test.YtacgbagcddjlnaaStA
import Derived.Deep.AppendLies
namespace Go.Proofs.Ytacgbagcddjlnaa
open Go.RowKit Go.Shelf Go.Lib Go.Sort
open Go.Joins (cell_of_block unfrozen_of_block block_setCell)
set_option linter.unusedVariables false
set_option linter.unusedSimpArgs false
set_option maxRecDepth 20000

set_option maxHeartbeats 16000000 in
theorem do_del (base : Nat) (w : World) (S T : List Nat) (sp mp : Nat) (most : Int) (l : List Ob) (hist : List Ev) (kk : Int) (cs : Array Value) (r : Bool) (o : Ob) (hs : Sys base w S T sp mp most l hist) (hc : Kept base w cs o) (hn : hist.length < 1000000) (hl : l.length < 1000000) (hkk : kk ≠ 0 ∧ kk ≠ 1) :
    Calls Try.prog 9 #[.pointer (some ⟨sp, 0, none⟩), .pointer (some ⟨mp, 0, none⟩), .int .i64 most, .agg (acC kk cs r)] w fun e w' => e = .returned (.bool true) ∧ ∃ l' hist', Move l hist l' hist' ∧ Next base w w' S T sp mp most l' hist' := by
  have mixed : Try.prog.follows .mixedOrders = true := by kernel_rfl
  obtain ⟨B, hB⟩ : ∃ B, B = w.heap.size := ⟨_, rfl⟩
  obtain ⟨X, hX⟩ : ∃ X, X = acC kk cs r := ⟨_, rfl⟩
  obtain ⟨wb, hwb⟩ : ∃ wb, wb = w.alloc (.cells X AcT) := ⟨_, rfl⟩
  rw [← hX]
  have G0 : Gr w wb := hwb ▸ (Gr.refl w).alloc _
  have hbw : base ≤ w.heap.size := by obtain ⟨_, _, _, _, q⟩ := hs.st; exact q.bw
  have a0 : ActAt base wb B kk cs r o := ⟨by rw [hwb, hB, hX]; exact heap_alloc_new w _, hc.fx (Fx.ofBelow G0.below), by omega⟩
  have sb := hs.gr G0.below
  have nB : B ∉ S ++ T := fun hm => by have := (hs.prot B hm).2.1; omega
  have hfn := hc.fits.name
  have CF := Lib.hid (find_m base wb T mp l hist o.kind o.name sb.mo hl)
  obtain ⟨b0, b1, b2, b3, br, f3⟩ := a0.cells
  have HW := Lib.hid (And.intro G0 (And.intro a0 (And.intro sb (And.intro nB (And.intro hfn (And.intro hB (And.intro hs (And.intro hn hl))))))))
  clear hs hc hX G0 a0 sb nB hfn hbw b3 f3 hn hl
  go_enter Try.func9, Try.ntmps9
  go_upto_region 1 with fail
  rw [← hwb, ← hB]
  clear hwb hB
  go_wp2_with fail
  refine CF.out.mono ?_
  rintro e w1 ⟨rfl, g1⟩
  obtain ⟨I, hI⟩ : ∃ I, I = idx l o.kind o.name := ⟨_, rfl⟩
  rw [← hI]
  have a1 : ActAt base w1 B kk cs r o := HW.out.2.1.gr g1
  have s1 := HW.out.2.2.1.gr g1
  clear b0 b1 b2 br CF
  obtain ⟨b0, b1, b2, b3, br, f3⟩ := a1.cells
  have H1 := Lib.hid (And.intro hI (And.intro g1 (And.intro a1 s1)))
  clear hI g1 a1 s1 b0 b1 b2
  go_upto_region 2 with fail
  go_cut [31] from 26 to 30 (fun v wx => v = .bool (r && decide (0 ≤ I)) ∧ wx = w1)
  case first =>
    clear hkk
    cases r with
    | false =>
      go_wp2_with fail
      go_meet
      case rel => exact ⟨rfl, rfl⟩
    | true =>
      by_cases hI0 : 0 ≤ I
      · have t : decide (0 ≤ I) = true := decide_eq_true hI0
        clear hI0
        go_wp2_with fail
        go_meet
        case rel => exact ⟨by rw [t]; rfl, rfl⟩
      · have t : decide (0 ≤ I) = false := decide_eq_false hI0
        clear hI0
        go_wp2_with fail
        go_meet
        case rel => exact ⟨by rw [t]; rfl, rfl⟩
  case rest =>
    obtain ⟨rfl, hw⟩ := hcut
    have hw' := hw.symm
    subst hw'
    obtain ⟨bb, hbb⟩ : ∃ b, b = (r && decide (0 ≤ I)) := ⟨_, rfl⟩
    rw [← hbb]
    have HBB := Lib.hid hbb
    clear hbb
    go_upto_if 31 with fail
    go_cut [8] from 32 to 41 (fun v8 wx => v8 = .bool false ∧ Hid (∃ cs2 o2, ActAt base wx B kk cs2 r o2 ∧ o2.kind = o.kind ∧ o2.name = o.name) ∧ Hid (Chg [B] w1 wx))
    case first =>
      clear hkk
      cases bb with
      | false =>
        go_wp2_with fail
        go_meet
        case rel => exact ⟨rfl, ⟨cs, o, H1.out.2.2.1, rfl, rfl⟩, Chg.refl _ _⟩
      | true =>
        obtain ⟨hI, g1, a1, s1⟩ := H1.out
        have hbb := HBB.out
        have h0 : 0 ≤ I := by
          have := hbb.symm
          rw [Bool.and_eq_true] at this
          exact of_decide_eq_true this.2
        have hany : l.any (hit o.kind o.name) = true := by
          cases e : l.any (hit o.kind o.name) with
          | true => rfl
          | false => rw [hI, idx, e] at h0; simp at h0
        obtain ⟨x, hx, hhx, hlt⟩ := find_idx hany
        obtain ⟨j, hj⟩ : ∃ j, j = l.findIdx (hit o.kind o.name) := ⟨_, rfl⟩
        rw [← hj] at hx hlt
        have hIj : I = (j : Int) := by rw [hI, idx, if_pos hany, hj]
        subst hIj
        obtain ⟨lv, mev, csl, hm⟩ := s1.mo
        obtain ⟨c, hcx, kx⟩ := hm.objs j x hx
        have hlen := hm.len
        obtain ⟨g, cap, cur, hlv, _, _, _⟩ : ∃ g cap cur, lv = .slice (some ⟨g, 0, none⟩) csl.length cap ∧ base ≤ g ∧ w1.heap[g]? = some (.cells cur OT (0, 0)) ∧ True := by
          rcases hm.row.2 with ⟨_, h0⟩ | ⟨g, cap, cur, e1, e2, e3, _⟩
          · omega
          · exact ⟨g, cap, cur, e1, e2, e3, trivial⟩
        obtain ⟨n, hn⟩ : ∃ n, n = csl.length := ⟨_, rfl⟩
        have m0 : w1.cell? ⟨mp, 0, none⟩ = some (.slice (some ⟨g, 0, none⟩) n cap) := by rw [hn, ← hlv]; exact cell_of_block hm.blk 0
        have jn : j < n := by omega
        have rr := rangeAt_own (by have := hm.row; rw [hlv] at this; exact this) hcx
        have q2 : w1.cell? ⟨g, j * 47 + 2, none⟩ = some (.int .u64 (x.ver : Int)) := rr 2 _ (by rw [Array.getElem?_toList]; exact kx.obj.2.1.2.2.1)
        obtain ⟨vx, hvx⟩ : ∃ v, v = x.ver := ⟨_, rfl⟩
        rw [← hvx] at q2
        have hn6 : n < 1000000 := by have := HW.out.2.2.2.2.2.2.2.2; omega
        have FIN : Hid (ActAt base (w1.setCell ⟨B, 3, none⟩ (.int .u64 (vx : Int))) B kk (cs.setIfInBounds 2 (.int .u64 (vx : Int))) r (setV o vx)) := a1.set (by rw [hvx]; exact kx.obj.2.1.2.2.2)
        clear hI g1 a1 s1 hbb h0 hany hx hhx hlt hj hm hcx kx hlen hlv rr hvx hn H1 HBB
        go_wp2_with fail
        go_meet
        case rel => exact ⟨rfl, ⟨_, _, FIN.out, rfl, rfl⟩, (Chg.refl [B] w1).setCell 3 _ (.inl (by simp))⟩
    case rest =>
      obtain ⟨rfl, HA, HC⟩ := hcut
      obtain ⟨cs2, o2, a2, ek, en⟩ := HA.out
      have c2 := HC.out
      obtain ⟨hI, g1, a1, s1⟩ := H1.out
      have nB := HW.out.2.2.2.1
      have s2 : Sys base wc S T sp mp most l hist := s1.chg c2 (fun g hg hm => by simp at hm; subst hm; exact nB hg) (fun g hg _ => by simp at hg; subst hg; exact (cells_prot a1.blk a1.lo rfl).2.2)
      have hI2 : I = idx l o2.kind o2.name := by rw [hI, ek, en]
      have W2 : Hid (Chg [] w wc) := ((Chg.ofGr HW.out.1 []).trans (Chg.ofBelow g1 []) (by simp)).trans c2 (fun g hg => .inr (by have := HW.out.2.2.2.2.2.1; simp at hg; omega))
      have hn := HW.out.2.2.2.2.2.2.2.1
      have hl := HW.out.2.2.2.2.2.2.2.2
      have nB2 := Lib.hid nB
      have HST := Lib.hid (fun g (hg : g ∈ S ++ T) => (HW.out.2.2.2.2.2.2.1.prot g hg).2.1)
      clear ek en c2 hI g1 a1 s1 nB HA HC H1 HBB HW b3 br f3
      obtain ⟨b0, b1, b2, b3, br, f3⟩ := a2.cells
      have t1 : (kk != 0) = true := by rw [bne_iff_ne]; exact hkk.1
      have t2 : (kk != 1) = true := by rw [bne_iff_ne]; exact hkk.2
      have hnm : o2.name.size ≤ maxLen := by
        have hf := a2.obj.fits.name
        unfold ftT at hf
        simp at hf
        unfold maxLen
        omega
      clear hkk
      by_cases hbad : o2.kind < 0 ∨ 5 ≤ o2.kind
      · skip
        have CD := Lib.hid (delete_bad wc sp o2.kind o2.name o2.ver hbad)
        have FIN : Hid (Move l hist l hist ∧ Next base w wc S T sp mp most l hist) := ⟨.stay, S, T, s2, W2.out.less (by simp), fun g hg => .inl hg⟩
        have hk : (decide (o2.kind < 0) = true) ∨ (decide (o2.kind < 0) = false ∧ decide (5 ≤ o2.kind) = true) := by
          by_cases h : o2.kind < 0
          · exact .inl (decide_eq_true h)
          · exact .inr ⟨decide_eq_false h, decide_eq_true (by omega)⟩
        clear hbad a2 s2 hI2 W2 hn hl nB2 hnm
        rcases hk with hk | ⟨hk, hk2⟩
        all_goals
          go_upto_region 5 with fail
          go_wp2_with fail
          refine CD.out.mono ?_
          rintro e w' ⟨rfl, rfl⟩
          go_wp2
          go_ret
          exact ⟨rfl, _, _, FIN.out⟩
      · have hk0 : 0 ≤ o2.kind ∧ o2.kind < 5 := by omega
        have hk : decide (o2.kind < 0) = false := decide_eq_false (by omega)
        have hk2 : decide (5 ≤ o2.kind) = false := decide_eq_false (by omega)
        have hd := delete_any base wc S sp most l hist o2.kind o2.name o2.ver s2.st hn hk0 hnm
        have hdE : delE o2.kind o2.name o2.ver l = match l.find? (hit o2.kind o2.name) with | none => 7 | some x => if o2.ver ≠ 0 ∧ o2.ver ≠ x.ver then 9 else 0 := if_neg hbad
        cases hf : l.find? (hit o2.kind o2.name) with
        | none =>
          rw [hf] at hdE
          have hI3 : I = -1 := by
            rw [hI2]
            refine idx_none (fun i x hi hx => ?_)
            have := List.find?_eq_none.1 hf x (List.mem_of_getElem? hx)
            simpa using this
          have CD : Hid (Calls Try.prog 18 #[.pointer (some ⟨sp, 0, none⟩), .int .i64 o2.kind, .string o2.name, .int .u64 (o2.ver : Int)] wc fun e w' => e = .returned (.tuple #[.int .u64 0, .int .i64 7]) ∧ Below wc.heap.size wc w') := hd.mono fun e w' h => by
            rcases h with ⟨_, h2, h3⟩ | ⟨h1, _⟩
            · rw [hdE] at h2; exact ⟨h2, h3⟩
            · rw [hdE] at h1; cases h1
          have HA := Lib.hid (And.intro s2 (And.intro W2.out a2))
          clear hbad s2 hI2 W2 hn hl nB2 hnm hd hdE hf hk0
          subst hI3
          go_upto_region 5 with fail
          go_wp2_with fail
          refine CD.out.mono ?_
          rintro e w' ⟨rfl, g'⟩
          obtain ⟨s2, W2, a2⟩ := HA.out
          have FIN : Hid (Move l hist l hist ∧ Next base w w' S T sp mp most l hist) := ⟨.stay, S, T, s2.gr g', (W2.trans (Chg.ofBelow g' []) (by simp)).less (by simp), fun g hg => .inl hg⟩
          obtain ⟨d0, d1, d2, d3, -, -⟩ := (a2.gr g').cells
          clear HA s2 W2 a2 g' CD
          go_wp2
          go_ret
          exact ⟨rfl, _, _, FIN.out⟩
        | some x =>
          rw [hf] at hdE
          have hmem := List.mem_of_find?_eq_some hf
          have hpx := List.find?_some hf
          have hany : l.any (hit o2.kind o2.name) = true := List.any_eq_true.2 ⟨x, hmem, hpx⟩
          obtain ⟨j, hj⟩ : ∃ j, j = l.findIdx (hit o2.kind o2.name) := ⟨_, rfl⟩
          have hIj : I = (j : Int) := by rw [hI2, idx, if_pos hany, hj]
          obtain ⟨x', hx, hhx, hlt⟩ := find_idx hany
          have hxx : x' = x := by
            have h1 := List.getElem?_eq_some_iff.1 hx
            have := List.find?_eq_some_iff_getElem.1 hf
            obtain ⟨_, i, hi, e1, e2⟩ := this
            have h3 : l.findIdx (hit o2.kind o2.name) = i := by
              rw [List.findIdx_eq hi]
              exact ⟨by rw [e1]; exact hpx, fun k hk => by have := e2 k hk; simpa using this⟩
            rw [h3, List.getElem?_eq_getElem hi, e1] at hx
            cases hx; rfl
          subst hxx
          rw [← hj] at hx hlt
          subst hIj
          by_cases hver : o2.ver ≠ 0 ∧ o2.ver ≠ x'.ver
          · skip
            have hdE' : delE o2.kind o2.name o2.ver l = 9 := by rw [hdE]; exact if_pos hver
            have CD : Hid (Calls Try.prog 18 #[.pointer (some ⟨sp, 0, none⟩), .int .i64 o2.kind, .string o2.name, .int .u64 (o2.ver : Int)] wc fun e w' => e = .returned (.tuple #[.int .u64 0, .int .i64 9]) ∧ Below wc.heap.size wc w') := hd.mono fun e w' h => by
              rcases h with ⟨_, h2, h3⟩ | ⟨h1, _⟩
              · rw [hdE'] at h2; exact ⟨h2, h3⟩
              · rw [hdE'] at h1; cases h1
            have t3 : ((o2.ver : Int) != 0) = true := by rw [bne_iff_ne]; omega
            have t4 : ((o2.ver : Int) != (x'.ver : Int)) = true := by rw [bne_iff_ne]; omega
            have HA := Lib.hid (And.intro s2 (And.intro W2.out (And.intro a2 (And.intro hx hlt))))
            clear hbad s2 hI2 W2 hn nB2 hnm hd hdE hf hk0 a2 hmem hpx hany hj hx hhx hlt hver hdE'
            go_upto_region 5 with fail
            go_wp2_with fail
            refine CD.out.mono ?_
            rintro e w' ⟨rfl, g'⟩
            obtain ⟨s2, W2, a2, hx, hlt⟩ := HA.out
            have FIN : Hid (Move l hist l hist ∧ Next base w w'.drew S T sp mp most l hist) := ⟨.stay, S, T, (s2.gr g').gr ((Gr.refl w').drewN 1).below, ((W2.trans (Chg.ofBelow g' []) (by simp)).trans (Chg.ofGr ((Gr.refl w').drewN 1) []) (by simp)).less (by simp), fun g hg => .inl hg⟩
            obtain ⟨d0, d1, d2, d3, -, -⟩ := (a2.gr g').cells
            obtain ⟨lv, mev, csl, hm⟩ := (s2.gr g').mo
            obtain ⟨c, hcx, kx⟩ := hm.objs j x' hx
            have hlen := hm.len
            obtain ⟨g, cap, cur, hlv, _, _, _⟩ : ∃ g cap cur, lv = .slice (some ⟨g, 0, none⟩) csl.length cap ∧ base ≤ g ∧ w'.heap[g]? = some (.cells cur OT (0, 0)) ∧ True := by
              rcases hm.row.2 with ⟨_, h0⟩ | ⟨g, cap, cur, e1, e2, e3, _⟩
              · omega
              · exact ⟨g, cap, cur, e1, e2, e3, trivial⟩
            obtain ⟨n, hn⟩ : ∃ n, n = csl.length := ⟨_, rfl⟩
            have m0 : w'.cell? ⟨mp, 0, none⟩ = some (.slice (some ⟨g, 0, none⟩) n cap) := by rw [hn, ← hlv]; exact cell_of_block hm.blk 0
            have jn : j < n := by omega
            have rr := rangeAt_own (by have := hm.row; rw [hlv] at this; exact this) hcx
            have q2 : w'.cell? ⟨g, j * 47 + 2, none⟩ = some (.int .u64 (x'.ver : Int)) := rr 2 _ (by rw [Array.getElem?_toList]; exact kx.obj.2.1.2.2.1)
            have hn6 : n < 1000000 := by omega
            clear HA s2 W2 a2 g' CD hm hcx kx hlen hlv rr hn hx hlt hl
            go_upto_region 10 with fail
            go_region
            all_goals
              go_wp2
              go_ret
              exact ⟨rfl, _, _, FIN.out⟩
          · have hdE' : delE o2.kind o2.name o2.ver l = 0 := by rw [hdE]; exact if_neg hver
            have hpS : ∀ g ∈ S, g < wc.heap.size → ¬ Prot base wc g := fun g hg _ => (s2.st.prot g hg).2.2
            have hml : j < l.length := hlt
            have CD : Hid (Calls Try.prog 18 #[.pointer (some ⟨sp, 0, none⟩), .int .i64 o2.kind, .string o2.name, .int .u64 (o2.ver : Int)] wc fun e w' => e = .returned (.tuple #[.int .u64 ((hist.length + 1 : Nat) : Int), .int .i64 0]) ∧ After base wc w' S sp most (del l o2.kind o2.name) (hist ++ [⟨2, o2.kind, o2.name, hist.length + 1⟩]) ∧ MoIs base w' T mp l hist ∧ ActAt base w' B kk cs2 r o2) := hd.mono fun e w' h => by
              rcases h with ⟨h1, _⟩ | ⟨_, h2, h3⟩
              · exact absurd hdE' h1
              · have AF := h3
                obtain ⟨S3, st3, c3, in3⟩ := h3
                exact ⟨h2, AF, s2.mo.chg c3 (fun g hg hm => s2.ap g hm hg) hpS, a2.chg c3 (fun hm => nB2.out (List.mem_append_left _ hm)) hpS⟩
            obtain ⟨N1, hN1⟩ : ∃ N, N = hist.length + 1 := ⟨_, rfl⟩
            have HA := Lib.hid (And.intro s2 (And.intro W2.out (And.intro a2 (And.intro hx (And.intro hver (And.intro hany (And.intro hj (And.intro hN1 (And.intro hl hn)))))))))
            rw [← hN1] at CD
            clear hbad s2 hI2 W2 hn nB2 hnm hd hdE hf hk0 a2 hmem hpx hany hj hx hhx hlt hver hdE' hN1 hpS hl
            go_upto_region 5 with fail
            go_wp2_with fail
            refine CD.out.mono ?_
            rintro e w3 ⟨rfl, AF, m3, a3⟩
            obtain ⟨s2, W2, a2, hx, hver, hany, hj, hN1, hl, hn⟩ := HA.out
            obtain ⟨d0, d1, d2, d3, -, -⟩ := a3.cells
            obtain ⟨lv, mev, csl, hm⟩ := m3
            obtain ⟨c, hcx, kx⟩ := hm.objs j x' hx
            have hlen := hm.len
            obtain ⟨g, cap, cur, hlv, hgb, hgh, hcap⟩ : ∃ g cap cur, lv = .slice (some ⟨g, 0, none⟩) csl.length cap ∧ base ≤ g ∧ w3.heap[g]? = some (.cells cur OT (0, 0)) ∧ csl.length ≤ cap := by
              rcases hm.row.2 with ⟨_, h0⟩ | ⟨g, cap, cur, e1, e2, e3, e4⟩
              · omega
              · exact ⟨g, cap, cur, e1, e2, e3, by omega⟩
            subst hlv
            obtain ⟨n, hn'⟩ : ∃ n, n = csl.length := ⟨_, rfl⟩
            have hm3 := hm
            rw [← hn'] at hm hcap
            have m0 : w3.cell? ⟨mp, 0, none⟩ = some (.slice (some ⟨g, 0, none⟩) n cap) := cell_of_block hm.blk 0
            have jn : j < n := by omega
            have rr := rangeAt_own hm3.row hcx
            have q2 : w3.cell? ⟨g, j * 47 + 2, none⟩ = some (.int .u64 (x'.ver : Int)) := rr 2 _ (by rw [Array.getElem?_toList]; exact kx.obj.2.1.2.2.1)
            have hn6 : n < 1000000 := by omega
            have HV := Lib.hid hver
            have HB := Lib.hid (And.intro hm (And.intro hn' (And.intro AF (And.intro a3 (And.intro hgb (And.intro hgh hcap))))))
            clear s2 W2 a2 CD hm hm3 hcx kx hlen hgb hgh hcap rr hn' hx hver hany hj hN1 hl hn AF a3
            go_upto_region 10 with fail
            go_cut [90] from 90 to 108 (fun v wx => v = .bool false ∧ wx = w3.drew)
            case first =>
              by_cases h0 : o2.ver = 0
              · have t3 : ((o2.ver : Int) != 0) = false := by rw [h0]; rfl
                clear h0 HV
                go_region
                all_goals
                  go_wp2_with fail
                  go_meet
                  case rel => exact ⟨rfl, rfl⟩
              · have t3 : ((o2.ver : Int) != 0) = true := by rw [bne_iff_ne]; omega
                have t4 : ((o2.ver : Int) != (x'.ver : Int)) = false := by
                  have e : o2.ver = x'.ver := by
                    by_cases e : o2.ver = x'.ver
                    · exact e
                    · exact absurd ⟨h0, e⟩ HV.out
                  rw [e]; simp
                clear h0 HV
                go_region
                all_goals
                  go_wp2_with fail
                  go_meet
                  case rel => exact ⟨rfl, rfl⟩
            case rest =>
              obtain ⟨rfl, rfl⟩ := hcut
              obtain ⟨hm, hn', AF, a3, hgb, hgh, hcap⟩ := HB.out
              have hn := HA.out.2.2.2.2.2.2.2.2.2
              have gd := ((Gr.refl w3).drewN 1).below
              have m4 : MoAt base w3.drew T mp (.slice (some ⟨g, 0, none⟩) n cap) mev csl l hist := hm.stay (fun _ _ => rfl) (Fx.ofBelow gd)
              have a4 : ActAt base w3.drew B kk cs2 r o2 := a3.gr gd
              have CN := Lib.hid (note_m base w3.drew T mp _ mev csl l hist 2 o2.kind o2.name cs2 m4 hn a4.obj.obj.2.1.1 a4.obj.obj.2.1.2.1)
              have LO := Lib.hid a4.load
              clear hm hn' AF a3 hgb hgh hcap hn gd m4 a4 m0 q2
              go_upto_region 12 with fail
              go_wp2_with (refine wpList_load_by (by kernel_rfl) OT _ rfl (.pointer (some ⟨B, 1, none⟩)) (.agg cs2) (by kernel_rfl) LO.out ?_)
              refine CN.out.mono ?_
              rintro e w4 ⟨rfl, mev', ⟨b4, o4, f4⟩, c4⟩
              obtain ⟨hm, hn', AF, a3, hgb, hgh, hcap⟩ := HB.out
              obtain ⟨s2, W2, a2, hx, hver, hany, hj, hN1, hl, hn⟩ := HA.out
              have gd := ((Gr.refl w3).drewN 1).below
              have C4 : Chg (mp :: mev.ownBlock.toList) w3 w4 := ((Chg.ofBelow gd (mp :: mev.ownBlock.toList))).trans c4 (fun g hg => .inl hg)
              have ngm : g ≠ mp := by
                rintro rfl
                rw [hm.blk] at hgh; cases hgh
              have nge : mev.ownBlock ≠ some g := own_ne hm.evs hgh (by decide)
              have hng : g ∉ mp :: mev.ownBlock.toList := by
                simp only [List.mem_cons, Option.mem_toList, not_or]
                exact ⟨ngm, nge⟩
              have g4 : w4.heap[g]? = w3.heap[g]? := C4.block g (Array.getElem?_eq_some_iff.1 hgh).1 hng
              have r4 : w4.ownsRow base OT 47 (.slice (some ⟨g, 0, none⟩) n cap) csl.length (flat encC csl) := own_block hm.row (fun k hk => by simp [Value.ownBlock] at hk; subst hk; exact g4)
              have x1 : ∀ t u, (flat encC (csl.take j))[t]? = some u → w4.cell? ⟨g, t, none⟩ = some u := fun t u ht => by
                have := r4.cells (g := g) rfl t u (flat_take ht)
                rwa [add_none', Nat.zero_add] at this
              have x2 : ∀ t u, (flat encC (csl.drop (j + 1)))[t]? = some u → w4.cell? ⟨g, (j + 1) * 47 + t, none⟩ = some u := fun t u ht => by
                have := r4.cells (g := g) rfl _ u (flat_drop (by omega) ht)
                rwa [add_none', Nat.zero_add] at this
              rw [← hN1] at b4 o4
              have K0 : Hid (∀ ws : World, ws.heap[mp]? = some (.cells (moC (.slice (some ⟨g, 0, none⟩) n cap) N1 mev') MoT (0, 0)) → ws.cell? ⟨mp, 0, none⟩ = some (.slice (some ⟨g, 0, none⟩) n cap)) := fun ws h => cell_of_block h 0
              have S0 : Hid (w4.drew.heap[mp]? = some (.cells (moC (.slice (some ⟨g, 0, none⟩) n cap) N1 mev') MoT (0, 0))) := b4
              have hcap' : n ≤ cap := hcap
              have KJ : Hid (∀ ws : World, ws.heap[mp]? = some (.cells (moC (.slice (some ⟨g, 0, none⟩) n cap) N1 mev') MoT (0, 0)) → (0 : Int) ≤ (j : Int) ∧ (j : Int) ≤ (cap : Int)) := fun ws h => ⟨by omega, by omega⟩
              have KN : Hid (∀ ws : World, ws.heap[mp]? = some (.cells (moC (.slice (some ⟨g, 0, none⟩) n cap) N1 mev') MoT (0, 0)) → (0 : Int) ≤ (j : Int) + 1 ∧ (j : Int) + 1 ≤ (n : Int)) := fun ws h => ⟨by omega, by omega⟩
              have KW : Hid (∀ ws : World, ws.heap[mp]? = some (.cells (moC (.slice (some ⟨g, 0, none⟩) n cap) N1 mev') MoT (0, 0)) → IntKind.i64.wrap ((j : Int) + 1) = (j : Int) + 1) := fun ws h => by rw [IntKind.wrap_i64]; omega
              obtain ⟨E, hE⟩ : ∃ E, E = w4.heap.size := ⟨_, rfl⟩
              obtain ⟨w5, hw5⟩ : ∃ W, W = w4.drew.alloc (.cells #[] OT) := ⟨_, rfl⟩
              have G5 : Gr w4 w5 := hw5 ▸ ((Gr.refl w4).drewN 1).alloc _
              have z5 : w5.heap.size = E + 1 := by rw [hw5, hE]; first | (simp; done) | (simp; rfl)
              have b5 : w5.heap[mp]? = some (.cells (moC (.slice (some ⟨g, 0, none⟩) n cap) N1 mev') MoT (0, 0)) := (G5.heap (Array.getElem?_eq_some_iff.1 b4).1).trans b4
              have e5 : w5.heap[E]? = some (.cells #[] OT (0, 0)) := by rw [hw5, hE]; exact heap_alloc_new w4.drew _
              have hbE : base ≤ E := by have := hm.bw; have := C4.size; omega
              have o5 : w5.ownsRow base OT 47 (.slice (some ⟨E, 0, none⟩) 0 0) 0 [] := ⟨by simp, .inr ⟨E, 0, #[], rfl, hbE, e5, Nat.le_refl _, Nat.zero_le _, rfl, rfl⟩⟩
              have lg : g < w4.heap.size := (Array.getElem?_eq_some_iff.1 (g4.trans hgh)).1
              have x15 : ∀ t u, (flat encC (csl.take j))[t]? = some u → w5.cell? ((⟨g, 0, none⟩ : Addr).add t) = some u := fun t u ht => by
                rw [add_none', Nat.zero_add]
                exact (World.cell?_of_block (G5.heap lg)).trans (x1 t u ht)
              have HI := Lib.hid (@info_OT)
              obtain ⟨by47, hby⟩ := HI.out
              have l1 : (flat encC (csl.take j)).length = j * 47 := by rw [flat_length lenC, List.length_take, Nat.min_eq_left (by omega)]
              have l2 : (flat encC (csl.drop (j + 1))).length = (n - (j + 1)) * 47 := by rw [flat_length lenC, List.length_drop, hn']
              have HS := Lib.hid (And.intro b5 (And.intro o5 (And.intro x15 (And.intro l1 (And.intro l2 (And.intro hby (And.intro hn6 (And.intro hbE (And.intro z5 (And.intro G5 jn))))))))))
              have HW5 : Hid ((w4.alloc (.cells #[] OT)).drew = w5 ∧ w4.heap.size = E) := ⟨hw5.symm, hE.symm⟩
              have HD := Lib.hid (And.intro b4 (And.intro o4 (And.intro f4 (And.intro C4 (And.intro g4 (And.intro hcap (And.intro x1 (And.intro x2 (And.intro lg (And.intro nge (And.intro ngm hn')))))))))))
              clear hm hn' AF a3 hgb hgh s2 W2 a2 hx hver hany hj hN1 hl hn gd C4 ngm nge hng g4 r4 x1 x2 b4 o4 f4 c4 CN LO d0 d1 d2 d3 hE hw5 G5 z5 b5 e5 hbE o5 lg x15 HI hby l1 l2 hn6 jn hcap hcap' hml
              go_upto_region 13 with fail
              refine wp_region_G (f := 19) (S := fun ws => ws.heap[mp]? = some (.cells (moC (.slice (some ⟨g, 0, none⟩) n cap) N1 mev') MoT (0, 0))) mixed S0.out (fun hS => ?_)
              refine wpAnyG_takeD (i := 0) (d := 119) (v := .pointer (some ⟨mp, 0, none⟩)) _ rfl rfl (by kernel_rfl) (by kernel_rfl) (by kernel_rfl) (by kernel_rfl) (fun _ _ _ h => h) (Or.inl ⟨by kernel_rfl, fun ws hSw => by first | (go_simp; done) | (go_simp; with_reducible rfl) | (go_simp; rfl)⟩) hS ?_
              simp only [Act.put, List.setIfInBounds_toArray, List.set_cons_zero, List.set_cons_succ]
              refine wpAnyG_takeD (i := 2) (d := 121) (v := .pointer (some ⟨mp, 0, none⟩)) _ rfl rfl (by kernel_rfl) (by kernel_rfl) (by kernel_rfl) (by kernel_rfl) (fun _ _ _ h => h) (Or.inl ⟨by kernel_rfl, fun ws hSw => by first | (go_simp; done) | (go_simp; with_reducible rfl) | (go_simp; rfl)⟩) hS ?_
              simp only [Act.put, List.setIfInBounds_toArray, List.set_cons_zero, List.set_cons_succ]
              refine wpAnyG_takeD (i := 3) (d := 122) (v := .pointer (some ⟨mp, 0, none⟩)) _ rfl rfl (by kernel_rfl) (by kernel_rfl) (by kernel_rfl) (by kernel_rfl) (fun _ _ _ h => h) (Or.inl ⟨by kernel_rfl, fun ws hSw => by first | (go_simp; done) | (go_simp; with_reducible rfl) | (go_simp; rfl)⟩) hS ?_
              simp only [Act.put, List.setIfInBounds_toArray, List.set_cons_zero, List.set_cons_succ]
              refine wpAnyG_takeD (i := 4) (d := 123) (v := .pointer (some ⟨mp, 0, none⟩)) _ rfl rfl (by kernel_rfl) (by kernel_rfl) (by kernel_rfl) (by kernel_rfl) (fun _ _ _ h => h) (Or.inl ⟨by kernel_rfl, fun ws hSw => by first | (go_simp; done) | (go_simp; with_reducible rfl) | (go_simp; rfl)⟩) hS ?_
              simp only [Act.put, List.setIfInBounds_toArray, List.set_cons_zero, List.set_cons_succ]
              refine wpAnyG_takeD (i := 5) (d := 124) (v := .slice (some ⟨g, 0, none⟩) n cap) _ rfl rfl (by kernel_rfl) (by kernel_rfl) (by kernel_rfl) (by kernel_rfl) (fun _ _ _ h => h) (Or.inl ⟨by kernel_rfl, fun ws hSw => by have q := K0.out ws hSw; first | (go_simp; done) | (go_simp; with_reducible rfl) | (go_simp; rfl)⟩) hS ?_
              simp only [Act.put, List.setIfInBounds_toArray, List.set_cons_zero, List.set_cons_succ]
              refine wpAnyG_takeD (i := 6) (d := 125) (v := .int .i64 (j : Int)) _ rfl rfl (by kernel_rfl) (by kernel_rfl) (by kernel_rfl) (by kernel_rfl) (fun _ _ _ h => h) (Or.inl ⟨by kernel_rfl, fun ws hSw => by first | (go_simp; done) | (go_simp; with_reducible rfl) | (go_simp; rfl)⟩) hS ?_
              simp only [Act.put, List.setIfInBounds_toArray, List.set_cons_zero, List.set_cons_succ]
              refine wpAnyG_takeD (i := 7) (d := 126) (v := .slice (some ⟨g, 0, none⟩) j cap) _ rfl rfl (by kernel_rfl) (by kernel_rfl) (by kernel_rfl) (by kernel_rfl) (fun _ _ _ h => h) (Or.inl ⟨by kernel_rfl, fun ws hSw => by have q := KJ.out ws hSw; first | (go_simp; done) | (go_simp; with_reducible rfl) | (go_simp; rfl) | (go_simp; intro hlt; exfalso; omega)⟩) hS ?_
              simp only [Act.put, List.setIfInBounds_toArray, List.set_cons_zero, List.set_cons_succ]
              refine wpAnyG_takeD (i := 9) (d := 128) (v := .pointer (some ⟨mp, 0, none⟩)) _ rfl rfl (by kernel_rfl) (by kernel_rfl) (by kernel_rfl) (by kernel_rfl) (fun _ _ _ h => h) (Or.inl ⟨by kernel_rfl, fun ws hSw => by first | (go_simp; done) | (go_simp; with_reducible rfl) | (go_simp; rfl)⟩) hS ?_
              simp only [Act.put, List.setIfInBounds_toArray, List.set_cons_zero, List.set_cons_succ]
              refine wpAnyG_takeD (i := 10) (d := 129) (v := .pointer (some ⟨mp, 0, none⟩)) _ rfl rfl (by kernel_rfl) (by kernel_rfl) (by kernel_rfl) (by kernel_rfl) (fun _ _ _ h => h) (Or.inl ⟨by kernel_rfl, fun ws hSw => by first | (go_simp; done) | (go_simp; with_reducible rfl) | (go_simp; rfl)⟩) hS ?_
              simp only [Act.put, List.setIfInBounds_toArray, List.set_cons_zero, List.set_cons_succ]
              refine wpAnyG_takeD (i := 11) (d := 130) (v := .pointer (some ⟨mp, 0, none⟩)) _ rfl rfl (by kernel_rfl) (by kernel_rfl) (by kernel_rfl) (by kernel_rfl) (fun _ _ _ h => h) (Or.inl ⟨by kernel_rfl, fun ws hSw => by first | (go_simp; done) | (go_simp; with_reducible rfl) | (go_simp; rfl)⟩) hS ?_
              simp only [Act.put, List.setIfInBounds_toArray, List.set_cons_zero, List.set_cons_succ]
              refine wpAnyG_takeD (i := 12) (d := 131) (v := .slice (some ⟨g, 0, none⟩) n cap) _ rfl rfl (by kernel_rfl) (by kernel_rfl) (by kernel_rfl) (by kernel_rfl) (fun _ _ _ h => h) (Or.inl ⟨by kernel_rfl, fun ws hSw => by have q := K0.out ws hSw; first | (go_simp; done) | (go_simp; with_reducible rfl) | (go_simp; rfl)⟩) hS ?_
              simp only [Act.put, List.setIfInBounds_toArray, List.set_cons_zero, List.set_cons_succ]
              refine wpAnyG_takeD (i := 13) (d := 132) (v := .int .i64 (j : Int)) _ rfl rfl (by kernel_rfl) (by kernel_rfl) (by kernel_rfl) (by kernel_rfl) (fun _ _ _ h => h) (Or.inl ⟨by kernel_rfl, fun ws hSw => by first | (go_simp; done) | (go_simp; with_reducible rfl) | (go_simp; rfl)⟩) hS ?_
              simp only [Act.put, List.setIfInBounds_toArray, List.set_cons_zero, List.set_cons_succ]
              refine wpAnyG_takeD (i := 14) (d := 133) (v := .int .i64 ((j : Int) + 1)) _ rfl rfl (by kernel_rfl) (by kernel_rfl) (by kernel_rfl) (by kernel_rfl) (fun _ _ _ h => h) (Or.inl ⟨by kernel_rfl, fun ws hSw => by have q := KW.out ws hSw; first | (go_simp; done) | (go_simp; with_reducible rfl) | (go_simp; rfl)⟩) hS ?_
              simp only [Act.put, List.setIfInBounds_toArray, List.set_cons_zero, List.set_cons_succ]
              refine wpAnyG_takeD (i := 15) (d := 134) (v := .slice (if cap = j + 1 then some ⟨g, 0, none⟩ else some ⟨g, (j + 1) * 47, none⟩) (n - (j + 1)) (cap - (j + 1))) _ rfl rfl (by kernel_rfl) (by kernel_rfl) (by kernel_rfl) (by kernel_rfl) (fun _ _ _ h => h) (Or.inl ⟨by kernel_rfl, fun ws hSw => by have q := KN.out ws hSw; first | (go_simp; done) | (go_simp; with_reducible rfl) | (go_simp; rfl) | (go_simp; intro hlt; exfalso; omega)⟩) hS ?_
              simp only [Act.put, List.setIfInBounds_toArray, List.set_cons_zero, List.set_cons_succ]
              obtain ⟨ad, had, hadx⟩ : ∃ ad : Addr, (if cap = j + 1 then some (⟨g, 0, none⟩ : Addr) else some ⟨g, (j + 1) * 47, none⟩) = some ad ∧ ∀ t u, (flat encC (csl.drop (j + 1)))[t]? = some u → w4.cell? (ad.add t) = some u ∧ (ad.add t).block = g := by
                by_cases h : cap = j + 1
                · refine ⟨_, if_pos h, fun t u ht => ?_⟩
                  have h1 := HS.out.2.2.2.2.1
                  have h2 := (List.getElem?_eq_some_iff.1 ht).1
                  have h3 := HD.out.2.2.2.2.2.1
                  rw [h1, show n - (j + 1) = 0 by omega] at h2
                  omega
                · refine ⟨_, if_neg h, fun t u ht => ?_⟩
                  rw [add_none']
                  exact ⟨HD.out.2.2.2.2.2.2.2.1 t u ht, rfl⟩
              rw [had]
              have HAD := Lib.hid hadx
              clear had hadx
              refine wpAnyG_ready (rs := [1]) (by kernel_rfl) (by simp) ?_
              refine AllReadyG.cons rfl (fun K hK => ?_) AllReadyG.nil
              go_simp
              rw [HW5.out.1, HW5.out.2]
              refine hK _ _ HS.out.1 (fun hS => ?_)
              try simp only [Act.put, List.setIfInBounds_toArray, List.set_cons_zero, List.set_cons_succ]
              refine wpAnyG_ready (rs := [8]) (by kernel_rfl) (by simp) ?_
              refine AllReadyG.cons rfl (fun K hK => ?_) AllReadyG.nil
              obtain ⟨b5, o5, x15, l1, l2, hby, hn6, hbE, z5, G5, jn⟩ := HS.out
              refine step_append (by rfl) _ _ SlO rfl base OT _ 47 by47 Try.underlying30 hby.1 rfl (by decide) (.slice (some ⟨E, 0, none⟩) 0 0) 0 [] (by rfl) o5 ⟨g, 0, none⟩ j cap (flat encC (csl.take j)) (by rfl) l1 x15 (flat_one oneC _) (by have := HD.out.2.2.2.2.2.1; unfold maxLen; omega) (by have := Nat.mul_le_mul (show 0 + j ≤ 1000000 by omega) hby.2; omega) (by omega) ?_
              intro v1 w6 o6 gb6 at6
              obtain ⟨b4, o4, f4, C4, g4, hcap, x1, x2, lg, nge, ngm, hn'⟩ := HD.out
              have hE := HW5.out.2
              have lm : mp < w4.heap.size := (Array.getElem?_eq_some_iff.1 b4).1
              have b6 : w6.heap[mp]? = some (.cells (moC (.slice (some ⟨g, 0, none⟩) n cap) N1 mev') MoT (0, 0)) := (gb6.block mp (Array.getElem?_eq_some_iff.1 b5).1 (by simp [Value.ownBlock]; omega)).trans b5
              have g6 : w6.heap[g]? = w4.heap[g]? := (gb6.block g (by omega) (by simp [Value.ownBlock]; omega)).trans (G5.heap lg)
              have x26 : ∀ t u, (flat encC (csl.drop (j + 1)))[t]? = some u → w6.cell? (ad.add t) = some u := fun t u ht => by
                obtain ⟨h1, h2⟩ := HAD.out t u ht
                exact (World.cell?_of_block (by rw [h2]; exact g6)).trans h1
              have C6 : Chg [E] w5 w6 := Chg.ofGrown (S := [E]) gb6 (fun k e => .inl (by simp [Value.ownBlock] at e; simp [e]))
              have at6' : ∀ k, v1.ownBlock = some k → w4.heap.size ≤ k := fun k hk => by
                rcases at6 with e | e
                · rw [e] at hk; simp [Value.ownBlock] at hk; omega
                · rw [e] at hk; simp at hk; omega
              have H6 := Lib.hid (And.intro o6 (And.intro C6 (And.intro at6' (And.intro x26 b6))))
              have hSb := b6
              clear hE b4 o4 f4 C4 g4 hcap x1 x2 lg nge ngm hn' lm g6 C6 at6' gb6 at6 b5 o5 x15 z5 G5 b6
              refine hK _ _ hSb (fun hS => ?_)
              try simp only [Act.put, List.setIfInBounds_toArray, List.set_cons_zero, List.set_cons_succ]
              refine wpAnyG_ready (rs := [16]) (by kernel_rfl) (by simp) ?_
              refine AllReadyG.cons rfl (fun K hK => ?_) AllReadyG.nil
              refine step_append (by rfl) _ _ SlO rfl base OT _ 47 by47 Try.underlying30 hby.1 rfl (by decide) v1 (0 + j) ([] ++ flat encC (csl.take j)) (by rfl) o6 ad (n - (j + 1)) (cap - (j + 1)) (flat encC (csl.drop (j + 1))) (by rfl) l2 x26 (flat_one oneC _) (by unfold maxLen; omega) (by have := Nat.mul_le_mul (show 0 + j + (n - (j + 1)) ≤ 1000000 by omega) hby.2; omega) (by have := H6.out.2.1.size; have := HS.out.2.2.2.2.2.2.2.2.1; omega) ?_
              intro v2 w7 o7 gb7 at7
              obtain ⟨q', c', rfl⟩ := own_slice o7
              obtain ⟨o6', C6, at6, x26', b6⟩ := H6.out
              have nm1 : v1.ownBlock ≠ some mp := own_ne o6 b6 (by decide)
              have b7 : w7.heap[mp]? = some (.cells (moC (.slice (some ⟨g, 0, none⟩) n cap) N1 mev') MoT (0, 0)) := (gb7.block mp (Array.getElem?_eq_some_iff.1 b6).1 (fun e => nm1 e.symm)).trans b6
              obtain ⟨N2, hN2⟩ : ∃ N, N = 0 + j + (n - (j + 1)) := ⟨_, rfl⟩
              rw [← hN2] at o7 at7 ⊢
              obtain ⟨w8, hw8⟩ : ∃ W, W = w7.setCell ⟨mp, 0, none⟩ (.slice q' N2 c') := ⟨_, rfl⟩
              have u7 : w7.cell? ⟨mp, 0, none⟩ = some (.slice (some ⟨g, 0, none⟩) n cap) := cell_of_block b7 0
              have f7 : w7.frozen? ⟨mp, 0, none⟩ = false := unfrozen_of_block b7 0
              have HW8 : Hid (w7.setCell ⟨mp, 0, none⟩ (.slice q' N2 c') = w8) := hw8.symm
              have H7 := Lib.hid (And.intro o7 (And.intro gb7 (And.intro at7 (And.intro hN2 b7))))
              have hSb := b7
              clear o6' C6 at6 x26' b6 nm1 b7 o7 gb7 at7 hN2 hw8 x26 o6 l1 l2 hby hn6 hbE jn
              refine hK _ _ hSb (fun hS => ?_)
              try simp only [Act.put, List.setIfInBounds_toArray, List.set_cons_zero, List.set_cons_succ]
              refine wpAnyG_takeD (i := 17) (d := 136) (v := .pointer (some ⟨mp, 0, none⟩)) _ rfl rfl (by kernel_rfl) (by kernel_rfl) (by kernel_rfl) (by kernel_rfl) (fun _ _ _ h => h) (Or.inl ⟨by kernel_rfl, fun ws hSw => by first | (go_simp; done) | (go_simp; with_reducible rfl) | (go_simp; rfl)⟩) hS ?_
              simp only [Act.put, List.setIfInBounds_toArray, List.set_cons_zero, List.set_cons_succ]
              refine wpAnyG_takeD (i := 18) (d := 137) (v := .pointer (some ⟨mp, 0, none⟩)) _ rfl rfl (by kernel_rfl) (by kernel_rfl) (by kernel_rfl) (by kernel_rfl) (fun _ _ _ h => h) (Or.inl ⟨by kernel_rfl, fun ws hSw => by first | (go_simp; done) | (go_simp; with_reducible rfl) | (go_simp; rfl)⟩) hS ?_
              simp only [Act.put, List.setIfInBounds_toArray, List.set_cons_zero, List.set_cons_succ]
              refine wpAnyG_ready (rs := [19]) (by kernel_rfl) (by simp) ?_
              refine AllReadyG.last rfl rfl (fun K hK => ?_)
              go_simp
              rw [HW8.out]
              refine hK _ _ ?_
              try simp only [Act.put, List.setIfInBounds_toArray, List.set_cons_zero, List.set_cons_succ]
              refine wpAnyG_done (by kernel_rfl) ?_
              have FIN : Hid (Move l hist (del l o2.kind o2.name) (hist ++ [⟨2, o2.kind, o2.name, hist.length + 1⟩]) ∧ Next base w w8 S T sp mp most (del l o2.kind o2.name) (hist ++ [⟨2, o2.kind, o2.name, hist.length + 1⟩])) := by
                obtain ⟨s2, W2, a2, hx, hver, hany, hj, hN1, hl, hn⟩ := HA.out
                obtain ⟨hm, hn', AF, a3, hgb, hgh, hcap⟩ := HB.out
                obtain ⟨b4, o4, f4, C4, g4, _, x1, x2, lg, nge, ngm, _⟩ := HD.out
                obtain ⟨b5, o5, x15, l1, l2, hby, hn6, hbE, z5, G5, jn⟩ := HS.out
                obtain ⟨o6, C6, at6, _, b6⟩ := H6.out
                obtain ⟨o7, gb7, at7, hN2, b7⟩ := H7.out
                have hE := HW5.out.2
                have eo : l.eraseIdx j = del l o2.kind o2.name := by rw [hj]; rfl
                have C7 : Chg v1.ownBlock.toList w6 w7 := Chg.ofGrown gb7 (fun k e => .inl (by rw [e]; simp))
                have C8 : Chg [mp] w4 w8 := by
                  rw [← HW8.out]
                  exact ((((Chg.ofGr G5 [mp]).trans C6 (fun k hk => .inr (by simp at hk; omega))).trans C7 (fun k hk => .inr (at6 k (by simpa using hk)))).setCell 0 _ (.inl (by simp)))
                have e1 : (csl.eraseIdx j).length = csl.length - 1 := List.length_eraseIdx_of_lt (by omega)
                have e2 : (l.eraseIdx j).length = l.length - 1 := List.length_eraseIdx_of_lt (by have := hm.len; omega)
                have e3 : N2 = (csl.eraseIdx j).length := by omega
                have o8 : w8.ownsRow base OT 47 (.slice q' N2 c') (csl.eraseIdx j).length (flat encC (csl.eraseIdx j)) := by
                  rw [← HW8.out]
                  have := ownsRow_setCell_other o7 (a := ⟨mp, 0, none⟩) (own_ne o7 b7 (by decide)) (.slice q' N2 c')
                  rw [List.nil_append, flat_erase] at this
                  rw [← e3]
                  exact this
                have b8 : w8.heap[mp]? = some (.cells (moC (.slice q' N2 c') N1 mev') MoT (0, 0)) := by
                  rw [← HW8.out, block_setCell b7]
                  rfl
                rw [hN1] at b4 o4 b8 AF
                have hz4 := C4.size
                have R := MoAt.again hm (X := []) C4 b4 o4 f4 (C8.less (fun k hk => .inl (by simp at hk; simp [hk]))) (fun k hk => by cases hk) b8 o8 (fun k hk => by
                  rcases at7 with e | e
                  · rw [e] at hk; exact .inr (by have := at6 k hk; omega)
                  · rw [e] at hk; simp at hk; exact .inr (by have := C6.size; omega)) (by rw [e1, e2, hm.len]) (fun hF => erase_objs (fun i o ho => by
                    obtain ⟨c, h1, h2⟩ := hm.objs i o ho
                    exact ⟨c, h1, h2.fx hF⟩) j) (fun k hk => by cases hk)
                rw [eo] at R
                exact ⟨.gone _ _ hany, Sys.next HST.out s2 W2 AF R.2 (fun k hk => .inl (by simpa using hk)) R.1⟩
              have k8 : w8.cell? ⟨mp, 1, none⟩ = some (.int .u64 (N1 : Int)) := by
                rw [← HW8.out]
                exact cell_of_block (block_setCell H7.out.2.2.2.2 (i := 0) (v := .slice q' N2 c')) 1
              clear HA HB HD HS H6 H7 HW8 HW5 HAD HV K0 KJ KN KW S0 u7 f7
              go_wp2
              go_ret
              exact ⟨rfl, _, _, FIN.out⟩
end Go.Proofs.Ytacgbagcddjlnaa
/- An act upon a store and its model: Create (by wip/tools/genstdo.py). -/
namespace Go.Proofs.Ytacgbagcddjlnaa
open Go.RowKit Go.Shelf Go.Lib Go.Sort
open Go.Joins (cell_of_block unfrozen_of_block block_setCell)
set_option linter.unusedVariables false
set_option linter.unusedSimpArgs false
set_option maxRecDepth 20000

set_option maxHeartbeats 16000000 in
theorem do_cre (base : Nat) (w : World) (S T : List Nat) (sp mp : Nat) (most : Int) (l : List Ob) (hist : List Ev) (kk : Int) (cs : Array Value) (r : Bool) (o : Ob) (hs : Sys base w S T sp mp most l hist) (hc : Kept base w cs o) (hn : hist.length < 1000000) (hl : l.length < 1000000) (hkk : kk = 0) :
    Calls Try.prog 9 #[.pointer (some ⟨sp, 0, none⟩), .pointer (some ⟨mp, 0, none⟩), .int .i64 most, .agg (acC kk cs r)] w fun e w' => e = .returned (.bool true) ∧ ∃ l' hist', Move l hist l' hist' ∧ Next base w w' S T sp mp most l' hist' := by
  have mixed : Try.prog.follows .mixedOrders = true := by kernel_rfl
  obtain ⟨B, hB⟩ : ∃ B, B = w.heap.size := ⟨_, rfl⟩
  obtain ⟨X, hX⟩ : ∃ X, X = acC kk cs r := ⟨_, rfl⟩
  obtain ⟨wb, hwb⟩ : ∃ wb, wb = w.alloc (.cells X AcT) := ⟨_, rfl⟩
  rw [← hX]
  have G0 : Gr w wb := hwb ▸ (Gr.refl w).alloc _
  have hbw : base ≤ w.heap.size := by obtain ⟨_, _, _, _, q⟩ := hs.st; exact q.bw
  have a0 : ActAt base wb B kk cs r o := ⟨by rw [hwb, hB, hX]; exact heap_alloc_new w _, hc.fx (Fx.ofBelow G0.below), by omega⟩
  have sb := hs.gr G0.below
  have nB : B ∉ S ++ T := fun hm => by have := (hs.prot B hm).2.1; omega
  have hfn := hc.fits.name
  have CF := Lib.hid (find_m base wb T mp l hist o.kind o.name sb.mo hl)
  obtain ⟨b0, b1, b2, b3, br, f3⟩ := a0.cells
  have HW := Lib.hid (And.intro G0 (And.intro a0 (And.intro sb (And.intro nB (And.intro hfn (And.intro hB (And.intro hs (And.intro hn hl))))))))
  clear hs hc hX G0 a0 sb nB hfn hbw b3 f3 hn hl
  go_enter Try.func9, Try.ntmps9
  go_upto_region 1 with fail
  rw [← hwb, ← hB]
  clear hwb hB
  go_wp2_with fail
  refine CF.out.mono ?_
  rintro e w1 ⟨rfl, g1⟩
  obtain ⟨I, hI⟩ : ∃ I, I = idx l o.kind o.name := ⟨_, rfl⟩
  rw [← hI]
  have a1 : ActAt base w1 B kk cs r o := HW.out.2.1.gr g1
  have s1 := HW.out.2.2.1.gr g1
  clear b0 b1 b2 br CF
  obtain ⟨b0, b1, b2, b3, br, f3⟩ := a1.cells
  have H1 := Lib.hid (And.intro hI (And.intro g1 (And.intro a1 s1)))
  clear hI g1 a1 s1 b0 b1 b2
  go_upto_region 2 with fail
  go_cut [31] from 26 to 30 (fun v wx => v = .bool (r && decide (0 ≤ I)) ∧ wx = w1)
  case first =>
    clear hkk
    cases r with
    | false =>
      go_wp2_with fail
      go_meet
      case rel => exact ⟨rfl, rfl⟩
    | true =>
      by_cases hI0 : 0 ≤ I
      · have t : decide (0 ≤ I) = true := decide_eq_true hI0
        clear hI0
        go_wp2_with fail
        go_meet
        case rel => exact ⟨by rw [t]; rfl, rfl⟩
      · have t : decide (0 ≤ I) = false := decide_eq_false hI0
        clear hI0
        go_wp2_with fail
        go_meet
        case rel => exact ⟨by rw [t]; rfl, rfl⟩
  case rest =>
    obtain ⟨rfl, hw⟩ := hcut
    have hw' := hw.symm
    subst hw'
    obtain ⟨bb, hbb⟩ : ∃ b, b = (r && decide (0 ≤ I)) := ⟨_, rfl⟩
    rw [← hbb]
    have HBB := Lib.hid hbb
    clear hbb
    go_upto_if 31 with fail
    go_cut [8] from 32 to 41 (fun v8 wx => v8 = .bool false ∧ Hid (∃ cs2 o2, ActAt base wx B kk cs2 r o2 ∧ o2.kind = o.kind ∧ o2.name = o.name) ∧ Hid (Chg [B] w1 wx))
    case first =>
      clear hkk
      cases bb with
      | false =>
        go_wp2_with fail
        go_meet
        case rel => exact ⟨rfl, ⟨cs, o, H1.out.2.2.1, rfl, rfl⟩, Chg.refl _ _⟩
      | true =>
        obtain ⟨hI, g1, a1, s1⟩ := H1.out
        have hbb := HBB.out
        have h0 : 0 ≤ I := by
          have := hbb.symm
          rw [Bool.and_eq_true] at this
          exact of_decide_eq_true this.2
        have hany : l.any (hit o.kind o.name) = true := by
          cases e : l.any (hit o.kind o.name) with
          | true => rfl
          | false => rw [hI, idx, e] at h0; simp at h0
        obtain ⟨x, hx, hhx, hlt⟩ := find_idx hany
        obtain ⟨j, hj⟩ : ∃ j, j = l.findIdx (hit o.kind o.name) := ⟨_, rfl⟩
        rw [← hj] at hx hlt
        have hIj : I = (j : Int) := by rw [hI, idx, if_pos hany, hj]
        subst hIj
        obtain ⟨lv, mev, csl, hm⟩ := s1.mo
        obtain ⟨c, hcx, kx⟩ := hm.objs j x hx
        have hlen := hm.len
        obtain ⟨g, cap, cur, hlv, _, _, _⟩ : ∃ g cap cur, lv = .slice (some ⟨g, 0, none⟩) csl.length cap ∧ base ≤ g ∧ w1.heap[g]? = some (.cells cur OT (0, 0)) ∧ True := by
          rcases hm.row.2 with ⟨_, h0⟩ | ⟨g, cap, cur, e1, e2, e3, _⟩
          · omega
          · exact ⟨g, cap, cur, e1, e2, e3, trivial⟩
        obtain ⟨n, hn⟩ : ∃ n, n = csl.length := ⟨_, rfl⟩
        have m0 : w1.cell? ⟨mp, 0, none⟩ = some (.slice (some ⟨g, 0, none⟩) n cap) := by rw [hn, ← hlv]; exact cell_of_block hm.blk 0
        have jn : j < n := by omega
        have rr := rangeAt_own (by have := hm.row; rw [hlv] at this; exact this) hcx
        have q2 : w1.cell? ⟨g, j * 47 + 2, none⟩ = some (.int .u64 (x.ver : Int)) := rr 2 _ (by rw [Array.getElem?_toList]; exact kx.obj.2.1.2.2.1)
        obtain ⟨vx, hvx⟩ : ∃ v, v = x.ver := ⟨_, rfl⟩
        rw [← hvx] at q2
        have hn6 : n < 1000000 := by have := HW.out.2.2.2.2.2.2.2.2; omega
        have FIN : Hid (ActAt base (w1.setCell ⟨B, 3, none⟩ (.int .u64 (vx : Int))) B kk (cs.setIfInBounds 2 (.int .u64 (vx : Int))) r (setV o vx)) := a1.set (by rw [hvx]; exact kx.obj.2.1.2.2.2)
        clear hI g1 a1 s1 hbb h0 hany hx hhx hlt hj hm hcx kx hlen hlv rr hvx hn H1 HBB
        go_wp2_with fail
        go_meet
        case rel => exact ⟨rfl, ⟨_, _, FIN.out, rfl, rfl⟩, (Chg.refl [B] w1).setCell 3 _ (.inl (by simp))⟩
    case rest =>
      obtain ⟨rfl, HA, HC⟩ := hcut
      obtain ⟨cs2, o2, a2, ek, en⟩ := HA.out
      have c2 := HC.out
      obtain ⟨hI, g1, a1, s1⟩ := H1.out
      have nB := HW.out.2.2.2.1
      have s2 : Sys base wc S T sp mp most l hist := s1.chg c2 (fun g hg hm => by simp at hm; subst hm; exact nB hg) (fun g hg _ => by simp at hg; subst hg; exact (cells_prot a1.blk a1.lo rfl).2.2)
      have hI2 : I = idx l o2.kind o2.name := by rw [hI, ek, en]
      have W2 : Hid (Chg [] w wc) := ((Chg.ofGr HW.out.1 []).trans (Chg.ofBelow g1 []) (by simp)).trans c2 (fun g hg => .inr (by have := HW.out.2.2.2.2.2.1; simp at hg; omega))
      have hn := HW.out.2.2.2.2.2.2.2.1
      have hl := HW.out.2.2.2.2.2.2.2.2
      have nB2 := Lib.hid nB
      have HST := Lib.hid (fun g (hg : g ∈ S ++ T) => (HW.out.2.2.2.2.2.2.1.prot g hg).2.1)
      clear ek en c2 hI g1 a1 s1 nB HA HC H1 HBB HW b3 br f3
      obtain ⟨b0, b1, b2, b3, br, f3⟩ := a2.cells
      have t1 : (kk != 0) = false := by rw [hkk]; rfl
      have t2 : (kk == 0) = true := by rw [hkk]; rfl
      have hbw2 : base ≤ wc.heap.size := a2.lo |> fun h => Nat.le_trans h (Nat.le_of_lt (Array.getElem?_eq_some_iff.1 a2.blk).1)
      have LO := Lib.hid a2.load
      have CDf := Lib.hid (default_own wc cs2 o2 a2.obj.obj a2.obj.nil a2.obj.small.small)
      have HA := Lib.hid (And.intro s2 (And.intro W2.out (And.intro a2 (And.intro hI2 (And.intro hn (And.intro hl (And.intro nB2.out (And.intro HST.out hbw2))))))))
      clear s2 W2 a2 hI2 hn hl nB2 HST hbw2 hkk b1 b2 b3 f3 br
      go_upto_region 15 with fail
      go_wp2_with (refine wpList_load_by (by kernel_rfl) OT _ rfl (.pointer (some ⟨B, 1, none⟩)) (.agg cs2) (by kernel_rfl) LO.out ?_)
      refine CDf.out.mono ?_
      rintro e m ⟨⟨D, rfl, vD, nD, oD⟩, hbl⟩
      obtain ⟨s2, W2, a2, hI2, hn, hl, nB, hst, hbw2⟩ := HA.out
      have KD : Kept base m D (dfl o2) := kept_own vD oD (tiny_dfl a2.obj.small) (fits_dfl a2.obj.fits a2.obj.small)
      have hsz : D.size = 47 := vD.1
      have z0 : (m.alloc (.cells zerC OT)).heap[m.heap.size]? = some (.cells zerC OT (0, 0)) := heap_alloc_new m _
      obtain ⟨th, n0, fx1, c1⟩ := store_ob (base := m.heap.size) z0 rfl hsz (Nat.le_refl _)
      obtain ⟨n, hn'⟩ : ∃ W, W = (m.alloc (.cells zerC OT)).setCells m.heap.size 0 D.toList := ⟨_, rfl⟩
      obtain ⟨A, hA⟩ : ∃ A, A = m.heap.size := ⟨_, rfl⟩
      rw [← hn'] at n0 c1
      rw [← hA] at n0 c1
      have bmn : Below m.heap.size m n := by
        have g : Gr m (m.alloc (.cells zerC OT)) := (Gr.refl m).alloc _
        exact ((Xb.ofGr g A).trans ⟨c1.os, c1.tape, c1.output, c1.size, fun k hk hne => c1.block k hk (by simpa using hne)⟩).below (by omega) (Nat.le_refl _)
      have BN : Below wc.heap.size wc n := hbl.trans (bmn.mono hbl.size)
      have hAl : wc.heap.size ≤ A := by rw [hA]; exact hbl.size
      have KN : Kept base n D (dfl o2) := KD.fx (Fx.ofBelow bmn)
      have TH := Lib.hid th
      have IN : Hid ((Try.prog.info? OT).map (·.size) = some D.size) := by show _ = _; rw [hsz]; exact info_ob47
      have ON := Lib.hid (objV_one vD)
      have HN : Hid ((m.alloc (.cells zerC OT)).setCells m.heap.size 0 D.toList = n ∧ m.heap.size = A) := ⟨hn'.symm, hA.symm⟩
      obtain ⟨ce, hce⟩ : ∃ ce, ce = chkE (dfl o2) := ⟨_, rfl⟩
      have CR : Hid (Calls Try.prog 24 #[.agg D] n fun e w' => e = .returned (.int .i64 ce) ∧ Gr n w') := by
        have := lawO_any n D (dfl o2) KN.obj KN.fits
        rw [rgt_chk, ← hce] at this
        exact this
      have LO2 := Lib.hid (load_ob n0 hsz)
      have HB := Lib.hid (And.intro BN (And.intro hAl (And.intro KN (And.intro n0 (And.intro hsz hce)))))
      clear s2 W2 a2 hI2 hn hl nB hst hbw2 KD z0 th n0 fx1 c1 hn' hA bmn BN hAl KN vD nD oD hbl LO CDf hsz hce b0
      go_upto_region 16 with (refine wpList_store_mid rfl _ _ _ rfl m.heap.size 0 D (by rfl) (by rfl) TH.out IN.out ON.out ?_; rw [HN.out.1, HN.out.2])
      go_wp2_with (refine wpList_load_by (by kernel_rfl) OT _ rfl (.pointer (some ⟨A, 0, none⟩)) (.agg D) (by kernel_rfl) LO2.out ?_)
      refine CR.out.mono ?_
      rintro e n2 ⟨rfl, g2⟩
      obtain ⟨s2, W2, a2, hI2, hn, hl, nB, hst, hbw2⟩ := HA.out
      obtain ⟨BN, hAl, KN, n0, hsz, hce⟩ := HB.out
      have BN2 : Below wc.heap.size wc n2 := BN.trans (g2.below.mono BN.size)
      have s3 := s2.gr BN2
      have a3 := a2.gr BN2
      have K3 := KN.fx (Fx.ofBelow (base := base) g2.below)
      have d3 : n2.heap[A]? = some (.cells D OT (0, 0)) := (g2.heap (Array.getElem?_eq_some_iff.1 n0).1).trans n0
      have W3 : Chg [] w n2 := W2.trans (Chg.ofBelow BN2 []) (by simp)
      have hA2 : A ∉ S ++ T := fun h => by have := hst A h; have := W2.size; omega
      have hwA : w.heap.size ≤ A := by have := W2.size; omega
      have hbA : base ≤ A := by omega
      have LO3 := Lib.hid a3.load
      have c0 := a3.cells.1
      have HC := Lib.hid (And.intro s3 (And.intro a3 (And.intro K3 (And.intro d3 (And.intro W3 (And.intro hA2 (And.intro hwA (And.intro hbA (And.intro hsz (And.intro hI2 (And.intro hn (And.intro hl (And.intro nB (And.intro hst hce))))))))))))))
      clear s2 W2 a2 hI2 hn hl nB hst hbw2 BN hAl KN n0 hsz hce BN2 s3 a3 K3 d3 W3 hA2 hwA hbA g2 LO2 CR HA HB TH IN ON HN
      go_upto_region 18 with fail
      obtain ⟨s3, a3, K3, d3, W3, hA2, hwA, hbA, hsz, hI2, hn, hl, nB, hst, hce⟩ := HC.out
      have hb2 : base ≤ n2.heap.size := by have := (Array.getElem?_eq_some_iff.1 d3).1; omega
      by_cases hz : ce = 0
      · subst hz
        have CC := create_any base n2 S sp most l hist cs2 o2 s3.st a3.obj hn hce.symm
        have hcre : creE (dfl o2) l most = if l.any (hit o2.kind o2.name) then 8 else if most ≤ (l.length : Int) then 10 else 0 := by
          unfold creE
          rw [if_neg (by rw [← hce]; exact fun h => h rfl), kind_dfl, name_dfl]
        cases ha : l.any (hit o2.kind o2.name) with
        | true =>
          rw [ha, if_pos rfl] at hcre
          have tI : decide (0 ≤ I) = true := decide_eq_true (by rw [hI2, idx, ha, if_pos rfl]; omega)
          have CD : Hid (Calls Try.prog 15 #[.pointer (some ⟨sp, 0, none⟩), .agg cs2] n2 fun e w' => e = .returned (.tuple #[.int .u64 0, .int .i64 8]) ∧ Below n2.heap.size n2 w') := CC.mono fun e w' h => by
            rcases h with ⟨_, h2, h3⟩ | ⟨h1, _⟩
            · rw [hcre] at h2; exact ⟨h2, h3⟩
            · rw [hcre] at h1; cases h1
          have HF := Lib.hid (And.intro s3 W3)
          clear CC hcre s3 a3 K3 d3 W3 hA2 hwA hbA hsz hI2 hn hl nB hst hce hb2 HC ha
          go_wp2_with (refine wpList_load_by (by kernel_rfl) OT _ rfl (.pointer (some ⟨B, 1, none⟩)) (.agg cs2) (by kernel_rfl) LO3.out ?_)
          refine CD.out.mono ?_
          rintro e w' ⟨rfl, g'⟩
          have FIN : Hid (Move l hist l hist ∧ Next base w w' S T sp mp most l hist) := ⟨.stay, S, T, HF.out.1.gr g', (HF.out.2.trans (Chg.ofBelow g' []) (by simp)).less (by simp), fun g hg => .inl hg⟩
          clear CD HF g' LO3
          go_wp2
          go_ret
          exact ⟨rfl, _, _, FIN.out⟩
        | false =>
          rw [ha, if_neg (by simp)] at hcre
          have tI : decide (0 ≤ I) = false := decide_eq_false (by rw [hI2, idx, ha, if_neg (by simp)]; omega)
          by_cases hm : most ≤ (l.length : Int)
          · skip
            rw [if_pos hm] at hcre
            have CD : Hid (Calls Try.prog 15 #[.pointer (some ⟨sp, 0, none⟩), .agg cs2] n2 fun e w' => e = .returned (.tuple #[.int .u64 0, .int .i64 10]) ∧ Below n2.heap.size n2 w') := CC.mono fun e w' h => by
              rcases h with ⟨_, h2, h3⟩ | ⟨h1, _⟩
              · rw [hcre] at h2; exact ⟨h2, h3⟩
              · rw [hcre] at h1; cases h1
            have HF := Lib.hid (And.intro s3 W3)
            obtain ⟨N, hN⟩ : ∃ N, N = l.length := ⟨_, rfl⟩
            have tm : decide (most ≤ (N : Int)) = true := decide_eq_true (by rw [hN]; exact hm)
            have HNL := Lib.hid hN
            clear CC hcre s3 a3 K3 d3 W3 hA2 hwA hbA hsz hI2 hn hl nB hst hce hb2 HC ha hm hN
            go_wp2_with (refine wpList_load_by (by kernel_rfl) OT _ rfl (.pointer (some ⟨B, 1, none⟩)) (.agg cs2) (by kernel_rfl) LO3.out ?_)
            refine CD.out.mono ?_
            rintro e w' ⟨rfl, g'⟩
            have FIN : Hid (Move l hist l hist ∧ Next base w w' S T sp mp most l hist) := ⟨.stay, S, T, HF.out.1.gr g', (HF.out.2.trans (Chg.ofBelow g' []) (by simp)).less (by simp), fun g hg => .inl hg⟩
            obtain ⟨lv, mev, csl, h9⟩ := (HF.out.1.gr g').mo
            obtain ⟨q, c, hlv⟩ := own_slice h9.row
            have m0 : w'.cell? ⟨mp, 0, none⟩ = some (.slice q N c) := by rw [HNL.out, ← h9.len, ← hlv]; exact cell_of_block h9.blk 0
            clear CD HF g' LO3 h9 hlv HNL
            go_wp2
            go_ret
            exact ⟨rfl, _, _, FIN.out⟩
          · rw [if_neg hm] at hcre
            have pS : ∀ g ∈ S, g < n2.heap.size → ¬ Prot base n2 g := fun g hg _ => (s3.st.prot g hg).2.2
            obtain ⟨N1, hN1⟩ : ∃ N, N = hist.length + 1 := ⟨_, rfl⟩
            have hput : put l (setV (dfl o2) N1) = l ++ [setV (dfl o2) N1] := by
              unfold put
              rw [if_neg]
              show ¬ (l.any (hit (dfl o2).kind (dfl o2).name) = true)
              rw [kind_dfl, name_dfl, ha]
              simp
            have okd : OkK (setV (dfl o2) N1) := ⟨(ok_chk hce.symm K3.fits).1, (ok_chk hce.symm K3.fits).2⟩
            have CD : Hid (Calls Try.prog 15 #[.pointer (some ⟨sp, 0, none⟩), .agg cs2] n2 fun e w' => e = .returned (.tuple #[.int .u64 (N1 : Int), .int .i64 0]) ∧ After base n2 w' S sp most (l ++ [setV (dfl o2) N1]) (hist ++ [⟨0, (dfl o2).kind, (dfl o2).name, hist.length + 1⟩]) ∧ MoIs base w' T mp l hist ∧ w'.heap[A]? = some (.cells D OT (0, 0)) ∧ Kept base w' D (dfl o2)) := CC.mono fun e w' h => by
              rcases h with ⟨h1, _⟩ | ⟨_, h2, h3⟩
              · exact absurd hcre h1
              · rw [← hN1] at h2
                rw [← hN1, hput, hN1] at h3
                rw [← hN1] at h3
                have AF := h3
                obtain ⟨S3, st3, c3, in3⟩ := h3
                exact ⟨h2, by rw [← hN1]; exact AF, s3.mo.chg c3 (fun g hg hm => s3.ap g hm hg) pS, (c3.block A (Array.getElem?_eq_some_iff.1 d3).1 (fun hm => hA2 (List.mem_append_left _ hm))).trans d3, K3.fx (c3.fx pS)⟩
            obtain ⟨N, hN⟩ : ∃ N, N = l.length := ⟨_, rfl⟩
            have tm : decide (most ≤ (N : Int)) = false := decide_eq_false (by rw [hN]; exact hm)
            have HF := Lib.hid (And.intro s3 (And.intro W3 (And.intro hA2 (And.intro hwA (And.intro hbA (And.intro hsz (And.intro hn (And.intro hl (And.intro hst (And.intro hN1 (And.intro okd (And.intro hN (And.intro ha (Array.getElem?_eq_some_iff.1 d3).1)))))))))))))
            clear CC hcre s3 a3 K3 d3 W3 hA2 hwA hbA hsz hI2 hn hl nB hst hce hb2 HC ha hm hN hput okd pS hN1
            go_wp2_with (refine wpList_load_by (by kernel_rfl) OT _ rfl (.pointer (some ⟨B, 1, none⟩)) (.agg cs2) (by kernel_rfl) LO3.out ?_)
            refine CD.out.mono ?_
            rintro e w3 ⟨rfl, AF, m3, dA, KA⟩
            obtain ⟨s3, W3, hA2, hwA, hbA, hsz, hn, hl, hst, hN1, okd, hN, ha, hAn⟩ := HF.out
            obtain ⟨lv, mev, csl, h9⟩ := m3
            obtain ⟨q, c, hlv⟩ := own_slice h9.row
            subst hlv
            have m0 : w3.cell? ⟨mp, 0, none⟩ = some (.slice q N c) := by rw [hN, ← h9.len]; exact cell_of_block h9.blk 0
            have CN := Lib.hid (note_m base w3 T mp _ mev csl l hist 0 (dfl o2).kind (dfl o2).name D h9 hn KA.obj.2.1.1 KA.obj.2.1.2.1)
            have LO4 := Lib.hid (load_ob dA hsz)
            have HG := Lib.hid (And.intro AF (And.intro h9 (And.intro dA KA)))
            clear CD s3 W3 hA2 hwA hbA hsz hn hl hst hN1 okd hN ha hAn h9 AF dA KA LO3
            go_upto_region 25 with fail
            go_wp2_with (refine wpList_load_by (by kernel_rfl) OT _ rfl (.pointer (some ⟨A, 0, none⟩)) (.agg D) (by kernel_rfl) LO4.out ?_)
            refine CN.out.mono ?_
            rintro e w4 ⟨rfl, mev', ⟨b4, o4, f4⟩, c4⟩
            obtain ⟨s3, W3, hA2, hwA, hbA, hsz, hn, hl, hst, hN1, okd, hN, ha, hAn⟩ := HF.out
            obtain ⟨AF, h9, dA, KA⟩ := HG.out
            have hAT : A ∉ T := fun h => hA2 (List.mem_append_right _ h)
            have nAc : A ∉ mp :: mev.ownBlock.toList := fun h => hAT (by rw [h9.fp]; simp at h ⊢; rcases h with h | h <;> simp [h])
            have d4 : w4.heap[A]? = some (.cells D OT (0, 0)) := (c4.block A (Array.getElem?_eq_some_iff.1 dA).1 nAc).trans dA
            have k1 : w4.cell? ⟨mp, 1, none⟩ = some (.int .u64 (N1 : Int)) := by rw [hN1]; exact cell_of_block b4 1
            have kA : w4.cell? ⟨A, 2, none⟩ = some (.int .u64 ((dfl o2).ver : Int)) := (cell_of_block d4 2).trans KA.obj.2.1.2.2.1
            have fA : w4.frozen? ⟨A, 2, none⟩ = false := unfrozen_of_block d4 2
            obtain ⟨w5, hw5⟩ : ∃ W, W = w4.setCell ⟨A, 2, none⟩ (.int .u64 (N1 : Int)) := ⟨_, rfl⟩
            obtain ⟨D5, hD5⟩ : ∃ X, X = D.setIfInBounds 2 (.int .u64 (N1 : Int)) := ⟨_, rfl⟩
            have d5 : w5.heap[A]? = some (.cells D5 OT (0, 0)) := by rw [hw5, block_setCell d4, hD5]
            have nmA : mp ≠ A := fun e => nAc (by simp [e])
            have C5 : Chg [A] w4 w5 := by rw [hw5]; exact (Chg.refl [A] w4).setCell 2 _ (.inl (by simp))
            have b5 : w5.heap[mp]? = some (.cells (moC (.slice q csl.length c) N1 mev') MoT (0, 0)) := by
              rw [hN1]
              exact (C5.block mp (Array.getElem?_eq_some_iff.1 b4).1 (by simpa using nmA)).trans b4
            have F5 : Fx base w3 w5 := (c4.fx (fun g hg _ => (h9.prot g (by rw [h9.fp]; simp at hg ⊢; rcases hg with h | h <;> simp [h])).2.2)).trans (C5.fx (fun g hg _ => by simp at hg; subst hg; exact (cells_prot d4 hbA rfl).2.2))
            have K5 : Kept base w5 D5 (setV (dfl o2) N1) := by rw [hD5]; exact (KA.fx F5).setV (by omega)
            have r4 : w4.ownsRow base OT 47 (.slice q csl.length c) csl.length (flat encC csl) := own_block h9.row (fun g hg => c4.block g (own_prot h9.row (Nat.le_refl _) rfl g hg).2.1 (fun hmem => by
              simp only [List.mem_cons, Option.mem_toList] at hmem
              obtain ⟨cur, hcur⟩ := own_at h9.row hg
              rcases hmem with rfl | h
              · rw [h9.blk] at hcur; cases hcur
              · exact own_ne h9.evs hcur (by decide) h))
            have r5 : w5.ownsRow base OT 47 (.slice q csl.length c) csl.length (flat encC csl) := own_block r4 (fun g hg => C5.block g (own_prot r4 (Nat.le_refl _) rfl g hg).2.1 (fun hmem => by
              simp at hmem
              subst hmem
              exact hAT (by rw [h9.fp]; simp [hg])))
            have hcn : csl.length = N := by rw [hN]; exact h9.len
            obtain ⟨E, hE⟩ : ∃ E, E = w5.heap.size := ⟨_, rfl⟩
            obtain ⟨w6, hw6⟩ : ∃ W, W = w5.drew.alloc (.cells D5 OT) := ⟨_, rfl⟩
            have G6 : Gr w5 w6 := hw6 ▸ ((Gr.refl w5).drewN 1).alloc _
            have z6 : w6.heap.size = E + 1 := by rw [hw6, hE]; first | (simp; done) | (simp; rfl)
            have e6 : w6.heap[E]? = some (.cells D5 OT (0, 0)) := by rw [hw6, hE]; exact heap_alloc_new w5.drew _
            have b6 : w6.heap[mp]? = some (.cells (moC (.slice q csl.length c) N1 mev') MoT (0, 0)) := (G6.heap (Array.getElem?_eq_some_iff.1 b5).1).trans b5
            have d6 : w6.heap[A]? = some (.cells D5 OT (0, 0)) := (G6.heap (Array.getElem?_eq_some_iff.1 d5).1).trans d5
            have r6 : w6.ownsRow base OT 47 (.slice q csl.length c) csl.length (flat encC csl) := own_block r5 (fun g hg => G6.heap (own_prot r5 (Nat.le_refl _) rfl g hg).2.1)
            have h47 : D5.size = 47 := K5.obj.1
            have x6 : ∀ t u, D5.toList[t]? = some u → w6.cell? ((⟨E, 0, none⟩ : Addr).add t) = some u := fun t u ht => by
              rw [add_none', Nat.zero_add, cell_of_block e6, ← Array.getElem?_toList]
              exact ht
            have one5 : ∀ u ∈ D5.toList, u.oneCell' = true := oneC (mkC K5)
            have S0 : Hid (w5.drew.heap[mp]? = some (.cells (moC (.slice q csl.length c) N1 mev') MoT (0, 0)) ∧ w5.drew.heap[A]? = some (.cells D5 OT (0, 0))) := ⟨b5, d5⟩
            have K0 : Hid (∀ ws : World, (ws.heap[mp]? = some (.cells (moC (.slice q csl.length c) N1 mev') MoT (0, 0)) ∧ ws.heap[A]? = some (.cells D5 OT (0, 0))) → ws.cell? ⟨mp, 0, none⟩ = some (.slice q csl.length c)) := fun ws h => cell_of_block h.1 0
            have KL : Hid (∀ ws : World, (ws.heap[mp]? = some (.cells (moC (.slice q csl.length c) N1 mev') MoT (0, 0)) ∧ ws.heap[A]? = some (.cells D5 OT (0, 0))) → ws.rangeAt A 0 D5.toList) := fun ws h => rangeAt_block h.2
            have hi : (Try.prog.info? OT).map (·.size) = some D5.toList.length := by rw [Array.length_toList, h47]; exact info_ob47
            have hu := Try.underlying56
            have HI := Lib.hid (@info_OT)
            have HW5 : Hid (w4.setCell ⟨A, 2, none⟩ (.int .u64 (N1 : Int)) = w5) := hw5.symm
            have HW6 : Hid (w5.drew.alloc (.cells D5 OT) = w6 ∧ w5.drew.heap.size = E) := ⟨hw6.symm, hE.symm⟩
            have HZ : Hid ((Try.prog.info? OT).map (fun i => (i.zero, i.size)) = some (some (.agg zerC), 47)) := by show _ = _; kernel_rfl
            have HS := Lib.hid (And.intro b6 (And.intro d6 (And.intro r6 (And.intro x6 (And.intro one5 (And.intro h47 (And.intro G6 (And.intro z6 hcn))))))))
            have HD := Lib.hid (And.intro b4 (And.intro o4 (And.intro f4 (And.intro c4 (And.intro d4 (And.intro C5 (And.intro K5 (And.intro hAT (And.intro nAc b5)))))))))
            clear s3 W3 hA2 hwA hbA hsz hn hl hst hN1 okd hN ha hAn h9 AF dA KA CN LO4 b4 o4 f4 c4 hAT nAc d4 hw5 hD5 d5 nmA C5 b5 F5 K5 r4 r5 hcn hE hw6 G6 z6 e6 b6 d6 r6 h47 x6 one5 m0 t1 t2
            go_upto_region 27 with fail
            rw [HW5.out]
            clear k1 kA fA
            refine wp_region_G (f := 10) (S := fun ws => ws.heap[mp]? = some (.cells (moC (.slice q csl.length c) N1 mev') MoT (0, 0)) ∧ ws.heap[A]? = some (.cells D5 OT (0, 0))) mixed S0.out (fun hS => ?_)
            refine wpAnyG_takeD (i := 0) (d := 197) (v := .pointer (some ⟨mp, 0, none⟩)) _ rfl rfl (by kernel_rfl) (by kernel_rfl) (by kernel_rfl) (by kernel_rfl) (fun _ _ _ h => h) (Or.inl ⟨by kernel_rfl, fun ws hSw => by first | (go_simp; done) | (go_simp; with_reducible rfl) | (go_simp; rfl)⟩) hS ?_
            simp only [Act.put, List.setIfInBounds_toArray, List.set_cons_zero, List.set_cons_succ]
            refine wpAnyG_takeD (i := 1) (d := 198) (v := .pointer (some ⟨mp, 0, none⟩)) _ rfl rfl (by kernel_rfl) (by kernel_rfl) (by kernel_rfl) (by kernel_rfl) (fun _ _ _ h => h) (Or.inl ⟨by kernel_rfl, fun ws hSw => by first | (go_simp; done) | (go_simp; with_reducible rfl) | (go_simp; rfl)⟩) hS ?_
            simp only [Act.put, List.setIfInBounds_toArray, List.set_cons_zero, List.set_cons_succ]
            refine wpAnyG_takeD (i := 2) (d := 199) (v := .pointer (some ⟨mp, 0, none⟩)) _ rfl rfl (by kernel_rfl) (by kernel_rfl) (by kernel_rfl) (by kernel_rfl) (fun _ _ _ h => h) (Or.inl ⟨by kernel_rfl, fun ws hSw => by first | (go_simp; done) | (go_simp; with_reducible rfl) | (go_simp; rfl)⟩) hS ?_
            simp only [Act.put, List.setIfInBounds_toArray, List.set_cons_zero, List.set_cons_succ]
            refine wpAnyG_takeD (i := 3) (d := 200) (v := .pointer (some ⟨mp, 0, none⟩)) _ rfl rfl (by kernel_rfl) (by kernel_rfl) (by kernel_rfl) (by kernel_rfl) (fun _ _ _ h => h) (Or.inl ⟨by kernel_rfl, fun ws hSw => by first | (go_simp; done) | (go_simp; with_reducible rfl) | (go_simp; rfl)⟩) hS ?_
            simp only [Act.put, List.setIfInBounds_toArray, List.set_cons_zero, List.set_cons_succ]
            refine wpAnyG_takeD (i := 4) (d := 201) (v := .slice q csl.length c) _ rfl rfl (by kernel_rfl) (by kernel_rfl) (by kernel_rfl) (by kernel_rfl) (fun _ _ _ h => h) (Or.inl ⟨by kernel_rfl, fun ws hSw => by have q := K0.out ws hSw; first | (go_simp; done) | (go_simp; with_reducible rfl) | (go_simp; rfl)⟩) hS ?_
            simp only [Act.put, List.setIfInBounds_toArray, List.set_cons_zero, List.set_cons_succ]
            refine wpAnyG_takeD (i := 5) (d := 202) (v := .agg D5.toList.toArray) _ rfl rfl (by kernel_rfl) (by kernel_rfl) (by kernel_rfl) (by kernel_rfl) (fun _ _ _ h => h) (yieldsIf_load_mid (by kernel_rfl) _ _ rfl A 0 (by kernel_rfl) D5.toList _ (fun ws hSw => KL.out ws hSw) hu rfl hi) hS ?_
            simp only [Act.put, List.setIfInBounds_toArray, List.set_cons_zero, List.set_cons_succ]
            refine wpAnyG_ready (rs := [6]) (by kernel_rfl) (by simp) ?_
            refine AllReadyG.cons rfl (fun K hK => ?_) AllReadyG.nil
            refine step_build (by rfl) SlO OT _ rfl _ 47 D5 (by rfl) HS.out.2.2.2.2.2.1 (by decide) (by decide) Try.underlying30 HZ.out ?_
            rw [HW6.out.1, HW6.out.2]
            obtain ⟨b6, d6, r6, x6, one5, h47, G6, z6, hcn⟩ := HS.out
            obtain ⟨s3, W3, hA2, hwA, hbA, hsz, hn, hl, hst, hN1, okd, hN, ha, hAn⟩ := HF.out
            obtain ⟨by47, hby⟩ := HI.out
            refine hK _ _ ⟨b6, d6⟩ (fun hS => ?_)
            try simp only [Act.put, List.setIfInBounds_toArray, List.set_cons_zero, List.set_cons_succ]
            refine wpAnyG_ready (rs := [7]) (by kernel_rfl) (by simp) ?_
            refine AllReadyG.cons rfl (fun K hK => ?_) AllReadyG.nil
            refine step_append (by rfl) _ _ SlO rfl base OT _ 47 by47 Try.underlying30 hby.1 rfl (by decide) (.slice q csl.length c) csl.length (flat encC csl) (by rfl) r6 ⟨E, 0, none⟩ 1 1 D5.toList (by rfl) (by rw [Array.length_toList, h47]) x6 one5 (by unfold maxLen; omega) (by have := Nat.mul_le_mul (show csl.length + 1 ≤ 1000001 by omega) hby.2; omega) (by have := (Array.getElem?_eq_some_iff.1 d6).1; omega) ?_
            intro v' w7 o7 gb7 at7
            obtain ⟨q', c', rfl⟩ := own_slice o7
            obtain ⟨AF, h9, dA, KA⟩ := HG.out
            obtain ⟨b4, o4, f4, c4, d4, C5, K5, hAT, nAc, b5⟩ := HD.out
            have nmp : (Value.slice q csl.length c).ownBlock ≠ some mp := own_ne r6 b6 (by decide)
            have nA7 : (Value.slice q csl.length c).ownBlock ≠ some A := fun e => hAT (by rw [h9.fp]; simp [e])
            have b7 : w7.heap[mp]? = some (.cells (moC (.slice q csl.length c) N1 mev') MoT (0, 0)) := (gb7.block mp (Array.getElem?_eq_some_iff.1 b6).1 (fun e => nmp e.symm)).trans b6
            have d7 : w7.heap[A]? = some (.cells D5 OT (0, 0)) := (gb7.block A (Array.getElem?_eq_some_iff.1 d6).1 (fun e => nA7 e.symm)).trans d6
            obtain ⟨w8, hw8⟩ : ∃ W, W = w7.setCell ⟨mp, 0, none⟩ (.slice q' (csl.length + 1) c') := ⟨_, rfl⟩
            have u7 : w7.cell? ⟨mp, 0, none⟩ = some (.slice q csl.length c) := cell_of_block b7 0
            have f7 : w7.frozen? ⟨mp, 0, none⟩ = false := unfrozen_of_block b7 0
            have b8 : w8.heap[mp]? = some (.cells (moC (.slice q' (csl.length + 1) c') N1 mev') MoT (0, 0)) := by
              rw [hw8, block_setCell b7]
              rfl
            have k8 : w8.cell? ⟨mp, 1, none⟩ = some (.int .u64 (N1 : Int)) := cell_of_block b8 1
            have FIN : Hid (Move l hist (l ++ [setV (dfl o2) N1]) (hist ++ [⟨0, (dfl o2).kind, (dfl o2).name, hist.length + 1⟩]) ∧ Next base w w8 S T sp mp most (l ++ [setV (dfl o2) N1]) (hist ++ [⟨0, (dfl o2).kind, (dfl o2).name, hist.length + 1⟩])) := by
              have C67 : Chg (Value.slice q csl.length c).ownBlock.toList w6 w7 := Chg.ofGrown gb7 (fun k e => .inl (by rw [e]; simp))
              have C58 : Chg (mp :: (Value.slice q csl.length c).ownBlock.toList) w5 w8 := by
                rw [hw8]
                exact (((Chg.ofGr G6 (Value.slice q csl.length c).ownBlock.toList).trans C67 (fun g hg => .inl hg)).less (S' := mp :: (Value.slice q csl.length c).ownBlock.toList) (fun g hg => .inl (List.mem_cons_of_mem _ hg))).setCell 0 _ (.inl (by simp))
              have C8 : Chg (mp :: ((Value.slice q csl.length c).ownBlock.toList ++ [A])) w4 w8 := (C5.less (fun g hg => .inl (by simp at hg; simp [hg]))).trans C58 (fun g hg => .inl (by simp at hg ⊢; rcases hg with h | h <;> simp [h]))
              have F58 : Fx base w5 w8 := C58.fx (fun g hg hlt => by
                simp only [List.mem_cons, Option.mem_toList] at hg
                rcases hg with rfl | hg
                · exact (cells_prot b5 h9.bmp rfl).2.2
                · intro hp
                  refine (own_prot r6 (Nat.le_refl _) rfl g hg).2.2 ?_
                  rcases hp with hp | ⟨cs, T, fz, x1, x2⟩
                  · exact .inl hp
                  · exact .inr ⟨cs, T, fz, (G6.heap hlt).trans x1, x2⟩)
              have K8 := K5.fx F58
              have o8 : w8.ownsRow base OT 47 (.slice q' (csl.length + 1) c') (csl ++ [mkC K5]).length (flat encC (csl ++ [mkC K5])) := by
                rw [hw8]
                have := ownsRow_setCell_other o7 (a := ⟨mp, 0, none⟩) (own_ne o7 b7 (by decide)) (.slice q' (csl.length + 1) c')
                rw [List.length_append]
                have e : flat encC (csl ++ [mkC K5]) = flat encC csl ++ D5.toList := by
                  unfold flat
                  rw [List.flatMap_append, List.flatMap_singleton]
                  rfl
                rw [e]
                exact this
              rw [hN1] at b8
              have R := MoAt.again h9 (X := [A]) c4 b4 o4 f4 C8 (fun g hg => by simp at hg; subst hg; exact own_ne o4 d4 (by decide)) b8 o8 (fun k hk => by
                rcases at7 with e | e
                · rw [e] at hk; exact .inl hk
                · rw [e] at hk; simp at hk; exact .inr (by have := G6.below.size; have := C5.size; have := c4.size; omega)) (l' := l ++ [setV (dfl o2) N1]) (by simp [h9.len]) (fun hF i o ho => by
                  rw [List.getElem?_append] at ho
                  rw [List.getElem?_append, h9.len]
                  split at ho
                  · rename_i hlt
                    rw [if_pos hlt]
                    obtain ⟨c, h1, h2⟩ := h9.objs i o ho
                    exact ⟨c, h1, h2.fx hF⟩
                  · rename_i hlt
                    rw [if_neg hlt]
                    have h0 : i - l.length = 0 := by
                      have := (List.getElem?_eq_some_iff.1 ho).1
                      simpa using this
                    rw [h0] at ho ⊢
                    simp at ho
                    subst ho
                    exact ⟨mkC K5, rfl, K8⟩) (fun g hg _ => by simp at hg; subst hg; exact (cells_prot dA hbA rfl).2.2)
              exact ⟨.made (setV (dfl o2) N1) (by show l.any (hit (dfl o2).kind (dfl o2).name) = false; rw [kind_dfl, name_dfl]; exact ha) okd, Sys.next hst s3 W3 AF R.2 (fun g hg => by
                rcases List.mem_append.1 hg with h | h
                · exact .inl h
                · simp at h
                  subst h
                  exact .inr ⟨hwA, hAn, (cells_prot dA hbA rfl).2.2⟩) R.1⟩
            have HW8 : Hid (w7.setCell ⟨mp, 0, none⟩ (.slice q' (csl.length + 1) c') = w8) := hw8.symm
            have hSb := And.intro b7 d7
            clear AF h9 dA KA b4 o4 f4 c4 d4 C5 K5 hAT nAc b5 nmp nA7 b7 d7 hw8 b8 o7 gb7 at7 r6 x6 one5 h47 G6 z6 hcn s3 W3 hA2 hwA hbA hsz hn hl hst hN1 okd hN ha hAn hby b6 d6 HD HS HG HF
            refine hK _ _ hSb (fun hS => ?_)
            try simp only [Act.put, List.setIfInBounds_toArray, List.set_cons_zero, List.set_cons_succ]
            refine wpAnyG_takeD (i := 8) (d := 205) (v := .pointer (some ⟨mp, 0, none⟩)) _ rfl rfl (by kernel_rfl) (by kernel_rfl) (by kernel_rfl) (by kernel_rfl) (fun _ _ _ h => h) (Or.inl ⟨by kernel_rfl, fun ws hSw => by first | (go_simp; done) | (go_simp; with_reducible rfl) | (go_simp; rfl)⟩) hS ?_
            simp only [Act.put, List.setIfInBounds_toArray, List.set_cons_zero, List.set_cons_succ]
            refine wpAnyG_takeD (i := 9) (d := 206) (v := .pointer (some ⟨mp, 0, none⟩)) _ rfl rfl (by kernel_rfl) (by kernel_rfl) (by kernel_rfl) (by kernel_rfl) (fun _ _ _ h => h) (Or.inl ⟨by kernel_rfl, fun ws hSw => by first | (go_simp; done) | (go_simp; with_reducible rfl) | (go_simp; rfl)⟩) hS ?_
            simp only [Act.put, List.setIfInBounds_toArray, List.set_cons_zero, List.set_cons_succ]
            refine wpAnyG_ready (rs := [10]) (by kernel_rfl) (by simp) ?_
            refine AllReadyG.last rfl rfl (fun K hK => ?_)
            go_simp
            rw [HW8.out]
            refine hK _ _ ?_
            try simp only [Act.put, List.setIfInBounds_toArray, List.set_cons_zero, List.set_cons_succ]
            refine wpAnyG_done (by kernel_rfl) ?_
            clear u7 f7 HW8 HW5 HW6 HI HZ K0 KL S0
            go_wp2
            go_ret
            exact ⟨rfl, _, _, FIN.out⟩
      · skip
        have CB := Lib.hid (create_bad base n2 sp cs2 o2 a3.obj hb2 (by rw [← hce]; exact hz))
        rw [← hce] at CB
        have te : (ce == 0) = false := by simpa using hz
        have te2 : (ce != 0) = true := by simpa using hz
        have HF := Lib.hid (And.intro s3 W3)
        clear s3 a3 K3 d3 W3 hA2 hwA hbA hsz hI2 hn hl nB hst hce hb2 HC hz
        go_wp2_with (refine wpList_load_by (by kernel_rfl) OT _ rfl (.pointer (some ⟨B, 1, none⟩)) (.agg cs2) (by kernel_rfl) LO3.out ?_)
        refine CB.out.mono ?_
        rintro e w' ⟨rfl, g'⟩
        have FIN : Hid (Move l hist l hist ∧ Next base w w' S T sp mp most l hist) := ⟨.stay, S, T, HF.out.1.gr g', (HF.out.2.trans (Chg.ofBelow g' []) (by simp)).less (by simp), fun g hg => .inl hg⟩
        clear CB HF g' LO3
        go_wp2
        go_ret
        exact ⟨rfl, _, _, FIN.out⟩
end Go.Proofs.Ytacgbagcddjlnaa
/- An act upon a store and its model: Update (by wip/tools/genstdo.py). -/
namespace Go.Proofs.Ytacgbagcddjlnaa
open Go.RowKit Go.Shelf Go.Lib Go.Sort
open Go.Joins (cell_of_block unfrozen_of_block block_setCell)
set_option linter.unusedVariables false
set_option linter.unusedSimpArgs false
set_option maxRecDepth 20000

set_option maxHeartbeats 16000000 in
theorem do_upd (base : Nat) (w : World) (S T : List Nat) (sp mp : Nat) (most : Int) (l : List Ob) (hist : List Ev) (kk : Int) (cs : Array Value) (r : Bool) (o : Ob) (hs : Sys base w S T sp mp most l hist) (hc : Kept base w cs o) (hn : hist.length < 1000000) (hl : l.length < 1000000) (hkk : kk = 1) :
    Calls Try.prog 9 #[.pointer (some ⟨sp, 0, none⟩), .pointer (some ⟨mp, 0, none⟩), .int .i64 most, .agg (acC kk cs r)] w fun e w' => e = .returned (.bool true) ∧ ∃ l' hist', Move l hist l' hist' ∧ Next base w w' S T sp mp most l' hist' := by
  have mixed : Try.prog.follows .mixedOrders = true := by kernel_rfl
  obtain ⟨B, hB⟩ : ∃ B, B = w.heap.size := ⟨_, rfl⟩
  obtain ⟨X, hX⟩ : ∃ X, X = acC kk cs r := ⟨_, rfl⟩
  obtain ⟨wb, hwb⟩ : ∃ wb, wb = w.alloc (.cells X AcT) := ⟨_, rfl⟩
  rw [← hX]
  have G0 : Gr w wb := hwb ▸ (Gr.refl w).alloc _
  have hbw : base ≤ w.heap.size := by obtain ⟨_, _, _, _, q⟩ := hs.st; exact q.bw
  have a0 : ActAt base wb B kk cs r o := ⟨by rw [hwb, hB, hX]; exact heap_alloc_new w _, hc.fx (Fx.ofBelow G0.below), by omega⟩
  have sb := hs.gr G0.below
  have nB : B ∉ S ++ T := fun hm => by have := (hs.prot B hm).2.1; omega
  have hfn := hc.fits.name
  have CF := Lib.hid (find_m base wb T mp l hist o.kind o.name sb.mo hl)
  obtain ⟨b0, b1, b2, b3, br, f3⟩ := a0.cells
  have HW := Lib.hid (And.intro G0 (And.intro a0 (And.intro sb (And.intro nB (And.intro hfn (And.intro hB (And.intro hs (And.intro hn hl))))))))
  clear hs hc hX G0 a0 sb nB hfn hbw b3 f3 hn hl
  go_enter Try.func9, Try.ntmps9
  go_upto_region 1 with fail
  rw [← hwb, ← hB]
  clear hwb hB
  go_wp2_with fail
  refine CF.out.mono ?_
  rintro e w1 ⟨rfl, g1⟩
  obtain ⟨I, hI⟩ : ∃ I, I = idx l o.kind o.name := ⟨_, rfl⟩
  rw [← hI]
  have a1 : ActAt base w1 B kk cs r o := HW.out.2.1.gr g1
  have s1 := HW.out.2.2.1.gr g1
  clear b0 b1 b2 br CF
  obtain ⟨b0, b1, b2, b3, br, f3⟩ := a1.cells
  have H1 := Lib.hid (And.intro hI (And.intro g1 (And.intro a1 s1)))
  clear hI g1 a1 s1 b0 b1 b2
  go_upto_region 2 with fail
  go_cut [31] from 26 to 30 (fun v wx => v = .bool (r && decide (0 ≤ I)) ∧ wx = w1)
  case first =>
    clear hkk
    cases r with
    | false =>
      go_wp2_with fail
      go_meet
      case rel => exact ⟨rfl, rfl⟩
    | true =>
      by_cases hI0 : 0 ≤ I
      · have t : decide (0 ≤ I) = true := decide_eq_true hI0
        clear hI0
        go_wp2_with fail
        go_meet
        case rel => exact ⟨by rw [t]; rfl, rfl⟩
      · have t : decide (0 ≤ I) = false := decide_eq_false hI0
        clear hI0
        go_wp2_with fail
        go_meet
        case rel => exact ⟨by rw [t]; rfl, rfl⟩
  case rest =>
    obtain ⟨rfl, hw⟩ := hcut
    have hw' := hw.symm
    subst hw'
    obtain ⟨bb, hbb⟩ : ∃ b, b = (r && decide (0 ≤ I)) := ⟨_, rfl⟩
    rw [← hbb]
    have HBB := Lib.hid hbb
    clear hbb
    go_upto_if 31 with fail
    go_cut [8] from 32 to 41 (fun v8 wx => v8 = .bool false ∧ Hid (∃ cs2 o2, ActAt base wx B kk cs2 r o2 ∧ o2.kind = o.kind ∧ o2.name = o.name) ∧ Hid (Chg [B] w1 wx))
    case first =>
      clear hkk
      cases bb with
      | false =>
        go_wp2_with fail
        go_meet
        case rel => exact ⟨rfl, ⟨cs, o, H1.out.2.2.1, rfl, rfl⟩, Chg.refl _ _⟩
      | true =>
        obtain ⟨hI, g1, a1, s1⟩ := H1.out
        have hbb := HBB.out
        have h0 : 0 ≤ I := by
          have := hbb.symm
          rw [Bool.and_eq_true] at this
          exact of_decide_eq_true this.2
        have hany : l.any (hit o.kind o.name) = true := by
          cases e : l.any (hit o.kind o.name) with
          | true => rfl
          | false => rw [hI, idx, e] at h0; simp at h0
        obtain ⟨x, hx, hhx, hlt⟩ := find_idx hany
        obtain ⟨j, hj⟩ : ∃ j, j = l.findIdx (hit o.kind o.name) := ⟨_, rfl⟩
        rw [← hj] at hx hlt
        have hIj : I = (j : Int) := by rw [hI, idx, if_pos hany, hj]
        subst hIj
        obtain ⟨lv, mev, csl, hm⟩ := s1.mo
        obtain ⟨c, hcx, kx⟩ := hm.objs j x hx
        have hlen := hm.len
        obtain ⟨g, cap, cur, hlv, _, _, _⟩ : ∃ g cap cur, lv = .slice (some ⟨g, 0, none⟩) csl.length cap ∧ base ≤ g ∧ w1.heap[g]? = some (.cells cur OT (0, 0)) ∧ True := by
          rcases hm.row.2 with ⟨_, h0⟩ | ⟨g, cap, cur, e1, e2, e3, _⟩
          · omega
          · exact ⟨g, cap, cur, e1, e2, e3, trivial⟩
        obtain ⟨n, hn⟩ : ∃ n, n = csl.length := ⟨_, rfl⟩
        have m0 : w1.cell? ⟨mp, 0, none⟩ = some (.slice (some ⟨g, 0, none⟩) n cap) := by rw [hn, ← hlv]; exact cell_of_block hm.blk 0
        have jn : j < n := by omega
        have rr := rangeAt_own (by have := hm.row; rw [hlv] at this; exact this) hcx
        have q2 : w1.cell? ⟨g, j * 47 + 2, none⟩ = some (.int .u64 (x.ver : Int)) := rr 2 _ (by rw [Array.getElem?_toList]; exact kx.obj.2.1.2.2.1)
        obtain ⟨vx, hvx⟩ : ∃ v, v = x.ver := ⟨_, rfl⟩
        rw [← hvx] at q2
        have hn6 : n < 1000000 := by have := HW.out.2.2.2.2.2.2.2.2; omega
        have FIN : Hid (ActAt base (w1.setCell ⟨B, 3, none⟩ (.int .u64 (vx : Int))) B kk (cs.setIfInBounds 2 (.int .u64 (vx : Int))) r (setV o vx)) := a1.set (by rw [hvx]; exact kx.obj.2.1.2.2.2)
        clear hI g1 a1 s1 hbb h0 hany hx hhx hlt hj hm hcx kx hlen hlv rr hvx hn H1 HBB
        go_wp2_with fail
        go_meet
        case rel => exact ⟨rfl, ⟨_, _, FIN.out, rfl, rfl⟩, (Chg.refl [B] w1).setCell 3 _ (.inl (by simp))⟩
    case rest =>
      obtain ⟨rfl, HA, HC⟩ := hcut
      obtain ⟨cs2, o2, a2, ek, en⟩ := HA.out
      have c2 := HC.out
      obtain ⟨hI, g1, a1, s1⟩ := H1.out
      have nB := HW.out.2.2.2.1
      have s2 : Sys base wc S T sp mp most l hist := s1.chg c2 (fun g hg hm => by simp at hm; subst hm; exact nB hg) (fun g hg _ => by simp at hg; subst hg; exact (cells_prot a1.blk a1.lo rfl).2.2)
      have hI2 : I = idx l o2.kind o2.name := by rw [hI, ek, en]
      have W2 : Hid (Chg [] w wc) := ((Chg.ofGr HW.out.1 []).trans (Chg.ofBelow g1 []) (by simp)).trans c2 (fun g hg => .inr (by have := HW.out.2.2.2.2.2.1; simp at hg; omega))
      have hn := HW.out.2.2.2.2.2.2.2.1
      have hl := HW.out.2.2.2.2.2.2.2.2
      have nB2 := Lib.hid nB
      have HST := Lib.hid (fun g (hg : g ∈ S ++ T) => (HW.out.2.2.2.2.2.2.1.prot g hg).2.1)
      clear ek en c2 hI g1 a1 s1 nB HA HC H1 HBB HW b3 br f3
      obtain ⟨b0, b1, b2, b3, br, f3⟩ := a2.cells
      have t1 : (kk != 0) = true := by rw [hkk]; rfl
      have t2 : (kk != 1) = false := by rw [hkk]; rfl
      have t3 : (kk == 0) = false := by rw [hkk]; rfl
      have hbw2 : base ≤ wc.heap.size := a2.lo |> fun h => Nat.le_trans h (Nat.le_of_lt (Array.getElem?_eq_some_iff.1 a2.blk).1)
      have LO := Lib.hid a2.load
      have CDf := Lib.hid (default_own wc cs2 o2 a2.obj.obj a2.obj.nil a2.obj.small.small)
      have HA := Lib.hid (And.intro s2 (And.intro W2.out (And.intro a2 (And.intro hI2 (And.intro hn (And.intro hl (And.intro nB2.out (And.intro HST.out hbw2))))))))
      clear s2 W2 a2 hI2 hn hl nB2 HST hbw2 hkk b1 b2 b3 f3 br
      go_upto_region 15 with fail
      go_wp2_with (refine wpList_load_by (by kernel_rfl) OT _ rfl (.pointer (some ⟨B, 1, none⟩)) (.agg cs2) (by kernel_rfl) LO.out ?_)
      refine CDf.out.mono ?_
      rintro e m ⟨⟨D, rfl, vD, nD, oD⟩, hbl⟩
      obtain ⟨s2, W2, a2, hI2, hn, hl, nB, hst, hbw2⟩ := HA.out
      have KD : Kept base m D (dfl o2) := kept_own vD oD (tiny_dfl a2.obj.small) (fits_dfl a2.obj.fits a2.obj.small)
      have hsz : D.size = 47 := vD.1
      have z0 : (m.alloc (.cells zerC OT)).heap[m.heap.size]? = some (.cells zerC OT (0, 0)) := heap_alloc_new m _
      obtain ⟨th, n0, fx1, c1⟩ := store_ob (base := m.heap.size) z0 rfl hsz (Nat.le_refl _)
      obtain ⟨n, hn'⟩ : ∃ W, W = (m.alloc (.cells zerC OT)).setCells m.heap.size 0 D.toList := ⟨_, rfl⟩
      obtain ⟨A, hA⟩ : ∃ A, A = m.heap.size := ⟨_, rfl⟩
      rw [← hn'] at n0 c1
      rw [← hA] at n0 c1
      have bmn : Below m.heap.size m n := by
        have g : Gr m (m.alloc (.cells zerC OT)) := (Gr.refl m).alloc _
        exact ((Xb.ofGr g A).trans ⟨c1.os, c1.tape, c1.output, c1.size, fun k hk hne => c1.block k hk (by simpa using hne)⟩).below (by omega) (Nat.le_refl _)
      have BN : Below wc.heap.size wc n := hbl.trans (bmn.mono hbl.size)
      have hAl : wc.heap.size ≤ A := by rw [hA]; exact hbl.size
      have KN : Kept base n D (dfl o2) := KD.fx (Fx.ofBelow bmn)
      have TH := Lib.hid th
      have IN : Hid ((Try.prog.info? OT).map (·.size) = some D.size) := by show _ = _; rw [hsz]; exact info_ob47
      have ON := Lib.hid (objV_one vD)
      have HN : Hid ((m.alloc (.cells zerC OT)).setCells m.heap.size 0 D.toList = n ∧ m.heap.size = A) := ⟨hn'.symm, hA.symm⟩
      obtain ⟨ce, hce⟩ : ∃ ce, ce = chkE (dfl o2) := ⟨_, rfl⟩
      have CR : Hid (Calls Try.prog 24 #[.agg D] n fun e w' => e = .returned (.int .i64 ce) ∧ Gr n w') := by
        have := lawO_any n D (dfl o2) KN.obj KN.fits
        rw [rgt_chk, ← hce] at this
        exact this
      have LO2 := Lib.hid (load_ob n0 hsz)
      have HB := Lib.hid (And.intro BN (And.intro hAl (And.intro KN (And.intro n0 (And.intro hsz hce)))))
      clear s2 W2 a2 hI2 hn hl nB hst hbw2 KD z0 th n0 fx1 c1 hn' hA bmn BN hAl KN vD nD oD hbl LO CDf hsz hce b0
      go_upto_region 16 with (refine wpList_store_mid rfl _ _ _ rfl m.heap.size 0 D (by rfl) (by rfl) TH.out IN.out ON.out ?_; rw [HN.out.1, HN.out.2])
      go_wp2_with (refine wpList_load_by (by kernel_rfl) OT _ rfl (.pointer (some ⟨A, 0, none⟩)) (.agg D) (by kernel_rfl) LO2.out ?_)
      refine CR.out.mono ?_
      rintro e n2 ⟨rfl, g2⟩
      obtain ⟨s2, W2, a2, hI2, hn, hl, nB, hst, hbw2⟩ := HA.out
      obtain ⟨BN, hAl, KN, n0, hsz, hce⟩ := HB.out
      have BN2 : Below wc.heap.size wc n2 := BN.trans (g2.below.mono BN.size)
      have s3 := s2.gr BN2
      have a3 := a2.gr BN2
      have K3 := KN.fx (Fx.ofBelow (base := base) g2.below)
      have d3 : n2.heap[A]? = some (.cells D OT (0, 0)) := (g2.heap (Array.getElem?_eq_some_iff.1 n0).1).trans n0
      have W3 : Chg [] w n2 := W2.trans (Chg.ofBelow BN2 []) (by simp)
      have hA2 : A ∉ S ++ T := fun h => by have := hst A h; have := W2.size; omega
      have hwA : w.heap.size ≤ A := by have := W2.size; omega
      have hbA : base ≤ A := by omega
      have LO3 := Lib.hid a3.load
      have c0 := a3.cells.1
      have HC := Lib.hid (And.intro s3 (And.intro a3 (And.intro K3 (And.intro d3 (And.intro W3 (And.intro hA2 (And.intro hwA (And.intro hbA (And.intro hsz (And.intro hI2 (And.intro hn (And.intro hl (And.intro nB (And.intro hst hce))))))))))))))
      clear s2 W2 a2 hI2 hn hl nB hst hbw2 BN hAl KN n0 hsz hce BN2 s3 a3 K3 d3 W3 hA2 hwA hbA g2 LO2 CR HA HB TH IN ON HN
      go_upto_region 29 with fail
      obtain ⟨s3, a3, K3, d3, W3, hA2, hwA, hbA, hsz, hI2, hn, hl, nB, hst, hce⟩ := HC.out
      have hb2 : base ≤ n2.heap.size := by have := (Array.getElem?_eq_some_iff.1 d3).1; omega
      by_cases hz : ce = 0
      · subst hz
        have CC := update_any base n2 S sp most l hist cs2 o2 s3.st a3.obj hn hce.symm
        have hvd : (dfl o2).ver = o2.ver := by
          unfold dfl
          split
          · rfl
          · split <;> rfl
        have hupd : updE (dfl o2) l = match l.find? (hit o2.kind o2.name) with | none => 7 | some x => if o2.ver ≠ x.ver then 9 else 0 := by
          unfold updE
          rw [if_neg (by rw [← hce]; exact fun h => h rfl), kind_dfl, name_dfl, hvd]
          cases l.find? (hit o2.kind o2.name) <;> rfl
        cases hf : l.find? (hit o2.kind o2.name) with
        | none =>
          rw [hf] at hupd
          have hI3 : I = -1 := by
            rw [hI2]
            refine idx_none (fun i x hi hx => ?_)
            have := List.find?_eq_none.1 hf x (List.mem_of_getElem? hx)
            simpa using this
          have tI : decide (I < 0) = true := decide_eq_true (by omega)
          have CD : Hid (Calls Try.prog 16 #[.pointer (some ⟨sp, 0, none⟩), .agg cs2] n2 fun e w' => e = .returned (.tuple #[.int .u64 0, .int .i64 7]) ∧ Below n2.heap.size n2 w') := CC.mono fun e w' h => by
            rcases h with ⟨_, h2, h3⟩ | ⟨h1, _⟩
            · rw [hupd] at h2; exact ⟨h2, h3⟩
            · rw [hupd] at h1; cases h1
          have HF := Lib.hid (And.intro s3 W3)
          clear CC hupd s3 a3 K3 d3 W3 hA2 hwA hbA hsz hI2 hn hl nB hst hce hb2 HC hf hI3 hvd
          go_wp2_with (refine wpList_load_by (by kernel_rfl) OT _ rfl (.pointer (some ⟨B, 1, none⟩)) (.agg cs2) (by kernel_rfl) LO3.out ?_)
          refine CD.out.mono ?_
          rintro e w' ⟨rfl, g'⟩
          have FIN : Hid (Move l hist l hist ∧ Next base w w'.drew S T sp mp most l hist) := ⟨.stay, S, T, (HF.out.1.gr g').gr ((Gr.refl w').drewN 1).below, ((HF.out.2.trans (Chg.ofBelow g' []) (by simp)).trans (Chg.ofGr ((Gr.refl w').drewN 1) []) (by simp)).less (by simp), fun g hg => .inl hg⟩
          clear CD HF g' LO3
          go_upto_region 32 with fail
          go_region
          all_goals
            go_wp2
            go_ret
            exact ⟨rfl, _, _, FIN.out⟩
        | some x =>
          rw [hf] at hupd
          have hmem := List.mem_of_find?_eq_some hf
          have hpx := List.find?_some hf
          have hany : l.any (hit o2.kind o2.name) = true := List.any_eq_true.2 ⟨x, hmem, hpx⟩
          obtain ⟨j, hj⟩ : ∃ j, j = l.findIdx (hit o2.kind o2.name) := ⟨_, rfl⟩
          have hIj : I = (j : Int) := by rw [hI2, idx, if_pos hany, hj]
          obtain ⟨x', hx, hhx, hlt⟩ := find_idx hany
          have hxx : x' = x := by
            have h1 := List.getElem?_eq_some_iff.1 hx
            have := List.find?_eq_some_iff_getElem.1 hf
            obtain ⟨_, i, hi, e1, e2⟩ := this
            have h3 : l.findIdx (hit o2.kind o2.name) = i := by
              rw [List.findIdx_eq hi]
              exact ⟨by rw [e1]; exact hpx, fun k hk => by have := e2 k hk; simpa using this⟩
            rw [h3, List.getElem?_eq_getElem hi, e1] at hx
            cases hx; rfl
          subst hxx
          rw [← hj] at hx hlt
          subst hIj
          have b3 := a3.cells.2.2.2.1
          have pS : ∀ g ∈ S, g < n2.heap.size → ¬ Prot base n2 g := fun g hg _ => (s3.st.prot g hg).2.2
          by_cases hver : o2.ver ≠ x'.ver
          · skip
            have hupd' : updE (dfl o2) l = 9 := by rw [hupd]; exact if_pos hver
            have CD : Hid (Calls Try.prog 16 #[.pointer (some ⟨sp, 0, none⟩), .agg cs2] n2 fun e w' => e = .returned (.tuple #[.int .u64 0, .int .i64 9]) ∧ Below n2.heap.size n2 w') := CC.mono fun e w' h => by
              rcases h with ⟨_, h2, h3⟩ | ⟨h1, _⟩
              · rw [hupd'] at h2; exact ⟨h2, h3⟩
              · rw [hupd'] at h1; cases h1
            have t4 : ((o2.ver : Int) != (x'.ver : Int)) = true := by rw [bne_iff_ne]; omega
            have HF := Lib.hid (And.intro s3 (And.intro W3 (And.intro a3 (And.intro hx (And.intro hlt hl)))))
            clear CC hupd hupd' s3 a3 K3 d3 W3 hA2 hwA hbA hsz hI2 hn hl nB hst hce hb2 HC hf hvd hmem hpx hany hj hx hhx hlt hver b3 pS
            go_wp2_with (refine wpList_load_by (by kernel_rfl) OT _ rfl (.pointer (some ⟨B, 1, none⟩)) (.agg cs2) (by kernel_rfl) LO3.out ?_)
            refine CD.out.mono ?_
            rintro e w' ⟨rfl, g'⟩
            obtain ⟨s3, W3, a3, hx, hlt, hl⟩ := HF.out
            have FIN : Hid (Move l hist l hist ∧ Next base w w'.drew S T sp mp most l hist) := ⟨.stay, S, T, (s3.gr g').gr ((Gr.refl w').drewN 1).below, ((W3.trans (Chg.ofBelow g' []) (by simp)).trans (Chg.ofGr ((Gr.refl w').drewN 1) []) (by simp)).less (by simp), fun g hg => .inl hg⟩
            have b3 := (a3.gr g').cells.2.2.2.1
            obtain ⟨lv, mev, csl, hm⟩ := (s3.gr g').mo
            obtain ⟨c, hcx, kx⟩ := hm.objs j x' hx
            have hlen := hm.len
            obtain ⟨g, cap, cur, hlv, _, _, _⟩ : ∃ g cap cur, lv = .slice (some ⟨g, 0, none⟩) csl.length cap ∧ base ≤ g ∧ w'.heap[g]? = some (.cells cur OT (0, 0)) ∧ True := by
              rcases hm.row.2 with ⟨_, h0⟩ | ⟨g, cap, cur, e1, e2, e3, _⟩
              · omega
              · exact ⟨g, cap, cur, e1, e2, e3, trivial⟩
            obtain ⟨n', hn'⟩ : ∃ n, n = csl.length := ⟨_, rfl⟩
            have m0 : w'.cell? ⟨mp, 0, none⟩ = some (.slice (some ⟨g, 0, none⟩) n' cap) := by rw [hn', ← hlv]; exact cell_of_block hm.blk 0
            have jn : j < n' := by omega
            have rr := rangeAt_own (by have := hm.row; rw [hlv] at this; exact this) hcx
            have q2 : w'.cell? ⟨g, j * 47 + 2, none⟩ = some (.int .u64 (x'.ver : Int)) := rr 2 _ (by rw [Array.getElem?_toList]; exact kx.obj.2.1.2.2.1)
            have hn6 : n' < 1000000 := by omega
            clear CD HF g' LO3 s3 W3 a3 hm hcx kx hlen hlv rr hn' hx hlt hl c0
            go_upto_region 32 with fail
            go_region
            all_goals
              go_wp2
              go_ret
              exact ⟨rfl, _, _, FIN.out⟩
          · have hupd' : updE (dfl o2) l = 0 := by rw [hupd]; exact if_neg hver
            obtain ⟨N1, hN1⟩ : ∃ N, N = hist.length + 1 := ⟨_, rfl⟩
            have hput : put l (setV (dfl o2) N1) = l.set j (setV (dfl o2) N1) := by
              unfold put
              rw [if_pos]
              · show l.set (l.findIdx (hit (dfl o2).kind (dfl o2).name)) _ = _
                rw [kind_dfl, name_dfl, ← hj]
              · show l.any (hit (dfl o2).kind (dfl o2).name) = true
                rw [kind_dfl, name_dfl]
                exact hany
            have okd : OkK (setV (dfl o2) N1) := ⟨(ok_chk hce.symm K3.fits).1, (ok_chk hce.symm K3.fits).2⟩
            have CD : Hid (Calls Try.prog 16 #[.pointer (some ⟨sp, 0, none⟩), .agg cs2] n2 fun e w' => e = .returned (.tuple #[.int .u64 (N1 : Int), .int .i64 0]) ∧ After base n2 w' S sp most (put l (setV (dfl o2) N1)) (hist ++ [⟨1, (dfl o2).kind, (dfl o2).name, hist.length + 1⟩]) ∧ MoIs base w' T mp l hist ∧ w'.heap[A]? = some (.cells D OT (0, 0)) ∧ Kept base w' D (dfl o2) ∧ ActAt base w' B kk cs2 r o2) := CC.mono fun e w' h => by
              rcases h with ⟨h1, _⟩ | ⟨_, h2, h3⟩
              · exact absurd hupd' h1
              · rw [← hN1] at h2 h3
                have AF := h3
                obtain ⟨S3, st3, c3, in3⟩ := h3
                exact ⟨h2, by rw [← hN1]; exact AF, s3.mo.chg c3 (fun g hg hm => s3.ap g hm hg) pS, (c3.block A (Array.getElem?_eq_some_iff.1 d3).1 (fun hm => hA2 (List.mem_append_left _ hm))).trans d3, K3.fx (c3.fx pS), a3.chg c3 (fun hm => nB (List.mem_append_left _ hm)) pS⟩
            have t4 : ((o2.ver : Int) != (x'.ver : Int)) = false := by
              have e : o2.ver = x'.ver := Decidable.of_not_not hver
              rw [e]; simp
            have HF := Lib.hid (And.intro s3 (And.intro W3 (And.intro hA2 (And.intro hwA (And.intro hbA (And.intro hsz (And.intro hn (And.intro hl (And.intro hst (And.intro hN1 (And.intro okd (And.intro hput (And.intro hany (And.intro hx (And.intro hlt (Array.getElem?_eq_some_iff.1 d3).1)))))))))))))))
            clear CC hupd hupd' s3 a3 K3 d3 W3 hA2 hwA hbA hsz hI2 hn hl nB hst hce hb2 HC hf hvd hmem hpx hany hj hx hhx hlt hver b3 pS hput okd hN1 c0
            go_wp2_with (refine wpList_load_by (by kernel_rfl) OT _ rfl (.pointer (some ⟨B, 1, none⟩)) (.agg cs2) (by kernel_rfl) LO3.out ?_)
            refine CD.out.mono ?_
            rintro e w3 ⟨rfl, AF, m3, dA, KA, aA⟩
            obtain ⟨s3, W3, hA2, hwA, hbA, hsz, hn, hl, hst, hN1, okd, hput, hany, hx, hlt, hAn⟩ := HF.out
            obtain ⟨lv, mev, csl, h9⟩ := m3
            obtain ⟨c2, hcx, kx⟩ := h9.objs j x' hx
            have hlen := h9.len
            obtain ⟨g, c, cur, hlv, hgb, hgh, _⟩ : ∃ g cap cur, lv = .slice (some ⟨g, 0, none⟩) csl.length cap ∧ base ≤ g ∧ w3.heap[g]? = some (.cells cur OT (0, 0)) ∧ True := by
              rcases h9.row.2 with ⟨_, h0⟩ | ⟨g, cap, cur, e1, e2, e3, _⟩
              · omega
              · exact ⟨g, cap, cur, e1, e2, e3, trivial⟩
            subst hlv
            obtain ⟨n', hn'⟩ : ∃ n, n = csl.length := ⟨_, rfl⟩
            have m0 : w3.cell? ⟨mp, 0, none⟩ = some (.slice (some ⟨g, 0, none⟩) n' c) := by rw [hn']; exact cell_of_block h9.blk 0
            have jn : j < n' := by omega
            have rr := rangeAt_own h9.row hcx
            have q2 : w3.cell? ⟨g, j * 47 + 2, none⟩ = some (.int .u64 (x'.ver : Int)) := rr 2 _ (by rw [Array.getElem?_toList]; exact kx.obj.2.1.2.2.1)
            have hn6 : n' < 1000000 := by omega
            have b3 := aA.cells.2.2.2.1
            have gd := ((Gr.refl w3).drewN 1).below
            have h9d : MoAt base w3.drew T mp (.slice (some ⟨g, 0, none⟩) csl.length c) mev csl l hist := h9.stay (fun _ _ => rfl) (Fx.ofBelow gd)
            have CN := Lib.hid (note_m base w3.drew T mp _ mev csl l hist 1 (dfl o2).kind (dfl o2).name D h9d hn KA.obj.2.1.1 KA.obj.2.1.2.1)
            have dA' : w3.drew.heap[A]? = some (.cells D OT (0, 0)) := dA
            have LO4 := Lib.hid (load_ob dA' hsz)
            have HG := Lib.hid (And.intro AF (And.intro h9 (And.intro dA (And.intro KA (And.intro hgb (And.intro hgh (And.intro gd hn')))))))
            clear CD s3 W3 hA2 hwA hbA hsz hn hl hst hN1 okd hput hany hx hlt hAn h9 AF dA KA aA LO3 hcx kx hlen hgb hgh hn' rr h9d dA' gd
            go_upto_region 32 with fail
            go_cut [245] from 230 to 245 (fun v wx => v = .bool false ∧ wx = w3.drew)
            case first =>
              go_region
              all_goals
                go_wp2_with fail
                go_meet
                case rel => exact ⟨rfl, rfl⟩
            case rest =>
              obtain ⟨rfl, rfl⟩ := hcut
              clear m0 q2 b3
              go_upto_region 36 with fail
              go_wp2_with (refine wpList_load_by (by kernel_rfl) OT _ rfl (.pointer (some ⟨A, 0, none⟩)) (.agg D) (by kernel_rfl) LO4.out ?_)
              refine CN.out.mono ?_
              rintro e w4 ⟨rfl, mev', ⟨b4, o4, f4⟩, c4⟩
              obtain ⟨s3, W3, hA2, hwA, hbA, hsz, hn, hl, hst, hN1, okd, hput, hany, hx, hlt, hAn⟩ := HF.out
              obtain ⟨AF, h9, dA, KA, hgb, hgh, gd, hn'⟩ := HG.out
              have C4 : Chg (mp :: mev.ownBlock.toList) w3 w4 := ((Chg.ofBelow gd (mp :: mev.ownBlock.toList))).trans c4 (fun g hg => .inl hg)
              have hAT : A ∉ T := fun h => hA2 (List.mem_append_right _ h)
              have nAc : A ∉ mp :: mev.ownBlock.toList := fun h => hAT (by rw [h9.fp]; simp at h ⊢; rcases h with h | h <;> simp [h])
              have d4 : w4.heap[A]? = some (.cells D OT (0, 0)) := (C4.block A (Array.getElem?_eq_some_iff.1 dA).1 nAc).trans dA
              have k1 : w4.cell? ⟨mp, 1, none⟩ = some (.int .u64 (N1 : Int)) := by rw [hN1]; exact cell_of_block b4 1
              have kA : w4.cell? ⟨A, 2, none⟩ = some (.int .u64 ((dfl o2).ver : Int)) := (cell_of_block d4 2).trans KA.obj.2.1.2.2.1
              have fA : w4.frozen? ⟨A, 2, none⟩ = false := unfrozen_of_block d4 2
              obtain ⟨w5, hw5⟩ : ∃ W, W = w4.setCell ⟨A, 2, none⟩ (.int .u64 (N1 : Int)) := ⟨_, rfl⟩
              obtain ⟨D5, hD5⟩ : ∃ X, X = D.setIfInBounds 2 (.int .u64 (N1 : Int)) := ⟨_, rfl⟩
              have d5 : w5.heap[A]? = some (.cells D5 OT (0, 0)) := by rw [hw5, block_setCell d4, hD5]
              have nmA : mp ≠ A := fun e => nAc (by simp [e])
              have C5 : Chg [A] w4 w5 := by rw [hw5]; exact (Chg.refl [A] w4).setCell 2 _ (.inl (by simp))
              have b5 : w5.heap[mp]? = some (.cells (moC (.slice (some ⟨g, 0, none⟩) n' c) N1 mev') MoT (0, 0)) := by
                rw [hN1, hn']
                exact (C5.block mp (Array.getElem?_eq_some_iff.1 b4).1 (by simpa using nmA)).trans b4
              have F5 : Fx base w3 w5 := (C4.fx (fun g hg _ => (h9.prot g (by rw [h9.fp]; simp at hg ⊢; rcases hg with h | h <;> simp [h])).2.2)).trans (C5.fx (fun g hg _ => by simp at hg; subst hg; exact (cells_prot d4 hbA rfl).2.2))
              have K5 : Kept base w5 D5 (setV (dfl o2) N1) := by rw [hD5]; exact (KA.fx F5).setV (by omega)
              have ngm : g ≠ mp := by
                rintro rfl
                rw [h9.blk] at hgh; cases hgh
              have nge : mev.ownBlock ≠ some g := own_ne h9.evs hgh (by decide)
              have ngA : g ≠ A := fun e => hAT (by rw [h9.fp, ← e]; simp [Value.ownBlock])
              have g5 : w5.heap[g]? = w3.heap[g]? := (C5.block g (by have := (Array.getElem?_eq_some_iff.1 hgh).1; have := C4.size; omega) (by simpa using ngA)).trans (C4.block g (Array.getElem?_eq_some_iff.1 hgh).1 (by simp only [List.mem_cons, Option.mem_toList, not_or]; exact ⟨ngm, nge⟩))
              have r5 : w5.drew.ownsRow base OT 47 (.slice (some ⟨g, 0, none⟩) csl.length c) csl.length (flat encC csl) := own_block h9.row (fun k hk => by simp [Value.ownBlock] at hk; subst hk; exact g5)
              obtain ⟨g', c', hgv, _, hgs, hset, hth⟩ := own_set lenC r5 (p := j) (by omega) (mkC K5)
              have hgg : g' = g := by
                simp only [Value.slice.injEq, Option.some.injEq, Addr.mk.injEq] at hgv
                omega
              subst hgg
              have h47 : D5.size = 47 := K5.obj.1
              obtain ⟨w6, hw6⟩ : ∃ W, W = w5.drew.setCells g' (j * 47) D5.toList := ⟨_, rfl⟩
              have hset' : w6.ownsRow base OT 47 (.slice (some ⟨g', 0, none⟩) csl.length c) csl.length (flat encC (csl.set j (mkC K5))) := by rw [hw6]; exact hset
              have C6 : Chg [g'] w5 w6 := by
                obtain ⟨r1, r2, r3⟩ := setCells_rest D5.toList w5.drew g' (j * 47)
                have : Chg [g'] w5.drew w6 := by
                  rw [hw6]
                  exact ⟨r1, r2, r3, by rw [setCells_size]; exact Nat.le_refl _, fun k _ hk => setCells_out _ _ _ _ _ (by simpa using hk)⟩
                exact (Chg.ofGr ((Gr.refl w5).drewN 1) [g']).trans this (fun g hg => .inl hg)
              have b6 : w6.heap[mp]? = some (.cells (moC (.slice (some ⟨g', 0, none⟩) n' c) N1 mev') MoT (0, 0)) := (C6.block mp (Array.getElem?_eq_some_iff.1 b5).1 (by simpa using fun e : mp = g' => ngm e.symm)).trans b5
              have k6 : w6.cell? ⟨mp, 1, none⟩ = some (.int .u64 (N1 : Int)) := cell_of_block b6 1
              have TH : Hid (w5.drew.there g' (j * 47) D5.size) := by show World.there _ _ _ _; rw [h47]; exact hth
              have IN : Hid ((Try.prog.info? OT).map (·.size) = some D5.size) := by show _ = _; rw [h47]; exact info_ob47
              have ON : Hid (D5.all (·.oneCell') = true) := objV_one K5.obj
              have S0 : Hid (w5.drew.heap[mp]? = some (.cells (moC (.slice (some ⟨g', 0, none⟩) n' c) N1 mev') MoT (0, 0)) ∧ w5.drew.heap[A]? = some (.cells D5 OT (0, 0))) := ⟨b5, d5⟩
              have K0 : Hid (∀ ws : World, (ws.heap[mp]? = some (.cells (moC (.slice (some ⟨g', 0, none⟩) n' c) N1 mev') MoT (0, 0)) ∧ ws.heap[A]? = some (.cells D5 OT (0, 0))) → ws.cell? ⟨mp, 0, none⟩ = some (.slice (some ⟨g', 0, none⟩) n' c)) := fun ws h => cell_of_block h.1 0
              have KJ : Hid (∀ ws : World, (ws.heap[mp]? = some (.cells (moC (.slice (some ⟨g', 0, none⟩) n' c) N1 mev') MoT (0, 0)) ∧ ws.heap[A]? = some (.cells D5 OT (0, 0))) → (0 : Int) ≤ (j : Int) ∧ (j : Int) < (n' : Int)) := fun ws h => ⟨by omega, by omega⟩
              have KL : Hid (∀ ws : World, (ws.heap[mp]? = some (.cells (moC (.slice (some ⟨g', 0, none⟩) n' c) N1 mev') MoT (0, 0)) ∧ ws.heap[A]? = some (.cells D5 OT (0, 0))) → ws.rangeAt A 0 D5.toList) := fun ws h => rangeAt_block h.2
              have hi : (Try.prog.info? OT).map (·.size) = some D5.toList.length := by rw [Array.length_toList, h47]; exact info_ob47
              have hu := Try.underlying56
              have HW5 : Hid (w4.setCell ⟨A, 2, none⟩ (.int .u64 (N1 : Int)) = w5) := hw5.symm
              have HW6 : Hid (w5.drew.setCells g' (j * 47) D5.toList = w6) := hw6.symm
              have FIN : Hid (Move l hist (put l (setV (dfl o2) N1)) (hist ++ [⟨1, (dfl o2).kind, (dfl o2).name, hist.length + 1⟩]) ∧ Next base w w6 S T sp mp most (put l (setV (dfl o2) N1)) (hist ++ [⟨1, (dfl o2).kind, (dfl o2).name, hist.length + 1⟩])) := by
                have C8 : Chg (mp :: ((Value.slice (some ⟨g', 0, none⟩) csl.length c).ownBlock.toList ++ [A])) w4 w6 := (C5.less (fun g hg => .inl (by simp at hg; simp [hg]))).trans C6 (fun g hg => .inl (by simp at hg; simp [hg, Value.ownBlock]))
                have F56 : Fx base w5 w6 := C6.fx (fun k hk _ => by
                  simp at hk
                  subst hk
                  have hgh' : w5.heap[k]? = some (.cells cur OT (0, 0)) := g5.trans hgh
                  exact (cells_prot hgh' hgb rfl).2.2)
                have K8 := K5.fx F56
                have b8 := b6
                rw [hN1, hn'] at b8
                have e1 : (csl.set j (mkC K5)).length = csl.length := List.length_set
                have o8 : w6.ownsRow base OT 47 (.slice (some ⟨g', 0, none⟩) csl.length c) (csl.set j (mkC K5)).length (flat encC (csl.set j (mkC K5))) := by rw [e1]; exact hset'
                have R := MoAt.again h9 (X := [A]) C4 b4 o4 f4 C8 (fun g hg => by simp at hg; subst hg; exact own_ne o4 d4 (by decide)) b8 o8 (fun k hk => .inl hk) (l' := l.set j (setV (dfl o2) N1)) (by rw [e1, h9.len, List.length_set]) (fun hF i o ho => by
                  rw [List.getElem?_set] at ho
                  rw [List.getElem?_set, h9.len]
                  split at ho
                  · rename_i hij
                    rw [if_pos hij]
                    have hll : j < l.length := hlt
                    rw [if_pos hll]
                    first | (cases ho; exact ⟨mkC K5, rfl, K8⟩) | (rw [if_pos hll] at ho; cases ho; exact ⟨mkC K5, rfl, K8⟩)
                  · rename_i hij
                    rw [if_neg hij]
                    obtain ⟨c, h1, h2⟩ := h9.objs i o ho
                    exact ⟨c, h1, h2.fx hF⟩) (fun g hg _ => by simp at hg; subst hg; exact (cells_prot dA hbA rfl).2.2)
                rw [← hput] at R
                exact ⟨.set (setV (dfl o2) N1) (by show l.any (hit (dfl o2).kind (dfl o2).name) = true; rw [kind_dfl, name_dfl]; exact hany) okd, Sys.next hst s3 W3 AF R.2 (fun g hg => by
                  rcases List.mem_append.1 hg with h | h
                  · exact .inl h
                  · simp at h
                    subst h
                    exact .inr ⟨hwA, hAn, (cells_prot dA hbA rfl).2.2⟩) R.1⟩
              clear s3 W3 hA2 hwA hbA hsz hn hl hst hN1 okd hput hany hx hlt hAn AF h9 dA KA hgb hgh gd hn' C4 c4 b4 o4 f4 hAT nAc d4 hw5 hD5 d5 nmA C5 b5 F5 K5 ngm nge ngA g5 r5 hgv hgs hset hth h47 hw6 hset' C6 b6 CN LO4 HF HG t1 t2 t3 t4 jn hn6
              go_upto_region 38 with fail
              rw [HW5.out]
              clear k1 kA fA HW5
              refine wp_region_G (f := 7) (S := fun ws => ws.heap[mp]? = some (.cells (moC (.slice (some ⟨g', 0, none⟩) n' c) N1 mev') MoT (0, 0)) ∧ ws.heap[A]? = some (.cells D5 OT (0, 0))) mixed S0.out (fun hS => ?_)
              refine wpAnyG_takeD (i := 0) (d := 263) (v := .pointer (some ⟨mp, 0, none⟩)) _ rfl rfl (by kernel_rfl) (by kernel_rfl) (by kernel_rfl) (by kernel_rfl) (fun _ _ _ h => h) (Or.inl ⟨by kernel_rfl, fun ws hSw => by first | (go_simp; done) | (go_simp; with_reducible rfl) | (go_simp; rfl)⟩) hS ?_
              simp only [Act.put, List.setIfInBounds_toArray, List.set_cons_zero, List.set_cons_succ]
              refine wpAnyG_takeD (i := 1) (d := 264) (v := .pointer (some ⟨mp, 0, none⟩)) _ rfl rfl (by kernel_rfl) (by kernel_rfl) (by kernel_rfl) (by kernel_rfl) (fun _ _ _ h => h) (Or.inl ⟨by kernel_rfl, fun ws hSw => by first | (go_simp; done) | (go_simp; with_reducible rfl) | (go_simp; rfl)⟩) hS ?_
              simp only [Act.put, List.setIfInBounds_toArray, List.set_cons_zero, List.set_cons_succ]
              refine wpAnyG_takeD (i := 2) (d := 265) (v := .pointer (some ⟨mp, 0, none⟩)) _ rfl rfl (by kernel_rfl) (by kernel_rfl) (by kernel_rfl) (by kernel_rfl) (fun _ _ _ h => h) (Or.inl ⟨by kernel_rfl, fun ws hSw => by first | (go_simp; done) | (go_simp; with_reducible rfl) | (go_simp; rfl)⟩) hS ?_
              simp only [Act.put, List.setIfInBounds_toArray, List.set_cons_zero, List.set_cons_succ]
              refine wpAnyG_takeD (i := 3) (d := 266) (v := .slice (some ⟨g', 0, none⟩) n' c) _ rfl rfl (by kernel_rfl) (by kernel_rfl) (by kernel_rfl) (by kernel_rfl) (fun _ _ _ h => h) (Or.inl ⟨by kernel_rfl, fun ws hSw => by have q := K0.out ws hSw; first | (go_simp; done) | (go_simp; with_reducible rfl) | (go_simp; rfl)⟩) hS ?_
              simp only [Act.put, List.setIfInBounds_toArray, List.set_cons_zero, List.set_cons_succ]
              refine wpAnyG_takeD (i := 4) (d := 267) (v := .int .i64 (j : Int)) _ rfl rfl (by kernel_rfl) (by kernel_rfl) (by kernel_rfl) (by kernel_rfl) (fun _ _ _ h => h) (Or.inl ⟨by kernel_rfl, fun ws hSw => by first | (go_simp; done) | (go_simp; with_reducible rfl) | (go_simp; rfl)⟩) hS ?_
              simp only [Act.put, List.setIfInBounds_toArray, List.set_cons_zero, List.set_cons_succ]
              refine wpAnyG_takeD (i := 5) (d := 268) (v := .agg D5.toList.toArray) _ rfl rfl (by kernel_rfl) (by kernel_rfl) (by kernel_rfl) (by kernel_rfl) (fun _ _ _ h => h) (yieldsIf_load_mid (by kernel_rfl) _ _ rfl A 0 (by kernel_rfl) D5.toList _ (fun ws hSw => KL.out ws hSw) hu rfl hi) hS ?_
              simp only [Act.put, List.setIfInBounds_toArray, List.set_cons_zero, List.set_cons_succ]
              refine wpAnyG_takeD (i := 6) (d := 269) (v := .pointer (some ⟨g', j * 47, none⟩)) _ rfl rfl (by kernel_rfl) (by kernel_rfl) (by kernel_rfl) (by kernel_rfl) (fun _ _ _ h => h) (Or.inl ⟨by kernel_rfl, fun ws hSw => by have q := KJ.out ws hSw; first | (go_simp; done) | (go_simp; with_reducible rfl) | (go_simp; rfl) | (go_simp; intro hlt; exfalso; omega)⟩) hS ?_
              simp only [Act.put, List.setIfInBounds_toArray, List.set_cons_zero, List.set_cons_succ]
              refine wpAnyG_ready (rs := [7]) (by kernel_rfl) (by simp) ?_
              refine AllReadyG.last rfl rfl (fun K hK => ?_)
              rw [if_pos (by rfl)]
              refine wp_store_mid OT _ _ rfl g' (j * 47) D5 (by rfl) (by rfl) TH.out IN.out ON.out ?_
              rw [HW6.out]
              refine hK _ _ ?_
              try simp only [Act.put, List.setIfInBounds_toArray, List.set_cons_zero, List.set_cons_succ]
              refine wpAnyG_done (by kernel_rfl) ?_
              clear TH IN ON HW6 S0 K0 KJ KL hi hu
              go_wp2
              go_ret
              exact ⟨rfl, _, _, FIN.out⟩
      · skip
        have CB := Lib.hid (update_bad base n2 sp cs2 o2 a3.obj hb2 (by rw [← hce]; exact hz))
        rw [← hce] at CB
        have te : (ce == 0) = false := by simpa using hz
        have te2 : (ce != 0) = true := by simpa using hz
        have HF := Lib.hid (And.intro s3 W3)
        clear s3 a3 K3 d3 W3 hA2 hwA hbA hsz hI2 hn hl nB hst hce hb2 HC hz
        go_wp2_with (refine wpList_load_by (by kernel_rfl) OT _ rfl (.pointer (some ⟨B, 1, none⟩)) (.agg cs2) (by kernel_rfl) LO3.out ?_)
        refine CB.out.mono ?_
        rintro e w' ⟨rfl, g'⟩
        have FIN : Hid (Move l hist l hist ∧ Next base w w'.drew S T sp mp most l hist) := ⟨.stay, S, T, (HF.out.1.gr g').gr ((Gr.refl w').drewN 1).below, ((HF.out.2.trans (Chg.ofBelow g' []) (by simp)).trans (Chg.ofGr ((Gr.refl w').drewN 1) []) (by simp)).less (by simp), fun g hg => .inl hg⟩
        clear CB HF g' LO3
        go_upto_region 32 with fail
        go_region
        all_goals
          go_wp2
          go_ret
          exact ⟨rfl, _, _, FIN.out⟩
end Go.Proofs.Ytacgbagcddjlnaa
