/- The events since a version. -/
import Derived.Test.YtacgbagcddjlnaaStE
import Derived.Deep.AppendLies
namespace Go.Proofs.Ytacgbagcddjlnaa
open Go.RowKit Go.Shelf Go.Lib Go.Sort
open Go.Joins (cell_of_block unfrozen_of_block block_setCell)
set_option linter.unusedVariables false
set_option linter.unusedSimpArgs false
set_option maxRecDepth 20000

set_option maxHeartbeats 4000000 in
theorem since_above (base : Nat) (w : World) (S : List Nat) (sp : Nat) (most : Int) (l : List Ob) (hist : List Ev) (ver : Nat) (h : StIs base w S sp most l hist) (hn : hist.length < 1000000) (hv : hist.length < ver) :
    Calls Try.prog 11 #[.pointer (some ⟨sp, 0, none⟩), .int .u64 (ver : Int)] w fun e w' => e = .returned (.tuple #[.slice none 0 0, .int .i64 1]) ∧ w = w' := by
  have mixed : Try.prog.follows .mixedOrders = true := by kernel_rfl
  obtain ⟨mb, D, ev, kept, h⟩ := h
  obtain ⟨now, hnow⟩ : ∃ n, n = hist.length := ⟨_, rfl⟩
  have c1 : w.cell? ⟨sp, 1, none⟩ = some (.int .u64 (now : Int)) := by rw [hnow]; exact cell_of_block h.blk 1
  have t : now < ver := by omega
  clear h hn hv hnow
  go_enter Try.func11, Try.ntmps11
  go_wp2
  refine bodyPost_ret (results_tmp2 rfl _ _ _) rfl ?_
  exact ⟨rfl, rfl⟩
set_option maxHeartbeats 4000000 in
theorem since_gone (base : Nat) (w : World) (S : List Nat) (sp : Nat) (most : Int) (l : List Ob) (hist : List Ev) (ver : Nat) (h : StIs base w S sp most l hist) (hn : hist.length < 1000000) (hv : ver ≤ hist.length) (hg : min hist.length 1024 < hist.length - ver) :
    Calls Try.prog 11 #[.pointer (some ⟨sp, 0, none⟩), .int .u64 (ver : Int)] w fun e w' => e = .returned (.tuple #[.slice none 0 0, .int .i64 11]) ∧ Gr w w' := by
  have mixed : Try.prog.follows .mixedOrders = true := by kernel_rfl
  obtain ⟨mb, D, ev, kept, h⟩ := h
  obtain ⟨q, c, rfl⟩ := own_slice h.evs
  obtain ⟨now, hnow⟩ : ∃ n, n = hist.length := ⟨_, rfl⟩
  obtain ⟨dd, hdd⟩ : ∃ d, d = now - ver := ⟨_, rfl⟩
  have c1 : w.cell? ⟨sp, 1, none⟩ = some (.int .u64 (now : Int)) := by rw [hnow]; exact cell_of_block h.blk 1
  have c3 : w.cell? ⟨sp, 3, none⟩ = some (.slice q kept.length c) := cell_of_block h.blk 3
  have hr := h.ring.1
  have t : ver ≤ now := by omega
  have td : (now : Int) - (ver : Int) = (dd : Int) := by omega
  have tk : kept.length < dd := by omega
  have b1 : dd < 1000000 := by omega
  have b2 : kept.length < 1000000 := by omega
  have G := Lib.hid (Gr.refl w)
  clear h hn hv hnow hr hdd hg
  go_enter Try.func11, Try.ntmps11
  go_upto_region 3 with fail
  go_region
  all_goals
    go_wp2
    refine bodyPost_ret (results_tmp2 rfl _ _ _) rfl ?_
    exact ⟨rfl, G.out.drew⟩

/-- The events behind the ver-th, up to the j-th. -/
def evsTo (hist : List Ev) (ver j : Nat) : List Ev := (hist.drop ver).take (j - ver)
theorem evsTo_len {hist : List Ev} {ver j : Nat} (h1 : ver ≤ j) (h2 : j ≤ hist.length) : (evsTo hist ver j).length = j - ver := by
  unfold evsTo
  rw [List.length_take, List.length_drop]
  omega
theorem evsTo_next {hist : List Ev} {ver j : Nat} {e : Ev} (h1 : ver ≤ j) (h2 : hist[j]? = some e) : evsTo hist ver (j + 1) = evsTo hist ver j ++ [e] := by
  unfold evsTo
  rw [show j + 1 - ver = (j - ver) + 1 by omega, List.take_add_one, List.getElem?_drop, show ver + (j - ver) = j by omega, h2]
  rfl
theorem evsTo_all (hist : List Ev) (ver : Nat) : evsTo hist ver hist.length = hist.drop ver := by
  unfold evsTo
  rw [List.take_of_length_le]
  rw [List.length_drop]
  exact Nat.le_refl _

set_option maxHeartbeats 8000000 in
theorem since_any (base : Nat) (w : World) (S : List Nat) (sp : Nat) (most : Int) (l : List Ob) (hist : List Ev) (ver : Nat) (h : StIs base w S sp most l hist) (hn : hist.length < 1000000) (hv : ver ≤ hist.length) (hg : hist.length - ver ≤ min hist.length 1024) :
    Calls Try.prog 11 #[.pointer (some ⟨sp, 0, none⟩), .int .u64 (ver : Int)] w fun e w' => (∃ v, e = .returned (.tuple #[v, .int .i64 0]) ∧ w'.ownsRow w.heap.size ET 4 v (hist.drop ver).length (flat encE (hist.drop ver))) ∧ Below w.heap.size w w' := by
  have mixed : Try.prog.follows .mixedOrders = true := by kernel_rfl
  obtain ⟨mb, D, ev, kept, h⟩ := h
  obtain ⟨q, c, rfl⟩ := own_slice h.evs
  obtain ⟨now, hnow⟩ : ∃ n, n = hist.length := ⟨_, rfl⟩
  obtain ⟨dd, hdd⟩ : ∃ d, d = now - ver := ⟨_, rfl⟩
  have c1 : w.cell? ⟨sp, 1, none⟩ = some (.int .u64 (now : Int)) := by rw [hnow]; exact cell_of_block h.blk 1
  have c3 : w.cell? ⟨sp, 3, none⟩ = some (.slice q kept.length c) := cell_of_block h.blk 3
  have hr := h.ring.1
  have t : ver ≤ now := by omega
  have td : (now : Int) - (ver : Int) = (dd : Int) := by omega
  have tk : dd ≤ kept.length := by omega
  have t2 : decide (now < ver) = false := decide_eq_false (by omega)
  have tk2 : decide (kept.length < dd) = false := decide_eq_false (by omega)
  have b1 : dd < 1000000 := by omega
  have b2 : kept.length < 1000000 := by omega
  have b3 : now < 1000000 := by omega
  have HH := Lib.hid (And.intro h (And.intro hnow (And.intro hg hdd)))
  obtain ⟨inf, hi, hz0, hz1, hz2⟩ : ∃ i, Try.prog.info? ET = some i ∧ i.zero = some (.agg #[.int .i64 0, .int .i64 0, .string ⟨#[]⟩, .int .u64 0]) ∧ i.size = 4 ∧ i.bytes = 40 := ⟨_, rfl, by kernel_rfl, by kernel_rfl, by kernel_rfl⟩
  have HI := Lib.hid (And.intro hi (And.intro hz0 (And.intro hz1 hz2)))
  clear h hn hv hnow hr hdd hg hi hz0 hz1 hz2
  go_enter Try.func11, Try.ntmps11
  go_upto_region 3 with fail
  go_region
  go_wp2_with fail
  go_loopg [6, 7] dd (fun g vl vv wr => ∃ j : Nat, vv = .int .u64 (j : Int) ∧ ver ≤ j ∧ j ≤ now ∧ now - j ≤ g ∧ Hid (wr.ownsRow w.heap.size ET 4 vl (j - ver) (flat encE (evsTo hist ver j))) ∧ Hid (Below w.heap.size w wr))
  case atStart =>
    refine ⟨ver, rfl, Nat.le_refl _, t, by have := HH.out.2.2.2; omega, ?_, ((Gr.refl w).drewN 1).below⟩
    show World.ownsRow _ _ _ _ _ _ _
    unfold evsTo
    rw [Nat.sub_self]
    exact World.ownsRow_nil _ _ _ _
  case round =>
    obtain ⟨j, rfl, h1, h2, h3, HO, HB⟩ := hrel
    have hblk := HH.out.1.blk
    have hlsp := (Array.getElem?_eq_some_iff.1 hblk).1
    have d1 : wr.cell? ⟨sp, 1, none⟩ = some (.int .u64 (now : Int)) := by rw [World.cell?_of_block (HB.out.block sp hlsp)]; exact c1
    by_cases hlt : j < now
    · obtain ⟨p, hp⟩ : ∃ p, p = j % 1024 := ⟨_, rfl⟩
      have hp2 : (j : Int) % 1024 = (p : Int) := by omega
      have hkp : kept.length = min hist.length 1024 ∧ now = hist.length ∧ now - ver ≤ min hist.length 1024 := ⟨HH.out.1.ring.1, HH.out.2.1, by have := HH.out.2.1; have := HH.out.2.2.1; omega⟩
      have hpk : p < kept.length := by omega
      obtain ⟨e, he⟩ : ∃ e, hist[j]? = some e := ⟨hist[j]'(by omega), List.getElem?_eq_getElem (by omega)⟩
      have hke : kept[p]? = some e := by rw [hp, HH.out.1.ring.2 j (by omega) (by omega)]; exact he
      obtain ⟨g, cap, cur, hgq, hgb, hgh, _⟩ : ∃ g cap cur, Value.slice q kept.length c = .slice (some ⟨g, 0, none⟩) kept.length cap ∧ base ≤ g ∧ w.heap[g]? = some (.cells cur ET (0, 0)) ∧ True := by
        rcases HH.out.1.evs.2 with ⟨_, h0⟩ | ⟨g, cap, cur, e1, e2, e3, _⟩
        · omega
        · exact ⟨g, cap, cur, e1, e2, e3, trivial⟩
      have hq : q = some ⟨g, 0, none⟩ := by simp only [Value.slice.injEq] at hgq; exact hgq.1
      have hlg := (Array.getElem?_eq_some_iff.1 hgh).1
      have cl : ∀ t u, t < 4 → (encE e)[t]? = some u → wr.cell? ⟨g, p * 4 + t, none⟩ = some u := fun t u ht hu => by
        rw [World.cell?_of_block (HB.out.block g hlg)]
        have := HH.out.1.evs.cells (g := g) (by rw [hgq]; rfl) (p * 4 + t) u (by rw [flat_at lenE kept p t e hke ht]; exact hu)
        rwa [add_none', Nat.zero_add] at this
      have e0 : wr.cell? ⟨g, p * 4, none⟩ = some (.int .i64 e.what) := cl 0 _ (by decide) rfl
      have e1 : wr.cell? ⟨g, p * 4 + 1, none⟩ = some (.int .i64 e.kind) := cl 1 _ (by decide) rfl
      have e2 : wr.cell? ⟨g, p * 4 + 2, none⟩ = some (.string e.name) := cl 2 _ (by decide) rfl
      have e3 : wr.cell? ⟨g, p * 4 + 3, none⟩ = some (.int .u64 (e.ver : Int)) := cl 3 _ (by decide) rfl
      have d3 : wr.cell? ⟨sp, 3, none⟩ = some (.slice q kept.length c) := by rw [World.cell?_of_block (HB.out.block sp hlsp)]; exact c3
      have own : Hid ((wr.alloc (.cells (encE e).toArray ET)).ownsRow w.heap.size ET 4 u6 (j - ver) (flat encE (evsTo hist ver j))) := World.ownsRow.alloc HO.out _
      have news : Hid (∀ i u, (encE e)[i]? = some u → (wr.alloc (.cells (encE e).toArray ET)).cell? ((⟨wr.heap.size, 0, none⟩ : Addr).add i) = some u) := fun i u hu => World.news_of_block (heap_alloc_new wr (.cells (encE e).toArray ET)) i u (by simpa using hu)
      have hbd : Hid (j - ver + 1 ≤ 1000000 ∧ w.heap.size ≤ (wr.alloc (.cells (encE e).toArray ET)).heap.size) := ⟨by omega, by have := HB.out.size; have h9 : (wr.alloc (.cells (encE e).toArray ET)).heap.size = wr.heap.size + 1 := (by simp); omega⟩
      subst hq
      have HE := Lib.hid (And.intro he (And.intro h1 hkp))
      clear hp hgq hgb hgh hlg cl hke he hkp hblk
      go_wp2_with (at_builtin; refine wpList_append_own_at _ rfl _ _ SlE (by rfl) w.heap.size ET inf (.agg #[.int .i64 0, .int .i64 0, .string ⟨#[]⟩, .int .u64 0]) 4 40 Try.underlying32 HI.out.1 HI.out.2.1 HI.out.2.2.1 HI.out.2.2.2 rfl (by decide) u6 (j - ver) (flat encE (evsTo hist ver j)) (by rfl) own.out ⟨wr.heap.size, 0, none⟩ 1 1 (encE e) (by rfl) (by rfl) news.out (oneE _) (by have := hbd.out.1; unfold maxLen; omega) (by have := hbd.out.1; omega) hbd.out.2 ?_; intro v' w4 o4 gb4 _ at4; have H4 := Lib.hid (And.intro o4 (And.intro gb4 at4)); clear o4 gb4 at4)
      have N4 : Hid (w4.ownsRow w.heap.size ET 4 v' (j + 1 - ver) (flat encE (evsTo hist ver (j + 1))) ∧ Below w.heap.size w w4) := by
        obtain ⟨o4, gb4', at4⟩ := H4.out
        have gb4 : (wr.alloc (.cells (encE e).toArray ET)).grownBy w4 u6.ownBlock := gb4'
        refine ⟨?_, ?_⟩
        · rw [evsTo_next HE.out.2.1 HE.out.1, show j + 1 - ver = j - ver + 1 by have := HE.out.2.1; omega]
          show World.ownsRow _ _ _ _ _ _ (flat encE (_ ++ [e]))
          unfold flat
          rw [List.flatMap_append]
          simpa [flat] using o4
        · have hb := HB.out
          have a := (Gr.refl wr).alloc (.cells (encE e).toArray ET)
          refine ⟨gb4.os.trans (a.below.os.trans hb.os), gb4.tape.trans (a.below.tape.trans hb.tape), gb4.output.trans (a.below.output.trans hb.output), Nat.le_trans hb.size (Nat.le_trans a.below.size gb4.size), fun k hk => ?_⟩
          rw [gb4.block k (by have := hb.size; have := a.below.size; omega) (fun e => by
            have := (World.ownsRow.lt own.out k e.symm).1
            omega), a.heap (by have := hb.size; omega)]
          exact hb.block k hk
      clear H4 own news hbd e0 e1 e2 e3 d1 d3 HE
      go_wp2
      go_roundg (now - (j + 1))
      case measure => omega
      case rel => exact ⟨j + 1, by push_cast; rfl, by omega, by omega, by omega, N4.out.1, N4.out.2⟩
    · have hj : j = now := by omega
      subst hj
      have FIN : Hid (wr.ownsRow w.heap.size ET 4 u6 (hist.drop ver).length (flat encE (hist.drop ver)) ∧ Below w.heap.size w wr) := by
        have := HO.out
        have e := HH.out.2.1
        refine ⟨?_, HB.out⟩
        rw [← evsTo_all, evsTo_len (by omega) (Nat.le_refl _), ← e]
        exact this
      clear HO HB hblk hlsp
      go_wp2
      refine bodyPost_ret (results_tmp2 rfl _ _ _) rfl ?_
      exact ⟨⟨u6, rfl, FIN.out.1⟩, FIN.out.2⟩
end Go.Proofs.Ytacgbagcddjlnaa
