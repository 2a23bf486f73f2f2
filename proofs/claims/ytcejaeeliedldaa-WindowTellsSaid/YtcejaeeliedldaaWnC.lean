/- Layer 21 (window): what is too far back goes (slices.IndexFunc, slices.DeleteFunc). -/
import Derived.Test.YtcejaeeliedldaaWnA
namespace Go.Proofs.Ytcejaeeliedldaa.Wn
open Go.RowKit Go.Shelf Go.Lib Go.Sort Go.Deep
open Go.Joins (cell_of_block unfrozen_of_block block_setCell)
open Go.Proofs.Ytcejaeeliedldaa.Ow
set_option linter.unusedVariables false
set_option linter.unusedSimpArgs false
set_option maxRecDepth 20000

/-- What goes, as it is handed on. -/
abbrev fvG (g : Nat) : Value := .func (.func 26) #[] #[.pointer (some ⟨g, 0, none⟩)]
theorem enters_g : ∀ args w, (callFunc 26 args).run Try.prog w = .ok (.enter 26 args) w := enters_of Try.func26 (by kernel_rfl) rfl
/-- A row of events, as it is read. -/
def Tks (w : World) (q : Option Addr) (l : List Tk) : Prop := ∀ i e, l[i]? = some e → ∃ g : Nat, q = some ⟨g, 0, none⟩ ∧ g < w.heap.size ∧ ∀ t u, (encS e)[t]? = some u → w.cell? ⟨g, i * 3 + t, none⟩ = some u
theorem Tks.below {w w' : World} {q : Option Addr} {l : List Tk} (h : Tks w q l) (b : Below w.heap.size w w') : Tks w' q l := fun i e he => by
  obtain ⟨g, hq, hg, hc⟩ := h i e he
  exact ⟨g, hq, Nat.lt_of_lt_of_le hg b.size, fun t u hu => (World.cell?_of_block (b.block g hg)).trans (hc t u hu)⟩
theorem tks_own {w : World} {N c : Nat} {q : Option Addr} {l : List Tk} (h : w.ownsRow N TT 3 (.slice q l.length c) l.length (flat encS l)) : Tks w q l := fun i e he => by
  have hi := (List.getElem?_eq_some_iff.1 he).1
  rcases h.2 with ⟨_, h0⟩ | ⟨g, cap, cur, e1, e2, e3, _⟩
  · omega
  · simp only [Value.slice.injEq, true_and] at e1
    obtain ⟨rfl, rfl⟩ := e1
    refine ⟨g, rfl, (Array.getElem?_eq_some_iff.1 e3).1, fun t u hu => ?_⟩
    have ht : t < 3 := by
      have := (List.getElem?_eq_some_iff.1 hu).1
      rwa [lenS] at this
    have := h.cells (g := g) rfl (i * 3 + t) u (by rw [flat_at lenS l i t e he ht]; exact hu)
    rwa [add_none', Nat.zero_add] at this

set_option maxHeartbeats 4000000 in
theorem tk_index (w : World) (q : Option Addr) (c : Nat) (l : List Tk) (wp : Nat) (a : Int) (h : Tks w q l) (hl : l.length ≤ 1000000) (hb : w.heap[wp]? = some (.cells #[.int .i64 a] AT (0, 0))) (hk : ∀ e ∈ l, TkOk a e) :
    Calls Try.prog 31 #[.slice q l.length c, fvG wp] w fun r w' =>
      ((∃ (i : Nat) (x : Tk), r = .returned (.int .i64 (i : Int)) ∧ l[i]? = some x ∧ kp a x = false ∧ ∀ (j : Nat) (y : Tk), j < i → l[j]? = some y → kp a y = true) ∨ (r = .returned (.int .i64 (-1)) ∧ ∀ (j : Nat) (y : Tk), l[j]? = some y → kp a y = true)) ∧ Below w.heap.size w w' := by
  have eg := enters_g
  obtain ⟨n, hn⟩ : ∃ n, n = l.length := ⟨_, rfl⟩
  rw [← hn] at hl ⊢
  have H := Lib.hid (And.intro h (And.intro hb (And.intro hk hn)))
  clear h hb hk hn
  go_enter Try.func31, Try.ntmps31
  go_wp2_with fail
  go_loopg [8] n (fun gg vi wr => ∃ j : Nat, vi = .int .i64 (j : Int) ∧ j ≤ n ∧ n - j ≤ gg ∧ Hid (∀ i y, i < j → l[i]? = some y → kp a y = true) ∧ Hid (Below w.heap.size w wr))
  case atStart => exact ⟨0, rfl, by omega, by omega, fun i y hi => by omega, Below.refl _ _⟩
  case round =>
    obtain ⟨j, rfl, h1, h2, HM, HB⟩ := hrel
    by_cases hj : j < n
    · obtain ⟨h, hb, hk, hn⟩ := H.out
      obtain ⟨x, hx⟩ : ∃ x, l[j]? = some x := ⟨l[j]'(by omega), List.getElem?_eq_getElem (by omega)⟩
      have hr := h.below HB.out
      obtain ⟨g, rfl, hg, hc⟩ := hr j x hx
      have pb : wr.heap[wp]? = some (.cells #[.int .i64 a] AT (0, 0)) := (HB.out.block wp (Array.getElem?_eq_some_iff.1 hb).1).trans hb
      have C := Lib.hid (gone_any wr wp a x pb (hk x (List.mem_of_getElem? hx)))
      have k0 := hc 0 _ rfl
      have k1 := hc 1 _ rfl
      have k2 := hc 2 _ rfl
      rw [Nat.add_zero] at k0
      cases ht : kp a x with
      | false =>
        rw [ht] at C
        have HX := Lib.hid (And.intro hx ht)
        clear h hb hk hn hr hc pb hx ht
        go_wp2_with (go_at_fn 26; refine C.out.mono ?_; rintro e w1 ⟨rfl, g1⟩)
        go_ret
        exact ⟨.inl ⟨j, x, rfl, HX.out.1, HX.out.2, HM.out⟩, HB.out.trans (g1.below.mono HB.out.size)⟩
      | true =>
        rw [ht] at C
        have NM : Hid (∀ i y, i < j + 1 → l[i]? = some y → kp a y = true) := fun i y hi hy => by
          by_cases e : i = j
          · rw [e, hx] at hy
            injection hy with hy
            rw [← hy]; exact ht
          · exact HM.out i y (by omega) hy
        clear h hb hk hn hr hc pb hx ht
        go_wp2_with (go_at_fn 26; refine C.out.mono ?_; rintro e w1 ⟨rfl, g1⟩)
        go_roundg (n - (j + 1))
        case measure => omega
        case rel => exact ⟨j + 1, by push_cast; rfl, by omega, by omega, NM, HB.out.trans (g1.below.mono HB.out.size)⟩
    · have FIN : Hid (∀ i y, l[i]? = some y → kp a y = true) := fun i y hy => HM.out i y (by have := (List.getElem?_eq_some_iff.1 hy).1; have := H.out.2.2.2; omega) hy
      go_wp2
      go_ret
      exact ⟨.inr ⟨rfl, FIN.out⟩, HB.out⟩

abbrev zeE : Array Value := #[.int .i64 0, .int .i64 0, .int .i64 0]
def zerE (n : Nat) : List Value := (Builtin.zeroCells zeE n).toList
theorem zerE_one (n : Nat) : ∀ v ∈ zerE n, v.oneCell' = true := fun v hv => by
  unfold zerE Builtin.zeroCells at hv
  simp only [Array.toList_map, List.mem_map] at hv
  obtain ⟨i, _, rfl⟩ := hv
  have : i % zeE.size = 0 ∨ i % zeE.size = 1 ∨ i % zeE.size = 2 := by
    have h : zeE.size = 3 := rfl
    rw [h]
    omega
  rcases this with h | h | h <;> rw [h] <;> rfl
theorem zerE_len (n : Nat) : (zerE n).length = n * 3 := by
  unfold zerE Builtin.zeroCells
  simp
theorem run_clear_tk (w : World) (ty : TypeId) (b o n c : Nat) (hn : 0 < n) (hc : ∀ j, j < n * 3 → (w.cell? ⟨b, o + j, none⟩).isSome = true) (hf : ∀ j, j < n * 3 → w.frozen? ⟨b, o + j, none⟩ = false) :
    (Builtin.clear_ #[SlT] ty #[.slice (some ⟨b, o, none⟩) n c]).run Try.prog w = .ok (.tuple #[]) (w.setCells b o (zerE n)) := by
  have hst := run_storeCells_cells (P := Try.prog) b o (zerE n) 0 w (by rw [zerE_len]; simpa using hc) (by rw [zerE_len]; simpa using hf) (zerE_one n)
  simp only [Nat.add_zero] at hst
  obtain ⟨m, rfl⟩ : ∃ m, n = m + 1 := ⟨n - 1, by omega⟩
  have hv : (zeroValue TT).run Try.prog w = .ok (.agg zeE) w := by kernel_rfl
  have hst' : (storeCells ⟨b, o, none⟩ (Builtin.zeroCells zeE (m + 1)).toList).run Try.prog w = .ok () (w.setCells b o (zerE (m + 1))) := hst
  simp [Builtin.clear_, run_underlying Try.underlying42, hv, Value.cells, hst']
/-- The front of a row of the call's own, whatever is written behind it. -/
theorem own_front {w : World} {N g cap n i o : Nat} {c : List Tk} {vs : List Value} (h : w.ownsRow N TT 3 (.slice (some ⟨g, 0, none⟩) n cap) n (flat encS c)) (hn : c.length = n) (hi : i ≤ n) (ho : i * 3 ≤ o) :
    (w.setCells g o vs).ownsRow N TT 3 (.slice (some ⟨g, 0, none⟩) i cap) i (flat encS (c.take i)) := by
  rcases h.2 with ⟨e, _⟩ | ⟨g', cap', cur, e, e2, e3, e4, e5, e6, e7⟩
  · cases e
  · simp only [Value.slice.injEq, Option.some.injEq, Addr.mk.injEq, true_and, and_true] at e
    obtain ⟨rfl, rfl⟩ := e
    refine ⟨by rw [flat_length lenS, List.length_take, Nat.min_eq_left (by omega)], .inr ⟨g, cap, setAt cur o vs, rfl, e2, setCells_block _ _ _ _ _ _ _ e3, by omega, e5, by rw [setAt_size, e6], ?_⟩⟩
    have hx : flat encS (c.take i) = (flat encS c).take (i * 3) := by
      apply List.ext_getElem?
      intro t
      by_cases ht : t < i * 3
      · rw [List.getElem?_take_of_lt ht]
        have hti : t / 3 < i := by omega
        have e : t = t / 3 * 3 + t % 3 := by omega
        obtain ⟨x, hx⟩ : ∃ x, c[t / 3]? = some x := ⟨c[t / 3]'(by omega), List.getElem?_eq_getElem (by omega)⟩
        rw [e, flat_at lenS c (t / 3) (t % 3) x hx (by omega), flat_at lenS (c.take i) (t / 3) (t % 3) x (by rw [List.getElem?_take_of_lt hti]; exact hx) (by omega)]
      · rw [List.getElem?_eq_none (by rw [flat_length lenS, List.length_take]; omega), List.getElem?_eq_none (by rw [List.length_take]; omega)]
    rw [hx, ← e7, List.take_take, Nat.min_eq_left (by omega)]
    apply List.ext_getElem?
    intro t
    by_cases ht : t < i * 3
    · rw [List.getElem?_take_of_lt ht, List.getElem?_take_of_lt ht, Array.getElem?_toList, Array.getElem?_toList, setAt_beside _ _ _ _ (by omega)]
    · rw [List.getElem?_eq_none (by rw [List.length_take]; omega), List.getElem?_eq_none (by rw [List.length_take]; omega)]
theorem filter_next {α : Type} (p : α → Bool) {l : List α} {j : Nat} {x : α} (h : l[j]? = some x) : (l.take (j + 1)).filter p = (l.take j).filter p ++ (if p x then [x] else []) := by
  rw [List.take_add_one, h, List.filter_append]
  congr 1
  simp only [Option.toList_some, List.filter_cons, List.filter_nil]
theorem filter_few {α : Type} (p : α → Bool) (l : List α) (j : Nat) : ((l.take j).filter p).length ≤ j := by
  have h1 := List.length_filter_le p (l.take j)
  rw [List.length_take] at h1
  omega

set_option maxHeartbeats 8000000 in
theorem tk_delete (w : World) (N : Nat) (q : Option Addr) (c : Nat) (l : List Tk) (wp : Nat) (a : Int) (own : w.ownsRow N TT 3 (.slice q l.length c) l.length (flat encS l)) (hl : l.length ≤ 1000000)
    (hb : w.heap[wp]? = some (.cells #[.int .i64 a] AT (0, 0))) (hk : ∀ e ∈ l, TkOk a e) :
    Calls Try.prog 25 #[.slice q l.length c, fvG wp] w fun r w' =>
      (∃ c', r = .returned (.slice q (l.filter (kp a)).length c') ∧ w'.ownsRow N TT 3 (.slice q (l.filter (kp a)).length c') (l.filter (kp a)).length (flat encS (l.filter (kp a)))) ∧ Tch (Value.slice q l.length c).ownBlock.toList w w' := by
  have eg := enters_g
  have hq : ∀ j x, l[j]? = some x → ∃ g : Nat, q = some ⟨g, 0, none⟩ := fun j x hx => by
    obtain ⟨g, e, _⟩ := tks_own own j x hx
    exact ⟨g, e⟩
  have CI := Lib.hid (tk_index w q c l wp a (tks_own own) hl hb hk)
  obtain ⟨n, hn⟩ : ∃ n, n = l.length := ⟨_, rfl⟩
  rw [← hn] at hl own CI ⊢
  have H := Lib.hid (And.intro own (And.intro hb (And.intro hk (And.intro hn hq))))
  clear own hb hk hn hq
  go_enter Try.func25, Try.ntmps25
  go_wp2_with fail
  refine CI.out.mono ?_
  rintro e w1 ⟨⟨i, x, rfl, hx, hkx, hpre⟩ | ⟨rfl, hall⟩, b1⟩
  · obtain ⟨own, hb, hk, hn, hq⟩ := H.out
    obtain ⟨g, rfl⟩ := hq i x hx
    have hin : i < n := by rw [hn]; exact (List.getElem?_eq_some_iff.1 hx).1
    have wpg : wp ≠ g := fun e => own_ne own hb (by decide) (by rw [e]; rfl)
    have Hq : Hid (g < w.heap.size ∧ N ≤ g ∧ wp ≠ g ∧ (l.take (i + 1)).filter (kp a) = l.take i ∧ (l.take i).length = i) := by
      obtain ⟨hg1, hg2⟩ := World.ownsRow.lt own g rfl
      refine ⟨hg2, hg1, wpg, ?_, by rw [List.length_take]; omega⟩
      rw [filter_next (kp a) hx, hkx]
      simp only [Bool.false_eq_true, if_false, List.append_nil]
      rw [List.filter_eq_self]
      intro y hy
      obtain ⟨t, ht⟩ := List.mem_iff_getElem?.1 hy
      have htl := (List.getElem?_eq_some_iff.1 ht).1
      rw [List.length_take] at htl
      rw [List.getElem?_take_of_lt (by omega)] at ht
      exact hpre t y (by omega) ht
    have t0 : ((i : Int) == -1) = false := beq_false_of_ne (by omega)
    have H1 : Hid (Tch [g] w w1 ∧ w1.ownsRow N TT 3 (.slice (some ⟨g, 0, none⟩) n c) n (flat encS l)) :=
      ⟨Tch.ofBelow b1 _, own_block own (fun k e => b1.block k (World.ownsRow.lt own k e).2)⟩
    clear own hb hk hn hq hx hkx hpre b1 wpg CI
    go_wp2_with fail
    go_loopg [5, 6] n (fun gg vi vj wr => ∃ i j : Nat, vi = .int .i64 (i : Int) ∧ vj = .int .i64 (j : Int) ∧ j ≤ n ∧ n - j ≤ gg ∧ i < j ∧ Hid (∃ d : List Tk, d.length = n ∧ i = ((l.take j).filter (kp a)).length ∧ d.take i = (l.take j).filter (kp a) ∧ d.drop j = l.drop j ∧ wr.ownsRow N TT 3 (.slice (some ⟨g, 0, none⟩) n c) n (flat encS d) ∧ Tch [g] w wr))
    case atStart =>
      refine ⟨i, i + 1, rfl, by push_cast; rfl, by omega, by omega, by omega, l, H.out.2.2.2.1.symm, ?_, ?_, rfl, H1.out.2, H1.out.1⟩
      · rw [Hq.out.2.2.2.1, Hq.out.2.2.2.2]
      · rw [Hq.out.2.2.2.1]
    case round =>
      obtain ⟨i, j, rfl, rfl, h1, h2, hij, HR⟩ := hrel
      by_cases hj : j < n
      · obtain ⟨d, hd1, hd2, hd3, hd4, own, C⟩ := HR.out
        obtain ⟨hgl, hNg, hwpg, _⟩ := Hq.out
        obtain ⟨_, hb, hk, hn, _⟩ := H.out
        obtain ⟨x, hx⟩ : ∃ x, l[j]? = some x := ⟨l[j]'(by omega), List.getElem?_eq_getElem (by omega)⟩
        have hxd : d[j]? = some x := by
          have e1 : (d.drop j)[0]? = d[j]? := by rw [List.getElem?_drop, Nat.add_zero]
          have e2 : (l.drop j)[0]? = l[j]? := by rw [List.getElem?_drop, Nat.add_zero]
          rw [← e1, hd4, e2, hx]
        have own' := own
        rw [← hd1] at own'
        obtain ⟨g', hg', _, hc⟩ := tks_own own' j x hxd
        cases hg'
        have wpl : wp < w.heap.size := (Array.getElem?_eq_some_iff.1 hb).1
        have pb : wr.heap[wp]? = some (.cells #[.int .i64 a] AT (0, 0)) := (C.block wp wpl (by simpa using hwpg)).trans hb
        obtain ⟨wa, kd, nm⟩ := x
        have k0 := hc 0 _ rfl
        have k1 := hc 1 _ rfl
        have k2 := hc 2 _ rfl
        rw [Nat.add_zero] at k0
        obtain ⟨E, hE⟩ : ∃ E, E = wr.heap.size := ⟨_, rfl⟩
        obtain ⟨wb, hwb⟩ : ∃ x, x = wr.alloc (.cells #[.int .i64 wa, .int .i64 kd, .int .i64 nm] TT) := ⟨_, rfl⟩
        have Gb : Gr wr wb := hwb ▸ (Gr.refl wr).alloc _
        have e0 : wb.heap[E]? = some (.cells #[.int .i64 wa, .int .i64 kd, .int .i64 nm] TT (0, 0)) := by rw [hwb, hE]; exact heap_alloc_new _ _
        have CO := Lib.hid (gone_any wb wp a ⟨wa, kd, nm⟩ ((Gb.heap (Array.getElem?_eq_some_iff.1 pb).1).trans pb) (hk _ (List.mem_of_getElem? hx)))
        have HW : Hid (wr.alloc (.cells #[.int .i64 wa, .int .i64 kd, .int .i64 nm] TT) = wb ∧ wr.heap.size = E) := ⟨hwb.symm, hE.symm⟩
        have ownb := own_block own (fun k e => Gb.heap (World.ownsRow.lt own k e).2)
        have l0 := cell_of_block e0 0
        have l1 := cell_of_block e0 1
        have l2 := cell_of_block e0 2
        have lg : g < wr.heap.size := (World.ownsRow.lt own g rfl).2
        have HX : Hid (d.length = n ∧ i = ((l.take j).filter (kp a)).length ∧ d.take i = (l.take j).filter (kp a) ∧ d.drop j = l.drop j ∧ wb.ownsRow N TT 3 (.slice (some ⟨g, 0, none⟩) n c) n (flat encS d) ∧ Tch [g] w wb ∧ l[j]? = some ⟨wa, kd, nm⟩ ∧ wb.heap[E]? = some (.cells #[.int .i64 wa, .int .i64 kd, .int .i64 nm] TT (0, 0)) ∧ g < E ∧ w.heap.size ≤ wb.heap.size) :=
          ⟨hd1, hd2, hd3, hd4, ownb, C.trans (Tch.ofBelow Gb.below []) (by simp), hx, e0, by omega, by have := C.size; have := Gb.below.size; omega⟩
        clear hd1 hd2 hd3 hd4 own own' C hb hk hn hx hxd hc pb hE hwb Gb e0 ownb hgl hNg hwpg wpl lg HR
        cases ht : kp a ⟨wa, kd, nm⟩ with
        | true =>
          rw [ht] at CO
          have HT := Lib.hid ht
          clear ht
          go_upto_region 8 with fail
          rw [HW.out.1, HW.out.2]
          go_upto_region 9 with (go_at_fn 26; refine CO.out.mono ?_; rintro e w2 ⟨rfl, g2⟩)
          obtain ⟨hd1, hd2, hd3, hd4, own, C, hx, e0, hgE, hsz⟩ := HX.out
          have own2 := own_block own (fun k e => g2.heap (World.ownsRow.lt own k e).2)
          rw [← hd1] at own2
          obtain ⟨g', c', hv, hNg, hlt, ows, th⟩ := set_own (p := i) lenS own2 (by omega) (⟨wa, kd, nm⟩ : Tk)
          simp only [Value.slice.injEq, Option.some.injEq, Addr.mk.injEq, true_and, and_true] at hv
          obtain ⟨rfl, rfl⟩ := hv
          have e2 : w2.heap[E]? = _ := (g2.heap (Array.getElem?_eq_some_iff.1 e0).1).trans e0
          have m0 := cell_of_block e2 0
          have m1 := cell_of_block e2 1
          have m2 := cell_of_block e2 2
          obtain ⟨w3, hw3⟩ : ∃ x, x = w2.setCells g (i * 3) (encS ⟨wa, kd, nm⟩) := ⟨_, rfl⟩
          have TH := Lib.hid th
          have IN : Hid ((Try.prog.info? TT).map (·.size) = some (#[.int .i64 wa, .int .i64 kd, .int .i64 nm] : Array Value).size) := by show _ = _; kernel_rfl
          have ON : Hid ((#[.int .i64 wa, .int .i64 kd, .int .i64 nm] : Array Value).all (·.oneCell') = true) := by show _ = _; simp [Value.oneCell']
          have HW3 : Hid (w2.setCells g (i * 3) [.int .i64 wa, .int .i64 kd, .int .i64 nm] = w3) := hw3.symm
          have hin : i < n := by omega
          have NX : Hid (∃ d : List Tk, d.length = n ∧ i + 1 = ((l.take (j + 1)).filter (kp a)).length ∧ d.take (i + 1) = (l.take (j + 1)).filter (kp a) ∧ d.drop (j + 1) = l.drop (j + 1) ∧ w3.ownsRow N TT 3 (.slice (some ⟨g, 0, none⟩) n c) n (flat encS d) ∧ Tch [g] w w3) := by
            rw [← hw3, hd1] at ows
            have ef := filter_next (kp a) hx
            rw [HT.out, if_pos rfl] at ef
            refine ⟨d.set i ⟨wa, kd, nm⟩, by rw [List.length_set]; exact hd1, ?_, ?_, ?_, ows, ?_⟩
            · rw [ef, List.length_append, ← hd2]; rfl
            · rw [ef, ← hd3, List.take_add_one, List.getElem?_set_self (by omega), List.take_set_of_le (Nat.le_refl _)]
              rfl
            · rw [List.drop_set_of_lt (by omega)]
              have := congrArg (List.drop 1) hd4
              simpa [List.drop_drop, Nat.add_comm] using this
            · have c2 : Tch [g] w w2 := C.trans (Tch.ofBelow g2.below []) (by simp)
              rw [hw3]
              exact tch_setCells c2 (.inl (by simp)) _ _
          clear hd1 hd2 hd3 hd4 own C hx e0 hgE own2 ows th e2 hw3 hlt hNg HX CO l0 l1 l2 hsz g2
          go_wp2_with (refine wpList_store_mid rfl _ _ _ rfl g (i * 3) #[.int .i64 wa, .int .i64 kd, .int .i64 nm] (by rfl) (by rfl) TH.out IN.out ON.out ?_; rw [HW3.out])
          go_roundg (n - (j + 1))
          case measure => omega
          case rel => exact ⟨i + 1, j + 1, by push_cast; rfl, by push_cast; rfl, by omega, by omega, by omega, NX.out⟩
        | false =>
          rw [ht] at CO
          have HT := Lib.hid ht
          clear ht
          go_upto_region 8 with fail
          rw [HW.out.1, HW.out.2]
          go_wp2_with (go_at_fn 26; refine CO.out.mono ?_; rintro e w2 ⟨rfl, g2⟩)
          have NX : Hid (∃ d : List Tk, d.length = n ∧ i = ((l.take (j + 1)).filter (kp a)).length ∧ d.take i = (l.take (j + 1)).filter (kp a) ∧ d.drop (j + 1) = l.drop (j + 1) ∧ w2.ownsRow N TT 3 (.slice (some ⟨g, 0, none⟩) n c) n (flat encS d) ∧ Tch [g] w w2) := by
            obtain ⟨hd1, hd2, hd3, hd4, own, C, hx, e0, hgE, hsz⟩ := HX.out
            have ef := filter_next (kp a) hx
            rw [HT.out, if_neg (by decide), List.append_nil] at ef
            refine ⟨d, hd1, by rw [ef]; exact hd2, by rw [ef]; exact hd3, ?_, own_block own (fun k e => g2.heap (World.ownsRow.lt own k e).2), C.trans (Tch.ofBelow g2.below []) (by simp)⟩
            have := congrArg (List.drop 1) hd4
            simpa [List.drop_drop, Nat.add_comm] using this
          go_roundg (n - (j + 1))
          case measure => omega
          case rel => exact ⟨i, j + 1, rfl, by push_cast; rfl, by omega, by omega, by omega, NX.out⟩
      · have hjn : j = n := by omega
        subst hjn
        obtain ⟨d, hd1, hd2, hd3, hd4, own, C⟩ := HR.out
        obtain ⟨_, _, _, hn, _⟩ := H.out
        have hlj : (l.take j).filter (kp a) = l.filter (kp a) := by rw [List.take_of_length_le (by omega)]
        rw [hlj] at hd2 hd3
        have hcl : ∀ ty, (Builtin.clear_ #[SlT] ty #[.slice (some ⟨g, i * 3, none⟩) (j - i) (c - i)]).run Try.prog wr = .ok (.tuple #[]) (wr.setCells g (i * 3) (zerE (j - i))) := fun ty => by
          obtain ⟨g', cap', cur, e, e2, e3, e4, e5, e6, e7⟩ : ∃ (g' cap' : Nat) (cur : Array Value), Value.slice (some ⟨g, 0, none⟩) j c = .slice (some ⟨g', 0, none⟩) j cap' ∧ N ≤ g' ∧ wr.heap[g']? = some (.cells cur TT (0, 0)) ∧ j ≤ cap' ∧ cap' ≤ maxLen ∧ cur.size = cap' * 3 ∧ cur.toList.take (j * 3) = flat encS d := by
            rcases own.2 with ⟨e, _⟩ | h
            · cases e
            · exact h
          simp only [Value.slice.injEq, Option.some.injEq, Addr.mk.injEq, true_and, and_true] at e
          obtain ⟨rfl, rfl⟩ := e
          refine run_clear_tk wr ty g (i * 3) (j - i) (c - i) (by omega) (fun t ht => ?_) (fun t ht => unfrozen_of_block e3 _)
          rw [cell_of_block e3, Array.getElem?_eq_getElem (by omega)]
          rfl
        have hjc : j ≤ c := by
          rcases own.2 with ⟨e, _⟩ | ⟨g', cap', cur, e, e2, e3, e4, e5, e6, e7⟩
          · cases e
          · simp only [Value.slice.injEq, true_and] at e
            omega
        obtain ⟨wz, hwz⟩ : ∃ x, x = wr.setCells g (i * 3) (zerE (j - i)) := ⟨_, rfl⟩
        have FIN : Hid (i = (l.filter (kp a)).length ∧ wz.ownsRow N TT 3 (.slice (some ⟨g, 0, none⟩) i c) i (flat encS (l.filter (kp a))) ∧ Tch [g] w wz) := by
          refine ⟨hd2, ?_, ?_⟩
          · rw [hwz, ← hd3]
            exact own_front own hd1 (by omega) (Nat.le_refl _)
          · rw [hwz]
            exact tch_setCells C (.inl (by simp)) _ _
        rw [← hwz] at hcl
        clear hd1 hd2 hd3 hd4 own C hn hlj hwz HR
        go_wp2
        go_ret
        obtain ⟨f1, f2, f3⟩ := FIN.out
        rw [← f1]
        exact ⟨⟨c, rfl, f2⟩, f3⟩
  · have FIN : Hid (l.filter (kp a) = l ∧ w1.ownsRow N TT 3 (.slice q n c) n (flat encS l) ∧ Tch (Value.slice q n c).ownBlock.toList w w1 ∧ n = l.length) := by
      obtain ⟨own, hb, hk, hn, hq⟩ := H.out
      refine ⟨List.filter_eq_self.2 (fun y hy => ?_), own_block own (fun k e => b1.block k (World.ownsRow.lt own k e).2), Tch.ofBelow b1 _, hn⟩
      obtain ⟨t, ht⟩ := List.mem_iff_getElem?.1 hy
      exact hall t y ht
    clear CI hall b1
    go_wp2
    go_ret
    obtain ⟨h1, h2, h3, h4⟩ := FIN.out
    rw [h1]
    exact ⟨⟨c, by rw [← h4]; rfl, by rw [← h4]; exact h2⟩, h3⟩
end Go.Proofs.Ytcejaeeliedldaa.Wn
