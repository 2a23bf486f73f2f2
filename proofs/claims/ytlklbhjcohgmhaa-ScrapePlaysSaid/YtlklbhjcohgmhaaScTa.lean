/- A book and the law's model, side by side. -/
import Derived.Test.YtlklbhjcohgmhaaScZ
import Derived.Test.YtlklbhjcohgmhaaScOq
import Derived.Test.YtlklbhjcohgmhaaScS
namespace Go.Proofs.Ytlklbhjcohgmhaa
open Go.RowKit Go.Lib Go.Shelf Go.Sort
open Go.Joins (cell_of_block unfrozen_of_block block_setCell)
set_option linter.unusedVariables false
set_option linter.unusedSimpArgs false
set_option maxRecDepth 20000

abbrev TRul : TypeId := 23
structure Sit (N : Nat) (W w : World) (rb bb mb bx n a : Nat) (E : List En) (q : Option Addr) (c : Nat) (M : List Me) : Prop where
  bk : Bk w bb mb n a E
  md : Mod N w bx q c M
  low : Below N W w
  fl : ∀ g ∈ foot bb mb E, N ≤ g
  off : ∀ g ∈ foot bb mb E, g ∉ mfoot bx q M
  rul : w.heap[rb]? = some (.cells #[.int .i64 (n : Int), .int .i64 (a : Int)] TRul (0, 0))
  roff : rb ∉ foot bb mb E ∧ rb ∉ mfoot bx q M
section
variable {N : Nat} {W w w' : World} {rb bb mb bx n a : Nat} {E E' : List En} {q q' : Option Addr} {c c' : Nat} {M M' : List Me}
theorem Sit.hN (h : Sit N W w rb bb mb bx n a E q c M) : N ≤ w.heap.size := by
  have := h.md.lt bx (mfoot_mem.2 (.inl rfl))
  omega
theorem Sit.gr (h : Sit N W w rb bb mb bx n a E q c M) (b : Below w.heap.size w w') : Sit N W w' rb bb mb bx n a E q c M :=
  ⟨h.bk.gr b, h.md.gr b, h.low.trans (b.mono h.hN), h.fl, h.off, (b.block rb (Array.getElem?_eq_some_iff.1 h.rul).1).trans h.rul, h.roff⟩
theorem Sit.book {S : List Nat} (h : Sit N W w rb bb mb bx n a E q c M) (K : Bk w' bb mb n a E') (t : Tch S w w') (hS : ∀ g ∈ S, g ∈ foot bb mb E) (hf : ∀ g ∈ foot bb mb E', g ∈ foot bb mb E ∨ w.heap.size ≤ g) : Sit N W w' rb bb mb bx n a E' q c M := by
  have hNw := h.hN
  refine ⟨K, h.md.tch t (fun g hg hm => h.off g (hS g hm) hg), h.low.trans (t.below (fun g hg => h.fl g (hS g hg)) hNw), fun g hg => ?_, fun g hg hm => ?_, (t.block rb (Array.getElem?_eq_some_iff.1 h.rul).1 (fun hm => h.roff.1 (hS rb hm))).trans h.rul, ⟨fun hm => ?_, h.roff.2⟩⟩
  · rcases hf g hg with h1 | h1
    · exact h.fl g h1
    · omega
  · rcases hf g hg with h1 | h1
    · exact h.off g h1 hm
    · have := (h.md.lt g hm).2
      omega
  · rcases hf rb hm with h1 | h1
    · exact h.roff.1 h1
    · have := (Array.getElem?_eq_some_iff.1 h.rul).1
      omega
theorem Sit.model {S : List Nat} (h : Sit N W w rb bb mb bx n a E q c M) (K : Mod N w' bx q' c' M') (t : Tch S w w') (hS : ∀ g ∈ S, g ∈ mfoot bx q M) (hf : ∀ g ∈ mfoot bx q' M', g ∈ mfoot bx q M ∨ w.heap.size ≤ g) : Sit N W w' rb bb mb bx n a E q' c' M' := by
  have hNw := h.hN
  refine ⟨h.bk.tch t (fun g hg hm => h.off g hg (hS g hm)), K, h.low.trans (t.below (fun g hg => (h.md.lt g (hS g hg)).1) hNw), h.fl, fun g hg hm => ?_, (t.block rb (Array.getElem?_eq_some_iff.1 h.rul).1 (fun hm => h.roff.2 (hS rb hm))).trans h.rul, ⟨h.roff.1, fun hm => ?_⟩⟩
  · rcases hf g hm with h1 | h1
    · exact h.off g hg h1
    · have := h.bk.lt g hg
      omega
  · rcases hf rb hm with h1 | h1
    · exact h.roff.2 h1
    · have := (Array.getElem?_eq_some_iff.1 h.rul).1
      omega
end
theorem al_split {E1 E2 : List En} {e : En} {M : List Me} (al : (E1 ++ e :: E2).map slE = M.map slM) : ∃ A y B, M = A ++ y :: B ∧ y.s = e.s ∧ y.l = e.l ∧ A.map slM = E1.map slE ∧ B.map slM = E2.map slE := by
  rw [List.map_append, List.map_cons] at al
  obtain ⟨A, R, rfl, h1, h2⟩ := List.map_eq_append_iff.1 al.symm
  obtain ⟨y, B, rfl, h3, h4⟩ := List.map_eq_cons_iff.1 h2
  rw [Prod.mk.injEq] at h3
  exact ⟨A, y, B, rfl, h3.1, h3.2, h1, h4⟩
/-- What the two calls of a round come to. -/
def Both (N : Nat) (W : World) (rb bb mb bx n a : Nat) (V Er : Int) (k : Nat) (P : Nat) (o : Obj) (r : Ending) (w2 : World) : Prop :=
  r = .returned (.tuple #[.int .i64 V, .int .i64 Er]) ∧ ∃ E' q' c' M', Sit N W w2 rb bb mb bx n a E' q' c' M' ∧ E'.map slE = M'.map slM ∧ E'.length ≤ k + 1 ∧ w2.heap[P]? = some o
theorem pair {N : Nat} {W w : World} {rb bb mb bx n a : Nat} {E : List En} {q : Option Addr} {c : Nat} {M : List Me} (h : Sit N W w rb bb mb bx n a E q c M) (al : E.map slE = M.map slM) (hE : E.length ≤ 100) (x : Ac) (hx : OkA x) (P : Nat) (o : Obj) (hP : w.heap[P]? = some o) (hPf : P ∉ foot bb mb E) (hPm : P ∉ mfoot bx q M) :
    ∃ V Er : Int, Calls Try.prog 8 #[.pointer (some ⟨bb, 0, none⟩), .int .i64 x.at_, ser x.s, .int .u64 (x.bits : Int)] w fun r w1 => r = .returned (.tuple #[.int .i64 V, .int .i64 Er]) ∧ w1.heap[P]? = some o ∧ w1.heap[rb]? = w.heap[rb]? ∧
      Calls Try.prog 9 #[.pointer (some ⟨bx, 0, none⟩), .int .i64 (n : Int), .agg (acC x)] w1 fun r w2 => Both N W rb bb mb bx n a V Er E.length P o r w2 := by
  obtain ⟨hk, hb⟩ := hx
  have hPl := (Array.getElem?_eq_some_iff.1 hP).1
  have hrl := (Array.getElem?_eq_some_iff.1 h.rul).1
  have hNw := h.hN
  have hM : M.length ≤ 100 := by have := congrArg List.length al; simp at this; omega
  have keep : ∀ w1, Below w.heap.size w w1 → w1.heap[P]? = some o ∧ w1.heap[rb]? = w.heap[rb]? := fun w1 b => ⟨(b.block P hPl).trans hP, b.block rb hrl⟩
  have done : ∀ {V Er : Int} {w1 w2 : World}, Below w.heap.size w w1 → Below w1.heap.size w1 w2 → Both N W rb bb mb bx n a V Er E.length P o (.returned (.tuple #[.int .i64 V, .int .i64 Er])) w2 := fun {V Er w1 w2} b1 b2 => by
    have b : Below w.heap.size w w2 := b1.trans (b2.mono b1.size)
    exact ⟨rfl, E, q, c, M, h.gr b, al, by omega, (b.block P hPl).trans hP⟩
  by_cases h0 : x.at_ < 0 ∨ 4611686018427387904 < x.at_
  · refine ⟨0, 1, (scr_arg w bb x.at_ x.s _ h0).mono ?_⟩
    rintro r w1 ⟨rfl, b1⟩
    refine ⟨rfl, (keep w1 b1).1, (keep w1 b1).2, (rscr_arg w1 bx n x h0).mono ?_⟩
    rintro r w2 ⟨rfl, b2⟩
    exact done b1 b2
  · have h0 : 0 ≤ x.at_ ∧ x.at_ ≤ 4611686018427387904 := by omega
    cases hnm : (nameB x.s.1 && nameB x.s.2) with
    | false =>
      refine ⟨0, 6, (scr_name w bb x.at_ x.s _ h0 hk hnm).mono ?_⟩
      rintro r w1 ⟨rfl, b1⟩
      refine ⟨rfl, (keep w1 b1).1, (keep w1 b1).2, (rscr_name w1 bx n x h0 hk hnm).mono ?_⟩
      rintro r w2 ⟨rfl, b2⟩
      exact done b1 b2
    | true =>
      by_cases hr : rdE x.bits = 0
      · rcases has_or E x.s with ⟨e, he, hes⟩ | hno
        · obtain ⟨E1, E2, rfl⟩ := List.mem_iff_append.1 he
          obtain ⟨A, y, B, hMe, hys, hyl, hA, hBm⟩ := al_split al
          have hap := h.bk.apart
          have hw : Where M x.s e.l (E1.map slE) (E2.map slE) := .inl ⟨A, y, B, hMe, by rw [hys, hes], hyl, hA, hBm, fun z hz hzs => by
            have : slM z ∈ E1.map slE := by rw [← hA]; exact List.mem_map.2 ⟨z, hz, rfl⟩
            obtain ⟨e1, he1, h1⟩ := List.mem_map.1 this
            rw [Prod.mk.injEq] at h1
            unfold ApartS at hap
            rw [List.pairwise_append] at hap
            exact hap.2.2 e1 he1 e List.mem_cons_self (by rw [h1.1, hzs, hes])⟩
          have hfew := (h.bk.each e he).1.few
          have hsm := (h.bk.each e he).2
          rcases List.eq_nil_or_concat e.l with hnil | ⟨l1, z, hl⟩
          · exact absurd hnil hsm.some
          · rw [List.concat_eq_append] at hl
            by_cases hst : x.at_ ≤ z.1
            · have C := scr_goes w bb x.at_ x.s x.bits h0 hk hnm hb hr 13 (fun V w' => Below V.heap.size V w') (fun V bV => by rw [← hes]; exact bput_stale V bb mb n a _ (h.bk.gr bV) e he l1 z hl x.at_ _ h0.1 hst)
              refine ⟨0, 13, C.mono ?_⟩
              rintro r w1 ⟨rfl, V, bV, b1⟩
              have b : Below w.heap.size w w1 := bV.trans (b1.mono bV.size)
              refine ⟨rfl, (keep w1 b).1, (keep w1 b).2, (rscr_main N w1 bx q c M (h.md.gr b) (by have := b.size; omega) n h.bk.hn x h0 hk hnm hb hr (by omega) e.l hfew.1 _ _ hw).mono ?_⟩
              rintro r w2 (⟨rfl, _, b2⟩ | ⟨_, hlt, _⟩)
              · exact done b b2
              · have := hlt z (by rw [hl]; simp)
                omega
            · have hlt : ∀ y, e.l.getLast? = some y → y.1 < x.at_ := fun y hy => by rw [hl] at hy; simp at hy; rw [← hy]; omega
              have C := scr_goes w bb x.at_ x.s x.bits h0 hk hnm hb hr 0 (fun V w' => Bk w' bb mb n a (E1 ++ { e with l := keepQ n e.l ++ [(x.at_, (rdV x.bits : Int))] } :: E2) ∧ Tch [e.rb, e.gb] V w') (fun V bV => by rw [← hes]; exact bput_more V bb mb n a E1 E2 e (h.bk.gr bV) x.at_ _ h0 hlt)
              refine ⟨(rdV x.bits : Int), 0, C.mono ?_⟩
              rintro r w1 ⟨rfl, V, bV, K, t⟩
              have hef : ∀ g ∈ [e.rb, e.gb], g ∈ foot bb mb (E1 ++ e :: E2) := fun g hg => foot_mem.2 (.inr (.inr ⟨e, he, by simpa using hg⟩))
              have t1 : Tch [e.rb, e.gb] w w1 := (Tch.ofBelow bV _).trans t (fun g hg => .inl hg)
              have h1 := h.book K t1 hef (fun g hg => by
                have : g ∈ foot bb mb (E1 ++ e :: E2) := by simpa [foot] using hg
                exact .inl this)
              have hP1 : w1.heap[P]? = some o := (t1.block P hPl (fun hm => hPf (hef P hm))).trans hP
              refine ⟨rfl, hP1, t1.block rb hrl (fun hm => h.roff.1 (hef rb hm)), (rscr_main N w1 bx q c M h1.md h1.hN n h.bk.hn x h0 hk hnm hb hr (by omega) e.l hfew.1 _ _ hw).mono ?_⟩
              rintro r w2 (⟨_, ⟨y', hy', hle⟩, _⟩ | ⟨rfl, _, q', c', M', mod, hmap, ⟨S, tS, hS⟩, hf⟩)
              · have := hlt y' hy'
                omega
              · refine ⟨rfl, _, q', c', M', h1.model mod tS hS hf, ?_, by simp, (tS.block P (Array.getElem?_eq_some_iff.1 hP1).1 (fun hm => hPm (hS P hm))).trans hP1⟩
                rw [hmap, List.map_append, List.map_cons]
                simp only [slE, hes]
        · obtain ⟨hMno, hMnil⟩ : (∀ z ∈ M, z.s ≠ x.s) ∧ True := ⟨fun z hz hzs => by
            have : slM z ∈ E.map slE := by rw [al]; exact List.mem_map.2 ⟨z, hz, rfl⟩
            obtain ⟨e, he, h1⟩ := List.mem_map.1 this
            rw [Prod.mk.injEq] at h1
            exact hno e he (by rw [h1.1, hzs]), trivial⟩
          have hw : Where M x.s [] (M.map slM) [] := .inr ⟨hMno, rfl, rfl, rfl⟩
          have C := scr_goes w bb x.at_ x.s x.bits h0 hk hnm hb hr 0 (fun V w' => ∃ rb gb, V.heap.size ≤ rb ∧ V.heap.size ≤ gb ∧ Bk w' bb mb n a (E ++ [⟨x.s, rb, gb, [(x.at_, (rdV x.bits : Int))]⟩]) ∧ Tch [mb] V w') (fun V bV => bput_new V bb mb n a E (h.bk.gr bV) x.s hk hno (by omega) x.at_ _ h0)
          refine ⟨(rdV x.bits : Int), 0, C.mono ?_⟩
          rintro r w1 ⟨rfl, V, bV, rb', gb', hrb, hgb, K, t⟩
          have hef : ∀ g ∈ [mb], g ∈ foot bb mb E := fun g hg => foot_mem.2 (.inr (.inl (by simpa using hg)))
          have t1 : Tch [mb] w w1 := (Tch.ofBelow bV _).trans t (fun g hg => .inl hg)
          have hzV := bV.size
          have h1 := h.book K t1 hef (fun g hg => by
            rcases foot_mem.1 hg with h2 | h2 | ⟨e, he, h2⟩
            · exact .inl (foot_mem.2 (.inl h2))
            · exact .inl (foot_mem.2 (.inr (.inl h2)))
            · rcases List.mem_append.1 he with he | he
              · exact .inl (foot_mem.2 (.inr (.inr ⟨e, he, h2⟩)))
              · rw [List.mem_singleton] at he
                subst he
                simp only at h2
                exact .inr (by rcases h2 with rfl | rfl <;> omega))
          have hP1 : w1.heap[P]? = some o := (t1.block P hPl (fun hm => hPf (hef P hm))).trans hP
          refine ⟨rfl, hP1, t1.block rb hrl (fun hm => h.roff.1 (hef rb hm)), (rscr_main N w1 bx q c M h1.md h1.hN n h.bk.hn x h0 hk hnm hb hr (by omega) [] (by simp) _ _ hw).mono ?_⟩
          rintro r w2 (⟨_, ⟨y', hy', hle⟩, _⟩ | ⟨rfl, _, q', c', M', mod, hmap, ⟨S, tS, hS⟩, hf⟩)
          · cases hy'
          · refine ⟨rfl, _, q', c', M', h1.model mod tS hS hf, ?_, by simp, (tS.block P (Array.getElem?_eq_some_iff.1 hP1).1 (fun hm => hPm (hS P hm))).trans hP1⟩
            rw [hmap, List.map_append, al]
            simp [slE, keepQ]
      · refine ⟨0, (rdE x.bits : Int), (scr_read w bb x.at_ x.s x.bits h0 hk hnm hb hr).mono ?_⟩
        rintro r w1 ⟨rfl, b1⟩
        refine ⟨rfl, (keep w1 b1).1, (keep w1 b1).2, (rscr_read w1 bx n x h0 hk hnm hb hr).mono ?_⟩
        rintro r w2 ⟨rfl, b2⟩
        exact done b1 b2
end Go.Proofs.Ytlklbhjcohgmhaa
