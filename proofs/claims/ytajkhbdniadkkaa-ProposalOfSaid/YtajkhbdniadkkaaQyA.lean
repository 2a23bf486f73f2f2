/- Layer 13: samples that came in; a book that they come to. -/
import Derived.Test.YtajkhbdniadkkaaScD
import Derived.Test.YtajkhbdniadkkaaScE
import Derived.Test.YtajkhbdniadkkaaScOp
import Derived.ProofKit
import Derived.OpenShut
import Derived.Deep.Strs
namespace Go.Proofs.Ytajkhbdniadkkaa.Qy
open Go.ChangeShapes Go.WideShapes Go.ChangeAt Go.RowKit Go.Deep Go.Lib Go.Shelf Go.Sort
open Go.Joins (cell_of_block unfrozen_of_block block_setCell)
set_option linter.unusedVariables false
set_option linter.unusedSimpArgs false
set_option maxRecDepth 20000

theorem spot_none {w : World} {a : Addr} {u : Value} (h : w.cell? a = some u) : ∃ b off, a = ⟨b, off, none⟩ ∧ b < w.heap.size := by
  obtain ⟨b, off, s⟩ := a
  unfold World.cell? at h
  split at h
  · rename_i c t f hb
    cases s with
    | none => exact ⟨b, off, rfl, (Array.getElem?_eq_some_iff.1 hb).1⟩
    | some s => simp at h
  · cases h
theorem add_none (b off n : Nat) : (⟨b, off, none⟩ : Addr).add n = ⟨b, off + n, none⟩ := by unfold Addr.add; split <;> simp_all
theorem cells_four {w : World} {a : Addr} {cs : List Value} (h : w.cells? 0 a 4 = some cs) : ∃ u v x y, cs = [u, v, x, y] ∧ w.cell? (a.add 0) = some u ∧ w.cell? (a.add 1) = some v ∧ w.cell? (a.add 2) = some x ∧ w.cell? (a.add 3) = some y := by
  unfold World.cells? at h
  rw [if_pos (Nat.zero_le _)] at h
  simp only [show List.range 4 = [0, 1, 2, 3] from rfl, List.mapM_cons, List.mapM_nil, Option.bind_eq_bind, Option.bind_eq_some_iff, Option.pure_def, Option.some.injEq] at h
  obtain ⟨u, hu, r1, ⟨v, hv, r2, ⟨x, hx, r3, ⟨y, hy, r4, rfl, rfl⟩, rfl⟩, rfl⟩, rfl⟩ := h
  exact ⟨u, v, x, y, rfl, hu, hv, hx, hy⟩
theorem trod_struct3Q {H : Type} {enc : TypeId × Value → H} {P : Program} {w : World} {base : Nat} {spare : Nat → Bool} {held : Bool} {t : TypeId} {f0 f1 f2 : Field} {fuel : Nat} {cs : List Value} {x : DataW H × List MemPlace} (ht : P.underlying t = some (.struct #[f0, f1, f2])) (h : DataW.trod enc P w base spare held fuel t cs = some x) :
    ∃ y0 y1 y2 n, cs.length = P.cellsOf t ∧ DataW.trod enc P w base spare held n f0.type ((cs.drop f0.offset).take (P.cellsOf f0.type)) = some y0 ∧ DataW.trod enc P w base spare held n f1.type ((cs.drop f1.offset).take (P.cellsOf f1.type)) = some y1 ∧
      DataW.trod enc P w base spare held n f2.type ((cs.drop f2.offset).take (P.cellsOf f2.type)) = some y2 := by
  obtain ⟨xs, n, _, rfl, hl, hlen, hf⟩ := DataW.trod_struct ht h
  match xs, hlen with
  | [y0, y1, y2], _ => exact ⟨y0, y1, y2, n, hl, by simpa using hf 0 f0 rfl, by simpa using hf 1 f1 rfl, by simpa using hf 2 f2 rfl⟩
theorem wf_u64 {n : Int} (h : (Lit.int .u64 n).wf = true) : 0 ≤ n ∧ n < 18446744073709551616 := by
  have e1 : IntKind.u64.min = 0 := rfl
  have e2 : IntKind.u64.max = 18446744073709551615 := rfl
  simp [Lit.wf, e1, e2] at h
  omega
theorem wf_i64 {n : Int} (h : (Lit.int .i64 n).wf = true) : -9223372036854775808 ≤ n ∧ n ≤ 9223372036854775807 := by
  have e1 : IntKind.i64.min = -9223372036854775808 := rfl
  have e2 : IntKind.i64.max = 9223372036854775807 := rfl
  simp [Lit.wf, e1, e2] at h
  omega

abbrev SpT : TypeId := 66
/-- A sample of a series. -/
structure Sp where
  at_ : Int
  s : Sr
  bits : Nat
instance : Inhabited Sp := ⟨⟨0, (⟨#[]⟩, ⟨#[]⟩), 0⟩⟩
def OkP (x : Sp) : Prop := OkS x.s ∧ x.bits < 18446744073709551616
/-- A row of samples that came in. -/
def Sps (W : World) (q : Option Addr) (l : List Sp) : Prop := ∀ i x, l[i]? = some x → OkP x ∧ ∃ b off : Nat, q = some ⟨b, off, none⟩ ∧ b < W.heap.size ∧ W.cell? ⟨b, off + i * 4, none⟩ = some (.int .i64 x.at_) ∧ W.cell? ⟨b, off + i * 4 + 1, none⟩ = some (.string x.s.1) ∧ W.cell? ⟨b, off + i * 4 + 2, none⟩ = some (.string x.s.2) ∧ W.cell? ⟨b, off + i * 4 + 3, none⟩ = some (.int .u64 (x.bits : Int))
theorem open_sps {H : Type} {enc : TypeId × Value → H} {W : World} {base : Nat} {v : Value} {d : DataW H} {p : List MemPlace} (o : Value.okWide Try.prog W .any base 32 v)
    (h : DataW.Trod enc Try.prog W 0 (fun _ => true) true 32 v d p) : ∃ q c l, v = .slice q l.length c ∧ Sps W q l := by
  obtain ⟨a0, len, cap, rfl⟩ := okWide_slice Try.underlying32 o
  obtain ⟨fuel, hf⟩ := h
  have c4 : Try.prog.cellsOf SpT = 4 := by kernel_rfl
  have cj : Try.prog.cellsOf 2 = 1 := by kernel_rfl
  have cu : Try.prog.cellsOf 61 = 1 := by kernel_rfl
  have cs1 : Try.prog.cellsOf 9 = 1 := by kernel_rfl
  have cs2 : Try.prog.cellsOf 43 = 2 := by kernel_rfl
  rcases open_slice Try.underlying32 hf with ⟨hcs, hx⟩ | ⟨a, len', cap', m, n, D, Pl, hcs, _, hl, hm, hmm, hx, hcell⟩
  · simp [Value.cells] at hcs
    obtain ⟨rfl, rfl, rfl⟩ := hcs
    exact ⟨none, 0, [], rfl, fun i x h => by simp at h⟩
  · simp [Value.cells] at hcs
    obtain ⟨rfl, rfl, rfl⟩ := hcs
    simp only [if_true] at hmm
    have each : ∀ i, i < len → ∃ x : Sp, OkP x ∧ ∃ b off, a = ⟨b, off, none⟩ ∧ b < W.heap.size ∧ W.cell? ⟨b, off + i * 4, none⟩ = some (.int .i64 x.at_) ∧ W.cell? ⟨b, off + i * 4 + 1, none⟩ = some (.string x.s.1) ∧ W.cell? ⟨b, off + i * 4 + 2, none⟩ = some (.string x.s.2) ∧ W.cell? ⟨b, off + i * 4 + 3, none⟩ = some (.int .u64 (x.bits : Int)) := by
      intro i hi
      obtain ⟨cs, h1, h2⟩ := hcell i (by omega)
      rw [c4] at h1
      obtain ⟨u, v, x, y, rfl, hu, hv, hx, hy⟩ := cells_four h1
      have h0 : ∃ u0, W.cell? (a.add 0) = some u0 := by
        obtain ⟨cs, h1, _⟩ := hcell 0 (by omega)
        rw [c4] at h1
        obtain ⟨u0, v0, x0, _, _, hu0, _⟩ := cells_four h1
        exact ⟨u0, by simpa [Addr.add] using hu0⟩
      obtain ⟨u0, hu0⟩ := h0
      obtain ⟨b, off, ha, hb⟩ := spot_none (by simpa [Addr.add] using hu0)
      subst ha
      obtain ⟨y1, y2, y3, k, _, t1, t2, t3⟩ := trod_struct3Q Try.underlying66 h2
      obtain ⟨z1, e1, _, _⟩ := DataW.trod_int Try.underlying2 t1
      obtain ⟨z3, e3, _, w3⟩ := DataW.trod_int Try.underlying61 t3
      obtain ⟨y4, y5, k2, _, _, t4, t5⟩ := trod_struct2 Try.underlying43 t2
      obtain ⟨s1, e4, _, l4⟩ := DataW.trod_string Try.underlying9 t4
      obtain ⟨s2, e5, _, l5⟩ := DataW.trod_string Try.underlying9 t5
      simp [cj, cu, cs1, cs2] at e1 e3 e4 e5
      subst e1 e3 e4 e5
      have hw3 := wf_u64 w3
      rw [add_none, add_none] at hu hv hx hy
      refine ⟨⟨z1, (s1, s2), z3.toNat⟩, ⟨⟨l4, l5⟩, by show z3.toNat < _; omega⟩, b, off, rfl, hb, hu, hv, hx, ?_⟩
      have e : ((z3.toNat : Nat) : Int) = z3 := by omega
      show _ = some (Value.int .u64 ((z3.toNat : Nat) : Int))
      rw [e]
      exact hy
    obtain ⟨f, hf⟩ := choose_lt each
    refine ⟨some a, cap, (List.range len).map f, by simp, ?_⟩
    intro j x hj
    rw [List.getElem?_map, Option.map_eq_some_iff] at hj
    obtain ⟨i, hi, rfl⟩ := hj
    obtain ⟨hlt, rfl⟩ := List.getElem?_eq_some_iff.1 hi
    rw [List.getElem_range] at *
    obtain ⟨hok, b, off, e, r⟩ := hf j (by simpa using hlt)
    exact ⟨hok, b, off, by rw [e], r⟩

theorem rd_le {x : Nat} (hx : x < 18446744073709551616) (h : rdE x = 0) : rdV x ≤ 9007199254740992 := by
  unfold rdV
  rw [if_pos h]
  unfold rdE at h
  by_cases h1 : 9218868437227405312 < x % 9223372036854775808
  · rw [if_pos h1] at h; omega
  · rw [if_neg h1] at h
    by_cases h2 : x = 9223372036854775808
    · subst h2
      decide +kernel
    · rw [if_neg h2] at h
      by_cases h3 : 4805340802404319232 ≤ x
      · rw [if_pos h3] at h; omega
      · rw [if_neg h3] at h
        by_cases h4 : 9007199254740992 < mil x
        · rw [if_pos h4] at h; omega
        · rw [Nat.mod_eq_of_lt (by omega)]
          omega

/-- A book under way: of at most k series; all its values are quantities. -/
structure Sk (N : Nat) (W w : World) (bb mb n a k : Nat) (E : List En) : Prop where
  bk : Bk w bb mb n a E
  low : Below N W w
  fl : ∀ g ∈ foot bb mb E, N ≤ g
  rt : ∀ e ∈ E, ∀ x ∈ e.l, 0 ≤ x.2 ∧ x.2 ≤ 9007199254740992
  few : E.length ≤ k
section
variable {N : Nat} {W w w' : World} {bb mb n a k : Nat} {E E' : List En}
theorem Sk.hN (h : Sk N W w bb mb n a k E) : N ≤ w.heap.size := by
  have h1 : bb ∈ foot bb mb E := foot_mem.2 (.inl rfl)
  have := h.fl bb h1
  have := h.bk.lt bb h1
  omega
theorem Sk.gr (h : Sk N W w bb mb n a k E) (b : Below w.heap.size w w') : Sk N W w' bb mb n a k E := ⟨h.bk.gr b, h.low.trans (b.mono h.hN), h.fl, h.rt, h.few⟩
theorem Sk.less {j : Nat} (h : Sk N W w bb mb n a k E) (hj : k ≤ j) : Sk N W w bb mb n a j E := ⟨h.bk, h.low, h.fl, h.rt, Nat.le_trans h.few hj⟩
end
/-- One more sample that comes. -/
theorem scr_any {N : Nat} {W w : World} {bb mb n a k : Nat} {E : List En} (h : Sk N W w bb mb n a k E) (hk : k ≤ 100) (at_ : Int) (s : Sr) (hs : OkS s) (x : Nat) (hb : x < 18446744073709551616) :
    ∃ V Er : Int, Calls Try.prog 29 #[.pointer (some ⟨bb, 0, none⟩), .int .i64 at_, ser s, .int .u64 (x : Int)] w fun r w1 => r = .returned (.tuple #[.int .i64 V, .int .i64 Er]) ∧ ∃ E', Sk N W w1 bb mb n a (k + 1) E' := by
  have hNw := h.hN
  have hE := h.few
  have done : ∀ {w1 : World}, Below w.heap.size w w1 → ∃ E', Sk N W w1 bb mb n a (k + 1) E' := fun b => ⟨E, (h.gr b).less (Nat.le_succ _)⟩
  by_cases h0 : at_ < 0 ∨ 4611686018427387904 < at_
  · refine ⟨0, 1, (scr_arg w bb at_ s _ h0).mono ?_⟩
    rintro r w1 ⟨rfl, b1⟩
    exact ⟨rfl, done b1⟩
  · have h0 : 0 ≤ at_ ∧ at_ ≤ 4611686018427387904 := by omega
    cases hnm : (nameB s.1 && nameB s.2) with
    | false =>
      refine ⟨0, 6, (scr_name w bb at_ s _ h0 hs hnm).mono ?_⟩
      rintro r w1 ⟨rfl, b1⟩
      exact ⟨rfl, done b1⟩
    | true =>
      by_cases hr : rdE x = 0
      · have hv := rd_le hb hr
        rcases has_or E s with ⟨e, he, hes⟩ | hno
        · obtain ⟨E1, E2, rfl⟩ := List.mem_iff_append.1 he
          have hsm := (h.bk.each e he).2
          rcases List.eq_nil_or_concat e.l with hnil | ⟨l1, z, hl⟩
          · exact absurd hnil hsm.some
          · rw [List.concat_eq_append] at hl
            by_cases hst : at_ ≤ z.1
            · have C := scr_goes w bb at_ s x h0 hs hnm hb hr 13 (fun V w' => Below V.heap.size V w') (fun V bV => by rw [← hes]; exact bput_stale V bb mb n a _ (h.bk.gr bV) e he l1 z hl at_ _ h0.1 hst)
              refine ⟨0, 13, C.mono ?_⟩
              rintro r w1 ⟨rfl, V, bV, b1⟩
              exact ⟨rfl, done (bV.trans (b1.mono bV.size))⟩
            · have hlt : ∀ y, e.l.getLast? = some y → y.1 < at_ := fun y hy => by rw [hl] at hy; simp at hy; rw [← hy]; omega
              have C := scr_goes w bb at_ s x h0 hs hnm hb hr 0 (fun V w' => Bk w' bb mb n a (E1 ++ { e with l := keepQ n e.l ++ [(at_, (rdV x : Int))] } :: E2) ∧ Tch [e.rb, e.gb] V w') (fun V bV => by rw [← hes]; exact bput_more V bb mb n a E1 E2 e (h.bk.gr bV) at_ _ h0 hlt)
              refine ⟨(rdV x : Int), 0, C.mono ?_⟩
              rintro r w1 ⟨rfl, V, bV, K, t⟩
              have hef : ∀ g ∈ [e.rb, e.gb], g ∈ foot bb mb (E1 ++ e :: E2) := fun g hg => foot_mem.2 (.inr (.inr ⟨e, he, by simpa using hg⟩))
              have t1 : Tch [e.rb, e.gb] w w1 := (Tch.ofBelow bV _).trans t (fun g hg => .inl hg)
              refine ⟨rfl, _, K, h.low.trans (t1.below (fun g hg => h.fl g (hef g hg)) hNw), fun g hg => ?_, fun y hy z hz => ?_, by simp at hE ⊢; omega⟩
              · have : g ∈ foot bb mb (E1 ++ e :: E2) := by simpa [foot] using hg
                exact h.fl g this
              · rcases List.mem_append.1 hy with hy | hy
                · exact h.rt y (List.mem_append_left _ hy) z hz
                · rcases List.mem_cons.1 hy with rfl | hy
                  · rcases List.mem_append.1 hz with hz | hz
                    · exact h.rt e he z (mem_keep hz)
                    · rw [List.mem_singleton] at hz
                      subst hz
                      exact ⟨Int.natCast_nonneg _, by show ((rdV x : Nat) : Int) ≤ _; omega⟩
                  · exact h.rt y (List.mem_append_right _ (List.mem_cons_of_mem _ hy)) z hz
        · have C := scr_goes w bb at_ s x h0 hs hnm hb hr 0 (fun V w' => ∃ rb gb, V.heap.size ≤ rb ∧ V.heap.size ≤ gb ∧ Bk w' bb mb n a (E ++ [⟨s, rb, gb, [(at_, (rdV x : Int))]⟩]) ∧ Tch [mb] V w') (fun V bV => bput_new V bb mb n a E (h.bk.gr bV) s hs hno (by omega) at_ _ h0)
          refine ⟨(rdV x : Int), 0, C.mono ?_⟩
          rintro r w1 ⟨rfl, V, bV, rb', gb', hrb, hgb, K, t⟩
          have t1 : Tch [mb] w w1 := (Tch.ofBelow bV _).trans t (fun g hg => .inl hg)
          have hzV := bV.size
          refine ⟨rfl, _, K, h.low.trans (t1.below (fun g hg => h.fl g (foot_mem.2 (.inr (.inl (by simpa using hg))))) hNw), fun g hg => ?_, fun y hy z hz => ?_, by simp; omega⟩
          · rcases foot_mem.1 hg with h2 | h2 | ⟨e, he, h2⟩
            · exact h.fl g (foot_mem.2 (.inl h2))
            · exact h.fl g (foot_mem.2 (.inr (.inl h2)))
            · rcases List.mem_append.1 he with he | he
              · exact h.fl g (foot_mem.2 (.inr (.inr ⟨e, he, h2⟩)))
              · rw [List.mem_singleton] at he
                subst he
                simp only at h2
                rcases h2 with rfl | rfl <;> omega
          · rcases List.mem_append.1 hy with hy | hy
            · exact h.rt y hy z hz
            · rw [List.mem_singleton] at hy
              subst hy
              rw [List.mem_singleton] at hz
              subst hz
              exact ⟨Int.natCast_nonneg _, by show ((rdV x : Nat) : Int) ≤ _; omega⟩
      · refine ⟨0, (rdE x : Int), (scr_read w bb at_ s x h0 hs hnm hb hr).mono ?_⟩
        rintro r w1 ⟨rfl, b1⟩
        exact ⟨rfl, done b1⟩
end Go.Proofs.Ytajkhbdniadkkaa.Qy
