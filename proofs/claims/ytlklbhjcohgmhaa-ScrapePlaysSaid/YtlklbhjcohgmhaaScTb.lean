/- A copy goes on by itself; series of a subject go. -/
import Derived.Test.YtlklbhjcohgmhaaScTa
namespace Go.Proofs.Ytlklbhjcohgmhaa
open Go.RowKit Go.Lib Go.Shelf Go.Sort
open Go.Joins (cell_of_block unfrozen_of_block block_setCell)
set_option linter.unusedVariables false
set_option linter.unusedSimpArgs false
set_option maxRecDepth 20000

/-- Whatever comes of a sample: of what was there the book's blocks alone were touched. -/
theorem scr_some (w : World) (bb mb n a : Nat) (E : List En) (h : Bk w bb mb n a E) (hE : E.length ≤ 500) (at_ : Int) (s : Sr) (bits : Nat) (hk : OkS s) (hb : bits < 18446744073709551616) :
    ∃ V Er : Int, Calls Try.prog 8 #[.pointer (some ⟨bb, 0, none⟩), .int .i64 at_, ser s, .int .u64 (bits : Int)] w fun r w' => r = .returned (.tuple #[.int .i64 V, .int .i64 Er]) ∧ ∃ E', Bk w' bb mb n a E' ∧ (∃ S, Tch S w w' ∧ ∀ g ∈ S, g ∈ foot bb mb E) ∧ ∀ g ∈ foot bb mb E', g ∈ foot bb mb E ∨ w.heap.size ≤ g := by
  have same : ∀ w', Below w.heap.size w w' → ∃ E', Bk w' bb mb n a E' ∧ (∃ S, Tch S w w' ∧ ∀ g ∈ S, g ∈ foot bb mb E) ∧ ∀ g ∈ foot bb mb E', g ∈ foot bb mb E ∨ w.heap.size ≤ g :=
    fun w' b => ⟨E, h.gr b, ⟨[], Tch.ofBelow b [], by simp⟩, fun g hg => .inl hg⟩
  by_cases h0 : at_ < 0 ∨ 4611686018427387904 < at_
  · exact ⟨0, 1, (scr_arg w bb at_ s _ h0).mono fun r w1 q => ⟨q.1, same w1 q.2⟩⟩
  · have h0 : 0 ≤ at_ ∧ at_ ≤ 4611686018427387904 := by omega
    cases hnm : (nameB s.1 && nameB s.2) with
    | false => exact ⟨0, 6, (scr_name w bb at_ s _ h0 hk hnm).mono fun r w1 q => ⟨q.1, same w1 q.2⟩⟩
    | true =>
      by_cases hr : rdE bits = 0
      · rcases has_or E s with ⟨e, he, hes⟩ | hno
        · have hsm := (h.each e he).2
          rcases List.eq_nil_or_concat e.l with hnil | ⟨l1, z, hl⟩
          · exact absurd hnil hsm.some
          · rw [List.concat_eq_append] at hl
            by_cases hst : at_ ≤ z.1
            · have C := scr_goes w bb at_ s bits h0 hk hnm hb hr 13 (fun V w' => Below V.heap.size V w') (fun V bV => by rw [← hes]; exact bput_stale V bb mb n a _ (h.gr bV) e he l1 z hl at_ _ h0.1 hst)
              refine ⟨0, 13, C.mono ?_⟩
              rintro r w1 ⟨rfl, V, bV, b1⟩
              exact ⟨rfl, same w1 (bV.trans (b1.mono bV.size))⟩
            · have hlt : ∀ y, e.l.getLast? = some y → y.1 < at_ := fun y hy => by rw [hl] at hy; simp at hy; rw [← hy]; omega
              obtain ⟨E1, E2, rfl⟩ := List.mem_iff_append.1 he
              have C := scr_goes w bb at_ s bits h0 hk hnm hb hr 0 (fun V w' => Bk w' bb mb n a (E1 ++ { e with l := keepQ n e.l ++ [(at_, (rdV bits : Int))] } :: E2) ∧ Tch [e.rb, e.gb] V w') (fun V bV => by rw [← hes]; exact bput_more V bb mb n a E1 E2 e (h.gr bV) at_ _ h0 hlt)
              refine ⟨(rdV bits : Int), 0, C.mono ?_⟩
              rintro r w1 ⟨rfl, V, bV, K, t⟩
              refine ⟨rfl, _, K, ⟨[e.rb, e.gb], (Tch.ofBelow bV _).trans t (fun g hg => .inl hg), fun g hg => foot_mem.2 (.inr (.inr ⟨e, he, by simpa using hg⟩))⟩, fun g hg => .inl (by simpa [foot] using hg)⟩
        · have C := scr_goes w bb at_ s bits h0 hk hnm hb hr 0 (fun V w' => ∃ rb gb, V.heap.size ≤ rb ∧ V.heap.size ≤ gb ∧ Bk w' bb mb n a (E ++ [⟨s, rb, gb, [(at_, (rdV bits : Int))]⟩]) ∧ Tch [mb] V w') (fun V bV => bput_new V bb mb n a E (h.gr bV) s hk hno (by omega) at_ _ h0)
          refine ⟨(rdV bits : Int), 0, C.mono ?_⟩
          rintro r w1 ⟨rfl, V, bV, rb', gb', hrb, hgb, K, t⟩
          have hzV := bV.size
          refine ⟨rfl, _, K, ⟨[mb], (Tch.ofBelow bV _).trans t (fun g hg => .inl hg), fun g hg => foot_mem.2 (.inr (.inl (by simpa using hg)))⟩, fun g hg => ?_⟩
          rcases foot_mem.1 hg with h2 | h2 | ⟨e, he, h2⟩
          · exact .inl (foot_mem.2 (.inl h2))
          · exact .inl (foot_mem.2 (.inr (.inl h2)))
          · rcases List.mem_append.1 he with he | he
            · exact .inl (foot_mem.2 (.inr (.inr ⟨e, he, h2⟩)))
            · rw [List.mem_singleton] at he
              subst he
              simp only at h2
              exact .inr (by rcases h2 with rfl | rfl <;> omega)
      · exact ⟨0, (rdE bits : Int), (scr_read w bb at_ s bits h0 hk hnm hb hr).mono fun r w1 q => ⟨q.1, same w1 q.2⟩⟩

/-- A copy is made, a sample comes to it, a subject's series go: nothing that was there is touched. -/
theorem aside (w : World) (bb mb n a : Nat) (E : List En) (h : Bk w bb mb n a E) (hE : E.length ≤ 100) (s : Sr) (hk : OkS s) :
    Calls Try.prog 11 #[.pointer (some ⟨bb, 0, none⟩)] w fun r w1 => ∃ b2, r = .returned (.pointer (some ⟨b2, 0, none⟩)) ∧ Below w.heap.size w w1 ∧
      ∃ V Er : Int, Calls Try.prog 8 #[.pointer (some ⟨b2, 0, none⟩), .int .i64 4611686018427387904, ser s, .int .u64 0] w1 fun r w2 => r = .returned (.tuple #[.int .i64 V, .int .i64 Er]) ∧ Below w.heap.size w w2 ∧
        Calls Try.prog 10 #[.pointer (some ⟨b2, 0, none⟩), .string s.1] w2 fun r w3 => (∃ k : Int, r = .returned (.int .i64 k)) ∧ Below w.heap.size w w3 := by
  refine (bcopy_any w bb mb n a E h).mono ?_
  rintro r w1 ⟨b2, m2, rfl, E2, K2, hsame, hf2, b1⟩
  have hl2 : E2.length ≤ 500 := by have := hsame.length_eq; simp at this; omega
  obtain ⟨V, Er, C⟩ := scr_some w1 b2 m2 n a E2 K2 hl2 4611686018427387904 s 0 hk (by omega)
  refine ⟨b2, rfl, b1, V, Er, C.mono ?_⟩
  rintro r w2 ⟨rfl, E3, K3, ⟨S, t, hS⟩, hf3⟩
  have bw2 : Below w.heap.size w w2 := b1.trans (t.below (fun g hg => hf2 g (hS g hg)) b1.size)
  refine ⟨rfl, bw2, (forget_any w2 b2 m2 n a E3 K3 s.1).mono ?_⟩
  rintro r w3 ⟨rfl, K4, t4⟩
  refine ⟨⟨_, rfl⟩, bw2.trans (t4.below (fun g hg => ?_) bw2.size)⟩
  rw [List.mem_singleton] at hg
  subst hg
  rcases hf3 g (foot_mem.2 (.inr (.inl rfl))) with h1 | h1
  · exact hf2 g h1
  · have := b1.size
    omega
/-- Of the model what isn't of a subject. -/
def withoutM (p : ByteArray) (M : List Me) : List Me := M.filter (fun y => !decide (y.s.1 = p))
theorem withoutM_next (p : ByteArray) {M : List Me} {j : Nat} {y : Me} (h : M[j]? = some y) : withoutM p (M.take (j + 1)) = withoutM p (M.take j) ++ (if y.s.1 = p then [] else [y]) := by
  obtain ⟨hl, rfl⟩ := List.getElem?_eq_some_iff.1 h
  unfold withoutM
  rw [List.take_succ_eq_append_getElem hl, List.filter_append]
  congr 1
  by_cases e : M[j].s.1 = p <;> simp [List.filter_cons, e]
theorem withoutM_few (p : ByteArray) (M : List Me) : (withoutM p M).length ≤ M.length := List.length_filter_le _ _
theorem without_al {E : List En} {M : List Me} (al : E.map slE = M.map slM) (p : ByteArray) : (without p E).map slE = (withoutM p M).map slM := by
  have h1 : (without p E).map slE = (E.map slE).filter (fun z => !decide (z.1.1 = p)) := by
    unfold without
    rw [List.filter_map]
    rfl
  have h2 : (withoutM p M).map slM = (M.map slM).filter (fun z => !decide (z.1.1 = p)) := by
    unfold withoutM
    rw [List.filter_map]
    rfl
  rw [h1, h2, al]
end Go.Proofs.Ytlklbhjcohgmhaa
