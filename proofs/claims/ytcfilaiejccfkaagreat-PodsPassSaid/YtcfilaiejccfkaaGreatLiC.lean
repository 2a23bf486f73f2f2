/- A range over List whose round may write: in the store, and in what was made behind its start (watch's StaysC .. list_tellsC, for any layer). -/
import Derived.Test.YtcfilaiejccfkaaGreatStA
import Derived.Test.YtcfilaiejccfkaaGreatLsB
namespace Go.Proofs.YtcfilaiejccfkaaGreat.Lc
open Go.RowKit Go.Shelf Go.Lib Go.Sort
open Go.Joins (cell_of_block unfrozen_of_block block_setCell)
set_option linter.unusedVariables false
set_option linter.unusedSimpArgs false
set_option maxRecDepth 20000

/-- A round leaves what nobody writes, and what lies from B to C. -/
structure StaysC (base B C : Nat) (W W' : World) : Prop where
  fx : Fx base W W'
  rest : ∀ k, B ≤ k → k < C → k < W.heap.size → W'.heap[k]? = W.heap[k]?
theorem StaysC.refl (base B C : Nat) (W : World) : StaysC base B C W W := ⟨Fx.refl _ _, fun _ _ _ _ => rfl⟩
theorem StaysC.trans {base B C : Nat} {a b c : World} (h : StaysC base B C a b) (k : StaysC base B C b c) : StaysC base B C a c :=
  ⟨h.fx.trans k.fx, fun g h1 h3 h2 => (k.rest g h1 h3 (Nat.lt_of_lt_of_le h2 h.fx.size)).trans (h.rest g h1 h3 h2)⟩
theorem StaysC.ofBelow {base B C : Nat} {W W' : World} (h : Below W.heap.size W W') : StaysC base B C W W' := ⟨Fx.ofBelow h, fun k _ _ hk => h.block k hk⟩
theorem StaysC.ofChg {base B C : Nat} {T : List Nat} {W W' : World} (h : Chg T W W') (hp : ∀ g ∈ T, (g < B ∨ C ≤ g) ∧ (g < W.heap.size → ¬ Prot base W g)) : StaysC base B C W W' :=
  ⟨h.fx (fun g hg => (hp g hg).2), fun k h1 h3 h2 => h.block k h2 (fun hm => by have := (hp k hm).1; omega)⟩

/-- An invariant that bears new memory, and the turns of loops' records from B on. -/
def BearsL {β : Type} (B : Nat) (I : β → World → Prop) : Prop := ∀ s A A' T, I s A → Chg T A A' → (∀ g ∈ T, B ≤ g ∧ ∃ r : Loop, A.heap[g]? = some (.loop r)) → I s A'
theorem loop_cells {A : World} {g : Nat} {cs : Array Value} {T : TypeId} {fz : Nat × Nat} (h1 : ∃ r : Loop, A.heap[g]? = some (.loop r)) (h3 : A.heap[g]? = some (.cells cs T fz)) : False := by
  obtain ⟨r, h1⟩ := h1
  rw [h1] at h3
  cases h3
/-- A turn of loops' records, from the base on, writes into nothing that is kept. -/
theorem Chg.loops {T : List Nat} {base : Nat} {A A' : World} (c : Chg T A A') (hT : ∀ g ∈ T, base ≤ g ∧ ∃ r : Loop, A.heap[g]? = some (.loop r)) : Fx base A A' := c.fx (fun g hg _ hp => by
  obtain ⟨hb, hr⟩ := hT g hg
  rcases hp with hp | ⟨cs, T', fz, h6, _⟩
  · omega
  · exact loop_cells hr h6)
/-- A store bears them. -/
theorem StIs.loops {base : Nat} {A A' : World} {S T : List Nat} {sp : Nat} {hist : List Ev} {most : Int} {l : List Ob} (h : StIs base A S sp most l hist) (c : Chg T A A') (hT : ∀ g ∈ T, base ≤ g ∧ ∃ r : Loop, A.heap[g]? = some (.loop r)) : StIs base A' S sp most l hist := by
  refine h.stay (fun g hg => ?_) (Chg.loops c hT)
  refine c.block g (h.prot g hg).2.1 (fun hm => ?_)
  obtain ⟨_, hr⟩ := hT g hm
  obtain ⟨mb, D, ev, kept, h⟩ := h
  have e := h.fp
  rw [e] at hg
  simp only [List.mem_cons, Option.mem_toList] at hg
  rcases hg with rfl | rfl | hg
  · exact loop_cells hr h.blk
  · obtain ⟨es, c', h1, _⟩ := h.map.own
    obtain ⟨r, hr⟩ := hr
    rw [hr] at h1
    cases h1
  · rcases h.evs.2 with ⟨rfl, _⟩ | ⟨g', cap, cur, rfl, hb, h2, _⟩
    · cases hg
    · simp [Value.ownBlock] at hg
      subst hg
      exact loop_cells hr h2

/-- How a round may be left. -/
def toldPostC {α : Type} (base B C : Nat) (I : Nat → List α → World → Prop) (Ix : Code → Nat → List α → World → Prop) (xs : List α) (W : World) : Exit → Act → World → Prop
  | .normal, _, W' => StaysC base B C W W' ∧ I C xs W'
  | .ret, _, W' => StaysC base B C W W' ∧ Ix .ret C xs W'
  | .exit id, _, W' => StaysC base B C W W' ∧ Ix (.exit id) C xs W'
  | .goto t, _, W' => StaysC base B C W W' ∧ Ix (.goto t) C xs W'
  | .panic _, _, _ => False
  | .outgrown, _, _ => False

/-- An iterator's contract: of what it hands on behind these values this is known. -/
def TellsC {α : Type} (n : Nat) (P : Program) (gf : Nat) (lb : Array Value) (encs : α → Array Value) (Gv : List α → α → World → Prop) (S Sp : List α → Prop) (base : Nat) (w : World) : Prop :=
  ∀ (l : Nat) (J Jx : Nat → List α → World → Prop) (W : World), Below w.heap.size w W → (∀ C, BearsL W.heap.size (J C)) →
    (∀ C pre x W1, W.heap.size ≤ C → C ≤ W1.heap.size → J C pre W1 → Gv pre x W1 → YieldAt Fence.wide (n - 1) P l (encs x) W1 fun e W' =>
      (e = .returned (.bool true) ∧ J C (pre ++ [x]) W' ∧ StaysC base W.heap.size C W1 W') ∨ (e = .returned (.bool false) ∧ Jx C (pre ++ [x]) W')) →
    (∀ C, W.heap.size ≤ C → J C [] W) →
    CallsIn Fence.wide n P gf (#[.func (.yield l) #[] #[]] ++ lb) W fun e W' => (∃ v, e = .returned v) ∧ ((∃ C xs, W.heap.size ≤ C ∧ S xs ∧ J C xs W') ∨ (∃ C pre, Sp pre ∧ Jx C pre W'))

/-- .. and the caller's law. -/
theorem wpIn_toldC {α : Type} {n : Nat} {P : Program} {g : Operand} {ps : Array Tmp} {assign body : Code} {Q : Exit → Act → World → Prop} {a : Act} {w : World}
    (h1 : 1 ≤ n) {gf : Nat} {lb : Array Value} (hg : a.eval g = .func (.func gf) #[] lb) (eg : ∀ args w, (callFunc gf args).run P w = .ok (.enter gf args) w)
    {encs : α → Array Value} {Gv : List α → α → World → Prop} {S Sp : List α → Prop} {base : Nat} {w0 : World} (hseq : TellsC (n - 1) P gf lb encs Gv S Sp base w0)
    (hb0 : Below w0.heap.size w0 w) (hps : ∀ x, (encs x).size = ps.size) (hbase : base ≤ w.heap.size) (hG : ∀ pre x A A', Gv pre x A → Fx base A A' → Gv pre x A')
    (I : Nat → List α → World → Prop) (Ix : Code → Nat → List α → World → Prop) (hI : ∀ C, BearsL w.heap.size (I C)) (hIx : ∀ c C, BearsL w.heap.size (Ix c C)) (h0 : ∀ C, w.heap.size ≤ C → I C [] w)
    (hround : ∀ (l C : Nat) (pre : List α) (x : α) (W : World), I C pre W → Gv pre x W → w.heap.size ≤ l → l < C → C ≤ W.heap.size →
      assign.wpIn (Fence.wide.inRound l) (n - 1 - 1) P (Exit.then (fun a₁ W₁ => StaysC base w.heap.size C W W₁ ∧ ∀ W₂, Chg [l] W₁ W₂ → Fx base W₁ W₂ →
        body.wpIn (Fence.wide.inRound l) (n - 1 - 1) P (toldPostC base w.heap.size C I Ix (pre ++ [x]) W₂) a₁ W₂) (fun _ _ _ => False))
        { tmps := (ps.zip (encs x)).foldl (fun t (p, v) => t.setIfInBounds p v) a.tmps, defers := [] } W)
    (hdone : ∀ (D : Nat) (xs : List α) (W : World), w.heap.size ≤ D → S xs → (∃ C, w.heap.size ≤ C ∧ I C xs W) → W.heap[D]? = some (.deferred (some [])) → Q .normal { a with defers := { target := .collected D, args := #[] } :: a.defers } W)
    (hstop : ∀ (D : Nat) (c : Code) (pre : List α) (W : World), w.heap.size ≤ D → Sp pre → (∃ C, Ix c C pre W) → W.heap[D]? = some (.deferred (some [])) → c.wpIn Fence.wide n P Q { a with defers := { target := .collected D, args := #[] } :: a.defers } W) :
    (Code.rangeFunc g ps assign body).wpIn Fence.wide n P Q a w := by
  refine wpIn_rangeFunc (fun fn hfn => ?_)
  -- the record of this loop, at l; the mark's block, at D
  obtain ⟨D, hD⟩ : ∃ D, D = w.heap.size := ⟨_, rfl⟩
  obtain ⟨rc, hrc⟩ : ∃ rc : LoopState → Option Code → Loop, rc = fun st pe => { state := st, pending := pe, fn, tmps := a.tmps, params := ps, assign, body, defers := w.heap.size } := ⟨_, rfl⟩
  obtain ⟨W1, hW1⟩ : ∃ W1, (w.alloc (.deferred (some []))).alloc (.loop (rc .ready none)) = W1 := ⟨_, rfl⟩
  have z1 : W1.heap.size = D + 2 := by rw [← hW1, hD]; simp
  have g1 : Gr w W1 := hW1 ▸ ((Gr.refl w).alloc _).alloc _
  have rec1 : W1.heap[D + 1]? = some (.loop (rc .ready none)) := by
    have := heap_alloc_new (w.alloc (.deferred (some []))) (.loop (rc .ready none))
    rw [World.size_alloc, ← hD] at this
    rwa [hW1] at this
  have mark1 : W1.heap[D]? = some (.deferred (some [])) := by
    have g2 : Gr (w.alloc (.deferred (some []))) W1 := hW1 ▸ (Gr.refl _).alloc _
    rw [g2.heap (by rw [hD]; simp), hD]
    exact heap_alloc_new w _
  obtain ⟨J, hJ⟩ : ∃ J : Nat → List α → World → Prop, J = fun C pre W => I C pre W ∧ W.heap[D + 1]? = some (.loop (rc .ready none)) ∧ W.heap[D]? = some (.deferred (some [])) := ⟨_, rfl⟩
  obtain ⟨Jx, hJx⟩ : ∃ Jx : Nat → List α → World → Prop, Jx = fun C pre W => ∃ c, Ix c C pre W ∧ W.heap[D + 1]? = some (.loop (rc .done (some c))) ∧ W.heap[D]? = some (.deferred (some [])) := ⟨_, rfl⟩
  have hturn : ∀ {A A' : World} {r : Loop}, Chg [D + 1] A A' → A.heap[D + 1]? = some (.loop r) → True → (∀ g ∈ [D + 1], w.heap.size ≤ g ∧ ∃ r : Loop, A.heap[g]? = some (.loop r)) := fun _ h1 _ g hg => by
    rw [List.mem_singleton] at hg
    subst hg
    exact ⟨by omega, _, h1⟩
  have bJ : ∀ C, BearsL W1.heap.size (J C) := fun C => by
    rw [hJ]
    intro s A A' T hs c hT
    have off : ∀ k, k < D + 2 → k ∉ T := fun k hk hm => by have := (hT k hm).1; omega
    exact ⟨hI C s A A' T hs.1 c (fun g hg => ⟨by have := (hT g hg).1; omega, (hT g hg).2⟩), (c.block _ (Array.getElem?_eq_some_iff.1 hs.2.1).1 (off _ (by omega))).trans hs.2.1, (c.block _ (Array.getElem?_eq_some_iff.1 hs.2.2).1 (off _ (by omega))).trans hs.2.2⟩
  have start : ∀ C, W1.heap.size ≤ C → J C [] W1 := fun C hC => by
    rw [hJ]
    exact ⟨hI C [] w W1 [] (h0 C (by omega)) (Chg.ofGr g1 []) (fun g hg => by cases hg), rec1, mark1⟩
  refine ⟨D + 1, [{ target := .collected D, args := #[] }], W1, { target := .fn (.func gf) lb, args := #[.func (.yield (D + 1)) #[] #[]] }, W1, gf, #[.func (.yield (D + 1)) #[] #[]] ++ lb, W1, ?_, ?_, fun f' _ => trivial, ?_, fun _ => h1, ?_⟩
  · rw [← hW1, hrc, hD]
    exact run_enterLoop_outer _ _ _ _ _
  · simp only [resolve, hg]
    simp [go_sem]
  · simp [invoke, go_sem, eg]
  · refine (hseq (D + 1) J Jx W1 (hb0.trans (g1.below.mono hb0.size)) bJ (fun C pre x W hC1 hC2 hj hgv => ?_) start).mono ?_
    · rw [hJ] at hj
      obtain ⟨hi, hl, hk⟩ := hj
      have hll := (Array.getElem?_eq_some_iff.1 hl).1
      have hy := run_yield (P := P) (args := encs x) hl (by rw [hrc]; exact hps x)
      rw [hrc] at hy
      refine ⟨fn, _, assign, body, hy, roundIn_of_wpIn hfn (wpIn_mono (hround (D + 1) C pre x W hi hgv (by omega) (by omega) hC2) ?_)⟩
      intro e a₁ W₁ he
      cases e with
      | normal =>
        obtain ⟨st1, hbody⟩ := he
        have hl1 : W₁.heap[D + 1]? = some (.loop (rc .ready none)) := (st1.rest _ (by omega) (by omega) hll).trans hl
        have hk1 : W₁.heap[D]? = some (.deferred (some [])) := (st1.rest _ (by omega) (by omega) (Array.getElem?_eq_some_iff.1 hk).1).trans hk
        refine ⟨_, run_beginRound hl1 (by rw [hrc]), ?_⟩
        obtain ⟨W₂, hW₂⟩ : ∃ W₂, W₁.putObj (D + 1) (.loop { rc .ready none with state := .busy }) = W₂ := ⟨_, rfl⟩
        have t2 : Chg [D + 1] W₁ W₂ := hW₂ ▸ turn_chg _ _ _
        have hl2 : W₂.heap[D + 1]? = some (.loop { rc .ready none with state := .busy }) := by rw [← hW₂]; exact World.putObj_heap_same (Array.getElem?_eq_some_iff.1 hl1).1
        have hk2 : W₂.heap[D]? = some (.deferred (some [])) := (t2.block _ (Array.getElem?_eq_some_iff.1 hk1).1 (by simp)).trans hk1
        have prot2 : ∀ {A : World} {o : Obj}, A.heap[D + 1]? = some o → o.isCells = false → ∀ g ∈ [D + 1], g < A.heap.size → ¬ Prot base A g := by
          intro A o ho hc g hg _ hp
          rw [List.mem_singleton] at hg
          subst hg
          rcases hp with hp | ⟨cs, T, fz, h3, _⟩
          · omega
          · rw [ho] at h3
            cases h3
            cases hc
        have s2 : Fx base W₁ W₂ := t2.fx (prot2 hl1 rfl)
        rw [hW₂]
        refine wpIn_mono (hbody W₂ t2 s2) ?_
        -- the round's end
        have fin : ∀ (jump : Option Code) (W₃ : World), StaysC base w.heap.size C W₂ W₃ → ∃ W₄, (Instr.endRound (D + 1) jump).run P W₃ = .ok (.bool jump.isNone) W₄ ∧ Chg [D + 1] W₃ W₄ ∧ W₃.heap[D + 1]? = some (.loop { rc .ready none with state := .busy }) ∧
            W₄.heap[D + 1]? = some (.loop (rc (if jump.isNone then .ready else .done) jump)) ∧ W₄.heap[D]? = some (.deferred (some [])) ∧ StaysC base W1.heap.size C W W₄ := fun jump W₃ st3 => by
          have hl3 := (st3.rest _ (by omega) (by omega) (Array.getElem?_eq_some_iff.1 hl2).1).trans hl2
          have hk3 := (st3.rest _ (by omega) (by omega) (Array.getElem?_eq_some_iff.1 hk2).1).trans hk2
          have hr := run_endRound (P := P) jump hl3
          obtain ⟨W₄, hW₄⟩ : ∃ W₄, W₃.putObj (D + 1) (.loop (rc (if jump.isNone then .ready else .done) jump)) = W₄ := ⟨_, rfl⟩
          have t4 : Chg [D + 1] W₃ W₄ := hW₄ ▸ turn_chg _ _ _
          refine ⟨W₄, ?_, t4, hl3, ?_, ?_, ?_⟩
          · rw [hr, ← hW₄, hrc]
          · rw [← hW₄]; exact World.putObj_heap_same (Array.getElem?_eq_some_iff.1 hl3).1
          · exact (t4.block _ (Array.getElem?_eq_some_iff.1 hk3).1 (by simp)).trans hk3
          · refine ⟨st1.fx.trans (s2.trans (st3.fx.trans (t4.fx (prot2 hl3 rfl)))), fun k h3 hkC h4 => ?_⟩
            have z5 := st1.fx.size
            have z6 := s2.size
            have z7 := st3.fx.size
            rw [t4.block k (by omega) (by simp; omega), st3.rest k (by omega) hkC (by omega), t2.block k (by omega) (by simp; omega), st1.rest k (by omega) hkC h4]
        intro e₂ a₃ W₃ hp
        cases e₂ with
        | normal =>
          obtain ⟨st3, hi3⟩ := hp
          obtain ⟨W₄, hr, t4, hl3, hl4, hk4, st4⟩ := fin none W₃ st3
          exact ⟨_, W₄, hr, .inl ⟨rfl, by rw [hJ]; exact ⟨hI _ _ _ _ _ hi3 t4 (hturn t4 hl3 trivial), hl4, hk4⟩, st4⟩⟩
        | ret =>
          obtain ⟨st3, hi3⟩ := hp
          obtain ⟨W₄, hr, t4, hl3, hl4, hk4, st4⟩ := fin (some .ret) W₃ st3
          exact ⟨_, W₄, hr, .inr ⟨rfl, by rw [hJx]; exact ⟨_, hIx _ _ _ _ _ _ hi3 t4 (hturn t4 hl3 trivial), hl4, hk4⟩⟩⟩
        | exit id =>
          obtain ⟨st3, hi3⟩ := hp
          obtain ⟨W₄, hr, t4, hl3, hl4, hk4, st4⟩ := fin (some (.exit id)) W₃ st3
          exact ⟨_, W₄, hr, .inr ⟨rfl, by rw [hJx]; exact ⟨_, hIx _ _ _ _ _ _ hi3 t4 (hturn t4 hl3 trivial), hl4, hk4⟩⟩⟩
        | goto t =>
          obtain ⟨st3, hi3⟩ := hp
          obtain ⟨W₄, hr, t4, hl3, hl4, hk4, st4⟩ := fin (some (.goto t)) W₃ st3
          exact ⟨_, W₄, hr, .inr ⟨rfl, by rw [hJx]; exact ⟨_, hIx _ _ _ _ _ _ hi3 t4 (hturn t4 hl3 trivial), hl4, hk4⟩⟩⟩
        | panic ch => exact hp.elim
        | outgrown => exact hp.elim
      | exit id => exact he.elim
      | goto t => exact he.elim
      | ret => exact he.elim
      | panic chain => exact he.elim
      | outgrown => exact he.elim
    · rintro e W2 ⟨⟨v, rfl⟩, (⟨C, xs, hC, hS, hj⟩ | ⟨C, pre, hSp, hj⟩)⟩
      · rw [hJ] at hj
        obtain ⟨hi, hl, hk⟩ := hj
        have t := turn_chg W2 (D + 1) (.loop { rc .ready none with state := .exhausted })
        exact ⟨none, _, by have := run_endLoop (P := P) hl (by rw [hrc]; simp); rw [hrc] at this ⊢; exact this, hdone D xs _ (by omega) hS ⟨C, by omega, hI _ _ _ _ _ hi t (hturn t hl trivial)⟩ ((t.block _ (Array.getElem?_eq_some_iff.1 hk).1 (by simp)).trans hk)⟩
      · rw [hJx] at hj
        obtain ⟨c, hi, hl, hk⟩ := hj
        have t := turn_chg W2 (D + 1) (.loop { rc .done (some c) with state := .exhausted })
        exact ⟨some c, _, by have := run_endLoop (P := P) hl (by rw [hrc]; simp); rw [hrc] at this ⊢; exact this, hstop D c pre _ (by omega) hSp ⟨C, hIx _ _ _ _ _ _ hi t (hturn t hl trivial)⟩ ((t.block _ (Array.getElem?_eq_some_iff.1 hk).1 (by simp)).trans hk)⟩
set_option maxHeartbeats 8000000 in
theorem list_tellsC (n base : Nat) (w : World) (S : List Nat) (sp b : Nat) (most k : Int) (l : List Ob) (hist : List Ev) (hst : StIs base w S sp most l hist) (h1 : w.cell? ⟨b, 0, none⟩ = some (.pointer (some ⟨sp, 0, none⟩))) (h2 : w.cell? ⟨b + 1, 0, none⟩ = some (.int .i64 k)) (hb : b + 1 < w.heap.size) (hl : l.length ≤ 1000000) :
    TellsC n Tryz.prog 22 #[.pointer (some ⟨b, 0, none⟩), .pointer (some ⟨b + 1, 0, none⟩)] (fun x : Co => #[.agg x.1.1.1]) (ListGv base k l) (fun xs => xs.map (·.1.2) = listed k l) (fun pre => pre ≠ []) base w := fun l' J Jx W hW bJ hY h0 => by
  have mixed : Tryz.prog.follows .mixedOrders = true := by kernel_rfl
  have c1 : W.cell? ⟨b, 0, none⟩ = some (.pointer (some ⟨sp, 0, none⟩)) := (hW.cell (p := ⟨b, 0, none⟩) (by show b < _; omega)).trans h1
  have c2 : W.cell? ⟨b + 1, 0, none⟩ = some (.int .i64 k) := (hW.cell (p := ⟨b + 1, 0, none⟩) hb).trans h2
  have CA := Lib.hid (all_any base W S sp most k l hist (hst.gr hW) hl)
  have HJ := Lib.hid (And.intro h0 (And.intro bJ hY))
  have hbW : base ≤ W.heap.size := by
    obtain ⟨mb, D, ev, kept, h⟩ := hst
    have := h.bw
    have := hW.size
    omega
  have HBW := Lib.hid hbW
  obtain ⟨L, hL⟩ : ∃ L, L = (listed k l).length := ⟨_, rfl⟩
  have HL : Hid (L = (listed k l).length ∧ L ≤ 1000000) := ⟨hL, by have := listed_len (l := l) k; omega⟩
  clear h0 hY hW h1 h2 hst bJ hb hL hbW hl
  refine callsIn_wide.2 ?_
  show Calls Tryz.prog 22 #[.func (.yield l') #[] #[], .pointer (some ⟨b, 0, none⟩), .pointer (some ⟨b + 1, 0, none⟩)] W _
  go_enter Tryz.func22, Tryz.ntmps22
  go_wp2_with fail
  refine CA.out.mono ?_
  rintro e w1 ⟨⟨v, cl, rfl, hcl, ⟨q, c, rfl, hrows⟩, hkept⟩, bw1⟩
  have hlen : cl.length = L := by rw [HL.out.1, ← hcl, List.length_map]
  have hlM : L ≤ 1000000 := HL.out.2
  rw [hlen]
  have HC := Lib.hid (And.intro hcl (And.intro hrows (And.intro hkept (And.intro bw1 hlen))))
  clear hcl hrows hkept bw1 hlen CA c1 c2
  go_wp2_with fail
  go_loopg [10] L (fun g vi wr => ∃ j : Nat, vi = .int .i64 (j : Int) ∧ j ≤ L ∧ L - j ≤ g ∧ Hid (∃ pre : List Co, pre.length = j ∧ pre.map (·.1.2) = (listed k l).take j ∧ J w1.heap.size pre wr ∧ StaysC base W.heap.size w1.heap.size w1 wr))
  case atStart => exact ⟨0, rfl, Nat.zero_le _, by omega, [], rfl, by simp, HJ.out.2.1 _ [] W w1 [] (HJ.out.1 _ HC.out.2.2.2.1.size) (Chg.ofBelow HC.out.2.2.2.1 []) (fun g hg => by cases hg), StaysC.refl _ _ _ _⟩
  case round =>
    obtain ⟨j, rfl, hj1, hj2, HP⟩ := hrel
    by_cases hlt : j < L
    · obtain ⟨pre, hpl, hpre, hj, hst⟩ := HP.out
      obtain ⟨hcl, hrows, hkept, bw1, hlen⟩ := HC.out
      obtain ⟨x, hx⟩ : ∃ x, cl[j]? = some x := ⟨cl[j]'(by omega), List.getElem?_eq_getElem (by omega)⟩
      obtain ⟨g, rfl, hgB, hgl, hra⟩ := hrows j x hx
      have hra' : wr.rangeAt g (j * 47) x.1.1.1.toList := fun t u hu => (World.cell?_of_block (hst.rest g hgB hgl hgl)).trans (hra t u hu)
      have LD := Lib.hid (load_at47 (c := x.1.1) hra')
      have hkx : Kept base wr x.1.1.1 x.1.2 := (hkept x (List.mem_of_getElem? hx)).fx hst.fx
      have hLx : (listed k l)[j]? = some x.1.2 := by rw [← hcl, List.getElem?_map, hx]; rfl
      obtain ⟨X, hX⟩ : ∃ X, X = x.1.1.1 := ⟨_, rfl⟩
      obtain ⟨o, ho⟩ : ∃ o, o = x.1.2 := ⟨_, rfl⟩
      rw [← hX] at LD hkx
      rw [← ho] at hkx hLx
      have z0 : (wr.alloc (.cells zerC OT)).heap[wr.heap.size]? = some (.cells zerC OT (0, 0)) := heap_alloc_new wr _
      obtain ⟨th, n0', fx1, c1'⟩ := store_ob (base := wr.heap.size) z0 rfl hkx.obj.1 (Nat.le_refl _)
      obtain ⟨w3, hw3⟩ : ∃ W, W = (wr.alloc (.cells zerC OT)).setCells wr.heap.size 0 X.toList := ⟨_, rfl⟩
      obtain ⟨A, hA⟩ : ∃ A, A = wr.heap.size := ⟨_, rfl⟩
      rw [← hw3] at n0' c1'
      have b3 : Below wr.heap.size wr w3 := by
        have g : Gr wr (wr.alloc (.cells zerC OT)) := (Gr.refl wr).alloc _
        exact ((Xb.ofGr g wr.heap.size).trans ⟨c1'.os, c1'.tape, c1'.output, c1'.size, fun k hk hne => c1'.block k hk (by simpa using hne)⟩).below (Nat.le_refl _) (Nat.le_refl _)
      rw [← hA] at n0'
      have TH := Lib.hid th
      have IN : Hid ((Tryz.prog.info? OT).map (·.size) = some X.size) := by show _ = _; rw [hkx.obj.1]; exact info_ob47
      have ON := Lib.hid (objV_one hkx.obj)
      have HW3 : Hid ((wr.alloc (.cells zerC OT)).setCells wr.heap.size 0 X.toList = w3 ∧ wr.heap.size = A) := ⟨hw3.symm, hA.symm⟩
      have LV := Lib.hid (load_ob n0' hkx.obj.1)
      have hk3 : Kept base w3 X o := hkx.fx (Fx.ofBelow b3)
      have CC := Lib.hid (clone_any w3 X o hk3.obj hk3.nil hk3.small.small)
      have HY := Lib.hid (And.intro hpl (And.intro hpre (And.intro hj (And.intro hst (And.intro hLx (And.intro hk3 b3))))))
      clear hpl hpre hj hst hcl hrows hkept bw1 hlen hx hgB hgl hra hra' hkx hLx hX ho z0 th n0' fx1 c1' hw3 hA b3 hk3 HP
      go_upto_region 3 with (first | (refine wpList_load_by (by kernel_rfl) OT _ rfl (.pointer (some ⟨g, j * 47, none⟩)) (.agg X) (by rfl) LD.out ?_) | (refine wpList_store_mid rfl _ _ _ rfl wr.heap.size 0 X (by rfl) (by rfl) TH.out IN.out ON.out ?_; rw [HW3.out.1, HW3.out.2]))
      refine (wpIn_wide (n := n)).1 ?_
      gi_wp2_with (refine wpListIn_load_by (by kernel_rfl) OT _ rfl (.pointer (some ⟨A, 0, none⟩)) (.agg X) (by kernel_rfl) LV.out ?_)
      refine ⟨trivial, fun e => (nomatch e), (callsIn_wide.2 CC.out).mono ?_⟩
      rintro e m ⟨⟨D, rfl, hC⟩, hbl⟩
      obtain ⟨hpl, hpre, hj, hst, hLx, hk3, b3⟩ := HY.out
      have KD : Kept base m D o := kept_copy hk3 hC hk3.small hk3.fits
      have bm : Below wr.heap.size wr m := b3.trans (hbl.mono b3.size)
      have jm : J w1.heap.size pre m := HJ.out.2.1 _ pre wr m [] hj (Chg.ofBelow bm []) (fun g hg => by cases hg)
      have sm : StaysC base W.heap.size w1.heap.size w1 m := hst.trans (StaysC.ofBelow bm)
      obtain ⟨x', hx'⟩ : ∃ x' : Co, x' = ⟨(⟨D, KD.obj.1, objV_one KD.obj⟩, o), KD.obj.2.1.2.1⟩ := ⟨_, rfl⟩
      have hgv : ListGv base k l pre x' m := by
        rw [hx']
        exact ⟨by rw [hpl]; exact hLx, KD⟩
      obtain ⟨fn, tmps, assign, body, hy, hR⟩ := HJ.out.2.2 _ pre x' m HC.out.2.2.2.1.size sm.fx.size jm hgv
      have hy' : (Instr.yield l' #[.agg D]).run Tryz.prog m = .ok (.round l' fn tmps assign body) m := by rw [hx'] at hy; exact hy
      have hnext : (pre ++ [x']).map (·.1.2) = (listed k l).take (j + 1) := by
        have := take_nextO (L := listed k l) (pre := pre) (x := x') (by rw [hpl]; exact hpre) (by rw [hpl, hx']; exact hLx)
        rw [hpl] at this
        exact this
      have HN := Lib.hid (And.intro hnext (And.intro sm (show (pre ++ [x']).length = j + 1 by rw [List.length_append, hpl]; rfl)))
      have HRD := Lib.hid hR
      clear hC hbl hpl hpre hj hst hLx hk3 b3 KD bm jm sm hx' hgv hy hR hnext HY CC LV HW3 ON IN TH LD
      gi_wp2_with fail
      refine ⟨fun e => (nomatch e), HRD.out.mono ?_⟩
      rintro e W' (⟨rfl, hJ', st'⟩ | ⟨rfl, hJx'⟩)
      · have RN : Hid (∃ pre : List Co, pre.length = j + 1 ∧ pre.map (·.1.2) = (listed k l).take (j + 1) ∧ J w1.heap.size pre W' ∧ StaysC base W.heap.size w1.heap.size w1 W') := ⟨_, HN.out.2.2, HN.out.1, hJ', HN.out.2.1.trans st'⟩
        clear hJ' st' HN HRD
        gi_wp2
        go_wp2
        go_roundg (L - (j + 1))
        case measure => omega
        case rel => exact ⟨j + 1, by push_cast; rfl, by omega, by omega, RN.out⟩
      · have RN : Hid (∃ C pre, pre ≠ [] ∧ Jx C pre W') := ⟨_, _, by simp, hJx'⟩
        clear hJx' HN HRD
        gi_wp2
        go_wp2
        (try simp only [Exit.inBlock, Exit.then]); refine bodyPost_ret (results_none rfl _ _ _) rfl ?_
        exact ⟨⟨_, rfl⟩, .inr RN.out⟩
    · obtain ⟨pre, hpl, hpre, hj, hst⟩ := HP.out
      have e : j = L := by omega
      have FIN : Hid (∃ C, ∃ xs : List Co, W.heap.size ≤ C ∧ xs.map (·.1.2) = listed k l ∧ J C xs wr) := ⟨_, pre, HC.out.2.2.2.1.size, by rw [hpre, e, HL.out.1, List.take_length], hj⟩
      clear hpl hpre hj hst HP HC HJ
      go_wp2
      go_end0
      exact ⟨⟨_, rfl⟩, .inl FIN.out⟩
end Go.Proofs.YtcfilaiejccfkaaGreat.Lc
