/- A range over a function that hands on values of which something is known in the world at hand; a round may write in what was made behind its start. What a region does in a round. -/
import Derived.Test.YtajkhbdniadkkaaRgA
import Derived.Orders
import Derived.OrdersIn
import Derived.OrdersHeld
import Derived.TacticsIn
import Derived.RangeFuncCalls
import Derived.Deep.Quiet
import Derived.Deep.RegionHeld
import Derived.Shelf.SlSortCmp.QuietGrown
import Derived.RangeFuncNested
import Derived.RangeFuncBound
import Derived.RangeFuncLeaves
import Derived.RangeFuncBox
import Derived.OwnWalkIn
import Derived.TacticsInMore
import Derived.LoopNIn
import Derived.LoopIn
import Derived.Shelf.Abstract
namespace Go.Proofs.Ytajkhbdniadkkaa
open Go Go.Shelf Go.RowKit Go.Lib Go.Sort
set_option linter.unusedVariables false
set_option linter.unusedSimpArgs false
set_option maxRecDepth 20000

def calmD (o : Oper) : Bool := match o.op with | .defer _ => false | _ => true
theorem calm_neD {o : Oper} (h : calmD o = true) : ∀ c, o.op ≠ .defer c := fun c e => by
  unfold calmD at h
  rw [e] at h
  cases h
theorem rowsIn_wideD {n : Nat} {P : Program} {row : String} {args : Array Value} {w : World} {R : Value → World → Prop} (l : Nat) (h : Rows P row args w R) : RowsIn (Fence.wide.inRound l) n P row args w R :=
  fun c cs _ => by
    obtain ⟨v, w', r, s⟩ := h c cs
    exact ⟨v, w', r, stepsIn_wide.2 s⟩
theorem op_roundD {l n : Nat} {P : Program} {o : Oper} {a : Act} {w : World} {next : Act → World → Prop} {Q : Exit → Act → World → Prop} (hd : calmD o = true) (h : o.wp P a w next Q) : o.wpIn (Fence.wide.inRound l) n P a w next Q := by
  refine ⟨fun f _ => trivial, ?_⟩
  rw [show (Fence.wide.inRound l).round = some l from rfl, Oper.semAt_some l _ _ (calm_neD hd)]
  unfold Oper.wp at h
  generalize (execOp a.eval o).run P w = r at h ⊢
  cases r with
  | ok x w' =>
    cases x <;> simp only [Oper.upon, Oper.uponIn] at h ⊢ <;>
      first
        | exact h
        | exact ⟨fun e => (nomatch e), CallsIn.inRound l (callsIn_wide.2 h)⟩
        | exact ⟨fun e => (nomatch e), rowsIn_wideD l h⟩
  | halt x w' => cases x <;> simp only [Oper.upon, Oper.uponIn] at h ⊢ <;> exact h
theorem list_roundD {l n : Nat} {P : Program} {ops : Array Oper} {Q : Exit → Act → World → Prop} (hq : ¬ LetsOut Q) : ∀ (os : List Oper) (a : Act) (w : World), os.all calmD = true → wpList P ops Q os a w → wpListIn (Fence.wide.inRound l) n P ops Q os a w
  | [], _, _, _, h => h
  | o :: os, a, w, hc, h => by
    rw [List.all_cons, Bool.and_eq_true] at hc
    unfold wpList at h
    unfold wpListIn
    split at h
    · rename_i hw
      rw [if_pos hw]
      rcases h with h | h
      · exact op_roundD hc.1 (Oper.wp_mono (fun a w => list_roundD hq os a w hc.2) h)
      · exact absurd h.2 hq
    · rename_i hw
      rw [if_neg hw]
      exact ⟨fun f _ => trivial, list_roundD hq os _ w hc.2 h⟩
theorem any_roundD {l n : Nat} {P : Program} {md : Region.Mode} {ops : Array Oper} {Q : Exit → Act → World → Prop} (hq : ¬ LetsOut Q) (hc : ops.toList.all calmD = true) : ∀ (fuel : Nat) (listed : Array Bool) (a : Act) (w : World), wpAny P md ops Q fuel listed a w → wpAnyIn (Fence.wide.inRound l) n P md ops Q fuel listed a w
  | 0, _, _, _, h => h
  | fuel + 1, _, a, w, h => ⟨h.1, fun i hi => by
    have h1 := h.2 i hi
    unfold wpOp at h1
    unfold wpOpIn
    cases ho : ops[i]? with
    | none =>
      rw [ho] at h1
      exact any_roundD hq hc fuel _ a w h1
    | some o =>
      rw [ho] at h1
      have hco : calmD o = true := List.all_eq_true.1 hc o (List.mem_of_getElem? (by rw [Array.getElem?_toList]; exact ho))
      simp only at h1 ⊢
      split at h1
      · rename_i hw
        rw [if_pos hw]
        rcases h1 with h1 | h1
        · exact op_roundD hco (Oper.wp_mono (fun a w => any_roundD hq hc fuel _ a w) h1)
        · exact absurd h1.2 hq
      · rename_i hw
        rw [if_neg hw]
        exact ⟨fun f _ => trivial, any_roundD hq hc fuel _ _ w h1⟩⟩
/-- What a region does, whatever follows. -/
def EndsD (Q K : Exit → Act → World → Prop) : Prop := (∀ a w, Q .normal a w → K .normal a w) ∧ ¬ LetsOut K
theorem region_roundD {l n : Nat} {P : Program} {id : Nat} {os : List Oper} {Q : Exit → Act → World → Prop} {a : Act} {w : World} (hc : os.all calmD = true) (hq : ¬ LetsOut Q)
    (h : wpList P os.toArray Q os a w) : (Code.region id os.toArray false).wpIn (Fence.wide.inRound l) n P Q a w := wpIn_region_lit (list_roundD hq os a w hc h)
theorem region_round_anyD {l n : Nat} {P : Program} {id : Nat} {os : List Oper} {Q : Exit → Act → World → Prop} {a : Act} {w : World} (hm : P.follows .mixedOrders = true) (hc : os.all calmD = true) (hq : ¬ LetsOut Q)
    (h : wpAny P .any os.toArray Q os.toArray.size (Array.replicate os.toArray.size false) a { w with drawn := w.drawn + 1 }) : (Code.region id os.toArray true).wpIn (Fence.wide.inRound l) n P Q a w :=
  wpIn_region_any hm (any_roundD hq (by simpa using hc) _ _ _ _ h)
theorem region_round_quietD {l n : Nat} {P : Program} {id : Nat} {os : List Oper} {C : World → Prop} {Q : Exit → Act → World → Prop} {a : Act} {w : World} (hm : P.follows .mixedOrders = true) (hc : os.all calmD = true) (hq : ¬ LetsOut Q) (hB : Region.lexB .any os.toArray = true) (hC : C { w with drawn := w.drawn + 1 })
    (h : wpQuiet P os.toArray C (fun a' => ∀ w', C w' → Q .normal a' w') os a) : (Code.region id os.toArray true).wpIn (Fence.wide.inRound l) n P Q a w := by
  simp only [Region.lexB, Bool.and_eq_true] at hB
  refine region_round_anyD hm hc hq (wpAny_of_quiet (Q := fun a' => ∀ w', C w' → Q .normal a' w') (fun _ w' hw' h => h w' hw') _ _ _ _ hC ?_)
  have := wpAnyQ_lex (C := C) (md := .any) hB.1 os.toArray.toList 0 (Array.replicate os.toArray.size false) a (by simp) (by simpa using hB.2) h
  simpa using this
theorem region_round_grownD {l n : Nat} {P : Program} {id : Nat} {os : List Oper} {Q : Exit → Act → World → Prop} {a : Act} {w : World} (hm : P.follows .mixedOrders = true) (hc : os.all calmD = true) (hq : ¬ LetsOut Q) (hB : Region.lexB .any os.toArray = true)
    (h : wpQuiet P os.toArray (fun w' => ∃ p : GrownBy, w' = grow (w.drewN p.n) p.os) (fun a' => ∀ w', (∃ p : GrownBy, w' = grow (w.drewN p.n) p.os) → Q .normal a' w') os a) : (Code.region id os.toArray true).wpIn (Fence.wide.inRound l) n P Q a w :=
  region_round_quietD (C := fun w' => ∃ p : GrownBy, w' = grow (w.drewN p.n) p.os) hm hc hq hB ⟨⟨1, #[]⟩, by rw [grow_empty]; rfl⟩ h
theorem region_round_heldD {l n : Nat} {P : Program} {id : Nat} {os : List Oper} {S : World → Prop} {Q : Exit → Act → World → Prop} {a : Act} {w : World} (hm : P.follows .mixedOrders = true) (hc : os.all calmD = true) (hq : ¬ LetsOut Q) (hS : S w.drew)
    (h : S w.drew → wpAnyH P .any os.toArray Q S os.toArray.size (Array.replicate os.toArray.size false) a w.drew) : (Code.region id os.toArray true).wpIn (Fence.wide.inRound l) n P Q a w :=
  region_round_anyD hm hc hq (wpAny_of_held _ _ _ _ (h hS))
/-- An invariant that bears new memory, and the turns of blocks that are no cells, from B on. -/
def BearsD {β : Type} (B : Nat) (I : β → World → Prop) : Prop := ∀ s A A' T, I s A → Tch T A A' → (∀ g ∈ T, B ≤ g ∧ ∃ o : Obj, A.heap[g]? = some o ∧ o.isCells = false) → I s A'
theorem BearsD.and {β : Type} {B : Nat} {I J : β → World → Prop} (h : BearsD B I) (k : BearsD B J) : BearsD B (fun s W => I s W ∧ J s W) := fun s A A' T hs c hT => ⟨h s A A' T hs.1 c hT, k s A A' T hs.2 c hT⟩
theorem bears_pureD {β : Type} {B : Nat} (q : β → Prop) : BearsD B (fun s _ => q s) := fun _ _ _ _ h _ _ => h
theorem bears_belowD {β : Type} {n₀ B : Nat} {w₀ : World} (hn : n₀ ≤ w₀.heap.size) (hB : n₀ ≤ B) : BearsD B (fun (_ : β) W => Below n₀ w₀ W) := fun _ A A' T h c hT =>
  h.trans (c.below (fun g hg => Nat.le_trans hB (hT g hg).1) (Nat.le_trans hn h.size))
/-- One block that is no cells is turned. -/
theorem turn_tch (W : World) (l : Nat) (o : Obj) : Tch [l] W (W.putObj l o) := Tch.ofGrown (grownBy_putObj' W l o) (fun g e => .inl (by cases e; simp))

/-- A round leaves what nobody writes, and what lies from B to C. -/
structure StaysD (base B C : Nat) (W W' : World) : Prop where
  fx : Below base W W'
  rest : ∀ k, B ≤ k → k < C → k < W.heap.size → W'.heap[k]? = W.heap[k]?
theorem StaysD.refl (base B C : Nat) (W : World) : StaysD base B C W W := ⟨Below.refl _ _, fun _ _ _ _ => rfl⟩
theorem StaysD.trans {base B C : Nat} {a b c : World} (h : StaysD base B C a b) (k : StaysD base B C b c) : StaysD base B C a c :=
  ⟨h.fx.trans k.fx, fun g h1 h3 h2 => (k.rest g h1 h3 (Nat.lt_of_lt_of_le h2 h.fx.size)).trans (h.rest g h1 h3 h2)⟩
theorem StaysD.ofBelow {base B C : Nat} {W W' : World} (h : Below W.heap.size W W') (hb : base ≤ W.heap.size) : StaysD base B C W W' := ⟨h.mono hb, fun k _ _ hk => h.block k hk⟩
theorem StaysD.ofTch {base B C : Nat} {T : List Nat} {W W' : World} (h : Tch T W W') (hb : base ≤ W.heap.size) (hp : ∀ g ∈ T, (g < B ∨ C ≤ g) ∧ base ≤ g) : StaysD base B C W W' :=
  ⟨h.below (fun g hg => (hp g hg).2) hb, fun k h1 h3 h2 => h.block k h2 (fun hm => by have := (hp k hm).1; omega)⟩

/-- How a round may be left. -/
def toldPostD {α : Type} (base B C : Nat) (I : Nat → List α → World → Prop) (Ix : Code → Nat → List α → World → Prop) (xs : List α) (W : World) : Exit → Act → World → Prop
  | .normal, _, W' => StaysD base B C W W' ∧ I C xs W'
  | .ret, _, W' => StaysD base B C W W' ∧ Ix .ret C xs W'
  | .exit id, _, W' => StaysD base B C W W' ∧ Ix (.exit id) C xs W'
  | .goto t, _, W' => StaysD base B C W W' ∧ Ix (.goto t) C xs W'
  | .panic _, _, _ => False
  | .outgrown, _, _ => False

/-- An iterator's contract: of what it hands on behind these values this is known. -/
def TellsD {α : Type} (n : Nat) (P : Program) (gf : Nat) (lb : Array Value) (encs : α → Array Value) (Gv : List α → α → World → Prop) (S Sp : List α → Prop) (base : Nat) (w : World) : Prop :=
  ∀ (l : Nat) (J Jx : Nat → List α → World → Prop) (W : World), Below w.heap.size w W → (∀ C, BearsD W.heap.size (J C)) →
    (∀ C pre x W1, W.heap.size ≤ C → C ≤ W1.heap.size → J C pre W1 → Gv pre x W1 → YieldAt Fence.wide (n - 1) P l (encs x) W1 fun e W' =>
      (e = .returned (.bool true) ∧ J C (pre ++ [x]) W' ∧ StaysD base W.heap.size C W1 W') ∨ (e = .returned (.bool false) ∧ Jx C (pre ++ [x]) W')) →
    (∀ C, W.heap.size ≤ C → J C [] W) →
    CallsIn Fence.wide n P gf (#[.func (.yield l) #[] #[]] ++ lb) W fun e W' => (∃ v, e = .returned v) ∧ ((∃ C xs, W.heap.size ≤ C ∧ S xs ∧ J C xs W') ∨ (∃ C pre, Sp pre ∧ Jx C pre W'))

/-- .. and the caller's law. -/
theorem wpIn_toldD {α : Type} {n : Nat} {P : Program} {g : Operand} {ps : Array Tmp} {assign body : Code} {Q : Exit → Act → World → Prop} {a : Act} {w : World}
    (h1 : 1 ≤ n) {gf : Nat} {lb : Array Value} (hg : a.eval g = .func (.func gf) #[] lb) (eg : ∀ args w, (callFunc gf args).run P w = .ok (.enter gf args) w)
    {encs : α → Array Value} {Gv : List α → α → World → Prop} {S Sp : List α → Prop} {base : Nat} {w0 : World} (hseq : TellsD (n - 1) P gf lb encs Gv S Sp base w0)
    (hb0 : Below w0.heap.size w0 w) (hps : ∀ x, (encs x).size = ps.size) (hbase : base ≤ w.heap.size) (hG : ∀ pre x A A', Gv pre x A → Below base A A' → Gv pre x A')
    (I : Nat → List α → World → Prop) (Ix : Code → Nat → List α → World → Prop) (hI : ∀ C, BearsD w.heap.size (I C)) (hIx : ∀ c C, BearsD w.heap.size (Ix c C)) (h0 : ∀ C, w.heap.size ≤ C → I C [] w)
    (hround : ∀ (l C : Nat) (pre : List α) (x : α) (W : World), I C pre W → Gv pre x W → w.heap.size ≤ l → l < C → C ≤ W.heap.size →
      assign.wpIn (Fence.wide.inRound l) (n - 1 - 1) P (Exit.then (fun a₁ W₁ => StaysD base w.heap.size C W W₁ ∧ ∀ W₂, Tch [l] W₁ W₂ → Below base W₁ W₂ →
        body.wpIn (Fence.wide.inRound l) (n - 1 - 1) P (toldPostD base w.heap.size C I Ix (pre ++ [x]) W₂) a₁ W₂) (fun _ _ _ => False))
        { tmps := (ps.zip (encs x)).foldl (fun t (p, v) => t.setIfInBounds p v) a.tmps, defers := [] } W)
    (hdone : ∀ (D : Nat) (xs : List α) (W : World), w.heap.size ≤ D → S xs → (∃ C, w.heap.size ≤ C ∧ I C xs W) → W.heap[D]? = some (.deferred (some [])) → Q .normal { a with defers := { target := .collected D, args := #[] } :: a.defers } W)
    (hstop : ∀ (D : Nat) (c : Code) (pre : List α) (W : World), w.heap.size ≤ D → Sp pre → (∃ C, Ix c C pre W) → W.heap[D]? = some (.deferred (some [])) → c.wpIn Fence.wide n P Q { a with defers := { target := .collected D, args := #[] } :: a.defers } W) :
    (Code.rangeFunc g ps assign body).wpIn Fence.wide n P Q a w := by
  refine wpIn_rangeFunc (fun fn hfn => ?_)
  -- the record of this loop, at l; the mark's block, at D
  obtain ⟨D, hD⟩ : ∃ D, D = w.heap.size := ⟨_, rfl⟩
  obtain ⟨rc, hrc⟩ : ∃ rc : LoopState → Option Code → Loop, rc = fun st pe => { state := st, pending := pe, fn, tmps := a.tmps, params := ps, assign, body, defers := w.heap.size } := ⟨_, rfl⟩
  obtain ⟨W1, hW1⟩ : ∃ W1, (w.alloc (.deferred (some []))).alloc (.loop (rc .ready none)) = W1 := ⟨_, rfl⟩
  have z1 : W1.heap.size = D + 2 := by rw [← hW1, hD]; simp
  have g1 : Below w.heap.size w W1 := hW1 ▸ ((Below.refl _ w).alloc (Nat.le_refl _) _).alloc (by simp) _
  have rec1 : W1.heap[D + 1]? = some (.loop (rc .ready none)) := by
    have := heap_alloc_new (w.alloc (.deferred (some []))) (.loop (rc .ready none))
    rw [World.size_alloc, ← hD] at this
    rwa [hW1] at this
  have mark1 : W1.heap[D]? = some (.deferred (some [])) := by
    rw [← hW1, Below.heap_alloc _ _ _ (by rw [hD]; simp), hD]
    exact heap_alloc_new w _
  obtain ⟨J, hJ⟩ : ∃ J : Nat → List α → World → Prop, J = fun C pre W => I C pre W ∧ W.heap[D + 1]? = some (.loop (rc .ready none)) ∧ W.heap[D]? = some (.deferred (some [])) := ⟨_, rfl⟩
  obtain ⟨Jx, hJx⟩ : ∃ Jx : Nat → List α → World → Prop, Jx = fun C pre W => ∃ c, Ix c C pre W ∧ W.heap[D + 1]? = some (.loop (rc .done (some c))) ∧ W.heap[D]? = some (.deferred (some [])) := ⟨_, rfl⟩
  have hturn : ∀ {A A' : World} {o : Obj}, Tch [D + 1] A A' → A.heap[D + 1]? = some o → o.isCells = false → (∀ g ∈ [D + 1], w.heap.size ≤ g ∧ ∃ o : Obj, A.heap[g]? = some o ∧ o.isCells = false) := fun _ h1 h2 g hg => by
    rw [List.mem_singleton] at hg
    subst hg
    exact ⟨by omega, _, h1, h2⟩
  have bJ : ∀ C, BearsD W1.heap.size (J C) := fun C => by
    rw [hJ]
    intro s A A' T hs c hT
    have off : ∀ k, k < D + 2 → k ∉ T := fun k hk hm => by have := (hT k hm).1; omega
    exact ⟨hI C s A A' T hs.1 c (fun g hg => ⟨by have := (hT g hg).1; omega, (hT g hg).2⟩), (c.block _ (Array.getElem?_eq_some_iff.1 hs.2.1).1 (off _ (by omega))).trans hs.2.1, (c.block _ (Array.getElem?_eq_some_iff.1 hs.2.2).1 (off _ (by omega))).trans hs.2.2⟩
  have start : ∀ C, W1.heap.size ≤ C → J C [] W1 := fun C hC => by
    rw [hJ]
    exact ⟨hI C [] w W1 [] (h0 C (by omega)) (Tch.ofBelow g1 []) (fun g hg => by cases hg), rec1, mark1⟩
  refine ⟨D + 1, [{ target := .collected D, args := #[] }], W1, { target := .fn (.func gf) lb, args := #[.func (.yield (D + 1)) #[] #[]] }, W1, gf, #[.func (.yield (D + 1)) #[] #[]] ++ lb, W1, ?_, ?_, fun f' _ => trivial, ?_, fun _ => h1, ?_⟩
  · rw [← hW1, hrc, hD]
    exact run_enterLoop_outer _ _ _ _ _
  · simp only [resolve, hg]
    simp [go_sem]
  · simp [invoke, go_sem, eg]
  · refine (hseq (D + 1) J Jx W1 (hb0.trans (g1.mono hb0.size)) bJ (fun C pre x W hC1 hC2 hj hgv => ?_) start).mono ?_
    · rw [hJ] at hj
      obtain ⟨hi, hl, hk⟩ := hj
      have hll := (Array.getElem?_eq_some_iff.1 hl).1
      have hy := run_yield (P := P) (args := encs x) hl (by rw [hrc]; exact hps x)
      rw [hrc] at hy
      refine ⟨fn, _, assign, body, hy, roundIn_of_wpIn hfn (wpIn_mono (hround (D + 1) C pre x W hi hgv (by omega) (by omega) hC2) ?_)⟩
      intro e a₁ W₁ he
      cases e with
      | normal =>
        obtain ⟨st1, hbody⟩ := he
        have hl1 : W₁.heap[D + 1]? = some (.loop (rc .ready none)) := (st1.rest _ (by omega) (by omega) hll).trans hl
        have hk1 : W₁.heap[D]? = some (.deferred (some [])) := (st1.rest _ (by omega) (by omega) (Array.getElem?_eq_some_iff.1 hk).1).trans hk
        refine ⟨_, run_beginRound hl1 (by rw [hrc]), ?_⟩
        obtain ⟨W₂, hW₂⟩ : ∃ W₂, W₁.putObj (D + 1) (.loop { rc .ready none with state := .busy }) = W₂ := ⟨_, rfl⟩
        have t2 : Tch [D + 1] W₁ W₂ := hW₂ ▸ turn_tch _ _ _
        have hl2 : W₂.heap[D + 1]? = some (.loop { rc .ready none with state := .busy }) := by rw [← hW₂]; exact World.putObj_heap_same (Array.getElem?_eq_some_iff.1 hl1).1
        have hk2 : W₂.heap[D]? = some (.deferred (some [])) := (t2.block _ (Array.getElem?_eq_some_iff.1 hk1).1 (by simp)).trans hk1
        have prot2 : ∀ g ∈ [D + 1], base ≤ g := fun g hg => by rw [List.mem_singleton] at hg; omega
        have s2 : Below base W₁ W₂ := t2.below prot2 (by have := st1.fx.size; omega)
        rw [hW₂]
        refine wpIn_mono (hbody W₂ t2 s2) ?_
        -- the round's end
        have fin : ∀ (jump : Option Code) (W₃ : World), StaysD base w.heap.size C W₂ W₃ → ∃ W₄, (Instr.endRound (D + 1) jump).run P W₃ = .ok (.bool jump.isNone) W₄ ∧ Tch [D + 1] W₃ W₄ ∧ W₃.heap[D + 1]? = some (.loop { rc .ready none with state := .busy }) ∧
            W₄.heap[D + 1]? = some (.loop (rc (if jump.isNone then .ready else .done) jump)) ∧ W₄.heap[D]? = some (.deferred (some [])) ∧ StaysD base W1.heap.size C W W₄ := fun jump W₃ st3 => by
          have hl3 := (st3.rest _ (by omega) (by omega) (Array.getElem?_eq_some_iff.1 hl2).1).trans hl2
          have hk3 := (st3.rest _ (by omega) (by omega) (Array.getElem?_eq_some_iff.1 hk2).1).trans hk2
          have hr := run_endRound (P := P) jump hl3
          obtain ⟨W₄, hW₄⟩ : ∃ W₄, W₃.putObj (D + 1) (.loop (rc (if jump.isNone then .ready else .done) jump)) = W₄ := ⟨_, rfl⟩
          have t4 : Tch [D + 1] W₃ W₄ := hW₄ ▸ turn_tch _ _ _
          refine ⟨W₄, ?_, t4, hl3, ?_, ?_, ?_⟩
          · rw [hr, ← hW₄, hrc]
          · rw [← hW₄]; exact World.putObj_heap_same (Array.getElem?_eq_some_iff.1 hl3).1
          · exact (t4.block _ (Array.getElem?_eq_some_iff.1 hk3).1 (by simp)).trans hk3
          · refine ⟨st1.fx.trans (s2.trans (st3.fx.trans (t4.below prot2 (by have := st1.fx.size; have := s2.size; have := st3.fx.size; omega)))), fun k h3 hkC h4 => ?_⟩
            have z5 := st1.fx.size
            have z6 := s2.size
            have z7 := st3.fx.size
            rw [t4.block k (by omega) (by simp; omega), st3.rest k (by omega) hkC (by omega), t2.block k (by omega) (by simp; omega), st1.rest k (by omega) hkC h4]
        intro e₂ a₃ W₃ hp
        cases e₂ with
        | normal =>
          obtain ⟨st3, hi3⟩ := hp
          obtain ⟨W₄, hr, t4, hl3, hl4, hk4, st4⟩ := fin none W₃ st3
          exact ⟨_, W₄, hr, .inl ⟨rfl, by rw [hJ]; exact ⟨hI _ _ _ _ _ hi3 t4 (hturn t4 hl3 rfl), hl4, hk4⟩, st4⟩⟩
        | ret =>
          obtain ⟨st3, hi3⟩ := hp
          obtain ⟨W₄, hr, t4, hl3, hl4, hk4, st4⟩ := fin (some .ret) W₃ st3
          exact ⟨_, W₄, hr, .inr ⟨rfl, by rw [hJx]; exact ⟨_, hIx _ _ _ _ _ _ hi3 t4 (hturn t4 hl3 rfl), hl4, hk4⟩⟩⟩
        | exit id =>
          obtain ⟨st3, hi3⟩ := hp
          obtain ⟨W₄, hr, t4, hl3, hl4, hk4, st4⟩ := fin (some (.exit id)) W₃ st3
          exact ⟨_, W₄, hr, .inr ⟨rfl, by rw [hJx]; exact ⟨_, hIx _ _ _ _ _ _ hi3 t4 (hturn t4 hl3 rfl), hl4, hk4⟩⟩⟩
        | goto t =>
          obtain ⟨st3, hi3⟩ := hp
          obtain ⟨W₄, hr, t4, hl3, hl4, hk4, st4⟩ := fin (some (.goto t)) W₃ st3
          exact ⟨_, W₄, hr, .inr ⟨rfl, by rw [hJx]; exact ⟨_, hIx _ _ _ _ _ _ hi3 t4 (hturn t4 hl3 rfl), hl4, hk4⟩⟩⟩
        | panic ch => exact hp.elim
        | outgrown => exact hp.elim
      | exit id => exact he.elim
      | goto t => exact he.elim
      | ret => exact he.elim
      | panic chain => exact he.elim
      | outgrown => exact he.elim
    · rintro e W2 ⟨⟨v, rfl⟩, (⟨C, xs, hC, hS, hj⟩ | ⟨C, pre, hSp, hj⟩)⟩
      · rw [hJ] at hj
        obtain ⟨hi, hl, hk⟩ := hj
        have t := turn_tch W2 (D + 1) (.loop { rc .ready none with state := .exhausted })
        exact ⟨none, _, by have := run_endLoop (P := P) hl (by rw [hrc]; simp); rw [hrc] at this ⊢; exact this, hdone D xs _ (by omega) hS ⟨C, by omega, hI _ _ _ _ _ hi t (hturn t hl rfl)⟩ ((t.block _ (Array.getElem?_eq_some_iff.1 hk).1 (by simp)).trans hk)⟩
      · rw [hJx] at hj
        obtain ⟨c, hi, hl, hk⟩ := hj
        have t := turn_tch W2 (D + 1) (.loop { rc .done (some c) with state := .exhausted })
        exact ⟨some c, _, by have := run_endLoop (P := P) hl (by rw [hrc]; simp); rw [hrc] at this ⊢; exact this, hstop D c pre _ (by omega) hSp ⟨C, hIx _ _ _ _ _ _ hi t (hturn t hl rfl)⟩ ((t.block _ (Array.getElem?_eq_some_iff.1 hk).1 (by simp)).trans hk)⟩
def markD (D : Nat) : Deferred := { target := .collected D, args := #[] }
theorem leaves_marksD {F : Fence} {n : Nat} {P : Program} {fn : Func} {tmps : Array Value} {R : Ending → World → Prop} : ∀ (Ds : List Nat) (w : World), Ds.Pairwise (· ≠ ·) → (∀ D ∈ Ds, w.heap[D]? = some (.deferred (some []))) →
    (∀ w', Tch Ds w w' → LeavesIn F n P fn tmps R [] .returning w') → LeavesInM F n P fn tmps R (Ds.map markD) .returning w
  | [], w, _, _, h => h w (Tch.refl _ _)
  | D :: Ds, w, hp, hm, h => by
    have hp2 := List.pairwise_cons.1 hp
    have h0 := hm D List.mem_cons_self
    refine ⟨by simp, .inl ⟨D, _, rfl, run_takeDeferred h0, ?_⟩⟩
    have t := Tch.ofGrown (S := [D]) (grownBy_putObj' w D (.deferred none)) (fun g e => .inl (by cases e; simp))
    refine leaves_marksD Ds _ hp2.2 (fun D' hD' => ?_) (fun w' c => h w' ?_)
    · have := hm D' (List.mem_cons_of_mem _ hD')
      exact (t.block D' (Array.getElem?_eq_some_iff.1 this).1 (by simp; exact fun e => hp2.1 D' hD' e.symm)).trans this
    · refine (t.less (S' := D :: Ds) (fun g hg => .inl (by rw [List.mem_singleton] at hg; subst hg; exact List.mem_cons_self))).trans c (fun g hg => .inl (List.mem_cons_of_mem _ hg))
theorem zip_oneD (p : Tmp) (v : Value) (t : Array Value) : (((#[p] : Array Tmp).zip #[v]).foldl (fun t (p, v) => t.setIfInBounds p v) t) = t.setIfInBounds p v := by simp
end Go.Proofs.Ytajkhbdniadkkaa
