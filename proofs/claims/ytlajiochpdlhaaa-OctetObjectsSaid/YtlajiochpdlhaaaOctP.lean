/- The reader's Object. -/
import Derived.Test.YtlajiochpdlhaaaOctJ
import Derived.Deep.MidRow
import Derived.Laws.Rows
import Derived.Deep.DeepCutAuto
namespace Go.Proofs.Ytlajiochpdlhaaa
open Go.RowKit Go.Shelf Go.Lib Go.Sort
open Go.Joins (cell_of_block unfrozen_of_block block_setCell)
set_option linter.unusedVariables false
set_option linter.unusedSimpArgs false
set_option maxRecDepth 20000


def zerO : Ob := ⟨0, ⟨#[]⟩, 0, ⟨0, 0, 0, [], [], [], 0⟩, ⟨⟨#[]⟩, ⟨#[]⟩, 0, 0, 0, 0, [], [], [], 0⟩, ⟨⟨#[]⟩, 0, 0, [], [], 0, false⟩, ⟨0, 0, 0, 0, 0, [], [], 0⟩, ⟨⟨#[]⟩, 0, 0, [], 0, 0, 0, [], 0, 0, [], []⟩⟩
theorem slA_zero {α : Type} (A C O k : Nat) (enc : α → List Value) (w : World) : SlA A C O k enc w (some (.slice none 0 0)) [] := ⟨none, 0, rfl, RowAt.nil _ _ _ _ _ _ _, by simp⟩
theorem obA_zero (A C O : Nat) (w : World) : obA A C O w zerC zerO := by
  refine ⟨rfl, ⟨rfl, rfl, rfl, by decide⟩, ?_, ?_, ?_, ?_, ?_⟩
  · exact ⟨rfl, rfl, rfl, slA_zero _ _ _ _ _ _, slA_zero _ _ _ _ _ _, slA_zero _ _ _ _ _ _, rfl⟩
  · exact ⟨rfl, rfl, rfl, rfl, rfl, rfl, slA_zero _ _ _ _ _ _, slA_zero _ _ _ _ _ _, slA_zero _ _ _ _ _ _, rfl⟩
  · exact ⟨rfl, rfl, rfl, slA_zero _ _ _ _ _ _, slA_zero _ _ _ _ _ _, rfl, rfl⟩
  · exact ⟨rfl, rfl, rfl, rfl, rfl, slA_zero _ _ _ _ _ _, slA_zero _ _ _ _ _ _, rfl⟩
  · exact ⟨rfl, rfl, rfl, slA_zero _ _ _ _ _ _, rfl, rfl, rfl, slA_zero _ _ _ _ _ _, rfl, rfl, slA_zero _ _ _ _ _ _, slA_zero _ _ _ _ _ _⟩
theorem obZ_zero (st : St) : obZ st zerC zerO := by
  refine ⟨?_, ?_, ?_, ?_, ?_⟩
  · exact ⟨fun _ => ⟨rfl, rfl⟩, fun _ => ⟨rfl, rfl⟩, fun _ => ⟨rfl, rfl⟩⟩
  · exact ⟨fun _ => ⟨rfl, rfl⟩, fun _ => ⟨rfl, rfl⟩, fun _ => ⟨rfl, rfl⟩⟩
  · exact ⟨fun _ => ⟨rfl, rfl⟩, fun _ => ⟨rfl, rfl⟩⟩
  · exact ⟨fun _ => ⟨rfl, rfl⟩, fun _ => ⟨rfl, rfl⟩⟩
  · exact ⟨fun _ => ⟨rfl, rfl⟩, fun _ => ⟨rfl, rfl⟩, fun _ => ⟨rfl, rfl⟩, fun _ => ⟨rfl, rfl⟩⟩
theorem slA_one {α : Type} {A C O k : Nat} {enc : α → List Value} {w : World} {v : Option Value} {l : List α} (h : SlA A C O k enc w v l) : ∃ u, v = some u ∧ u.oneCell' = true := by
  obtain ⟨q, c, e, _⟩ := h
  exact ⟨_, e, rfl⟩
theorem obA_one {A C O : Nat} {w : World} {L : Array Value} {x : Ob} (h : obA A C O w L x) : L.all (·.oneCell') = true := by
  obtain ⟨hs, ⟨a0, a1, a2, _⟩, hW, hP, hN, hG, hH⟩ := h
  obtain ⟨a3, a4, a5, a6, a7, a8, a9⟩ := hW
  obtain ⟨a10, a11, a12, a13, a14, a15, a16, a17, a18, a19⟩ := hP
  obtain ⟨a20, a21, a22, a23, a24, a25, a26⟩ := hN
  obtain ⟨a27, a28, a29, a30, a31, a32, a33, a34⟩ := hG
  obtain ⟨a35, a36, a37, a38, a39, a40, a41, a42, a43, a44, a45, a46⟩ := hH
  have each : ∀ i, i < 47 → ∃ u, L[i]? = some u ∧ u.oneCell' = true := by
    intro i hi
    match i, hi with
    | 0, _ => exact ⟨_, a0, rfl⟩
    | 1, _ => exact ⟨_, a1, rfl⟩
    | 2, _ => exact ⟨_, a2, rfl⟩
    | 3, _ => exact ⟨_, a3, rfl⟩
    | 4, _ => exact ⟨_, a4, rfl⟩
    | 5, _ => exact ⟨_, a5, rfl⟩
    | 6, _ => exact slA_one a6
    | 7, _ => exact slA_one a7
    | 8, _ => exact slA_one a8
    | 9, _ => exact ⟨_, a9, rfl⟩
    | 10, _ => exact ⟨_, a10, rfl⟩
    | 11, _ => exact ⟨_, a11, rfl⟩
    | 12, _ => exact ⟨_, a12, rfl⟩
    | 13, _ => exact ⟨_, a13, rfl⟩
    | 14, _ => exact ⟨_, a14, rfl⟩
    | 15, _ => exact ⟨_, a15, rfl⟩
    | 16, _ => exact slA_one a16
    | 17, _ => exact slA_one a17
    | 18, _ => exact slA_one a18
    | 19, _ => exact ⟨_, a19, rfl⟩
    | 20, _ => exact ⟨_, a20, rfl⟩
    | 21, _ => exact ⟨_, a21, rfl⟩
    | 22, _ => exact ⟨_, a22, rfl⟩
    | 23, _ => exact slA_one a23
    | 24, _ => exact slA_one a24
    | 25, _ => exact ⟨_, a25, rfl⟩
    | 26, _ => exact ⟨_, a26, rfl⟩
    | 27, _ => exact ⟨_, a27, rfl⟩
    | 28, _ => exact ⟨_, a28, rfl⟩
    | 29, _ => exact ⟨_, a29, rfl⟩
    | 30, _ => exact ⟨_, a30, rfl⟩
    | 31, _ => exact ⟨_, a31, rfl⟩
    | 32, _ => exact slA_one a32
    | 33, _ => exact slA_one a33
    | 34, _ => exact ⟨_, a34, rfl⟩
    | 35, _ => exact ⟨_, a35, rfl⟩
    | 36, _ => exact ⟨_, a36, rfl⟩
    | 37, _ => exact ⟨_, a37, rfl⟩
    | 38, _ => exact slA_one a38
    | 39, _ => exact ⟨_, a39, rfl⟩
    | 40, _ => exact ⟨_, a40, rfl⟩
    | 41, _ => exact ⟨_, a41, rfl⟩
    | 42, _ => exact slA_one a42
    | 43, _ => exact ⟨_, a43, rfl⟩
    | 44, _ => exact ⟨_, a44, rfl⟩
    | 45, _ => exact slA_one a45
    | 46, _ => exact slA_one a46
    | n + 47, h => omega
  rw [Array.all_eq_true]
  intro i hi
  obtain ⟨u, h1, h2⟩ := each i (by omega)
  rw [Array.getElem?_eq_getElem hi] at h1
  injection h1 with h1
  rw [h1]
  exact h2
theorem setCells_block : ∀ (vs : List Value) (w : World) (b o : Nat) (cs : Array Value) (T : TypeId) (fz : Nat × Nat), w.heap[b]? = some (.cells cs T fz) → (w.setCells b o vs).heap[b]? = some (.cells (setAt cs o vs) T fz)
  | [], w, b, o, cs, T, fz, h => h
  | v :: r, w, b, o, cs, T, fz, h => by
    rw [World.setCells, setAt]
    exact setCells_block r _ b (o + 1) _ T fz (block_setCell h v)
theorem setCells_out : ∀ (vs : List Value) (w : World) (b o k : Nat), k ≠ b → (w.setCells b o vs).heap[k]? = w.heap[k]?
  | [], w, b, o, k, h => rfl
  | v :: r, w, b, o, k, h => by
    rw [World.setCells, setCells_out r _ b (o + 1) k h]
    exact heap_setCell_other _ _ _ _ h
theorem setCells_size : ∀ (vs : List Value) (w : World) (b o : Nat), (w.setCells b o vs).heap.size = w.heap.size
  | [], w, b, o => rfl
  | v :: r, w, b, o => by
    rw [World.setCells, setCells_size r]
    simp [World.setCell]
theorem setCells_rest : ∀ (vs : List Value) (w : World) (b o : Nat), (w.setCells b o vs).os = w.os ∧ (w.setCells b o vs).tape = w.tape ∧ (w.setCells b o vs).output = w.output
  | [], w, b, o => ⟨rfl, rfl, rfl⟩
  | v :: r, w, b, o => by
    rw [World.setCells]
    exact setCells_rest r _ b (o + 1)
theorem setAt_size : ∀ (vs : List Value) (L : Array Value) (i : Nat), (setAt L i vs).size = L.size
  | [], L, i => rfl
  | v :: r, L, i => by rw [setAt, setAt_size r]; simp
theorem setAt_get : ∀ (vs : List Value) (L : Array Value) (i j : Nat), j < vs.length → i + vs.length ≤ L.size → (setAt L i vs)[i + j]? = vs[j]?
  | [], L, i, j, h, _ => by simp at h
  | v :: r, L, i, j, h, hL => by
    rw [setAt]
    simp only [List.length_cons] at h hL
    cases j with
    | zero =>
      show (setAt (L.setIfInBounds i v) (i + 1) r)[i]? = some v
      rw [setAt_lt r _ (i + 1) i (by omega)]
      exact Array.getElem?_setIfInBounds_self_of_lt (by omega)
    | succ j =>
      rw [show i + (j + 1) = (i + 1) + j by omega, setAt_get r _ (i + 1) j (by omega) (by simp; omega)]
      rfl
theorem setAt_full {L L' : Array Value} (h : L.size = L'.size) : setAt L 0 L'.toList = L' := by
  apply Array.ext
  · rw [setAt_size, h]
  · intro j h1 h2
    have := setAt_get L'.toList L 0 j (by simpa using h2) (by simp; omega)
    rw [Nat.zero_add] at this
    rw [Array.getElem?_eq_getElem h1, Array.getElem?_toList, Array.getElem?_eq_getElem h2] at this
    exact Option.some.inj this
/-- What the reader's Object answers. -/
def resO (p : St × Ob) : Ob := if p.1.dead = true then zerO else p.2
theorem info_ob : (Try.prog.info? 66).map (·.size) = some 47 := by kernel_rfl
theorem ob_struct : ∃ fs, Try.prog.underlying 66 = some (.struct fs) := ⟨_, Try.underlying66⟩
theorem slA_v {α : Type} {A C O k : Nat} {enc : α → List Value} {w w' : World} {v : Option Value} {l : List α} (h : SlA A C O k enc w v l) (hs : w.heap.size ≤ w'.heap.size) (e : ∀ b, b < w.heap.size → b + 2 ≠ C → w'.heap[b]? = w.heap[b]?) : SlR k enc w' v l := by
  obtain ⟨q, c, ev, r, _⟩ := h
  refine ⟨q, c, ev, fun j x hj => ?_⟩
  obtain ⟨b, off, eq, hb, _, h2, _, _, hc⟩ := r j x hj
  exact ⟨b, off, eq, Nat.lt_of_lt_of_le hb hs, fun t v hv => (World.cell?_of_block (a := ⟨b, off + j * k + t, none⟩) (e b hb h2.2)).trans (hc t v hv)⟩
theorem obA_v {A C O : Nat} {w w' : World} {L : Array Value} {x : Ob} (h : obA A C O w L x) (hss : w.heap.size ≤ w'.heap.size) (e : ∀ b, b < w.heap.size → b + 2 ≠ C → w'.heap[b]? = w.heap[b]?) : ObjV w' L x := by
  obtain ⟨hs, hd, hW, hP, hN, hG, hH⟩ := h
  obtain ⟨a3, a4, a5, a6, a7, a8, a9⟩ := hW
  obtain ⟨a10, a11, a12, a13, a14, a15, a16, a17, a18, a19⟩ := hP
  obtain ⟨a20, a21, a22, a23, a24, a25, a26⟩ := hN
  obtain ⟨a27, a28, a29, a30, a31, a32, a33, a34⟩ := hG
  obtain ⟨a35, a36, a37, a38, a39, a40, a41, a42, a43, a44, a45, a46⟩ := hH
  exact ⟨hs, hd, ⟨a3, a4, a5, slA_v a6 hss e, slA_v a7 hss e, slA_v a8 hss e, a9⟩, ⟨a10, a11, a12, a13, a14, a15, slA_v a16 hss e, slA_v a17 hss e, slA_v a18 hss e, a19⟩, ⟨a20, a21, a22, slA_v a23 hss e, slA_v a24 hss e, a25, a26⟩, ⟨a27, a28, a29, a30, a31, slA_v a32 hss e, slA_v a33 hss e, a34⟩, ⟨a35, a36, a37, slA_v a38 hss e, a39, a40, a41, slA_v a42 hss e, a43, a44, slA_v a45 hss e, slA_v a46 hss e⟩⟩

/-- What lies below is as it was: behind the reader's Object, on blocks that were new. -/
theorem mv_down {A C O : Nat} {w w1 w2 : World} (g : Gr w w1) (hA : A < w.heap.size) (m : Mv A C O w1 w2) (hC : w.heap.size ≤ C) (hO : w.heap.size ≤ O) : Mv A A A w w2 :=
  ⟨m.os.trans g.below.os, m.tape.trans g.below.tape, m.output.trans g.below.output, Nat.le_trans g.size m.size,
    fun b hb h1 _ _ h4 => (m.blk b (Nat.lt_of_lt_of_le hb g.size) h1 (by omega) (by omega) (fun e => h4 (by rw [← yb_block (g.heap hA)]; exact e))).trans (g.heap hb),
    fun b e => by
      rcases m.core b e with h | h
      · exact .inl (by rw [← yb_block (g.heap hA)]; exact h)
      · exact .inr ⟨Nat.le_trans g.size h.1, h.2⟩⟩

/-- It reads from there. -/
def Rd (ro : Option Addr) (st : St) : Prop := ∃ s, st = .rd ro s
theorem numT_rd {ro : Option Addr} {st : St} (h : Rd ro st) (x : Int) : Rd ro (numT st x).1 := by obtain ⟨s, rfl⟩ := h; exact ⟨_, rfl⟩
theorem numU_rd {ro : Option Addr} {st : St} (h : Rd ro st) (x : Nat) : Rd ro (numU st x).1 := by obtain ⟨s, rfl⟩ := h; exact ⟨_, rfl⟩
theorem txtT_rd {ro : Option Addr} {st : St} (h : Rd ro st) (x : ByteArray) : Rd ro (txtT st x).1 := by obtain ⟨s, rfl⟩ := h; exact ⟨_, rfl⟩
theorem oneT_rd {ro : Option Addr} {st : St} (h : Rd ro st) (x : Int) : Rd ro (oneT st x).1 := by obtain ⟨s, rfl⟩ := h; exact ⟨_, rfl⟩
theorem truT_rd {ro : Option Addr} {st : St} (h : Rd ro st) (x : Bool) : Rd ro (truT st x).1 := by obtain ⟨s, rfl⟩ := h; exact ⟨_, rfl⟩
theorem spoilT_rd {ro : Option Addr} {st : St} (h : Rd ro st) : Rd ro (spoilT st) := by obtain ⟨s, rfl⟩ := h; exact ⟨_, rfl⟩
theorem rowT_rd {α : Type} {tr : St → α → St × α} (ht : Fine tr) {ro : Option Addr} {st : St} (h : Rd ro st) (z : α) (l : List α) : Rd ro (rowT tr z st l).1 := by
  obtain ⟨s, rfl⟩ := h
  exact rdRow_rd ht z ro _ _ _
theorem wlT_rd {ro : Option Addr} {st : St} (h : Rd ro st) (x : Wl) : Rd ro (wlT st x).1 := (numT_rd (rowT_rd fine_L (rowT_rd fine_R (rowT_rd fine_L (numT_rd (numT_rd (numT_rd h _) _) _) _ _) _ _) _ _) _)
theorem pdT_rd {ro : Option Addr} {st : St} (h : Rd ro st) (x : Pd) : Rd ro (pdT st x).1 := (numT_rd (rowT_rd fine_L (rowT_rd fine_R (rowT_rd fine_L (numT_rd (numT_rd (numT_rd (numT_rd (txtT_rd (txtT_rd h _) _) _) _) _) _) _ _) _ _) _ _) _)
theorem ndT_rd {ro : Option Addr} {st : St} (h : Rd ro st) (x : Nd) : Rd ro (ndT st x).1 := (truT_rd (numT_rd (rowT_rd fine_L (rowT_rd fine_L (numT_rd (numT_rd (txtT_rd h _) _) _) _ _) _ _) _) _)
theorem gpT_rd {ro : Option Addr} {st : St} (h : Rd ro st) (x : Gp) : Rd ro (gpT st x).1 := (numT_rd (rowT_rd fine_L (rowT_rd fine_L (numT_rd (numT_rd (numT_rd (numT_rd (numT_rd h _) _) _) _) _) _ _) _ _) _)
theorem hpT_rd {ro : Option Addr} {st : St} (h : Rd ro st) (x : Hp) : Rd ro (hpT st x).1 := (rowT_rd fine_S (rowT_rd fine_P (numT_rd (numT_rd (rowT_rd fine_P (numT_rd (numT_rd (numT_rd (rowT_rd fine_M (numT_rd (numT_rd (txtT_rd h _) _) _) _ _) _) _) _) _ _) _) _) _ _) _ _)
theorem objT_rd {ro : Option Addr} {st : St} (h : Rd ro st) (x : Ob) : Rd ro (objT st x).1 := by
  have h3 : Rd ro (numU (txtT (oneT st x.kind).1 x.name).1 x.ver).1 := numU_rd (txtT_rd (oneT_rd h _) _) _
  unfold objT
  dsimp only
  split
  · exact wlT_rd h3 _
  · split
    · exact pdT_rd h3 _
    · split
      · exact ndT_rd h3 _
      · split
        · exact gpT_rd h3 _
        · split
          · exact hpT_rd h3 _
          · exact spoilT_rd h3
end Go.Proofs.Ytlajiochpdlhaaa
