/- Rows both ways at once; resources and behaviors through the course. -/
import Derived.Test.YtlajiochpdlhaaaOctQL
import Derived.Test.YtlajiochpdlhaaaOctQR
import Derived.Test.YtlajiochpdlhaaaOctQM
import Derived.Test.YtlajiochpdlhaaaOctQP
import Derived.Test.YtlajiochpdlhaaaOctQS
import Derived.Test.YtlajiochpdlhaaaOctO
namespace Go.Proofs.Ytlajiochpdlhaaa
open Go.RowKit Go.Shelf Go.Lib Go.Sort
open Go.Joins (cell_of_block unfrozen_of_block block_setCell)
set_option linter.unusedVariables false
set_option linter.unusedSimpArgs false
set_option maxRecDepth 20000

/-- A cell that holds a row, apart from the course and the fields' block; nil where it is read. -/
def SlA {α : Type} (A C O k : Nat) (enc : α → List Value) (w : World) (v : Option Value) (l : List α) : Prop := ∃ q c, v = some (.slice q l.length c) ∧ RowAt A C O k enc w q l ∧ l.length ≤ 9223372036854775807
def SlZ {α : Type} (st : St) (v : Option Value) (l : List α) : Prop := st.isR = true → v = some (.slice none 0 0) ∧ l = []
theorem SlA.mv {α : Type} {A C O k : Nat} {enc : α → List Value} {w w' : World} {v : Option Value} {l : List α} (h : SlA A C O k enc w v l) (m : Mv A C O w w') : SlA A C O k enc w' v l := by
  obtain ⟨q, c, e, r, z⟩ := h
  exact ⟨q, c, e, r.mv m, z⟩
theorem SlA.sl {α : Type} {A C O k : Nat} {enc : α → List Value} {w : World} {v : Option Value} {l : List α} (h : SlA A C O k enc w v l) : SlR k enc w v l := by
  obtain ⟨q, c, e, r, _⟩ := h
  exact ⟨q, c, e, r.row⟩
theorem rdRow_count {α : Type} {tr : St → α → St × α} (z : α) : ∀ (n : Nat) (st : St) (acc : List α), (rdRow tr z n st acc).2.length ≤ acc.length + n
  | 0, st, acc => by simp [rdRow]
  | n + 1, st, acc => by
    rw [rdRow]
    split
    · simp
    · have := rdRow_count (tr := tr) z n (tr st z).1 (acc ++ [(tr st z).2])
      rw [List.length_append, List.length_singleton] at this
      omega
theorem setIf_get {L : Array Value} {i : Nat} {v u : Value} (h : L[i]? = some v) : (L.setIfInBounds i u)[i]? = some u := by
  obtain ⟨hi, _⟩ := Array.getElem?_eq_some_iff.1 h
  simp [hi]

theorem rowL_any (w : World) (N A C O i : Nat) (st : St) (L : Array Value) (T : TypeId) (fz : Nat × Nat) (l : List Lab) (hc : CoreSt N A C st w) (ht : Tg A C O L T fz w) (hf : st.isR = true → fz = (0, 0)) (hx : SlA A C O 2 encL w L[i]? l) (hz : SlZ st L[i]? l) (hl : st.len + 265000 ≤ 1000000000) :
    Calls Try.prog 52 #[ptr C, .pointer (some ⟨O, i, none⟩), .func (.func 53) #[] #[]] w fun e w' => e = .returned (.tuple #[]) ∧ ∃ u, Pst N A C O (rowT labT (⟨#[]⟩, ⟨#[]⟩) st l).1 (L.setIfInBounds i u) T fz w w' ∧ SlA A C O 2 encL w' (some u) (rowT labT (⟨#[]⟩, ⟨#[]⟩) st l).2 := by
  obtain ⟨q, c, hq, hr, hlm⟩ := hx
  cases st with
  | wr lg bs =>
    refine (rowL_wr w N A C O i lg bs L T fz l q c hc ht hq hr hlm (by simp only [St.len] at hl; omega)).mono ?_
    rintro e w' ⟨rfl, k⟩
    have e2 : (rowT labT (⟨#[]⟩, ⟨#[]⟩) (.wr lg bs) l).2 = l := by
      unfold rowT
      dsimp only
      split <;> rfl
    refine ⟨rfl, .slice q l.length c, by rw [set_same hq]; exact k, q, c, by rw [e2], by rw [e2]; exact hr.mv k.2.2, by rw [e2]; exact hlm⟩
  | rd ro s =>
    obtain rfl := hf rfl
    obtain ⟨h1, rfl⟩ := hz rfl
    refine (rowL_rd w N A C O i ro s L T hc ht h1).mono ?_
    rintro e w' ⟨rfl, q', c', k1, k2⟩
    refine ⟨rfl, _, k1, q', c', rfl, k2, ?_⟩
    have h1 := rdRow_count (tr := labT) (⟨#[]⟩, ⟨#[]⟩) (valU (takeS 1 s)) (.rd ro (dropS 1 s)) []
    have h2 := byte_lt s
    show (rdRow labT (⟨#[]⟩, ⟨#[]⟩) _ _ []).2.length ≤ _
    simp only [List.length_nil] at h1
    omega

theorem rowR_any (w : World) (N A C O i : Nat) (st : St) (L : Array Value) (T : TypeId) (fz : Nat × Nat) (l : List Req) (hc : CoreSt N A C st w) (ht : Tg A C O L T fz w) (hf : st.isR = true → fz = (0, 0)) (hx : SlA A C O 3 encR w L[i]? l) (hz : SlZ st L[i]? l) (hl : st.len + 265000 ≤ 1000000000) :
    Calls Try.prog 54 #[ptr C, .pointer (some ⟨O, i, none⟩), .func (.func 55) #[] #[]] w fun e w' => e = .returned (.tuple #[]) ∧ ∃ u, Pst N A C O (rowT reqT (⟨#[]⟩, ⟨#[]⟩, 0) st l).1 (L.setIfInBounds i u) T fz w w' ∧ SlA A C O 3 encR w' (some u) (rowT reqT (⟨#[]⟩, ⟨#[]⟩, 0) st l).2 := by
  obtain ⟨q, c, hq, hr, hlm⟩ := hx
  cases st with
  | wr lg bs =>
    refine (rowR_wr w N A C O i lg bs L T fz l q c hc ht hq hr hlm (by simp only [St.len] at hl; omega)).mono ?_
    rintro e w' ⟨rfl, k⟩
    have e2 : (rowT reqT (⟨#[]⟩, ⟨#[]⟩, 0) (.wr lg bs) l).2 = l := by
      unfold rowT
      dsimp only
      split <;> rfl
    refine ⟨rfl, .slice q l.length c, by rw [set_same hq]; exact k, q, c, by rw [e2], by rw [e2]; exact hr.mv k.2.2, by rw [e2]; exact hlm⟩
  | rd ro s =>
    obtain rfl := hf rfl
    obtain ⟨h1, rfl⟩ := hz rfl
    refine (rowR_rd w N A C O i ro s L T hc ht h1).mono ?_
    rintro e w' ⟨rfl, q', c', k1, k2⟩
    refine ⟨rfl, _, k1, q', c', rfl, k2, ?_⟩
    have h1 := rdRow_count (tr := reqT) (⟨#[]⟩, ⟨#[]⟩, 0) (valU (takeS 1 s)) (.rd ro (dropS 1 s)) []
    have h2 := byte_lt s
    show (rdRow reqT (⟨#[]⟩, ⟨#[]⟩, 0) _ _ []).2.length ≤ _
    simp only [List.length_nil] at h1
    omega

theorem rowM_any (w : World) (N A C O i : Nat) (st : St) (L : Array Value) (T : TypeId) (fz : Nat × Nat) (l : List Met) (hc : CoreSt N A C st w) (ht : Tg A C O L T fz w) (hf : st.isR = true → fz = (0, 0)) (hx : SlA A C O 3 encM w L[i]? l) (hz : SlZ st L[i]? l) (hl : st.len + 265000 ≤ 1000000000) :
    Calls Try.prog 58 #[ptr C, .pointer (some ⟨O, i, none⟩), .func (.func 59) #[] #[]] w fun e w' => e = .returned (.tuple #[]) ∧ ∃ u, Pst N A C O (rowT metT (0, ⟨#[]⟩, 0) st l).1 (L.setIfInBounds i u) T fz w w' ∧ SlA A C O 3 encM w' (some u) (rowT metT (0, ⟨#[]⟩, 0) st l).2 := by
  obtain ⟨q, c, hq, hr, hlm⟩ := hx
  cases st with
  | wr lg bs =>
    refine (rowM_wr w N A C O i lg bs L T fz l q c hc ht hq hr hlm (by simp only [St.len] at hl; omega)).mono ?_
    rintro e w' ⟨rfl, k⟩
    have e2 : (rowT metT (0, ⟨#[]⟩, 0) (.wr lg bs) l).2 = l := by
      unfold rowT
      dsimp only
      split <;> rfl
    refine ⟨rfl, .slice q l.length c, by rw [set_same hq]; exact k, q, c, by rw [e2], by rw [e2]; exact hr.mv k.2.2, by rw [e2]; exact hlm⟩
  | rd ro s =>
    obtain rfl := hf rfl
    obtain ⟨h1, rfl⟩ := hz rfl
    refine (rowM_rd w N A C O i ro s L T hc ht h1).mono ?_
    rintro e w' ⟨rfl, q', c', k1, k2⟩
    refine ⟨rfl, _, k1, q', c', rfl, k2, ?_⟩
    have h1 := rdRow_count (tr := metT) (0, ⟨#[]⟩, 0) (valU (takeS 1 s)) (.rd ro (dropS 1 s)) []
    have h2 := byte_lt s
    show (rdRow metT (0, ⟨#[]⟩, 0) _ _ []).2.length ≤ _
    simp only [List.length_nil] at h1
    omega

theorem rowP_any (w : World) (N A C O i : Nat) (st : St) (L : Array Value) (T : TypeId) (fz : Nat × Nat) (l : List Pol) (hc : CoreSt N A C st w) (ht : Tg A C O L T fz w) (hf : st.isR = true → fz = (0, 0)) (hx : SlA A C O 3 encP w L[i]? l) (hz : SlZ st L[i]? l) (hl : st.len + 265000 ≤ 1000000000) :
    Calls Try.prog 64 #[ptr C, .pointer (some ⟨O, i, none⟩), .func (.func 65) #[] #[]] w fun e w' => e = .returned (.tuple #[]) ∧ ∃ u, Pst N A C O (rowT polT (false, 0, 0) st l).1 (L.setIfInBounds i u) T fz w w' ∧ SlA A C O 3 encP w' (some u) (rowT polT (false, 0, 0) st l).2 := by
  obtain ⟨q, c, hq, hr, hlm⟩ := hx
  cases st with
  | wr lg bs =>
    refine (rowP_wr w N A C O i lg bs L T fz l q c hc ht hq hr hlm (by simp only [St.len] at hl; omega)).mono ?_
    rintro e w' ⟨rfl, k⟩
    have e2 : (rowT polT (false, 0, 0) (.wr lg bs) l).2 = l := by
      unfold rowT
      dsimp only
      split <;> rfl
    refine ⟨rfl, .slice q l.length c, by rw [set_same hq]; exact k, q, c, by rw [e2], by rw [e2]; exact hr.mv k.2.2, by rw [e2]; exact hlm⟩
  | rd ro s =>
    obtain rfl := hf rfl
    obtain ⟨h1, rfl⟩ := hz rfl
    refine (rowP_rd w N A C O i ro s L T hc ht h1).mono ?_
    rintro e w' ⟨rfl, q', c', k1, k2⟩
    refine ⟨rfl, _, k1, q', c', rfl, k2, ?_⟩
    have h1 := rdRow_count (tr := polT) (false, 0, 0) (valU (takeS 1 s)) (.rd ro (dropS 1 s)) []
    have h2 := byte_lt s
    show (rdRow polT (false, 0, 0) _ _ []).2.length ≤ _
    simp only [List.length_nil] at h1
    omega

theorem rowS_any (w : World) (N A C O i : Nat) (st : St) (L : Array Value) (T : TypeId) (fz : Nat × Nat) (l : List Sca) (hc : CoreSt N A C st w) (ht : Tg A C O L T fz w) (hf : st.isR = true → fz = (0, 0)) (hx : SlA A C O 3 encS w L[i]? l) (hz : SlZ st L[i]? l) (hl : st.len + 265000 ≤ 1000000000) :
    Calls Try.prog 61 #[ptr C, .pointer (some ⟨O, i, none⟩), .func (.func 62) #[] #[]] w fun e w' => e = .returned (.tuple #[]) ∧ ∃ u, Pst N A C O (rowT scaT (0, 0, 0) st l).1 (L.setIfInBounds i u) T fz w w' ∧ SlA A C O 3 encS w' (some u) (rowT scaT (0, 0, 0) st l).2 := by
  obtain ⟨q, c, hq, hr, hlm⟩ := hx
  cases st with
  | wr lg bs =>
    refine (rowS_wr w N A C O i lg bs L T fz l q c hc ht hq hr hlm (by simp only [St.len] at hl; omega)).mono ?_
    rintro e w' ⟨rfl, k⟩
    have e2 : (rowT scaT (0, 0, 0) (.wr lg bs) l).2 = l := by
      unfold rowT
      dsimp only
      split <;> rfl
    refine ⟨rfl, .slice q l.length c, by rw [set_same hq]; exact k, q, c, by rw [e2], by rw [e2]; exact hr.mv k.2.2, by rw [e2]; exact hlm⟩
  | rd ro s =>
    obtain rfl := hf rfl
    obtain ⟨h1, rfl⟩ := hz rfl
    refine (rowS_rd w N A C O i ro s L T hc ht h1).mono ?_
    rintro e w' ⟨rfl, q', c', k1, k2⟩
    refine ⟨rfl, _, k1, q', c', rfl, k2, ?_⟩
    have h1 := rdRow_count (tr := scaT) (0, 0, 0) (valU (takeS 1 s)) (.rd ro (dropS 1 s)) []
    have h2 := byte_lt s
    show (rdRow scaT (0, 0, 0) _ _ []).2.length ≤ _
    simp only [List.length_nil] at h1
    omega

abbrev Rs := Int × Int
def encQ (x : Rs) : List Value := [.int .i64 x.1, .int .i64 x.2]
def resT (st : St) (x : Rs) : St × Rs := ((numT (numT st x.1).1 x.2).1, ((numT st x.1).2, (numT (numT st x.1).1 x.2).2))

set_option maxHeartbeats 2000000 in
theorem resources_item : ItemOk 2 encQ resT 51 := by
  intro w N A C O i st L T fz x hc ht hf hx hl
  have mixed : Try.prog.follows .mixedOrders = true := by kernel_rfl
  obtain ⟨x0, x1⟩ := x
  have a0 : L[i]? = some _ := hx 0 _ rfl
  have a1 : L[i + 1]? = some _ := hx 1 _ rfl
  dsimp only at a0 a1
  have P0 : Hid (Pst N A C O st L T fz w w) := Pst.start hc ht
  have HL := Lib.hid (And.intro hf hl)
  clear hx hc ht hf hl
  go_enter Try.func51, Try.ntmps51
  go_wp2_with fail
  have G0 : Hid (Gr w w.drew) := (Gr.refl _).drew
  have CC0 := Lib.hid (numM_any (w.drew) N A C O st L T fz [(i, x0), (i + 1, x1)] (P0.out.gr1 G0.out).1 (P0.out.gr1 G0.out).2.1 HL.out.1 (by intro p hp; simp only [List.mem_cons, List.not_mem_nil, or_false] at hp; rcases hp with rfl | rfl <;> assumption) (by simp) (by simp) (by have := HL.out.2; simp; omega))
  go_region_with (go_at_call 63; refine CC0.out.mono ?_; rintro e w1 ⟨rfl, k0⟩)
  have P1 : Hid (Pst N A C O (runF numT (Value.int .i64) st L [(i, x0), (i + 1, x1)]).1 (runF numT (Value.int .i64) st L [(i, x0), (i + 1, x1)]).2 T fz w w1) := (P0.out.gr1 G0.out).trans k0
  clear k0
  go_wp2
  go_end0
  refine ⟨rfl, ?_⟩
  have h := P1.out
  exact h

def zP : Pol := (false, 0, 0)
set_option maxHeartbeats 2000000 in
theorem behavior_any (w : World) (N A C O i : Nat) (st : St) (L : Array Value) (T : TypeId) (fz : Nat × Nat) (a b : Int) (l : List Pol) (hc : CoreSt N A C st w) (ht : Tg A C O L T fz w) (hf : st.isR = true → fz = (0, 0)) (ha : L[i]? = some (.int .i64 a)) (hb : L[i + 1]? = some (.int .i64 b)) (hx : SlA A C O 3 encP w L[i + 2]? l) (hz : SlZ st L[i + 2]? l) (hl : st.len + 266000 ≤ 1000000000) :
    Calls Try.prog 60 #[ptr C, .pointer (some ⟨O, i, none⟩)] w fun e w' => e = .returned (.tuple #[]) ∧ ∃ u,
      Pst N A C O (rowT polT zP (numT (numT st a).1 b).1 l).1 (((L.setIfInBounds i (.int .i64 (numT st a).2)).setIfInBounds (i + 1) (.int .i64 (numT (numT st a).1 b).2)).setIfInBounds (i + 2) u) T fz w w' ∧ SlA A C O 3 encP w' (some u) (rowT polT zP (numT (numT st a).1 b).1 l).2 := by
  have mixed : Try.prog.follows .mixedOrders = true := by kernel_rfl
  have P0 : Hid (Pst N A C O st L T fz w w) := Pst.start hc ht
  have G0 : Hid (Gr w w.drew) := (Gr.refl w).drew
  have CC := Lib.hid (numI_any w.drew N A C O st L T fz [(i, a), (i + 1, b)] (P0.out.gr1 G0.out).1 (P0.out.gr1 G0.out).2.1 hf (by intro p hp; simp only [List.mem_cons, List.not_mem_nil, or_false] at hp; rcases hp with rfl | rfl <;> assumption) (by simp) (by simp) (by simp; omega))
  have h1 : (numT (numT st a).1 b).1.len ≤ st.len + 16 := by have q1 := numT_len st a; have q2 := numT_len (numT st a).1 b; omega
  have h2 : (numT (numT st a).1 b).1.isR = st.isR := by rw [numT_isR, numT_isR]
  have h3 : ((L.setIfInBounds i (.int .i64 (numT st a).2)).setIfInBounds (i + 1) (.int .i64 (numT (numT st a).1 b).2))[i + 2]? = L[i + 2]? := by rw [Array.getElem?_setIfInBounds_ne (by omega), Array.getElem?_setIfInBounds_ne (by omega)]
  have HX := Lib.hid hx
  have HH := Lib.hid (And.intro hf (And.intro hz (And.intro hl (And.intro h1 (And.intro h2 h3)))))
  clear hc ht hf ha hb hx hz hl h1 h2 h3
  go_enter Try.func60, Try.ntmps60
  go_wp2_with fail
  go_region_with (go_at_call 50; refine CC.out.mono ?_; rintro e w1 ⟨rfl, k0⟩)
  have P1 : Hid (Pst N A C O (numT (numT st a).1 b).1 ((L.setIfInBounds i (.int .i64 (numT st a).2)).setIfInBounds (i + 1) (.int .i64 (numT (numT st a).1 b).2)) T fz w w1) := (P0.out.gr1 G0.out).trans k0
  clear k0 CC
  obtain ⟨hf, hz, hl, h1, h2, h3⟩ := HH.out
  have RC := Lib.hid (rowP_any w1 N A C O (i + 2) (numT (numT st a).1 b).1 ((L.setIfInBounds i (.int .i64 (numT st a).2)).setIfInBounds (i + 1) (.int .i64 (numT (numT st a).1 b).2)) T fz l P1.out.1 P1.out.2.1 (fun h => hf (by rw [← h2]; exact h)) (by rw [h3]; exact HX.out.mv P1.out.2.2) (by rw [h3]; exact fun h => hz (by rw [← h2]; exact h)) (by omega))
  clear hf hz hl h1 h2 h3
  go_wp2_with fail
  refine RC.out.mono ?_
  rintro e w2 ⟨rfl, u, k1, k2⟩
  have P2 := Lib.hid (And.intro (P1.out.trans k1) k2)
  clear k1 k2 RC
  go_wp2
  go_end0
  exact ⟨rfl, u, P2.out⟩
end Go.Proofs.Ytlajiochpdlhaaa
