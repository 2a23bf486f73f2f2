/- The loops both ways at once; one label, one ask, one metric, one policy, one change. -/
import Derived.Test.YtlajiochpdlhaaaOctS
namespace Go.Proofs.Ytlajiochpdlhaaa
open Go.RowKit Go.Shelf Go.Lib Go.Sort
open Go.Joins (cell_of_block unfrozen_of_block block_setCell)
set_option linter.unusedVariables false
set_option maxRecDepth 20000

theorem runF_len {α : Type} {f : St → α → St × α} {m : α → Value} (hf : ∀ st x, (f st x).1.len ≤ st.len + 256) : ∀ (ps : List (Nat × α)) (st : St) (L : Array Value), (runF f m st L ps).1.len ≤ st.len + 256 * ps.length
  | [], st, L => by simp [runF]
  | p :: r, st, L => by
    rw [runF, List.length_cons]
    have h1 := runF_len (m := m) hf r (f st p.2).1 (L.setIfInBounds p.1 (m (f st p.2).2))
    have h2 := hf st p.2
    omega
theorem runF_isR {α : Type} {f : St → α → St × α} {m : α → Value} (hf : ∀ st x, (f st x).1.isR = st.isR) : ∀ (ps : List (Nat × α)) (st : St) (L : Array Value), (runF f m st L ps).1.isR = st.isR
  | [], st, L => by simp [runF]
  | p :: r, st, L => by
    rw [runF, runF_isR hf r]
    exact hf st p.2

theorem numI_any (w : World) (N A C O : Nat) (st : St) (L : Array Value) (T : TypeId) (fz : Nat × Nat) (ps : List (Nat × Int)) (hc : CoreSt N A C st w) (ht : Tg A C O L T fz w) (hf : st.isR = true → fz = (0, 0)) (hv : ∀ p ∈ ps, L[p.1]? = some ((Value.int .i64) p.2)) (hnd : (ps.map (·.1)).Nodup) (hlen : ps.length ≤ 100) (hl : st.len + 256 * ps.length ≤ 1000000000) :
    Calls Try.prog 50 #[ptr C, .slice (some ⟨w.heap.size, 0, none⟩) ps.length ps.length] (w.alloc (.cells (ptrs O ps) 98)) fun e w' => e = .returned (.tuple #[]) ∧ Pst N A C O (runF numT (Value.int .i64) st L ps).1 (runF numT (Value.int .i64) st L ps).2 T fz w w' := by
  cases st with
  | wr lg bs => exact numI_wr w N A C O lg bs L T fz ps hc ht hv hnd hlen hl
  | rd ro s =>
    obtain rfl := hf rfl
    exact numI_rd w N A C O ro s L T ps hc ht hv hnd hlen

theorem numJ_any (w : World) (N A C O : Nat) (st : St) (L : Array Value) (T : TypeId) (fz : Nat × Nat) (ps : List (Nat × Int)) (hc : CoreSt N A C st w) (ht : Tg A C O L T fz w) (hf : st.isR = true → fz = (0, 0)) (hv : ∀ p ∈ ps, L[p.1]? = some ((Value.int .i64) p.2)) (hnd : (ps.map (·.1)).Nodup) (hlen : ps.length ≤ 100) (hl : st.len + 256 * ps.length ≤ 1000000000) :
    Calls Try.prog 56 #[ptr C, .slice (some ⟨w.heap.size, 0, none⟩) ps.length ps.length] (w.alloc (.cells (ptrs O ps) 131)) fun e w' => e = .returned (.tuple #[]) ∧ Pst N A C O (runF numT (Value.int .i64) st L ps).1 (runF numT (Value.int .i64) st L ps).2 T fz w w' := by
  cases st with
  | wr lg bs => exact numJ_wr w N A C O lg bs L T fz ps hc ht hv hnd hlen hl
  | rd ro s =>
    obtain rfl := hf rfl
    exact numJ_rd w N A C O ro s L T ps hc ht hv hnd hlen

theorem numM_any (w : World) (N A C O : Nat) (st : St) (L : Array Value) (T : TypeId) (fz : Nat × Nat) (ps : List (Nat × Int)) (hc : CoreSt N A C st w) (ht : Tg A C O L T fz w) (hf : st.isR = true → fz = (0, 0)) (hv : ∀ p ∈ ps, L[p.1]? = some ((Value.int .i64) p.2)) (hnd : (ps.map (·.1)).Nodup) (hlen : ps.length ≤ 100) (hl : st.len + 256 * ps.length ≤ 1000000000) :
    Calls Try.prog 63 #[ptr C, .slice (some ⟨w.heap.size, 0, none⟩) ps.length ps.length] (w.alloc (.cells (ptrs O ps) 144)) fun e w' => e = .returned (.tuple #[]) ∧ Pst N A C O (runF numT (Value.int .i64) st L ps).1 (runF numT (Value.int .i64) st L ps).2 T fz w w' := by
  cases st with
  | wr lg bs => exact numM_wr w N A C O lg bs L T fz ps hc ht hv hnd hlen hl
  | rd ro s =>
    obtain rfl := hf rfl
    exact numM_rd w N A C O ro s L T ps hc ht hv hnd hlen

theorem numV_any (w : World) (N A C O : Nat) (st : St) (L : Array Value) (T : TypeId) (fz : Nat × Nat) (ps : List (Nat × Nat)) (hc : CoreSt N A C st w) (ht : Tg A C O L T fz w) (hf : st.isR = true → fz = (0, 0)) (hv : ∀ p ∈ ps, L[p.1]? = some ((fun (x : Nat) => Value.int .u64 (x : Int)) p.2)) (hnd : (ps.map (·.1)).Nodup) (hu : ∀ p ∈ ps, p.2 < 18446744073709551616) (hlen : ps.length ≤ 100) (hl : st.len + 256 * ps.length ≤ 1000000000) :
    Calls Try.prog 44 #[ptr C, .slice (some ⟨w.heap.size, 0, none⟩) ps.length ps.length] (w.alloc (.cells (ptrs O ps) 102)) fun e w' => e = .returned (.tuple #[]) ∧ Pst N A C O (runF numU (fun (x : Nat) => Value.int .u64 (x : Int)) st L ps).1 (runF numU (fun (x : Nat) => Value.int .u64 (x : Int)) st L ps).2 T fz w w' := by
  cases st with
  | wr lg bs => exact numV_wr w N A C O lg bs L T fz ps hc ht hv hnd hu hlen hl
  | rd ro s =>
    obtain rfl := hf rfl
    exact numV_rd w N A C O ro s L T ps hc ht hv hnd hlen

theorem txts_any (w : World) (N A C O : Nat) (st : St) (L : Array Value) (T : TypeId) (fz : Nat × Nat) (ps : List (Nat × ByteArray)) (hc : CoreSt N A C st w) (ht : Tg A C O L T fz w) (hf : st.isR = true → fz = (0, 0)) (hv : ∀ p ∈ ps, L[p.1]? = some (Value.string p.2)) (hnd : (ps.map (·.1)).Nodup) (hlen : ps.length ≤ 100) (hl : st.len + 256 * ps.length ≤ 1000000000) :
    Calls Try.prog 43 #[ptr C, .slice (some ⟨w.heap.size, 0, none⟩) ps.length ps.length] (w.alloc (.cells (ptrs O ps) 100)) fun e w' => e = .returned (.tuple #[]) ∧ Pst N A C O (runF txtT Value.string st L ps).1 (runF txtT Value.string st L ps).2 T fz w w' := by
  cases st with
  | wr lg bs => exact txts_wr w N A C O lg bs L T fz ps hc ht hv hnd hlen hl
  | rd ro s =>
    obtain rfl := hf rfl
    exact txts_rd w N A C O ro s L T ps hc ht hv hnd hlen

/-- Cells set one behind the other. -/
def setAt : Array Value → Nat → List Value → Array Value
  | L, _, [] => L
  | L, i, v :: r => setAt (L.setIfInBounds i v) (i + 1) r
theorem setAt_lt : ∀ (vs : List Value) (L : Array Value) (i j : Nat), j < i → (setAt L i vs)[j]? = L[j]?
  | [], L, i, j, h => rfl
  | v :: r, L, i, j, h => by
    rw [setAt, setAt_lt r _ (i + 1) j (by omega), Array.getElem?_setIfInBounds_ne (by omega)]
def labT (st : St) (x : Lab) : St × Lab := ((txtT (txtT st x.1).1 x.2).1, ((txtT st x.1).2, (txtT (txtT st x.1).1 x.2).2))
def reqT (st : St) (x : Req) : St × Req :=
  ((numT (txtT (txtT st x.1).1 x.2.1).1 x.2.2).1, ((txtT st x.1).2, (txtT (txtT st x.1).1 x.2.1).2, (numT (txtT (txtT st x.1).1 x.2.1).1 x.2.2).2))
def metT (st : St) (x : Met) : St × Met :=
  ((numT (txtT (numT st x.1).1 x.2.1).1 x.2.2).1, ((numT st x.1).2, (txtT (numT st x.1).1 x.2.1).2, (numT (txtT (numT st x.1).1 x.2.1).1 x.2.2).2))
def polT (st : St) (x : Pol) : St × Pol :=
  ((numT (numT (truT st x.1).1 x.2.1).1 x.2.2).1, ((truT st x.1).2, (numT (truT st x.1).1 x.2.1).2, (numT (numT (truT st x.1).1 x.2.1).1 x.2.2).2))
def scaT (st : St) (x : Sca) : St × Sca :=
  ((numT (numT (numT st x.1).1 x.2.1).1 x.2.2).1, ((numT st x.1).2, (numT (numT st x.1).1 x.2.1).2, (numT (numT (numT st x.1).1 x.2.1).1 x.2.2).2))
/-- A function that goes through one thing of a row. -/
def ItemOk {α : Type} (k : Nat) (enc : α → List Value) (tr : St → α → St × α) (F : FuncId) : Prop :=
  ∀ (w : World) (N A C O i : Nat) (st : St) (L : Array Value) (T : TypeId) (fz : Nat × Nat) (x : α), CoreSt N A C st w → Tg A C O L T fz w → (st.isR = true → fz = (0, 0)) → (∀ t v, (enc x)[t]? = some v → L[i + t]? = some v) → st.len + 1024 ≤ 1000000000 →
    Calls Try.prog F #[ptr C, .pointer (some ⟨O, i, none⟩)] w fun e w' => e = .returned (.tuple #[]) ∧ Pst N A C O (tr st x).1 (setAt L i (enc (tr st x).2)) T fz w w'

theorem keep_at {L L' : Array Value} {j : Nat} {v : Value} (h : L[j]? = some v) (k : L'[j]? = L[j]?) : L'[j]? = some v := k.trans h

set_option maxHeartbeats 2000000 in
theorem label_item : ItemOk 2 encL labT 53 := by
  intro w N A C O i st L T fz x hc ht hf hx hl
  have mixed : Try.prog.follows .mixedOrders = true := by kernel_rfl
  obtain ⟨x0, x1⟩ := x
  have a0 : L[i]? = some _ := hx 0 _ rfl
  have a1 : L[i + 1]? = some _ := hx 1 _ rfl
  dsimp only at a0 a1
  have P0 : Hid (Pst N A C O st L T fz w w) := Pst.start hc ht
  have HL := Lib.hid (And.intro hf hl)
  clear hx hc ht hf hl
  go_enter Try.func53, Try.ntmps53
  go_wp2_with fail
  have G0 : Hid (Gr w w.drew) := (Gr.refl _).drew
  have CC0 := Lib.hid (txts_any (w.drew) N A C O st L T fz [(i, x0), (i + 1, x1)] (P0.out.gr1 G0.out).1 (P0.out.gr1 G0.out).2.1 HL.out.1 (by intro p hp; simp only [List.mem_cons, List.not_mem_nil, or_false] at hp; rcases hp with rfl | rfl <;> assumption) (by simp) (by simp) (by have := HL.out.2; simp; omega))
  go_region_with (go_at_call 43; refine CC0.out.mono ?_; rintro e w1 ⟨rfl, k0⟩)
  have P1 : Hid (Pst N A C O (runF txtT Value.string st L [(i, x0), (i + 1, x1)]).1 (runF txtT Value.string st L [(i, x0), (i + 1, x1)]).2 T fz w w1) := (P0.out.gr1 G0.out).trans k0
  clear k0
  go_wp2
  go_end0
  refine ⟨rfl, ?_⟩
  have h := P1.out
  exact h

set_option maxHeartbeats 2000000 in
theorem require_item : ItemOk 3 encR reqT 55 := by
  intro w N A C O i st L T fz x hc ht hf hx hl
  have mixed : Try.prog.follows .mixedOrders = true := by kernel_rfl
  obtain ⟨x0, x1, x2⟩ := x
  have a0 : L[i]? = some _ := hx 0 _ rfl
  have a1 : L[i + 1]? = some _ := hx 1 _ rfl
  have a2 : L[i + 2]? = some _ := hx 2 _ rfl
  dsimp only at a0 a1 a2
  have P0 : Hid (Pst N A C O st L T fz w w) := Pst.start hc ht
  have HL := Lib.hid (And.intro hf hl)
  clear hx hc ht hf hl
  go_enter Try.func55, Try.ntmps55
  go_wp2_with fail
  have G0 : Hid (Gr w w.drew) := (Gr.refl _).drew
  have CC0 := Lib.hid (txts_any (w.drew) N A C O st L T fz [(i, x0), (i + 1, x1)] (P0.out.gr1 G0.out).1 (P0.out.gr1 G0.out).2.1 HL.out.1 (by intro p hp; simp only [List.mem_cons, List.not_mem_nil, or_false] at hp; rcases hp with rfl | rfl <;> assumption) (by simp) (by simp) (by have := HL.out.2; simp; omega))
  go_region_with (go_at_call 43; refine CC0.out.mono ?_; rintro e w1 ⟨rfl, k0⟩)
  have P1 : Hid (Pst N A C O (runF txtT Value.string st L [(i, x0), (i + 1, x1)]).1 (runF txtT Value.string st L [(i, x0), (i + 1, x1)]).2 T fz w w1) := (P0.out.gr1 G0.out).trans k0
  clear k0
  have HN1 : Hid ((runF txtT Value.string st L [(i, x0), (i + 1, x1)]).1.len ≤ st.len + 512) := by have q1 := runF_len (m := Value.string) txtT_len [(i, x0), (i + 1, x1)] st L; show _ ≤ _; simp only [List.length_cons, List.length_nil] at q1; omega
  have HR1 : Hid ((runF txtT Value.string st L [(i, x0), (i + 1, x1)]).1.isR = st.isR) := runF_isR txtT_isR _ _ _
  have b2 := keep_at a2 (show (runF txtT Value.string st L [(i, x0), (i + 1, x1)]).2[i + 2]? = L[i + 2]? by (try simp only [runF]); repeat rw [Array.getElem?_setIfInBounds_ne (by omega)])
  clear a2
  have a2 := b2
  clear b2
  obtain ⟨st1, hst1⟩ : ∃ s, s = (runF txtT Value.string st L [(i, x0), (i + 1, x1)]).1 := ⟨_, rfl⟩
  obtain ⟨L1, hL1⟩ : ∃ s, s = (runF txtT Value.string st L [(i, x0), (i + 1, x1)]).2 := ⟨_, rfl⟩
  rw [← hst1, ← hL1] at P1
  rw [← hst1] at HN1 HR1
  rw [← hL1] at a2
  have HE1 := Lib.hid (And.intro hst1 hL1)
  clear hst1 hL1
  go_wp2_with fail
  have CC1 := Lib.hid (numI_any (w1) N A C O st1 L1 T fz [(i + 2, x2)] P1.out.1 P1.out.2.1 (by rw [HR1.out]; exact HL.out.1) (by intro p hp; simp only [List.mem_cons, List.not_mem_nil, or_false] at hp; rcases hp with rfl <;> assumption) (by simp) (by simp) (by have := HN1.out; have := HL.out.2; simp; omega))
  refine CC1.out.mono ?_
  rintro e w2 ⟨rfl, k1⟩
  have P2 : Hid (Pst N A C O (runF numT (Value.int .i64) st1 L1 [(i + 2, x2)]).1 (runF numT (Value.int .i64) st1 L1 [(i + 2, x2)]).2 T fz w w2) := P1.out.trans k1
  clear k1
  go_wp2
  go_end0
  refine ⟨rfl, ?_⟩
  have h := P2.out
  rw [HE1.out.1, HE1.out.2] at h
  exact h

set_option maxHeartbeats 2000000 in
theorem metric_item : ItemOk 3 encM metT 59 := by
  intro w N A C O i st L T fz x hc ht hf hx hl
  have mixed : Try.prog.follows .mixedOrders = true := by kernel_rfl
  obtain ⟨x0, x1, x2⟩ := x
  have a0 : L[i]? = some _ := hx 0 _ rfl
  have a1 : L[i + 1]? = some _ := hx 1 _ rfl
  have a2 : L[i + 2]? = some _ := hx 2 _ rfl
  dsimp only at a0 a1 a2
  have P0 : Hid (Pst N A C O st L T fz w w) := Pst.start hc ht
  have HL := Lib.hid (And.intro hf hl)
  clear hx hc ht hf hl
  go_enter Try.func59, Try.ntmps59
  go_wp2_with fail
  have CC0 := Lib.hid (numI_any (w) N A C O st L T fz [(i, x0)] P0.out.1 P0.out.2.1 HL.out.1 (by intro p hp; simp only [List.mem_cons, List.not_mem_nil, or_false] at hp; rcases hp with rfl <;> assumption) (by simp) (by simp) (by have := HL.out.2; simp; omega))
  refine CC0.out.mono ?_
  rintro e w1 ⟨rfl, k0⟩
  have P1 : Hid (Pst N A C O (runF numT (Value.int .i64) st L [(i, x0)]).1 (runF numT (Value.int .i64) st L [(i, x0)]).2 T fz w w1) := P0.out.trans k0
  clear k0
  have HN1 : Hid ((runF numT (Value.int .i64) st L [(i, x0)]).1.len ≤ st.len + 256) := by have q1 := runF_len (m := (Value.int .i64)) (fun st x => Nat.le_trans (numT_len st x) (by omega)) [(i, x0)] st L; show _ ≤ _; simp only [List.length_cons, List.length_nil] at q1; omega
  have HR1 : Hid ((runF numT (Value.int .i64) st L [(i, x0)]).1.isR = st.isR) := runF_isR numT_isR _ _ _
  have b1 := keep_at a1 (show (runF numT (Value.int .i64) st L [(i, x0)]).2[i + 1]? = L[i + 1]? by (try simp only [runF]); repeat rw [Array.getElem?_setIfInBounds_ne (by omega)])
  clear a1
  have a1 := b1
  clear b1
  have b2 := keep_at a2 (show (runF numT (Value.int .i64) st L [(i, x0)]).2[i + 2]? = L[i + 2]? by (try simp only [runF]); repeat rw [Array.getElem?_setIfInBounds_ne (by omega)])
  clear a2
  have a2 := b2
  clear b2
  obtain ⟨st1, hst1⟩ : ∃ s, s = (runF numT (Value.int .i64) st L [(i, x0)]).1 := ⟨_, rfl⟩
  obtain ⟨L1, hL1⟩ : ∃ s, s = (runF numT (Value.int .i64) st L [(i, x0)]).2 := ⟨_, rfl⟩
  rw [← hst1, ← hL1] at P1
  rw [← hst1] at HN1 HR1
  rw [← hL1] at a1
  rw [← hL1] at a2
  have HE1 := Lib.hid (And.intro hst1 hL1)
  clear hst1 hL1
  go_wp2_with fail
  have CC1 := Lib.hid (txts_any (w1) N A C O st1 L1 T fz [(i + 1, x1)] P1.out.1 P1.out.2.1 (by rw [HR1.out]; exact HL.out.1) (by intro p hp; simp only [List.mem_cons, List.not_mem_nil, or_false] at hp; rcases hp with rfl <;> assumption) (by simp) (by simp) (by have := HN1.out; have := HL.out.2; simp; omega))
  refine CC1.out.mono ?_
  rintro e w2 ⟨rfl, k1⟩
  have P2 : Hid (Pst N A C O (runF txtT Value.string st1 L1 [(i + 1, x1)]).1 (runF txtT Value.string st1 L1 [(i + 1, x1)]).2 T fz w w2) := P1.out.trans k1
  clear k1
  have HN2 : Hid ((runF txtT Value.string st1 L1 [(i + 1, x1)]).1.len ≤ st.len + 512) := by have q1 := runF_len (m := Value.string) txtT_len [(i + 1, x1)] st1 L1; have := HN1.out; show _ ≤ _; simp only [List.length_cons, List.length_nil] at q1; omega
  have HR2 : Hid ((runF txtT Value.string st1 L1 [(i + 1, x1)]).1.isR = st.isR) := (runF_isR txtT_isR _ _ _).trans HR1.out
  have b2 := keep_at a2 (show (runF txtT Value.string st1 L1 [(i + 1, x1)]).2[i + 2]? = L1[i + 2]? by (try simp only [runF]); repeat rw [Array.getElem?_setIfInBounds_ne (by omega)])
  clear a2
  have a2 := b2
  clear b2
  obtain ⟨st2, hst2⟩ : ∃ s, s = (runF txtT Value.string st1 L1 [(i + 1, x1)]).1 := ⟨_, rfl⟩
  obtain ⟨L2, hL2⟩ : ∃ s, s = (runF txtT Value.string st1 L1 [(i + 1, x1)]).2 := ⟨_, rfl⟩
  rw [← hst2, ← hL2] at P2
  rw [← hst2] at HN2 HR2
  rw [← hL2] at a2
  have HE2 := Lib.hid (And.intro hst2 hL2)
  clear hst2 hL2
  go_wp2_with fail
  have CC2 := Lib.hid (numM_any (w2) N A C O st2 L2 T fz [(i + 2, x2)] P2.out.1 P2.out.2.1 (by rw [HR2.out]; exact HL.out.1) (by intro p hp; simp only [List.mem_cons, List.not_mem_nil, or_false] at hp; rcases hp with rfl <;> assumption) (by simp) (by simp) (by have := HN2.out; have := HL.out.2; simp; omega))
  refine CC2.out.mono ?_
  rintro e w3 ⟨rfl, k2⟩
  have P3 : Hid (Pst N A C O (runF numT (Value.int .i64) st2 L2 [(i + 2, x2)]).1 (runF numT (Value.int .i64) st2 L2 [(i + 2, x2)]).2 T fz w w3) := P2.out.trans k2
  clear k2
  go_wp2
  go_end0
  refine ⟨rfl, ?_⟩
  have h := P3.out
  rw [HE2.out.1, HE2.out.2] at h
  rw [HE1.out.1, HE1.out.2] at h
  exact h

set_option maxHeartbeats 2000000 in
theorem policy_item : ItemOk 3 encP polT 65 := by
  intro w N A C O i st L T fz x hc ht hf hx hl
  have mixed : Try.prog.follows .mixedOrders = true := by kernel_rfl
  obtain ⟨x0, x1, x2⟩ := x
  have a0 : L[i]? = some _ := hx 0 _ rfl
  have a1 : L[i + 1]? = some _ := hx 1 _ rfl
  have a2 : L[i + 2]? = some _ := hx 2 _ rfl
  dsimp only at a0 a1 a2
  have P0 : Hid (Pst N A C O st L T fz w w) := Pst.start hc ht
  have HL := Lib.hid (And.intro hf hl)
  clear hx hc ht hf hl
  go_enter Try.func65, Try.ntmps65
  go_wp2_with fail
  refine (truth_any w N A C O i st L T fz x0 P0.out.1 P0.out.2.1 HL.out.1 a0 (by have := HL.out.2; omega)).mono ?_
  rintro e w1 ⟨rfl, k0⟩
  have P1 : Hid (Pst N A C O (truT st x0).1 (L.setIfInBounds i (.bool (truT st x0).2)) T fz w w1) := P0.out.trans k0
  clear k0
  have HN1 : Hid ((truT st x0).1.len ≤ st.len + 256) := by have := truT_len st x0; show _ ≤ _; omega
  have HR1 : Hid ((truT st x0).1.isR = st.isR) := truT_isR _ _
  have b1 := keep_at a1 (show (L.setIfInBounds i (.bool (truT st x0).2))[i + 1]? = L[i + 1]? by (try simp only [runF]); repeat rw [Array.getElem?_setIfInBounds_ne (by omega)])
  clear a1
  have a1 := b1
  clear b1
  have b2 := keep_at a2 (show (L.setIfInBounds i (.bool (truT st x0).2))[i + 2]? = L[i + 2]? by (try simp only [runF]); repeat rw [Array.getElem?_setIfInBounds_ne (by omega)])
  clear a2
  have a2 := b2
  clear b2
  obtain ⟨st1, hst1⟩ : ∃ s, s = (truT st x0).1 := ⟨_, rfl⟩
  obtain ⟨L1, hL1⟩ : ∃ s, s = (L.setIfInBounds i (.bool (truT st x0).2)) := ⟨_, rfl⟩
  rw [← hst1, ← hL1] at P1
  rw [← hst1] at HN1 HR1
  rw [← hL1] at a1
  rw [← hL1] at a2
  have HE1 := Lib.hid (And.intro hst1 hL1)
  clear hst1 hL1
  go_wp2_with fail
  have G1 : Hid (Gr w1 w1.drew) := (Gr.refl _).drew
  have CC1 := Lib.hid (numI_any (w1.drew) N A C O st1 L1 T fz [(i + 1, x1), (i + 2, x2)] (P1.out.gr1 G1.out).1 (P1.out.gr1 G1.out).2.1 (by rw [HR1.out]; exact HL.out.1) (by intro p hp; simp only [List.mem_cons, List.not_mem_nil, or_false] at hp; rcases hp with rfl | rfl <;> assumption) (by simp) (by simp) (by have := HN1.out; have := HL.out.2; simp; omega))
  go_region_with (go_at_call 50; refine CC1.out.mono ?_; rintro e w2 ⟨rfl, k1⟩)
  have P2 : Hid (Pst N A C O (runF numT (Value.int .i64) st1 L1 [(i + 1, x1), (i + 2, x2)]).1 (runF numT (Value.int .i64) st1 L1 [(i + 1, x1), (i + 2, x2)]).2 T fz w w2) := (P1.out.gr1 G1.out).trans k1
  clear k1
  go_wp2
  go_end0
  refine ⟨rfl, ?_⟩
  have h := P2.out
  rw [HE1.out.1, HE1.out.2] at h
  exact h

set_option maxHeartbeats 2000000 in
theorem scaled_item : ItemOk 3 encS scaT 62 := by
  intro w N A C O i st L T fz x hc ht hf hx hl
  have mixed : Try.prog.follows .mixedOrders = true := by kernel_rfl
  obtain ⟨x0, x1, x2⟩ := x
  have a0 : L[i]? = some _ := hx 0 _ rfl
  have a1 : L[i + 1]? = some _ := hx 1 _ rfl
  have a2 : L[i + 2]? = some _ := hx 2 _ rfl
  dsimp only at a0 a1 a2
  have P0 : Hid (Pst N A C O st L T fz w w) := Pst.start hc ht
  have HL := Lib.hid (And.intro hf hl)
  clear hx hc ht hf hl
  go_enter Try.func62, Try.ntmps62
  go_wp2_with fail
  have CC0 := Lib.hid (numJ_any (w) N A C O st L T fz [(i, x0)] P0.out.1 P0.out.2.1 HL.out.1 (by intro p hp; simp only [List.mem_cons, List.not_mem_nil, or_false] at hp; rcases hp with rfl <;> assumption) (by simp) (by simp) (by have := HL.out.2; simp; omega))
  refine CC0.out.mono ?_
  rintro e w1 ⟨rfl, k0⟩
  have P1 : Hid (Pst N A C O (runF numT (Value.int .i64) st L [(i, x0)]).1 (runF numT (Value.int .i64) st L [(i, x0)]).2 T fz w w1) := P0.out.trans k0
  clear k0
  have HN1 : Hid ((runF numT (Value.int .i64) st L [(i, x0)]).1.len ≤ st.len + 256) := by have q1 := runF_len (m := (Value.int .i64)) (fun st x => Nat.le_trans (numT_len st x) (by omega)) [(i, x0)] st L; show _ ≤ _; simp only [List.length_cons, List.length_nil] at q1; omega
  have HR1 : Hid ((runF numT (Value.int .i64) st L [(i, x0)]).1.isR = st.isR) := runF_isR numT_isR _ _ _
  have b1 := keep_at a1 (show (runF numT (Value.int .i64) st L [(i, x0)]).2[i + 1]? = L[i + 1]? by (try simp only [runF]); repeat rw [Array.getElem?_setIfInBounds_ne (by omega)])
  clear a1
  have a1 := b1
  clear b1
  have b2 := keep_at a2 (show (runF numT (Value.int .i64) st L [(i, x0)]).2[i + 2]? = L[i + 2]? by (try simp only [runF]); repeat rw [Array.getElem?_setIfInBounds_ne (by omega)])
  clear a2
  have a2 := b2
  clear b2
  obtain ⟨st1, hst1⟩ : ∃ s, s = (runF numT (Value.int .i64) st L [(i, x0)]).1 := ⟨_, rfl⟩
  obtain ⟨L1, hL1⟩ : ∃ s, s = (runF numT (Value.int .i64) st L [(i, x0)]).2 := ⟨_, rfl⟩
  rw [← hst1, ← hL1] at P1
  rw [← hst1] at HN1 HR1
  rw [← hL1] at a1
  rw [← hL1] at a2
  have HE1 := Lib.hid (And.intro hst1 hL1)
  clear hst1 hL1
  go_wp2_with fail
  have G1 : Hid (Gr w1 w1.drew) := (Gr.refl _).drew
  have CC1 := Lib.hid (numI_any (w1.drew) N A C O st1 L1 T fz [(i + 1, x1), (i + 2, x2)] (P1.out.gr1 G1.out).1 (P1.out.gr1 G1.out).2.1 (by rw [HR1.out]; exact HL.out.1) (by intro p hp; simp only [List.mem_cons, List.not_mem_nil, or_false] at hp; rcases hp with rfl | rfl <;> assumption) (by simp) (by simp) (by have := HN1.out; have := HL.out.2; simp; omega))
  go_region_with (go_at_call 50; refine CC1.out.mono ?_; rintro e w2 ⟨rfl, k1⟩)
  have P2 : Hid (Pst N A C O (runF numT (Value.int .i64) st1 L1 [(i + 1, x1), (i + 2, x2)]).1 (runF numT (Value.int .i64) st1 L1 [(i + 1, x1), (i + 2, x2)]).2 T fz w w2) := (P1.out.gr1 G1.out).trans k1
  clear k1
  go_wp2
  go_end0
  refine ⟨rfl, ?_⟩
  have h := P2.out
  rw [HE1.out.1, HE1.out.2] at h
  exact h
end Go.Proofs.Ytlajiochpdlhaaa
