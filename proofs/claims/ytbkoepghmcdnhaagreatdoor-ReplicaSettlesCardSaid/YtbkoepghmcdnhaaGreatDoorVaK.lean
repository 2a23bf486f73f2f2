/- Rows put into new memory: the program's renew. -/
import Derived.Test.YtbkoepghmcdnhaaGreatDoorObOwn
import Derived.StillTailTactics
namespace Go.Proofs.YtbkoepghmcdnhaaGreatDoor
open Go.RowKit Go.Shelf Go.Lib Go.Sort
open Go.Joins (cell_of_block unfrozen_of_block block_setCell)
set_option linter.unusedVariables false
set_option linter.unusedSimpArgs false
set_option maxRecDepth 20000

/-- The pointers' block. -/
abbrev ptrs (O : Nat) (ps : List Nat) : Array Value := (ps.map fun p => Value.pointer (some ⟨O, p, none⟩)).toArray
theorem ptrs_at {O : Nat} {ps : List Nat} {j p : Nat} (h : ps[j]? = some p) : (ptrs O ps)[j]? = some (.pointer (some ⟨O, p, none⟩)) := by simp [ptrs, h]
/-- The cell of a row that is to be renewed. -/
def RowAt {α : Type} (k bytes : Nat) (enc : α → List Value) (w0 : World) (L : Array Value) (o : Nat) (l : List α) : Prop :=
  o < L.size ∧ (∃ q c, L[o]? = some (.slice q l.length c) ∧ RowR k enc w0 q l ∧ (q = none → c = 0)) ∧ l.length * bytes ≤ 140737488355328 ∧ l.length ≤ 9223372036854775807
/-- What renewing leaves. -/
def Renewed {α : Type} (k : Nat) (enc : α → List Value) (E : TypeId) (N B : Nat) (L : Array Value) (offs : List Nat) (rows : List (List α)) (n : Nat) (w : World) (TO : TypeId) : Prop :=
  ∃ L' : Array Value, w.heap[B]? = some (.cells L' TO (0, 0)) ∧ L'.size = L.size ∧ (∀ i, i ∉ offs.take n → L'[i]? = L[i]?) ∧
    ∀ (j o : Nat) (l : List α), j < n → offs[j]? = some o → rows[j]? = some l → ∃ v, L'[o]? = some v ∧ w.ownsRow N E k v l.length (flat enc l)
theorem not_taken {offs : List Nat} {j o : Nat} (hnd : offs.Nodup) (h : offs[j]? = some o) : o ∉ offs.take j := by
  intro hm
  obtain ⟨i, hi⟩ := List.getElem?_of_mem hm
  have hij : i < j := by
    have := (List.getElem?_eq_some_iff.1 hi).1
    rw [List.length_take] at this
    omega
  rw [List.getElem?_take_of_lt hij] at hi
  have h1 := List.getElem?_eq_some_iff.1 hi
  have h2 := List.getElem?_eq_some_iff.1 h
  have := (List.getElem_inj (h₀ := h1.1) (h₁ := h2.1) hnd).1 (h1.2.trans h2.2.symm)
  omega

theorem infoL : (Tryz.prog.info? 101).map (fun i => (i.zero, i.size, i.bytes)) = some (some (.agg #[.string ByteArray.empty, .string ByteArray.empty]), 2, 32) := by kernel_rfl
set_option maxHeartbeats 4000000 in
theorem renewL (w0 w : World) (P B : Nat) (offs : List Nat) (rows : List (List Lab)) (L : Array Value) (TP TO : TypeId) (h0 : w0.heap.size ≤ B) (hw0 : Below w0.heap.size w0 w) (hP : w.heap[P]? = some (.cells (ptrs B offs) TP (0, 0))) (hB : w.heap[B]? = some (.cells L TO (0, 0))) (hne : P ≠ B) (hnd : offs.Nodup) (hlen : offs.length ≤ 100)
    (hrow : ∀ (j o : Nat), offs[j]? = some o → ∃ l, rows[j]? = some l ∧ RowAt 2 32 encL w0 L o l) :
    Calls Tryz.prog 35 #[.slice (some ⟨P, 0, none⟩) offs.length offs.length] w fun e w' => e = .returned (.tuple #[]) ∧ Renewed 2 encL 101 w.heap.size B L offs rows offs.length w' TO ∧ Xb B w w' := by
  have mixed : Tryz.prog.follows .mixedOrders = true := by kernel_rfl
  have hlt : B < w.heap.size := (Array.getElem?_eq_some_iff.1 hB).1
  have hPlt : P < w.heap.size := (Array.getElem?_eq_some_iff.1 hP).1
  have HP : Hid (∀ wr, Xb B w wr → wr.heap[P]? = some (.cells (ptrs B offs) TP (0, 0))) := fun wr h => (h.block P hPlt hne).trans hP
  have HR : Hid (∀ wr, Xb B w wr → ∀ (q : Option Addr) (l : List Lab), RowR 2 encL w0 q l → RowR 2 encL wr q l) := fun wr h q l r => r.below (hw0.trans (h.below h0 (by have := hw0.size; omega)))
  have HROW := Lib.hid hrow
  have HND := Lib.hid hnd
  have H0 : Hid (Renewed 2 encL 101 w.heap.size B L offs rows 0 w TO) := ⟨L, hB, rfl, fun i _ => rfl, fun j o l hj => absurd hj (Nat.not_lt_zero _)⟩
  have HLT := Lib.hid hlt
  clear h0 hw0 hP hB hne hnd hrow hlt hPlt
  go_enter Tryz.func35, Tryz.ntmps35
  go_wp2_with fail
  go_loopg [6] offs.length (fun g vi wr => ∃ j : Nat, j ≤ offs.length ∧ offs.length - j ≤ g ∧ vi = .int .i64 (j : Int) ∧ Hid (Renewed 2 encL 101 w.heap.size B L offs rows j wr TO) ∧ Hid (Xb B w wr))
  case atStart => exact ⟨0, Nat.zero_le _, by omega, rfl, H0.out, Xb.refl _ _⟩
  case round =>
    obtain ⟨j, hj, hg, rfl, HN, HX⟩ := hrel
    by_cases hlt : j < offs.length
    · obtain ⟨i, hi⟩ : ∃ i, offs[j]? = some i := ⟨offs[j], List.getElem?_eq_getElem hlt⟩
      have d1 : wr.cell? ⟨P, j, none⟩ = some (.pointer (some ⟨B, i, none⟩)) := by rw [cell_of_block (HP.out wr HX.out)]; exact ptrs_at hi
      obtain ⟨L', hB', hsz, hout, hin⟩ := HN.out
      obtain ⟨l, hl, hil, ⟨q, c, hq, hr, hqn⟩, hby, hmx⟩ := HROW.out j i hi
      have hnt := not_taken HND.out hi
      have d2 : wr.cell? ⟨B, i, none⟩ = some (.slice q l.length c) := by rw [cell_of_block hB', hout i hnt]; exact hq
      have RR := Lib.hid (HR.out wr HX.out q l hr)
      have HLL := Lib.hid (And.intro hB' (And.intro hsz (And.intro hout hin)))
      have HQ := Lib.hid (And.intro hqn (And.intro hby hmx))
      have HI := Lib.hid (And.intro hi (And.intro hl hil))
      clear hi hB' hsz hout hin hl hil hq hr hqn hby hmx hnt HN
      go_wp2_with (at_builtin; refine wpList_append_new (enc := encL) (k := 2) (bytes := 32) rfl _ _ 33 101 rfl Tryz.underlying33 infoL rfl (by decide) lenL oneL (by rfl) q c l (by rfl) RR.out HQ.out.1 HQ.out.2.1 HQ.out.2.2 ?_; intro v' w2 ho hb2; obtain ⟨q', c', hv', _⟩ := own_lies lenL ho; subst hv'; have hbk2 : w2.heap[B]? = some (.cells L' TO (0, 0)) := (hb2.block B (Nat.lt_of_lt_of_le HLT.out HX.out.size)).trans HLL.out.1; have e2 : w2.cell? ⟨B, i, none⟩ = some (.slice q l.length c) := ((World.cell?_of_block (a := ⟨B, i, none⟩) (hb2.block B (Nat.lt_of_lt_of_le HLT.out HX.out.size))).trans d2); have u2 := unfrozen_of_block hbk2 i; have HO := Lib.hid (And.intro ho (And.intro hb2 hbk2)); clear ho hb2 hbk2 d1 d2)
      have X3 : Hid (Xb B w (w2.setCell ⟨B, i, none⟩ (.slice q' l.length c'))) := (HX.out.trans (Xb.ofBelow HO.out.2.1 B)).setCell i _
      have N3 : Hid (Renewed 2 encL 101 w.heap.size B L offs rows (j + 1) (w2.setCell ⟨B, i, none⟩ (.slice q' l.length c')) TO) := by
        obtain ⟨hB', hsz, hout, hin⟩ := HLL.out
        obtain ⟨ho, hb2, hbk2⟩ := HO.out
        obtain ⟨hi, hl, hil⟩ := HI.out
        refine ⟨L'.setIfInBounds i (.slice q' l.length c'), by rw [block_setCell hbk2], by simp [hsz], fun t ht => ?_, fun j' o' l' hj' ho' hl' => ?_⟩
        · have hti : i ≠ t := by
            rintro rfl
            exact ht (List.mem_of_getElem? (i := j) (by rw [List.getElem?_take_of_lt (by omega)]; exact hi))
          rw [Array.getElem?_setIfInBounds_ne hti]
          exact hout t (fun hm => ht (by rw [List.take_add_one]; exact List.mem_append_left _ hm))
        · have stays : ∀ {v : Value} {m : List Lab}, wr.ownsRow w.heap.size 101 2 v m.length (flat encL m) → (w2.setCell ⟨B, i, none⟩ (.slice q' l.length c')).ownsRow w.heap.size 101 2 v m.length (flat encL m) := fun h => own_stays h fun g h1 h2 => by
            rw [Below.heap_setCell _ _ _ _ (by show g ≠ B; have := HLT.out; omega)]
            exact hb2.block g h2
          by_cases e : j' = j
          · subst e
            rw [hi] at ho'
            rw [hl] at hl'
            cases ho'
            cases hl'
            refine ⟨_, by rw [Array.getElem?_setIfInBounds_self_of_lt (by omega)], own_mono (own_stays ho fun g h1 h2 => ?_) HX.out.size⟩
            rw [Below.heap_setCell _ _ _ _ (by show g ≠ B; have := HLT.out; have := HX.out.size; omega)]
          · obtain ⟨v, hv, hown⟩ := hin j' o' l' (by omega) ho' hl'
            refine ⟨v, ?_, stays hown⟩
            have hne : i ≠ o' := by
              rintro rfl
              exact not_taken HND.out hi (List.mem_of_getElem? (i := j') (by rw [List.getElem?_take_of_lt (by omega)]; exact ho'))
            rw [Array.getElem?_setIfInBounds_ne hne]
            exact hv
      clear HLL HO HI e2 u2
      generalize w2.setCell ⟨B, i, none⟩ (.slice q' l.length c') = w3 at *
      go_roundg (offs.length - (j + 1))
      case measure => omega
      case rel => exact ⟨j + 1, hlt, Nat.le_refl _, by go_num, N3.out, X3.out⟩
    · obtain rfl : j = offs.length := by omega
      go_wp2
      go_end0
      exact ⟨rfl, HN.out, HX.out⟩

theorem infoR : (Tryz.prog.info? 105).map (fun i => (i.zero, i.size, i.bytes)) = some (some (.agg #[.string ByteArray.empty, .string ByteArray.empty, .int .i64 0]), 3, 40) := by kernel_rfl
set_option maxHeartbeats 4000000 in
theorem renewR (w0 w : World) (P B : Nat) (offs : List Nat) (rows : List (List Req)) (L : Array Value) (TP TO : TypeId) (h0 : w0.heap.size ≤ B) (hw0 : Below w0.heap.size w0 w) (hP : w.heap[P]? = some (.cells (ptrs B offs) TP (0, 0))) (hB : w.heap[B]? = some (.cells L TO (0, 0))) (hne : P ≠ B) (hnd : offs.Nodup) (hlen : offs.length ≤ 100)
    (hrow : ∀ (j o : Nat), offs[j]? = some o → ∃ l, rows[j]? = some l ∧ RowAt 3 40 encR w0 L o l) :
    Calls Tryz.prog 36 #[.slice (some ⟨P, 0, none⟩) offs.length offs.length] w fun e w' => e = .returned (.tuple #[]) ∧ Renewed 3 encR 105 w.heap.size B L offs rows offs.length w' TO ∧ Xb B w w' := by
  have mixed : Tryz.prog.follows .mixedOrders = true := by kernel_rfl
  have hlt : B < w.heap.size := (Array.getElem?_eq_some_iff.1 hB).1
  have hPlt : P < w.heap.size := (Array.getElem?_eq_some_iff.1 hP).1
  have HP : Hid (∀ wr, Xb B w wr → wr.heap[P]? = some (.cells (ptrs B offs) TP (0, 0))) := fun wr h => (h.block P hPlt hne).trans hP
  have HR : Hid (∀ wr, Xb B w wr → ∀ (q : Option Addr) (l : List Req), RowR 3 encR w0 q l → RowR 3 encR wr q l) := fun wr h q l r => r.below (hw0.trans (h.below h0 (by have := hw0.size; omega)))
  have HROW := Lib.hid hrow
  have HND := Lib.hid hnd
  have H0 : Hid (Renewed 3 encR 105 w.heap.size B L offs rows 0 w TO) := ⟨L, hB, rfl, fun i _ => rfl, fun j o l hj => absurd hj (Nat.not_lt_zero _)⟩
  have HLT := Lib.hid hlt
  clear h0 hw0 hP hB hne hnd hrow hlt hPlt
  go_enter Tryz.func36, Tryz.ntmps36
  go_wp2_with fail
  go_loopg [6] offs.length (fun g vi wr => ∃ j : Nat, j ≤ offs.length ∧ offs.length - j ≤ g ∧ vi = .int .i64 (j : Int) ∧ Hid (Renewed 3 encR 105 w.heap.size B L offs rows j wr TO) ∧ Hid (Xb B w wr))
  case atStart => exact ⟨0, Nat.zero_le _, by omega, rfl, H0.out, Xb.refl _ _⟩
  case round =>
    obtain ⟨j, hj, hg, rfl, HN, HX⟩ := hrel
    by_cases hlt : j < offs.length
    · obtain ⟨i, hi⟩ : ∃ i, offs[j]? = some i := ⟨offs[j], List.getElem?_eq_getElem hlt⟩
      have d1 : wr.cell? ⟨P, j, none⟩ = some (.pointer (some ⟨B, i, none⟩)) := by rw [cell_of_block (HP.out wr HX.out)]; exact ptrs_at hi
      obtain ⟨L', hB', hsz, hout, hin⟩ := HN.out
      obtain ⟨l, hl, hil, ⟨q, c, hq, hr, hqn⟩, hby, hmx⟩ := HROW.out j i hi
      have hnt := not_taken HND.out hi
      have d2 : wr.cell? ⟨B, i, none⟩ = some (.slice q l.length c) := by rw [cell_of_block hB', hout i hnt]; exact hq
      have RR := Lib.hid (HR.out wr HX.out q l hr)
      have HLL := Lib.hid (And.intro hB' (And.intro hsz (And.intro hout hin)))
      have HQ := Lib.hid (And.intro hqn (And.intro hby hmx))
      have HI := Lib.hid (And.intro hi (And.intro hl hil))
      clear hi hB' hsz hout hin hl hil hq hr hqn hby hmx hnt HN
      go_wp2_with (at_builtin; refine wpList_append_new (enc := encR) (k := 3) (bytes := 40) rfl _ _ 34 105 rfl Tryz.underlying34 infoR rfl (by decide) lenR oneR (by rfl) q c l (by rfl) RR.out HQ.out.1 HQ.out.2.1 HQ.out.2.2 ?_; intro v' w2 ho hb2; obtain ⟨q', c', hv', _⟩ := own_lies lenR ho; subst hv'; have hbk2 : w2.heap[B]? = some (.cells L' TO (0, 0)) := (hb2.block B (Nat.lt_of_lt_of_le HLT.out HX.out.size)).trans HLL.out.1; have e2 : w2.cell? ⟨B, i, none⟩ = some (.slice q l.length c) := ((World.cell?_of_block (a := ⟨B, i, none⟩) (hb2.block B (Nat.lt_of_lt_of_le HLT.out HX.out.size))).trans d2); have u2 := unfrozen_of_block hbk2 i; have HO := Lib.hid (And.intro ho (And.intro hb2 hbk2)); clear ho hb2 hbk2 d1 d2)
      have X3 : Hid (Xb B w (w2.setCell ⟨B, i, none⟩ (.slice q' l.length c'))) := (HX.out.trans (Xb.ofBelow HO.out.2.1 B)).setCell i _
      have N3 : Hid (Renewed 3 encR 105 w.heap.size B L offs rows (j + 1) (w2.setCell ⟨B, i, none⟩ (.slice q' l.length c')) TO) := by
        obtain ⟨hB', hsz, hout, hin⟩ := HLL.out
        obtain ⟨ho, hb2, hbk2⟩ := HO.out
        obtain ⟨hi, hl, hil⟩ := HI.out
        refine ⟨L'.setIfInBounds i (.slice q' l.length c'), by rw [block_setCell hbk2], by simp [hsz], fun t ht => ?_, fun j' o' l' hj' ho' hl' => ?_⟩
        · have hti : i ≠ t := by
            rintro rfl
            exact ht (List.mem_of_getElem? (i := j) (by rw [List.getElem?_take_of_lt (by omega)]; exact hi))
          rw [Array.getElem?_setIfInBounds_ne hti]
          exact hout t (fun hm => ht (by rw [List.take_add_one]; exact List.mem_append_left _ hm))
        · have stays : ∀ {v : Value} {m : List Req}, wr.ownsRow w.heap.size 105 3 v m.length (flat encR m) → (w2.setCell ⟨B, i, none⟩ (.slice q' l.length c')).ownsRow w.heap.size 105 3 v m.length (flat encR m) := fun h => own_stays h fun g h1 h2 => by
            rw [Below.heap_setCell _ _ _ _ (by show g ≠ B; have := HLT.out; omega)]
            exact hb2.block g h2
          by_cases e : j' = j
          · subst e
            rw [hi] at ho'
            rw [hl] at hl'
            cases ho'
            cases hl'
            refine ⟨_, by rw [Array.getElem?_setIfInBounds_self_of_lt (by omega)], own_mono (own_stays ho fun g h1 h2 => ?_) HX.out.size⟩
            rw [Below.heap_setCell _ _ _ _ (by show g ≠ B; have := HLT.out; have := HX.out.size; omega)]
          · obtain ⟨v, hv, hown⟩ := hin j' o' l' (by omega) ho' hl'
            refine ⟨v, ?_, stays hown⟩
            have hne : i ≠ o' := by
              rintro rfl
              exact not_taken HND.out hi (List.mem_of_getElem? (i := j') (by rw [List.getElem?_take_of_lt (by omega)]; exact ho'))
            rw [Array.getElem?_setIfInBounds_ne hne]
            exact hv
      clear HLL HO HI e2 u2
      generalize w2.setCell ⟨B, i, none⟩ (.slice q' l.length c') = w3 at *
      go_roundg (offs.length - (j + 1))
      case measure => omega
      case rel => exact ⟨j + 1, hlt, Nat.le_refl _, by go_num, N3.out, X3.out⟩
    · obtain rfl : j = offs.length := by omega
      go_wp2
      go_end0
      exact ⟨rfl, HN.out, HX.out⟩

theorem infoM : (Tryz.prog.info? 131).map (fun i => (i.zero, i.size, i.bytes)) = some (some (.agg #[.int .i64 0, .string ByteArray.empty, .int .i64 0]), 3, 32) := by kernel_rfl
set_option maxHeartbeats 4000000 in
theorem renewM (w0 w : World) (P B : Nat) (offs : List Nat) (rows : List (List Met)) (L : Array Value) (TP TO : TypeId) (h0 : w0.heap.size ≤ B) (hw0 : Below w0.heap.size w0 w) (hP : w.heap[P]? = some (.cells (ptrs B offs) TP (0, 0))) (hB : w.heap[B]? = some (.cells L TO (0, 0))) (hne : P ≠ B) (hnd : offs.Nodup) (hlen : offs.length ≤ 100)
    (hrow : ∀ (j o : Nat), offs[j]? = some o → ∃ l, rows[j]? = some l ∧ RowAt 3 32 encM w0 L o l) :
    Calls Tryz.prog 54 #[.slice (some ⟨P, 0, none⟩) offs.length offs.length] w fun e w' => e = .returned (.tuple #[]) ∧ Renewed 3 encM 131 w.heap.size B L offs rows offs.length w' TO ∧ Xb B w w' := by
  have mixed : Tryz.prog.follows .mixedOrders = true := by kernel_rfl
  have hlt : B < w.heap.size := (Array.getElem?_eq_some_iff.1 hB).1
  have hPlt : P < w.heap.size := (Array.getElem?_eq_some_iff.1 hP).1
  have HP : Hid (∀ wr, Xb B w wr → wr.heap[P]? = some (.cells (ptrs B offs) TP (0, 0))) := fun wr h => (h.block P hPlt hne).trans hP
  have HR : Hid (∀ wr, Xb B w wr → ∀ (q : Option Addr) (l : List Met), RowR 3 encM w0 q l → RowR 3 encM wr q l) := fun wr h q l r => r.below (hw0.trans (h.below h0 (by have := hw0.size; omega)))
  have HROW := Lib.hid hrow
  have HND := Lib.hid hnd
  have H0 : Hid (Renewed 3 encM 131 w.heap.size B L offs rows 0 w TO) := ⟨L, hB, rfl, fun i _ => rfl, fun j o l hj => absurd hj (Nat.not_lt_zero _)⟩
  have HLT := Lib.hid hlt
  clear h0 hw0 hP hB hne hnd hrow hlt hPlt
  go_enter Tryz.func54, Tryz.ntmps54
  go_wp2_with fail
  go_loopg [6] offs.length (fun g vi wr => ∃ j : Nat, j ≤ offs.length ∧ offs.length - j ≤ g ∧ vi = .int .i64 (j : Int) ∧ Hid (Renewed 3 encM 131 w.heap.size B L offs rows j wr TO) ∧ Hid (Xb B w wr))
  case atStart => exact ⟨0, Nat.zero_le _, by omega, rfl, H0.out, Xb.refl _ _⟩
  case round =>
    obtain ⟨j, hj, hg, rfl, HN, HX⟩ := hrel
    by_cases hlt : j < offs.length
    · obtain ⟨i, hi⟩ : ∃ i, offs[j]? = some i := ⟨offs[j], List.getElem?_eq_getElem hlt⟩
      have d1 : wr.cell? ⟨P, j, none⟩ = some (.pointer (some ⟨B, i, none⟩)) := by rw [cell_of_block (HP.out wr HX.out)]; exact ptrs_at hi
      obtain ⟨L', hB', hsz, hout, hin⟩ := HN.out
      obtain ⟨l, hl, hil, ⟨q, c, hq, hr, hqn⟩, hby, hmx⟩ := HROW.out j i hi
      have hnt := not_taken HND.out hi
      have d2 : wr.cell? ⟨B, i, none⟩ = some (.slice q l.length c) := by rw [cell_of_block hB', hout i hnt]; exact hq
      have RR := Lib.hid (HR.out wr HX.out q l hr)
      have HLL := Lib.hid (And.intro hB' (And.intro hsz (And.intro hout hin)))
      have HQ := Lib.hid (And.intro hqn (And.intro hby hmx))
      have HI := Lib.hid (And.intro hi (And.intro hl hil))
      clear hi hB' hsz hout hin hl hil hq hr hqn hby hmx hnt HN
      go_wp2_with (at_builtin; refine wpList_append_new (enc := encM) (k := 3) (bytes := 32) rfl _ _ 43 131 rfl Tryz.underlying43 infoM rfl (by decide) lenM oneM (by rfl) q c l (by rfl) RR.out HQ.out.1 HQ.out.2.1 HQ.out.2.2 ?_; intro v' w2 ho hb2; obtain ⟨q', c', hv', _⟩ := own_lies lenM ho; subst hv'; have hbk2 : w2.heap[B]? = some (.cells L' TO (0, 0)) := (hb2.block B (Nat.lt_of_lt_of_le HLT.out HX.out.size)).trans HLL.out.1; have e2 : w2.cell? ⟨B, i, none⟩ = some (.slice q l.length c) := ((World.cell?_of_block (a := ⟨B, i, none⟩) (hb2.block B (Nat.lt_of_lt_of_le HLT.out HX.out.size))).trans d2); have u2 := unfrozen_of_block hbk2 i; have HO := Lib.hid (And.intro ho (And.intro hb2 hbk2)); clear ho hb2 hbk2 d1 d2)
      have X3 : Hid (Xb B w (w2.setCell ⟨B, i, none⟩ (.slice q' l.length c'))) := (HX.out.trans (Xb.ofBelow HO.out.2.1 B)).setCell i _
      have N3 : Hid (Renewed 3 encM 131 w.heap.size B L offs rows (j + 1) (w2.setCell ⟨B, i, none⟩ (.slice q' l.length c')) TO) := by
        obtain ⟨hB', hsz, hout, hin⟩ := HLL.out
        obtain ⟨ho, hb2, hbk2⟩ := HO.out
        obtain ⟨hi, hl, hil⟩ := HI.out
        refine ⟨L'.setIfInBounds i (.slice q' l.length c'), by rw [block_setCell hbk2], by simp [hsz], fun t ht => ?_, fun j' o' l' hj' ho' hl' => ?_⟩
        · have hti : i ≠ t := by
            rintro rfl
            exact ht (List.mem_of_getElem? (i := j) (by rw [List.getElem?_take_of_lt (by omega)]; exact hi))
          rw [Array.getElem?_setIfInBounds_ne hti]
          exact hout t (fun hm => ht (by rw [List.take_add_one]; exact List.mem_append_left _ hm))
        · have stays : ∀ {v : Value} {m : List Met}, wr.ownsRow w.heap.size 131 3 v m.length (flat encM m) → (w2.setCell ⟨B, i, none⟩ (.slice q' l.length c')).ownsRow w.heap.size 131 3 v m.length (flat encM m) := fun h => own_stays h fun g h1 h2 => by
            rw [Below.heap_setCell _ _ _ _ (by show g ≠ B; have := HLT.out; omega)]
            exact hb2.block g h2
          by_cases e : j' = j
          · subst e
            rw [hi] at ho'
            rw [hl] at hl'
            cases ho'
            cases hl'
            refine ⟨_, by rw [Array.getElem?_setIfInBounds_self_of_lt (by omega)], own_mono (own_stays ho fun g h1 h2 => ?_) HX.out.size⟩
            rw [Below.heap_setCell _ _ _ _ (by show g ≠ B; have := HLT.out; have := HX.out.size; omega)]
          · obtain ⟨v, hv, hown⟩ := hin j' o' l' (by omega) ho' hl'
            refine ⟨v, ?_, stays hown⟩
            have hne : i ≠ o' := by
              rintro rfl
              exact not_taken HND.out hi (List.mem_of_getElem? (i := j') (by rw [List.getElem?_take_of_lt (by omega)]; exact ho'))
            rw [Array.getElem?_setIfInBounds_ne hne]
            exact hv
      clear HLL HO HI e2 u2
      generalize w2.setCell ⟨B, i, none⟩ (.slice q' l.length c') = w3 at *
      go_roundg (offs.length - (j + 1))
      case measure => omega
      case rel => exact ⟨j + 1, hlt, Nat.le_refl _, by go_num, N3.out, X3.out⟩
    · obtain rfl : j = offs.length := by omega
      go_wp2
      go_end0
      exact ⟨rfl, HN.out, HX.out⟩

theorem infoP : (Tryz.prog.info? 135).map (fun i => (i.zero, i.size, i.bytes)) = some (some (.agg #[.bool false, .int .i64 0, .int .i64 0]), 3, 24) := by kernel_rfl
set_option maxHeartbeats 4000000 in
theorem renewP (w0 w : World) (P B : Nat) (offs : List Nat) (rows : List (List Pol)) (L : Array Value) (TP TO : TypeId) (h0 : w0.heap.size ≤ B) (hw0 : Below w0.heap.size w0 w) (hP : w.heap[P]? = some (.cells (ptrs B offs) TP (0, 0))) (hB : w.heap[B]? = some (.cells L TO (0, 0))) (hne : P ≠ B) (hnd : offs.Nodup) (hlen : offs.length ≤ 100)
    (hrow : ∀ (j o : Nat), offs[j]? = some o → ∃ l, rows[j]? = some l ∧ RowAt 3 24 encP w0 L o l) :
    Calls Tryz.prog 55 #[.slice (some ⟨P, 0, none⟩) offs.length offs.length] w fun e w' => e = .returned (.tuple #[]) ∧ Renewed 3 encP 135 w.heap.size B L offs rows offs.length w' TO ∧ Xb B w w' := by
  have mixed : Tryz.prog.follows .mixedOrders = true := by kernel_rfl
  have hlt : B < w.heap.size := (Array.getElem?_eq_some_iff.1 hB).1
  have hPlt : P < w.heap.size := (Array.getElem?_eq_some_iff.1 hP).1
  have HP : Hid (∀ wr, Xb B w wr → wr.heap[P]? = some (.cells (ptrs B offs) TP (0, 0))) := fun wr h => (h.block P hPlt hne).trans hP
  have HR : Hid (∀ wr, Xb B w wr → ∀ (q : Option Addr) (l : List Pol), RowR 3 encP w0 q l → RowR 3 encP wr q l) := fun wr h q l r => r.below (hw0.trans (h.below h0 (by have := hw0.size; omega)))
  have HROW := Lib.hid hrow
  have HND := Lib.hid hnd
  have H0 : Hid (Renewed 3 encP 135 w.heap.size B L offs rows 0 w TO) := ⟨L, hB, rfl, fun i _ => rfl, fun j o l hj => absurd hj (Nat.not_lt_zero _)⟩
  have HLT := Lib.hid hlt
  clear h0 hw0 hP hB hne hnd hrow hlt hPlt
  go_enter Tryz.func55, Tryz.ntmps55
  go_wp2_with fail
  go_loopg [6] offs.length (fun g vi wr => ∃ j : Nat, j ≤ offs.length ∧ offs.length - j ≤ g ∧ vi = .int .i64 (j : Int) ∧ Hid (Renewed 3 encP 135 w.heap.size B L offs rows j wr TO) ∧ Hid (Xb B w wr))
  case atStart => exact ⟨0, Nat.zero_le _, by omega, rfl, H0.out, Xb.refl _ _⟩
  case round =>
    obtain ⟨j, hj, hg, rfl, HN, HX⟩ := hrel
    by_cases hlt : j < offs.length
    · obtain ⟨i, hi⟩ : ∃ i, offs[j]? = some i := ⟨offs[j], List.getElem?_eq_getElem hlt⟩
      have d1 : wr.cell? ⟨P, j, none⟩ = some (.pointer (some ⟨B, i, none⟩)) := by rw [cell_of_block (HP.out wr HX.out)]; exact ptrs_at hi
      obtain ⟨L', hB', hsz, hout, hin⟩ := HN.out
      obtain ⟨l, hl, hil, ⟨q, c, hq, hr, hqn⟩, hby, hmx⟩ := HROW.out j i hi
      have hnt := not_taken HND.out hi
      have d2 : wr.cell? ⟨B, i, none⟩ = some (.slice q l.length c) := by rw [cell_of_block hB', hout i hnt]; exact hq
      have RR := Lib.hid (HR.out wr HX.out q l hr)
      have HLL := Lib.hid (And.intro hB' (And.intro hsz (And.intro hout hin)))
      have HQ := Lib.hid (And.intro hqn (And.intro hby hmx))
      have HI := Lib.hid (And.intro hi (And.intro hl hil))
      clear hi hB' hsz hout hin hl hil hq hr hqn hby hmx hnt HN
      go_wp2_with (at_builtin; refine wpList_append_new (enc := encP) (k := 3) (bytes := 24) rfl _ _ 44 135 rfl Tryz.underlying44 infoP rfl (by decide) lenP oneP (by rfl) q c l (by rfl) RR.out HQ.out.1 HQ.out.2.1 HQ.out.2.2 ?_; intro v' w2 ho hb2; obtain ⟨q', c', hv', _⟩ := own_lies lenP ho; subst hv'; have hbk2 : w2.heap[B]? = some (.cells L' TO (0, 0)) := (hb2.block B (Nat.lt_of_lt_of_le HLT.out HX.out.size)).trans HLL.out.1; have e2 : w2.cell? ⟨B, i, none⟩ = some (.slice q l.length c) := ((World.cell?_of_block (a := ⟨B, i, none⟩) (hb2.block B (Nat.lt_of_lt_of_le HLT.out HX.out.size))).trans d2); have u2 := unfrozen_of_block hbk2 i; have HO := Lib.hid (And.intro ho (And.intro hb2 hbk2)); clear ho hb2 hbk2 d1 d2)
      have X3 : Hid (Xb B w (w2.setCell ⟨B, i, none⟩ (.slice q' l.length c'))) := (HX.out.trans (Xb.ofBelow HO.out.2.1 B)).setCell i _
      have N3 : Hid (Renewed 3 encP 135 w.heap.size B L offs rows (j + 1) (w2.setCell ⟨B, i, none⟩ (.slice q' l.length c')) TO) := by
        obtain ⟨hB', hsz, hout, hin⟩ := HLL.out
        obtain ⟨ho, hb2, hbk2⟩ := HO.out
        obtain ⟨hi, hl, hil⟩ := HI.out
        refine ⟨L'.setIfInBounds i (.slice q' l.length c'), by rw [block_setCell hbk2], by simp [hsz], fun t ht => ?_, fun j' o' l' hj' ho' hl' => ?_⟩
        · have hti : i ≠ t := by
            rintro rfl
            exact ht (List.mem_of_getElem? (i := j) (by rw [List.getElem?_take_of_lt (by omega)]; exact hi))
          rw [Array.getElem?_setIfInBounds_ne hti]
          exact hout t (fun hm => ht (by rw [List.take_add_one]; exact List.mem_append_left _ hm))
        · have stays : ∀ {v : Value} {m : List Pol}, wr.ownsRow w.heap.size 135 3 v m.length (flat encP m) → (w2.setCell ⟨B, i, none⟩ (.slice q' l.length c')).ownsRow w.heap.size 135 3 v m.length (flat encP m) := fun h => own_stays h fun g h1 h2 => by
            rw [Below.heap_setCell _ _ _ _ (by show g ≠ B; have := HLT.out; omega)]
            exact hb2.block g h2
          by_cases e : j' = j
          · subst e
            rw [hi] at ho'
            rw [hl] at hl'
            cases ho'
            cases hl'
            refine ⟨_, by rw [Array.getElem?_setIfInBounds_self_of_lt (by omega)], own_mono (own_stays ho fun g h1 h2 => ?_) HX.out.size⟩
            rw [Below.heap_setCell _ _ _ _ (by show g ≠ B; have := HLT.out; have := HX.out.size; omega)]
          · obtain ⟨v, hv, hown⟩ := hin j' o' l' (by omega) ho' hl'
            refine ⟨v, ?_, stays hown⟩
            have hne : i ≠ o' := by
              rintro rfl
              exact not_taken HND.out hi (List.mem_of_getElem? (i := j') (by rw [List.getElem?_take_of_lt (by omega)]; exact ho'))
            rw [Array.getElem?_setIfInBounds_ne hne]
            exact hv
      clear HLL HO HI e2 u2
      generalize w2.setCell ⟨B, i, none⟩ (.slice q' l.length c') = w3 at *
      go_roundg (offs.length - (j + 1))
      case measure => omega
      case rel => exact ⟨j + 1, hlt, Nat.le_refl _, by go_num, N3.out, X3.out⟩
    · obtain rfl : j = offs.length := by omega
      go_wp2
      go_end0
      exact ⟨rfl, HN.out, HX.out⟩

theorem infoS : (Tryz.prog.info? 139).map (fun i => (i.zero, i.size, i.bytes)) = some (some (.agg #[.int .i64 0, .int .i64 0, .int .i64 0]), 3, 24) := by kernel_rfl
set_option maxHeartbeats 4000000 in
theorem renewS (w0 w : World) (P B : Nat) (offs : List Nat) (rows : List (List Sca)) (L : Array Value) (TP TO : TypeId) (h0 : w0.heap.size ≤ B) (hw0 : Below w0.heap.size w0 w) (hP : w.heap[P]? = some (.cells (ptrs B offs) TP (0, 0))) (hB : w.heap[B]? = some (.cells L TO (0, 0))) (hne : P ≠ B) (hnd : offs.Nodup) (hlen : offs.length ≤ 100)
    (hrow : ∀ (j o : Nat), offs[j]? = some o → ∃ l, rows[j]? = some l ∧ RowAt 3 24 encS w0 L o l) :
    Calls Tryz.prog 56 #[.slice (some ⟨P, 0, none⟩) offs.length offs.length] w fun e w' => e = .returned (.tuple #[]) ∧ Renewed 3 encS 139 w.heap.size B L offs rows offs.length w' TO ∧ Xb B w w' := by
  have mixed : Tryz.prog.follows .mixedOrders = true := by kernel_rfl
  have hlt : B < w.heap.size := (Array.getElem?_eq_some_iff.1 hB).1
  have hPlt : P < w.heap.size := (Array.getElem?_eq_some_iff.1 hP).1
  have HP : Hid (∀ wr, Xb B w wr → wr.heap[P]? = some (.cells (ptrs B offs) TP (0, 0))) := fun wr h => (h.block P hPlt hne).trans hP
  have HR : Hid (∀ wr, Xb B w wr → ∀ (q : Option Addr) (l : List Sca), RowR 3 encS w0 q l → RowR 3 encS wr q l) := fun wr h q l r => r.below (hw0.trans (h.below h0 (by have := hw0.size; omega)))
  have HROW := Lib.hid hrow
  have HND := Lib.hid hnd
  have H0 : Hid (Renewed 3 encS 139 w.heap.size B L offs rows 0 w TO) := ⟨L, hB, rfl, fun i _ => rfl, fun j o l hj => absurd hj (Nat.not_lt_zero _)⟩
  have HLT := Lib.hid hlt
  clear h0 hw0 hP hB hne hnd hrow hlt hPlt
  go_enter Tryz.func56, Tryz.ntmps56
  go_wp2_with fail
  go_loopg [6] offs.length (fun g vi wr => ∃ j : Nat, j ≤ offs.length ∧ offs.length - j ≤ g ∧ vi = .int .i64 (j : Int) ∧ Hid (Renewed 3 encS 139 w.heap.size B L offs rows j wr TO) ∧ Hid (Xb B w wr))
  case atStart => exact ⟨0, Nat.zero_le _, by omega, rfl, H0.out, Xb.refl _ _⟩
  case round =>
    obtain ⟨j, hj, hg, rfl, HN, HX⟩ := hrel
    by_cases hlt : j < offs.length
    · obtain ⟨i, hi⟩ : ∃ i, offs[j]? = some i := ⟨offs[j], List.getElem?_eq_getElem hlt⟩
      have d1 : wr.cell? ⟨P, j, none⟩ = some (.pointer (some ⟨B, i, none⟩)) := by rw [cell_of_block (HP.out wr HX.out)]; exact ptrs_at hi
      obtain ⟨L', hB', hsz, hout, hin⟩ := HN.out
      obtain ⟨l, hl, hil, ⟨q, c, hq, hr, hqn⟩, hby, hmx⟩ := HROW.out j i hi
      have hnt := not_taken HND.out hi
      have d2 : wr.cell? ⟨B, i, none⟩ = some (.slice q l.length c) := by rw [cell_of_block hB', hout i hnt]; exact hq
      have RR := Lib.hid (HR.out wr HX.out q l hr)
      have HLL := Lib.hid (And.intro hB' (And.intro hsz (And.intro hout hin)))
      have HQ := Lib.hid (And.intro hqn (And.intro hby hmx))
      have HI := Lib.hid (And.intro hi (And.intro hl hil))
      clear hi hB' hsz hout hin hl hil hq hr hqn hby hmx hnt HN
      go_wp2_with (at_builtin; refine wpList_append_new (enc := encS) (k := 3) (bytes := 24) rfl _ _ 47 139 rfl Tryz.underlying47 infoS rfl (by decide) lenS oneS (by rfl) q c l (by rfl) RR.out HQ.out.1 HQ.out.2.1 HQ.out.2.2 ?_; intro v' w2 ho hb2; obtain ⟨q', c', hv', _⟩ := own_lies lenS ho; subst hv'; have hbk2 : w2.heap[B]? = some (.cells L' TO (0, 0)) := (hb2.block B (Nat.lt_of_lt_of_le HLT.out HX.out.size)).trans HLL.out.1; have e2 : w2.cell? ⟨B, i, none⟩ = some (.slice q l.length c) := ((World.cell?_of_block (a := ⟨B, i, none⟩) (hb2.block B (Nat.lt_of_lt_of_le HLT.out HX.out.size))).trans d2); have u2 := unfrozen_of_block hbk2 i; have HO := Lib.hid (And.intro ho (And.intro hb2 hbk2)); clear ho hb2 hbk2 d1 d2)
      have X3 : Hid (Xb B w (w2.setCell ⟨B, i, none⟩ (.slice q' l.length c'))) := (HX.out.trans (Xb.ofBelow HO.out.2.1 B)).setCell i _
      have N3 : Hid (Renewed 3 encS 139 w.heap.size B L offs rows (j + 1) (w2.setCell ⟨B, i, none⟩ (.slice q' l.length c')) TO) := by
        obtain ⟨hB', hsz, hout, hin⟩ := HLL.out
        obtain ⟨ho, hb2, hbk2⟩ := HO.out
        obtain ⟨hi, hl, hil⟩ := HI.out
        refine ⟨L'.setIfInBounds i (.slice q' l.length c'), by rw [block_setCell hbk2], by simp [hsz], fun t ht => ?_, fun j' o' l' hj' ho' hl' => ?_⟩
        · have hti : i ≠ t := by
            rintro rfl
            exact ht (List.mem_of_getElem? (i := j) (by rw [List.getElem?_take_of_lt (by omega)]; exact hi))
          rw [Array.getElem?_setIfInBounds_ne hti]
          exact hout t (fun hm => ht (by rw [List.take_add_one]; exact List.mem_append_left _ hm))
        · have stays : ∀ {v : Value} {m : List Sca}, wr.ownsRow w.heap.size 139 3 v m.length (flat encS m) → (w2.setCell ⟨B, i, none⟩ (.slice q' l.length c')).ownsRow w.heap.size 139 3 v m.length (flat encS m) := fun h => own_stays h fun g h1 h2 => by
            rw [Below.heap_setCell _ _ _ _ (by show g ≠ B; have := HLT.out; omega)]
            exact hb2.block g h2
          by_cases e : j' = j
          · subst e
            rw [hi] at ho'
            rw [hl] at hl'
            cases ho'
            cases hl'
            refine ⟨_, by rw [Array.getElem?_setIfInBounds_self_of_lt (by omega)], own_mono (own_stays ho fun g h1 h2 => ?_) HX.out.size⟩
            rw [Below.heap_setCell _ _ _ _ (by show g ≠ B; have := HLT.out; have := HX.out.size; omega)]
          · obtain ⟨v, hv, hown⟩ := hin j' o' l' (by omega) ho' hl'
            refine ⟨v, ?_, stays hown⟩
            have hne : i ≠ o' := by
              rintro rfl
              exact not_taken HND.out hi (List.mem_of_getElem? (i := j') (by rw [List.getElem?_take_of_lt (by omega)]; exact ho'))
            rw [Array.getElem?_setIfInBounds_ne hne]
            exact hv
      clear HLL HO HI e2 u2
      generalize w2.setCell ⟨B, i, none⟩ (.slice q' l.length c') = w3 at *
      go_roundg (offs.length - (j + 1))
      case measure => omega
      case rel => exact ⟨j + 1, hlt, Nat.le_refl _, by go_num, N3.out, X3.out⟩
    · obtain rfl : j = offs.length := by omega
      go_wp2
      go_end0
      exact ⟨rfl, HN.out, HX.out⟩
end Go.Proofs.YtbkoepghmcdnhaaGreatDoor
