/- Rows put into new memory: the program's renew. -/
import Derived.Test.YtbkoepghmcdnhaaDoorObOwn
import Derived.StillTailTactics
namespace Go.Proofs.YtbkoepghmcdnhaaDoor
open Go.RowKit Go.Shelf Go.Lib Go.Sort
open Go.Joins (cell_of_block unfrozen_of_block block_setCell)
set_option linter.unusedVariables false
set_option linter.unusedSimpArgs false
set_option maxRecDepth 20000

/-- The pointers' block. -/
abbrev ptrs (O : Nat) (ps : List Nat) : Array Value := (ps.map fun p => Value.pointer (some ⟨O, p, none⟩)).toArray
theorem ptrs_at {O : Nat} {ps : List Nat} {j p : Nat} (h : ps[j]? = some p) : (ptrs O ps)[j]? = some (.pointer (some ⟨O, p, none⟩)) := by simp [ptrs, h]
/-- The cell of a row that is to be renewed. -/
def RowAt {α : Type} (k bytes : Nat) (enc : α → List Value) (w0 : World) (L : Array Value) (o : Nat) (l : List α) : Prop :=
  o < L.size ∧ (∃ q c, L[o]? = some (.slice q l.length c) ∧ RowR k enc w0 q l ∧ (q = none → c = 0)) ∧ l.length * bytes ≤ 140737488355328 ∧ l.length ≤ 9223372036854775807
/-- What renewing leaves. -/
def Renewed {α : Type} (k : Nat) (enc : α → List Value) (E : TypeId) (N B : Nat) (L : Array Value) (offs : List Nat) (rows : List (List α)) (n : Nat) (w : World) (TO : TypeId) : Prop :=
  ∃ L' : Array Value, w.heap[B]? = some (.cells L' TO (0, 0)) ∧ L'.size = L.size ∧ (∀ i, i ∉ offs.take n → L'[i]? = L[i]?) ∧
    ∀ (j o : Nat) (l : List α), j < n → offs[j]? = some o → rows[j]? = some l → ∃ v, L'[o]? = some v ∧ w.ownsRow N E k v l.length (flat enc l)
theorem not_taken {offs : List Nat} {j o : Nat} (hnd : offs.Nodup) (h : offs[j]? = some o) : o ∉ offs.take j := by
  intro hm
  obtain ⟨i, hi⟩ := List.getElem?_of_mem hm
  have hij : i < j := by
    have := (List.getElem?_eq_some_iff.1 hi).1
    rw [List.length_take] at this
    omega
  rw [List.getElem?_take_of_lt hij] at hi
  have h1 := List.getElem?_eq_some_iff.1 hi
  have h2 := List.getElem?_eq_some_iff.1 h
  have := (List.getElem_inj (h₀ := h1.1) (h₁ := h2.1) hnd).1 (h1.2.trans h2.2.symm)
  omega

theorem infoL : (Tryd.prog.info? 79).map (fun i => (i.zero, i.size, i.bytes)) = some (some (.agg #[.string ByteArray.empty, .string ByteArray.empty]), 2, 32) := by kernel_rfl
theorem infoR : (Tryd.prog.info? 93).map (fun i => (i.zero, i.size, i.bytes)) = some (some (.agg #[.string ByteArray.empty, .string ByteArray.empty, .int .i64 0]), 3, 40) := by kernel_rfl
theorem infoM : (Tryd.prog.info? 65).map (fun i => (i.zero, i.size, i.bytes)) = some (some (.agg #[.int .i64 0, .string ByteArray.empty, .int .i64 0]), 3, 32) := by kernel_rfl
theorem infoP : (Tryd.prog.info? 81).map (fun i => (i.zero, i.size, i.bytes)) = some (some (.agg #[.bool false, .int .i64 0, .int .i64 0]), 3, 24) := by kernel_rfl
theorem infoS : (Tryd.prog.info? 63).map (fun i => (i.zero, i.size, i.bytes)) = some (some (.agg #[.int .i64 0, .int .i64 0, .int .i64 0]), 3, 24) := by kernel_rfl
end Go.Proofs.YtbkoepghmcdnhaaDoor
