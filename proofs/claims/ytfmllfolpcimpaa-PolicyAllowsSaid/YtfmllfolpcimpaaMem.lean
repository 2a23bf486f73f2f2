/- Rows of digits in memory: a slice that reads as a row, a row that the call itself owns and appends to, and what keeps them. -/
import Derived.Test.YtfmllfolpcimpaaProg
import Derived.Test.YtfmllfolpcimpaaBits
import Derived.WalkKit
import Derived.Below
import Derived.Maps.AppendAt
import Derived.Lib.Hide
namespace Go.Proofs.Ytfmllfolpcimpaa
open Go.RowKit

def digs (l : List Nat) : List Value := l.map fun (b : Nat) => Value.int .u8 (b : Int)
theorem digs_len (l : List Nat) : (digs l).length = l.length := by simp [digs]
theorem digs_append (l m : List Nat) : digs (l ++ m) = digs l ++ digs m := by simp [digs]
theorem digs_get {l : List Nat} {j b : Nat} (h : l[j]? = some b) : (digs l)[j]? = some (.int .u8 (b : Int)) := by simp [digs, h]
theorem digs_inv {l : List Nat} {j : Nat} {u : Value} (h : (digs l)[j]? = some u) : ∃ b : Nat, l[j]? = some b ∧ u = .int .u8 (b : Int) := by
  simp only [digs, List.getElem?_map, Option.map_eq_some_iff] at h
  obtain ⟨b, h1, h2⟩ := h
  exact ⟨b, h1, h2.symm⟩
theorem digs_one (l : List Nat) : ∀ u ∈ digs l, u.oneCell' = true := by
  intro u hu
  simp only [digs, List.mem_map] at hu
  obtain ⟨b, _, rfl⟩ := hu
  rfl

theorem add_block (a : Addr) (n : Nat) : (a.add n).block = a.block := by unfold Addr.add; split <;> rfl
theorem add_add (a : Addr) (i j : Nat) : (a.add i).add j = a.add (i + j) := by
  unfold Addr.add
  by_cases hi : i = 0 <;> by_cases hj : j = 0 <;> simp [hi, hj, Nat.add_assoc]

/-- The address 'ad' begins the row 'l'. -/
def Cells (w : World) (ad : Addr) (l : List Nat) : Prop := ∀ (j b : Nat), l[j]? = some b → w.cell? (ad.add j) = some (.int .u8 (b : Int))
/-- The slice 'v' reads as the row 'l'; its block lies from 'base' on. -/
def Row (w : World) (base : Nat) (v : Value) (l : List Nat) : Prop :=
  ∃ (ad : Addr) (c : Nat), v = .slice (some ad) l.length c ∧ l.length ≤ c ∧ base ≤ ad.block ∧ ad.block < w.heap.size ∧ Cells w ad l
/-- The call owns the slice 'v', which reads as 'l', and may append to it. -/
def Own (w : World) (base : Nat) (v : Value) (l : List Nat) : Prop := w.ownsRow base 5 1 v l.length (digs l) ∧ v ≠ .slice none 0 0
/-- The slice 'v' reads as the number 'n', without noughts above. -/
def Num (w : World) (base : Nat) (v : Value) (n : Nat) : Prop := ∃ l, Row w base v l ∧ Bin l ∧ Tight l ∧ val l = n

section
variable {w w' : World} {base base' : Nat} {v : Value} {l m : List Nat} {n : Nat} {ad : Addr}

theorem Cells.at_ (h : Cells w ad l) {j : Nat} (hj : j < l.length) : w.cell? (ad.add j) = some (.int .u8 ((l.getD j 0 : Nat) : Int)) :=
  h j _ (by rw [List.getD_eq_getElem?_getD, List.getElem?_eq_getElem hj]; rfl)
theorem Cells.keep (h : Cells w ad l) (hk : ∀ p : Addr, p.block = ad.block → w'.cell? p = w.cell? p) : Cells w' ad l :=
  fun j b hj => (hk _ (add_block _ _)).trans (h j b hj)
theorem Cells.take (h : Cells w ad l) (k : Nat) : Cells w ad (l.take k) := fun j b hj => h j b (by
  rw [List.getElem?_take] at hj
  split at hj
  · exact hj
  · cases hj)
theorem Cells.drop (h : Cells w ad l) (k : Nat) : Cells w (ad.add k) (l.drop k) := fun j b hj => by
  rw [add_add]
  exact h _ b (by rwa [List.getElem?_drop] at hj)

theorem Row.mk {c : Nat} (hc : l.length ≤ c) (hb : base ≤ ad.block) (hl : ad.block < w.heap.size) (h : Cells w ad l) : Row w base (.slice (some ad) l.length c) l :=
  ⟨ad, c, rfl, hc, hb, hl, h⟩
theorem Row.below (h : Row w base v l) (hb : Below w.heap.size w w') : Row w' base v l := by
  obtain ⟨ad, c, rfl, hc, h1, h2, h3⟩ := h
  exact ⟨ad, c, rfl, hc, h1, Nat.lt_of_lt_of_le h2 hb.size, h3.keep fun p hp => hb.cell (by rw [hp]; exact h2)⟩
theorem Row.under {B : Nat} {w0 : World} (h : Row w0 base v l) (hB : w0.heap.size ≤ B) (hb : Below B w0 w') : Row w' base v l := h.below (hb.mono hB)
theorem Row.more (h : Row w base v l) (hb : base' ≤ base) : Row w base' v l := by
  obtain ⟨ad, c, rfl, hc, h1, h2, h3⟩ := h
  exact ⟨ad, c, rfl, hc, Nat.le_trans hb h1, h2, h3⟩
theorem Row.of_own (h : Own w base v l) : Row w base v l := by
  obtain ⟨h, hn⟩ := h
  rcases h.2 with ⟨e, _⟩ | ⟨g, cap, cur, rfl, hb, hg, hc, _, _, _⟩
  · exact absurd e hn
  · exact ⟨⟨g, 0, none⟩, cap, rfl, hc, hb, (Array.getElem?_eq_some_iff.1 hg).1, fun j b hj => h.cells (g := g) rfl j _ (digs_get hj)⟩
theorem Row.one (w : World) (z : Int) (b : Nat) (hz : z = (b : Int)) : Row (w.alloc (.cells #[.int .u8 z] 5)) w.heap.size (.slice (some ⟨w.heap.size, 0, none⟩) 1 1) [b] := by
  subst hz
  refine ⟨⟨w.heap.size, 0, none⟩, 1, rfl, Nat.le_refl _, Nat.le_refl _, by simp, fun j c hj => ?_⟩
  match j, hj with
  | 0, hj =>
    simp at hj
    subst hj
    simp [Addr.add]

theorem Own.alloc (h : Own w base v l) (o : Obj) : Own (w.alloc o) base v l := ⟨World.ownsRow.alloc h.1 o, h.2⟩
theorem Own.drew (h : Own w base v l) : Own w.drew base v l := h
theorem Own.empty (w : World) (hb : base ≤ w.heap.size) : Own (w.alloc (.cells #[] 5)) base (.slice (some ⟨w.heap.size, 0, none⟩) 0 0) [] :=
  ⟨World.ownsRow_made w #[] 0 hb (Nat.zero_le _) rfl, by simp⟩
theorem Own.one (w : World) (hb : base ≤ w.heap.size) (z : Int) (b : Nat) (hz : z = (b : Int)) : Own (w.alloc (.cells #[.int .u8 z] 5)) base (.slice (some ⟨w.heap.size, 0, none⟩) 1 1) [b] := by
  subst hz
  refine ⟨⟨rfl, .inr ⟨w.heap.size, 1, #[.int .u8 (b : Int)], rfl, hb, heap_alloc_new w _, Nat.le_refl _, by unfold maxLen; omega, rfl, rfl⟩⟩, by simp⟩
theorem Own.lt (h : Own w base v l) : ∀ k, v.ownBlock = some k → base ≤ k ∧ k < w.heap.size := h.1.lt
theorem Own.len (h : Own w base v l) : ∃ ad c, v = .slice (some ad) l.length c := by
  obtain ⟨ad, c, e, _⟩ := Row.of_own h
  exact ⟨ad, c, e⟩

theorem Num.mk (h : Row w base v l) (hb : Bin l) (ht : Tight l) (hn : val l = n) : Num w base v n := ⟨l, h, hb, ht, hn⟩
theorem Num.below (h : Num w base v n) (hb : Below w.heap.size w w') : Num w' base v n := by
  obtain ⟨l, h1, h2⟩ := h
  exact ⟨l, h1.below hb, h2⟩
theorem Num.under {B : Nat} (h : Num w base v n) (hB : w.heap.size ≤ B) (hb : Below B w w') : Num w' base v n := h.below (hb.mono hB)
theorem Num.more (h : Num w base v n) (hb : base' ≤ base) : Num w base' v n := by
  obtain ⟨l, h1, h2⟩ := h
  exact ⟨l, h1.more hb, h2⟩
end

/-- The row of a byte in the program's table. -/
theorem info_byte : (Try.prog.info? 5).map (fun i => (i.zero, i.size, i.bytes)) = some (some (.int .u8 0), 1, 1) := by kernel_rfl

/-- What a function that makes a number answers. -/
def RetNum (w : World) (n : Nat) (e : Ending) (w' : World) : Prop := ∃ v, e = .returned v ∧ Num w' w.heap.size v n ∧ Below w.heap.size w w'
/-- The same, where the answer may be appended to. -/
def RetOwn (w : World) (n : Nat) (e : Ending) (w' : World) : Prop := ∃ v l, e = .returned v ∧ Own w' w.heap.size v l ∧ Bin l ∧ Tight l ∧ val l = n ∧ Below w.heap.size w w'
theorem RetOwn.num {w w' : World} {n : Nat} {e : Ending} (h : RetOwn w n e w') : RetNum w n e w' := by
  obtain ⟨v, l, he, ho, hb, ht, hn, hw⟩ := h
  exact ⟨v, he, Num.mk (Row.of_own ho) hb ht hn, hw⟩
theorem Own.below {w w' : World} {base : Nat} {v : Value} {l : List Nat} (h : Own w base v l) (hb : Below w.heap.size w w') : Own w' base v l :=
  ⟨h.1.kept (row := none) ⟨hb.os, hb.tape, hb.output, hb.size, fun i hi _ => hb.block i hi⟩ (by cases hv : v.ownBlock <;> simp), h.2⟩

end Go.Proofs.Ytfmllfolpcimpaa
