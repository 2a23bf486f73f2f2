/- Bytes as lists; worlds that only grew; the document's Put, Int, Text. -/
import Derived.Test.YtfmllfolpcimpaaProg
import Derived.WalkKit
import Derived.Below
import Derived.Lib.Hide
import Derived.Deep.LoopGhost
import Derived.Deep.QuietTactic
import Derived.BigQuiet
import Derived.Deep.RegionWith
import Derived.WalkLawsBesides
import Derived.Shelf.Abstract
import Derived.Shelf.SlSortCmp.QuietGrown
import Derived.Laws.BytesArg
import Derived.Lib.Bytes
import Derived.Lib.SmallJoins
import Derived.Deep.MidRow
namespace Go.Proofs.Ytfmllfolpcimpaa
open Go.RowKit Go.Shelf Go.Lib Go.Sort
set_option linter.unusedVariables false

/-! ### bytes -/
def mk (l : List UInt8) : ByteArray := ⟨l.toArray⟩
theorem mk_app (a b : List UInt8) : mk a ++ mk b = mk (a ++ b) := by
  apply ByteArray.ext
  simp [mk]
theorem mk_nil : ({ data := #[] } : ByteArray) = mk [] := rfl
/-- The bytes of a text. -/
def by_ (s : ByteArray) : List UInt8 := s.data.toList
theorem mk_by (s : ByteArray) : mk (by_ s) = s := rfl
theorem by_mk (l : List UInt8) : by_ (mk l) = l := rfl
theorem by_len (s : ByteArray) : (by_ s).length = s.size := rfl
theorem mk_size (l : List UInt8) : (mk l).size = l.length := rfl
theorem mk_inj {a b : List UInt8} (h : mk a = mk b) : a = b := by
  have := congrArg by_ h
  exact this

/-- A number of n bytes. -/
def le (x : Nat) : Nat → List UInt8
  | 0 => []
  | n + 1 => UInt8.ofNat x :: le (x / 256) n
theorem le_len : ∀ (n x : Nat), (le x n).length = n
  | 0, _ => rfl
  | n + 1, x => by rw [le, List.length_cons, le_len n]
theorem ofNat_mod (x : Nat) : UInt8.ofNat (x % 256) = UInt8.ofNat x := by
  apply UInt8.toNat_inj.1
  simp

/-! ### worlds that only grew -/
def Gr (w w' : World) : Prop := ∃ (q : Nat) (os : Array Obj), w' = grow (w.drewN q) os
theorem Gr.refl (w : World) : Gr w w := ⟨0, #[], by rw [grow_empty]; rfl⟩
theorem Gr.trans {a b c : World} (h : Gr a b) (k : Gr b c) : Gr a c := by
  obtain ⟨q, os, rfl⟩ := h
  obtain ⟨q', os', rfl⟩ := k
  exact ⟨q + q', os ++ os', by show grow (grow (World.drewN (World.drewN a q) q') os) os' = _; rw [grow_grow, World.drewN_drewN]⟩
theorem Gr.alloc {a b : World} (h : Gr a b) (o : Obj) : Gr a (b.alloc o) := by
  obtain ⟨q, os, rfl⟩ := h
  exact ⟨q, os ++ #[o], by rw [alloc_eq_grow, grow_grow]⟩
theorem Gr.drew {a b : World} (h : Gr a b) : Gr a b.drew := by
  obtain ⟨q, os, rfl⟩ := h
  exact ⟨q + 1, os, rfl⟩
theorem Gr.drewN {a b : World} (h : Gr a b) (n : Nat) : Gr a (b.drewN n) := by
  obtain ⟨q, os, rfl⟩ := h
  exact ⟨q + n, os, by show grow (World.drewN (World.drewN a q) n) os = _; rw [World.drewN_drewN]⟩
theorem Gr.size {a b : World} (h : Gr a b) : a.heap.size ≤ b.heap.size := by
  obtain ⟨q, os, rfl⟩ := h
  show a.heap.size ≤ (a.heap ++ os).size
  simp
theorem Gr.heap {a b : World} (h : Gr a b) {i : Nat} (hi : i < a.heap.size) : b.heap[i]? = a.heap[i]? := by
  obtain ⟨q, os, rfl⟩ := h
  show (a.heap ++ os)[i]? = _
  rw [Array.getElem?_append_left hi]
theorem Gr.below {a b : World} (h : Gr a b) : Below a.heap.size a b := by
  refine ⟨?_, ?_, ?_, h.size, fun k hk => h.heap hk⟩ <;> (obtain ⟨q, os, rfl⟩ := h; rfl)
theorem Gr.cell {a b : World} (h : Gr a b) {p : Addr} {v : Value} (hp : a.cell? p = some v) : b.cell? p = some v := by
  have := World.block_lt_of_cell? a p hp
  exact (World.cell?_of_block (h.heap this)).trans hp
theorem Gr.put (a : World) (n : Nat) (os : Array Obj) : Gr a (grow (a.drewN n) os) := ⟨n, os, rfl⟩

/-- A callee's contract, met in a region that draws its order. -/
theorem gr_of {P : Program} {f : FuncId} {args : Array Value} {w : World} {n : Nat} {os : Array Obj} {v : Value}
    (h : Calls P f args (grow (w.drewN n) os) fun e w' => e = .returned v ∧ Gr (grow (w.drewN n) os) w') : Calls P f args (grow (w.drewN n) os) fun e w'' => e = .returned v ∧ ∃ p : GrownBy, w'' = grow (w.drewN p.n) p.os :=
  Calls.grown_of h

/-! ### the document's numbers and texts -/
end Go.Proofs.Ytfmllfolpcimpaa
