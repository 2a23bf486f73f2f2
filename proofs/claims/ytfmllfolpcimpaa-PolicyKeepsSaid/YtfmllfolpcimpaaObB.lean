/- The document's Int, Text, truth, resources, labels, asks, behavior. -/
import Derived.Test.YtfmllfolpcimpaaObA
namespace Go.Proofs.Ytfmllfolpcimpaa
open Go.RowKit Go.Shelf Go.Lib Go.Sort
set_option linter.unusedVariables false

/-- A whole number modulo 2^64. -/
def u64 (x : Int) : Nat := (x % 18446744073709551616).toNat
theorem u64_lt (x : Int) : u64 x < 18446744073709551616 := by unfold u64; omega
theorem wrap_u64' (x : Int) : IntKind.u64.wrap x = (u64 x : Int) := by rw [IntKind.wrap_u64]; unfold u64; omega
theorem u64_nat {x : Nat} (h : x < 18446744073709551616) : u64 (x : Int) = x := by unfold u64; omega
/-- A whole number's bytes, a text's. -/
def num (x : Int) : List UInt8 := le (u64 x) 8
theorem num_len (x : Int) : (num x).length = 8 := le_len 8 _
def txt (s : ByteArray) : List UInt8 := le s.size 1 ++ by_ s
theorem txt_len (s : ByteArray) : (txt s).length = 1 + s.size := by simp [txt, le_len, by_len]
def tru (b : Bool) : List UInt8 := if b then [1] else [0]
theorem tru_len (b : Bool) : (tru b).length = 1 := by cases b <;> rfl

/-! ### rows -/
/-- The slice at 'q' reads as the row 'l', k cells each. -/
def RowR {α : Type} (k : Nat) (enc : α → List Value) (w : World) (q : Option Addr) (l : List α) : Prop :=
  ∀ (j : Nat) (x : α), l[j]? = some x → ∃ b off, q = some ⟨b, off, none⟩ ∧ b < w.heap.size ∧ ∀ (t : Nat) (v : Value), (enc x)[t]? = some v → w.cell? ⟨b, off + j * k + t, none⟩ = some v
theorem RowR.below {α : Type} {k : Nat} {enc : α → List Value} {w w' : World} {q : Option Addr} {l : List α} (h : RowR k enc w q l) (hb : Below w.heap.size w w') : RowR k enc w' q l := by
  intro j x hj
  obtain ⟨b, off, e, h1, h2⟩ := h j x hj
  exact ⟨b, off, e, Nat.lt_of_lt_of_le h1 hb.size, fun t v hv => (hb.cell (p := ⟨b, off + j * k + t, none⟩) h1).trans (h2 t v hv)⟩
theorem RowR.gr {α : Type} {k : Nat} {enc : α → List Value} {w w' : World} {q : Option Addr} {l : List α} (h : RowR k enc w q l) (hb : Gr w w') : RowR k enc w' q l := h.below hb.below
theorem RowR.nil {α : Type} (k : Nat) (enc : α → List Value) (w : World) (q : Option Addr) : RowR k enc w q [] := fun j x hj => by simp at hj

abbrev Lab := ByteArray × ByteArray
abbrev Req := ByteArray × ByteArray × Int
abbrev Met := Int × ByteArray × Int
abbrev Pol := Bool × Int × Int
abbrev Sca := Int × Int × Int
def encL (x : Lab) : List Value := [.string x.1, .string x.2]
def encR (x : Req) : List Value := [.string x.1, .string x.2.1, .int .i64 x.2.2]
def encM (x : Met) : List Value := [.int .i64 x.1, .string x.2.1, .int .i64 x.2.2]
def encP (x : Pol) : List Value := [.bool x.1, .int .i64 x.2.1, .int .i64 x.2.2]
def encS (x : Sca) : List Value := [.int .i64 x.1, .int .i64 x.2.1, .int .i64 x.2.2]
def ftL (x : Lab) : Bool := decide (x.1.size ≤ 140737488351232) && decide (x.2.size ≤ 140737488351232)
def ftR (x : Req) : Bool := decide (x.1.size ≤ 140737488351232) && decide (x.2.1.size ≤ 140737488351232)
def ftM (x : Met) : Bool := decide (x.2.1.size ≤ 140737488351232)
def byL (x : Lab) : List UInt8 := txt x.1 ++ txt x.2
def byR (x : Req) : List UInt8 := txt x.1 ++ txt x.2.1 ++ num x.2.2
def byM (x : Met) : List UInt8 := num x.1 ++ txt x.2.1 ++ num x.2.2
def byP (x : Pol) : List UInt8 := tru x.1 ++ num x.2.1 ++ num x.2.2
def byS (x : Sca) : List UInt8 := num x.1 ++ num x.2.1 ++ num x.2.2
def rowB {α : Type} (f : α → List UInt8) (l : List α) : List UInt8 := le l.length 1 ++ l.flatMap f
theorem flat_len {α : Type} (f : α → List UInt8) (c : Nat) : ∀ (l : List α), (∀ x ∈ l, (f x).length ≤ c) → (l.flatMap f).length ≤ l.length * c
  | [], _ => by simp
  | x :: l, h => by
    rw [List.flatMap_cons, List.length_append, List.length_cons, Nat.add_mul]
    have h1 := h x List.mem_cons_self
    have h2 := flat_len f c l (fun y hy => h y (List.mem_cons_of_mem _ hy))
    omega
theorem rowB_len {α : Type} (f : α → List UInt8) (c : Nat) (l : List α) (h : ∀ x ∈ l, (f x).length ≤ c) : (rowB f l).length ≤ 1 + l.length * c := by
  have := flat_len f c l h
  simp [rowB, le_len]
  simpa using this
theorem byL_len (x : Lab) (h : ftL x = true) : (byL x).length ≤ 281474976702466 := by
  simp [ftL] at h
  simp [byL, txt_len]
  omega
theorem byR_len (x : Req) (h : ftR x = true) : (byR x).length ≤ 281474976702474 := by
  simp [ftR] at h
  simp [byR, txt_len, num_len]
  omega
theorem byM_len (x : Met) (h : ftM x = true) : (byM x).length ≤ 140737488351249 := by
  simp [ftM] at h
  simp [byM, txt_len, num_len]
  omega
theorem byP_len (x : Pol) : (byP x).length = 17 := by simp [byP, tru_len, num_len]
theorem byS_len (x : Sca) : (byS x).length = 24 := by simp [byS, num_len]
theorem drop_flat {α : Type} {l : List α} {f : α → List UInt8} {k : Nat} {x : α} (h : l[k]? = some x) : (l.drop k).flatMap f = f x ++ (l.drop (k + 1)).flatMap f := by
  obtain ⟨hk, rfl⟩ := List.getElem?_eq_some_iff.1 h
  rw [List.drop_eq_getElem_cons hk, List.flatMap_cons]

theorem len255 {n : Nat} (h : n ≤ 255) : IntKind.u64.wrap (n : Int) = (n : Int) := by rw [IntKind.wrap_u64]; omega

end Go.Proofs.Ytfmllfolpcimpaa
