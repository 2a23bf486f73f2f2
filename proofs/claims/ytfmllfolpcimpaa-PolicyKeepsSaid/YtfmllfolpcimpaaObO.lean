/- Objects: what they are, how they lie in cells, their bytes, which are short. -/
import Derived.Test.YtfmllfolpcimpaaObC
namespace Go.Proofs.Ytfmllfolpcimpaa
open Go.RowKit Go.Shelf Go.Lib Go.Sort
set_option linter.unusedVariables false

structure Wl where
  (rep cpu mem : Int)
  (lab : List Lab)
  (sel : List Req)
  (tol : List Lab)
  (warm : Int)
structure Pd where
  (own node : ByteArray)
  (ph since cpu mem : Int)
  (lab : List Lab)
  (sel : List Req)
  (tol : List Lab)
  (warm : Int)
structure Nd where
  (grp : ByteArray)
  (cpu mem : Int)
  (lab tnt : List Lab)
  (since : Int)
  (closed : Bool)
structure Gp where
  (mn mx tg cpu mem : Int)
  (lab tnt : List Lab)
  (prio : Int)
structure Hp where
  (tg : ByteArray)
  (mn mx : Int)
  (met : List Met)
  (tol uw up : Int)
  (upol : List Pol)
  (dw dp : Int)
  (dpol : List Pol)
  (past : List Sca)
structure Ob where
  (kind : Int)
  (name : ByteArray)
  (ver : Nat)
  (w : Wl)
  (p : Pd)
  (n : Nd)
  (g : Gp)
  (h : Hp)

/-- A cell that holds a row. -/
def SlR {α : Type} (k : Nat) (enc : α → List Value) (w : World) (v : Option Value) (l : List α) : Prop := ∃ q c, v = some (.slice q l.length c) ∧ RowR k enc w q l
theorem SlR.below {α : Type} {k : Nat} {enc : α → List Value} {w w' : World} {v : Option Value} {l : List α} (h : SlR k enc w v l) (hb : Below w.heap.size w w') : SlR k enc w' v l := by
  obtain ⟨q, c, e, h⟩ := h
  exact ⟨q, c, e, h.below hb⟩
def WlV (w : World) (cs : Array Value) (x : Wl) : Prop :=
  cs[3]? = some (.int .i64 x.rep) ∧ cs[4]? = some (.int .i64 x.cpu) ∧ cs[5]? = some (.int .i64 x.mem) ∧ SlR 2 encL w cs[6]? x.lab ∧ SlR 3 encR w cs[7]? x.sel ∧ SlR 2 encL w cs[8]? x.tol ∧ cs[9]? = some (.int .i64 x.warm)
def PdV (w : World) (cs : Array Value) (x : Pd) : Prop :=
  cs[10]? = some (.string x.own) ∧ cs[11]? = some (.string x.node) ∧ cs[12]? = some (.int .i64 x.ph) ∧ cs[13]? = some (.int .i64 x.since) ∧ cs[14]? = some (.int .i64 x.cpu) ∧ cs[15]? = some (.int .i64 x.mem) ∧
  SlR 2 encL w cs[16]? x.lab ∧ SlR 3 encR w cs[17]? x.sel ∧ SlR 2 encL w cs[18]? x.tol ∧ cs[19]? = some (.int .i64 x.warm)
def NdV (w : World) (cs : Array Value) (x : Nd) : Prop :=
  cs[20]? = some (.string x.grp) ∧ cs[21]? = some (.int .i64 x.cpu) ∧ cs[22]? = some (.int .i64 x.mem) ∧ SlR 2 encL w cs[23]? x.lab ∧ SlR 2 encL w cs[24]? x.tnt ∧ cs[25]? = some (.int .i64 x.since) ∧ cs[26]? = some (.bool x.closed)
def GpV (w : World) (cs : Array Value) (x : Gp) : Prop :=
  cs[27]? = some (.int .i64 x.mn) ∧ cs[28]? = some (.int .i64 x.mx) ∧ cs[29]? = some (.int .i64 x.tg) ∧ cs[30]? = some (.int .i64 x.cpu) ∧ cs[31]? = some (.int .i64 x.mem) ∧ SlR 2 encL w cs[32]? x.lab ∧ SlR 2 encL w cs[33]? x.tnt ∧ cs[34]? = some (.int .i64 x.prio)
def HpV (w : World) (cs : Array Value) (x : Hp) : Prop :=
  cs[35]? = some (.string x.tg) ∧ cs[36]? = some (.int .i64 x.mn) ∧ cs[37]? = some (.int .i64 x.mx) ∧ SlR 3 encM w cs[38]? x.met ∧ cs[39]? = some (.int .i64 x.tol) ∧ cs[40]? = some (.int .i64 x.uw) ∧ cs[41]? = some (.int .i64 x.up) ∧ SlR 3 encP w cs[42]? x.upol ∧
  cs[43]? = some (.int .i64 x.dw) ∧ cs[44]? = some (.int .i64 x.dp) ∧ SlR 3 encP w cs[45]? x.dpol ∧ SlR 3 encS w cs[46]? x.past
def HdV (cs : Array Value) (o : Ob) : Prop := cs[0]? = some (.int .i64 o.kind) ∧ cs[1]? = some (.string o.name) ∧ cs[2]? = some (.int .u64 (o.ver : Int)) ∧ o.ver < 18446744073709551616
/-- The cells of an object. -/
def ObjV (w : World) (cs : Array Value) (o : Ob) : Prop := cs.size = 47 ∧ HdV cs o ∧ WlV w cs o.w ∧ PdV w cs o.p ∧ NdV w cs o.n ∧ GpV w cs o.g ∧ HpV w cs o.h
theorem WlV.below {w w' : World} {cs : Array Value} {x : Wl} (h : WlV w cs x) (hb : Below w.heap.size w w') : WlV w' cs x := by
  obtain ⟨a1, a2, a3, a4, a5, a6, a7⟩ := h
  exact ⟨a1, a2, a3, a4.below hb, a5.below hb, a6.below hb, a7⟩
theorem PdV.below {w w' : World} {cs : Array Value} {x : Pd} (h : PdV w cs x) (hb : Below w.heap.size w w') : PdV w' cs x := by
  obtain ⟨a1, a2, a3, a4, a5, a6, a7, a8, a9, a10⟩ := h
  exact ⟨a1, a2, a3, a4, a5, a6, a7.below hb, a8.below hb, a9.below hb, a10⟩
theorem NdV.below {w w' : World} {cs : Array Value} {x : Nd} (h : NdV w cs x) (hb : Below w.heap.size w w') : NdV w' cs x := by
  obtain ⟨a1, a2, a3, a4, a5, a6, a7⟩ := h
  exact ⟨a1, a2, a3, a4.below hb, a5.below hb, a6, a7⟩
theorem GpV.below {w w' : World} {cs : Array Value} {x : Gp} (h : GpV w cs x) (hb : Below w.heap.size w w') : GpV w' cs x := by
  obtain ⟨a1, a2, a3, a4, a5, a6, a7, a8⟩ := h
  exact ⟨a1, a2, a3, a4, a5, a6.below hb, a7.below hb, a8⟩
theorem HpV.below {w w' : World} {cs : Array Value} {x : Hp} (h : HpV w cs x) (hb : Below w.heap.size w w') : HpV w' cs x := by
  obtain ⟨a1, a2, a3, a4, a5, a6, a7, a8, a9, a10, a11, a12⟩ := h
  exact ⟨a1, a2, a3, a4.below hb, a5, a6, a7, a8.below hb, a9, a10, a11.below hb, a12.below hb⟩
theorem ObjV.below {w w' : World} {cs : Array Value} {o : Ob} (h : ObjV w cs o) (hb : Below w.heap.size w w') : ObjV w' cs o := by
  obtain ⟨a1, a2, a3, a4, a5, a6, a7⟩ := h
  exact ⟨a1, a2, a3.below hb, a4.below hb, a5.below hb, a6.below hb, a7.below hb⟩

/-! ### bytes -/
def wlB (x : Wl) : List UInt8 := num x.rep ++ (num x.cpu ++ num x.mem) ++ rowB byL x.lab ++ rowB byR x.sel ++ rowB byL x.tol ++ num x.warm
def pdB (x : Pd) : List UInt8 := txt x.own ++ txt x.node ++ num x.ph ++ num x.since ++ (num x.cpu ++ num x.mem) ++ rowB byL x.lab ++ rowB byR x.sel ++ rowB byL x.tol ++ num x.warm
def ndB (x : Nd) : List UInt8 := txt x.grp ++ (num x.cpu ++ num x.mem) ++ rowB byL x.lab ++ rowB byL x.tnt ++ num x.since ++ tru x.closed
def gpB (x : Gp) : List UInt8 := num x.mn ++ num x.mx ++ num x.tg ++ (num x.cpu ++ num x.mem) ++ rowB byL x.lab ++ rowB byL x.tnt ++ num x.prio
def hpB (x : Hp) : List UInt8 := txt x.tg ++ num x.mn ++ num x.mx ++ rowB byM x.met ++ num x.tol ++ behB x.uw x.up x.upol ++ behB x.dw x.dp x.dpol ++ rowB byS x.past
def hdB (o : Ob) : List UInt8 := le (u64 o.kind) 1 ++ txt o.name ++ le o.ver 8
def shB (o : Ob) : List UInt8 := if o.kind = 0 then wlB o.w else if o.kind = 1 then pdB o.p else if o.kind = 2 then ndB o.n else if o.kind = 3 then gpB o.g else hpB o.h
def objB (o : Ob) : List UInt8 := hdB o ++ shB o

/-! ### short ones -/
def ftRow {α : Type} (ok : α → Bool) (l : List α) : Bool := l.all ok && decide (l.length ≤ 255)
theorem ftRow_iff {α : Type} {ok : α → Bool} {l : List α} : ftRow ok l = true ↔ l.all ok = true ∧ l.length ≤ 255 := by simp [ftRow]
def ftT (s : ByteArray) : Bool := decide (s.size ≤ 140737488351232)
theorem ftT_iff {s : ByteArray} : ftT s = true ↔ s.size ≤ 140737488351232 := by simp [ftT]
def ftW (x : Wl) : Bool := ftRow ftL x.lab && ftRow ftR x.sel && ftRow ftL x.tol
def ftP (x : Pd) : Bool := ftT x.own && ftT x.node && ftRow ftL x.lab && ftRow ftR x.sel && ftRow ftL x.tol
def ftN (x : Nd) : Bool := ftT x.grp && ftRow ftL x.lab && ftRow ftL x.tnt
def ftG (x : Gp) : Bool := ftRow ftL x.lab && ftRow ftL x.tnt
def ftH (x : Hp) : Bool := x.met.all ftM && ftT x.tg && decide (x.met.length ≤ 255) && decide (x.past.length ≤ 255) && decide (x.upol.length ≤ 255) && decide (x.dpol.length ≤ 255)
def ftS (o : Ob) : Bool := if o.kind = 0 then ftW o.w else if o.kind = 1 then ftP o.p else if o.kind = 2 then ftN o.n else if o.kind = 3 then ftG o.g else ftH o.h
def ftO (o : Ob) : Bool := ftT o.name && ftS o
theorem row_size {α : Type} {f : α → List UInt8} {c : Nat} {l : List α} (h : ∀ x ∈ l, (f x).length ≤ c) (hl : l.length ≤ 255) (hc : c ≤ 281474976702474) : (rowB f l).length ≤ 71776119059131870 := by
  have h1 := rowB_len f c l h
  have h2 : l.length * c ≤ 255 * 281474976702474 := Nat.mul_le_mul hl hc
  omega
theorem lab_size {l : List Lab} (h : l.all ftL = true) (hl : l.length ≤ 255) : (rowB byL l).length ≤ 71776119059131870 := row_size (fun x hx => byL_len x (List.all_eq_true.1 h x hx)) hl (by decide)
theorem req_size {l : List Req} (h : l.all ftR = true) (hl : l.length ≤ 255) : (rowB byR l).length ≤ 71776119059131870 := row_size (fun x hx => byR_len x (List.all_eq_true.1 h x hx)) hl (by decide)
theorem met_size {l : List Met} (h : l.all ftM = true) (hl : l.length ≤ 255) : (rowB byM l).length ≤ 71776119059131870 := row_size (fun x hx => byM_len x (List.all_eq_true.1 h x hx)) hl (by decide)
theorem beh_size {a b : Int} {l : List Pol} (hl : l.length ≤ 255) : (behB a b l).length ≤ 71776119059131886 := by
  have := row_size (f := byP) (c := 17) (l := l) (fun x hx => Nat.le_of_eq (byP_len x)) hl (by decide)
  simp [behB, num_len]
  omega
end Go.Proofs.Ytfmllfolpcimpaa
