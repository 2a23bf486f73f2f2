/- Layer 12, for the layers above: what Rate answers of any row of quantities at ticks that rise. -/
import Derived.Test.YtajkhbdniadkkaaRtC
namespace Go.Proofs.Ytajkhbdniadkkaa.Rt
open Go.RowKit Go.Lib
open Go.Joins (cell_of_block unfrozen_of_block block_setCell)
set_option linter.unusedVariables false
set_option linter.unusedSimpArgs false
set_option maxRecDepth 20000

/-- Rate's answer and its error. -/
def incT (l : List Sam) : Int := inc l (l.length - 1)
def rateE (l : List Sam) : Int := if l.length < 2 then 14 else if 9007199254740992 < incT l then 3 else 0
def rateV (l : List Sam) : Int := if l.length < 2 then 0 else if 9007199254740992 < incT l then 0 else incT l / ((l.getD (l.length - 1) (0, 0)).1 - (l.getD 0 (0, 0)).1)
theorem good_rise {l : List Sam} (h : Good l) : ∀ (d k : Nat) x y, l[k]? = some x → l[k + (d + 1)]? = some y → x.1 < y.1 := by
  intro d
  induction d with
  | zero => intro k x y hx hy; exact h.2 k x y hx hy
  | succ d ih =>
    intro k x y hx hy
    have hlt := (List.getElem?_eq_some_iff.1 hy).1
    have hz : l[k + (d + 1)]? = some l[k + (d + 1)] := List.getElem?_eq_getElem (by omega)
    have h1 := ih k x _ hx hz
    have h2 := h.2 (k + (d + 1)) _ y hz (by rw [show k + (d + 1) + 1 = k + (d + 1 + 1) by omega]; exact hy)
    omega
theorem wrap_sub (a b : Int) : IntKind.u64.wrap (IntKind.u64.wrap b - IntKind.u64.wrap a) = IntKind.u64.wrap (b - a) := by
  rw [IntKind.wrap_u64, IntKind.wrap_u64, IntKind.wrap_u64, IntKind.wrap_u64]
  omega
def RateIs (w : World) (l : List Sam) (e : Ending) (w' : World) : Prop := e = .returned (.tuple #[.int .i64 (rateV l), .int .i64 (rateE l)]) ∧ Below w.heap.size w w'

end Go.Proofs.Ytajkhbdniadkkaa.Rt
