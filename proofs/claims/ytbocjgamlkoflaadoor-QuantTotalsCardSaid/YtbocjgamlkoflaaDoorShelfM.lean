/- The library's contract for math/bits.Mul64, at this program's numbers. -/
import Derived.Shelf.Bits.Mul64
import Derived.Test.YtbocjgamlkoflaaDoorProg
namespace Go.Proofs.YtbocjgamlkoflaaDoor
open Go.Shelf

def mul_ren : Go.Shelf.Ren := ⟨fun | 264 => 41 | n => n, fun | 53 => 26 | 46 => 64 | n => n, fun | n => n⟩
theorem mul_lays : Go.Proofs.Lays.n264 Tryd.prog mul_ren := {
  mixed := by kernel_rfl
  f264 := Tryd.func41.trans (congrArg some (by kernel_rfl))
  t46 := Tryd.underlying64
  a46 := Tryd.isAgg64
  z46 := Tryd.sizeOf64
  v46 := Tryd.zeroValue64
  t53 := Tryd.underlying26
  a53 := Tryd.isAgg26
  z53 := Tryd.sizeOf26
  v53 := Tryd.zeroValue26 }
theorem mul64_any (x y : Nat) (hx : x < 18446744073709551616) (hy : y < 18446744073709551616) (w : World) :
    Calls Tryd.prog 41 #[.int .u64 (x : Int), .int .u64 (y : Int)] w fun e w' => e = .returned (.tuple #[.int .u64 ((x * y / 18446744073709551616 : Nat) : Int), .int .u64 ((x * y % 18446744073709551616 : Nat) : Int)]) ∧ w = w' :=
  (Any.bits_Mul64 mul_lays x y hx hy w).mono fun _ _ h => ⟨h.1, h.2.symm⟩

end Go.Proofs.YtbocjgamlkoflaaDoor
