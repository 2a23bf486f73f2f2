/- The library's contract for math/bits.Mul64, at this program's numbers. -/
import Derived.Shelf.Bits.Mul64
import Derived.Test.YtfmllfolpcimpaaProg
namespace Go.Proofs.Ytfmllfolpcimpaa
open Go.Shelf

def mul_ren : Go.Shelf.Ren := ⟨fun | 264 => 22 | n => n, fun | 53 => 40 | 46 => 59 | n => n, fun | n => n⟩
theorem mul_lays : Go.Proofs.Lays.n264 Try.prog mul_ren := {
  mixed := by kernel_rfl
  f264 := Try.func22.trans (congrArg some (by kernel_rfl))
  t46 := Try.underlying59
  a46 := Try.isAgg59
  z46 := Try.sizeOf59
  v46 := Try.zeroValue59
  t53 := Try.underlying40
  a53 := Try.isAgg40
  z53 := Try.sizeOf40
  v53 := Try.zeroValue40 }
theorem mul64_any (x y : Nat) (hx : x < 18446744073709551616) (hy : y < 18446744073709551616) (w : World) :
    Calls Try.prog 22 #[.int .u64 (x : Int), .int .u64 (y : Int)] w fun e w' => e = .returned (.tuple #[.int .u64 ((x * y / 18446744073709551616 : Nat) : Int), .int .u64 ((x * y % 18446744073709551616 : Nat) : Int)]) ∧ w = w' :=
  (Any.bits_Mul64 mul_lays x y hx hy w).mono fun _ _ h => ⟨h.1, h.2.symm⟩

end Go.Proofs.Ytfmllfolpcimpaa
