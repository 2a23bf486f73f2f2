/- The library's contract for math/bits.LeadingZeros64, at this program's numbers. -/
import Derived.Shelf.Small.Bits
import Derived.Test.YtfmllfolpcimpaaShelfM
namespace Go.Proofs.Ytfmllfolpcimpaa
open Go.Shelf

def lz_ren : Go.Shelf.Ren := ⟨fun | 134 => 24 | 129 => 25 | n => n, fun | 53 => 40 | 3 => 3 | 4 => 4 | 46 => 59 | 5 => 5 | 9 => 9 | n => n, fun | n => n⟩
theorem lz_lays : Go.Proofs.Lays.n134 Try.prog lz_ren := {
  mixed := by kernel_rfl
  f129 := Try.func25.trans (congrArg some (by kernel_rfl))
  f134 := Try.func24.trans (congrArg some (by kernel_rfl))
  t3 := Try.underlying3
  a3 := Try.isAgg3
  z3 := Try.sizeOf3
  v3 := Try.zeroValue3
  t4 := Try.underlying4
  a4 := Try.isAgg4
  z4 := Try.sizeOf4
  v4 := Try.zeroValue4
  t5 := Try.underlying5
  a5 := Try.isAgg5
  z5 := Try.sizeOf5
  v5 := Try.zeroValue5
  t9 := Try.underlying9
  a9 := Try.isAgg9
  z9 := Try.sizeOf9
  v9 := Try.zeroValue9
  t46 := Try.underlying59
  a46 := Try.isAgg59
  z46 := Try.sizeOf59
  v46 := Try.zeroValue59
  t53 := Try.underlying40
  a53 := Try.isAgg40
  z53 := Try.sizeOf40
  v53 := Try.zeroValue40 }
theorem lz_any (x : Nat) (w : World) (h1 : x < 18446744073709551616) :
    Calls Try.prog 24 #[.int .u64 (x : Int)] w fun e w' => e = .returned (.int .i64 (64 - (Lib.bitLen x : Int))) ∧ w = w' :=
  (Any.bits_LeadingZeros64 lz_lays (x : Int) w (by omega) (by omega)).mono fun _ _ h => ⟨h.1, h.2.symm⟩

end Go.Proofs.Ytfmllfolpcimpaa
