/- What the laws of layer 2 have in common: what the listed variables give a walk, a world that meets the list, the chapter's example. -/
import Derived.Test.YtbocjgamlkoflaaDoorRows
import Derived.Test.YtbocjgamlkoflaaDoorQuantD
import Derived.Test.YtbocjgamlkoflaaDoorRefD
import Derived.Test.YtbocjgamlkoflaaDoorPost
import Derived.ProofKit
import Derived.LaidMore
import Derived.OpenShut
import Derived.Lib.LaidTab
import Derived.Stop.LaidErr
import Derived.Stop.Joined
import Derived.MakeChecks
namespace Go.Proofs.YtbocjgamlkoflaaDoor
open Go.ChangeShapes Go.WideShapes Go.ChangeAt Go.RowKit
set_option linter.unusedVariables false

theorem own : ownKnob Tryd.prog.godebug = none := by kernel_rfl
def lst : List (String × DataW Unit) := Rows.quantSumsRow.laid
theorem pow_data : (Rows.laid_internal_strconv_uint64pow10 : DataW Unit) = Lib.tabData .u64 Lib.pow10Tab := by kernel_rfl
theorem g_pow : Tryd.prog.globalNamed "internal/strconv.uint64pow10" = some 2 := by kernel_rfl
theorem t_pow : (Tryd.prog.globals[2]?).map (·.type) = some 84 := by kernel_rfl
theorem c_pow : Tryd.prog.cellsOf 84 = 20 := by kernel_rfl
theorem c_u64 : Tryd.prog.cellsOf 26 = 1 := by kernel_rfl
theorem g_err : Tryd.prog.globalNamed "strconv.ErrRange" = some 1 := by kernel_rfl
theorem t_err : (Tryd.prog.globals[1]?).map (·.type) = some 51 := by kernel_rfl
theorem c_es : Tryd.prog.cellsOf 92 = 1 := by kernel_rfl
theorem c_str : Tryd.prog.cellsOf 9 = 1 := by kernel_rfl
theorem star : "*" ++ "errors.errorString" = "*errors.errorString" := by decide
theorem row_es (u : TypeId) (h : Tryd.prog.typeName? 3 u = some "*errors.errorString") : u = 90 :=
  typeName_ptr_named (nm := "errors.errorString") (by rw [star]; kernel_rfl) (by kernel_rfl) (by decide) u (by rw [star]; exact h)

theorem of_laid {W : World} (h : laidMetH Tryd.prog lst W) : Laid W := by
  rw [MakeChecks.laidMetH_plain _ _ _ (by kernel_rfl)] at h
  have h1 : laidMet Tryd.prog (_ :: _ :: ("internal/strconv.uint64pow10", Rows.laid_internal_strconv_uint64pow10) :: ("strconv.ErrRange", Rows.laid_strconv_ErrRange) :: _) W := h
  rw [pow_data] at h1
  have h2 := h1.tail.tail
  refine ⟨Lib.tabIs_of_head g_pow t_pow Tryd.underlying84 Tryd.underlying26 c_u64 c_pow h2, ?_⟩
  obtain ⟨a, s, hv, _⟩ := laid_sentinel h2.tail g_err t_err Tryd.underlying51 row_es Tryd.underlying90 Tryd.underlying92 rfl rfl Tryd.underlying9 c_es c_str
  exact ⟨_, _, hv⟩

/-- The door's own heap meets the list. -/
theorem door_met (os : Os) (args : Array Value) : laidMetH Tryd.prog lst ((World.doorLaid Tryd.prog 2000 os).forCall (fun _ _ => 0) ⟨#[], args, []⟩).memory :=
  laidMetH_of_parts3 (fuel := 8) (laidMet_of_run' 8 (by kernel_rfl) (by kernel_rfl)) (by kernel_rfl) (by kernel_rfl)

/-! ### The chapter's example -/
abbrev t500m : ByteArray := { data := #[53, 48, 48, 109] }
abbrev t2Ki : ByteArray := { data := #[50, 75, 105] }
theorem good500 : Good t500m.data.toList 3 500 1 := ⟨by decide, by decide, by decide, by decide, by decide, by decide⟩
theorem good2Ki : Good t2Ki.data.toList 1 2 1024000 := ⟨by decide, by decide, by decide, by decide, by decide, by decide⟩
theorem dd1500 : Lib.decDigits 1500 ++ [109] = [49, 53, 48, 48, 109] := by simp [Lib.decDigits]
theorem dd2 : Lib.decDigits (2000 / 1000) = [50] := by simp [Lib.decDigits]

theorem lives_any (w : World) (hL : Laid w) : Calls Tryd.prog 7 #[] w fun e w' => e = .returned (.bool true) ∧ Below w.heap.size w w' := by
  have P1 := Lib.hid (fun W : World => parse_ok t500m W (by decide) good500 (by decide))
  have P2 := Lib.hid (fun W : World => parse_ok t2Ki W (by decide) good2Ki (by decide))
  have T1 := Lib.hid (fun (W : World) (h : Laid W) => text_milli 1500 W (by decide) (by decide) h)
  have T2 := Lib.hid (fun (W : World) (h : Laid W) => text_whole 2000 W (by decide) (by decide) h)
  have HL := Lib.hid hL
  clear hL
  go_enter Tryd.func7, Tryd.ntmps7
  go_wp2_with fail
  refine (P1.out _).mono ?_
  rintro e w1 ⟨rfl, h1⟩
  go_wp2_with fail
  refine (P2.out _).mono ?_
  rintro e w2 ⟨rfl, h2⟩
  go_wp2_with fail
  refine (T1.out _ ((HL.out.below h1).below h2)).mono ?_
  rintro e w3 ⟨s3, rfl, hs3, h3⟩
  have e3 : (s3.toList == [49, 53, 48, 48, 109]) = true := by rw [Lib.toList_data, hs3, dd1500]; decide
  have H3 := Lib.hid hs3
  clear hs3
  go_wp2_with fail
  refine (T2.out _ (((HL.out.below h1).below h2).below h3)).mono ?_
  rintro e w4 ⟨s4, rfl, hs4, h4⟩
  have e4 : (s4.toList == [50]) = true := by rw [Lib.toList_data, hs4, dd2]; decide
  have H4 := Lib.hid hs4
  clear hs4
  go_wp2
  go_ret
  have z1 := h1.size
  have z2 := h2.size
  have z3 := h3.size
  exact ⟨rfl, ((h1.trans (h2.mono z1)).trans (h3.mono (by omega))).trans (h4.mono (by omega))⟩
end Go.Proofs.YtbocjgamlkoflaaDoor
