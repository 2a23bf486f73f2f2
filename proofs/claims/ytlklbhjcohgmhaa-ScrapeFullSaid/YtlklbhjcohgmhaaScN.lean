/- The names of the law that fills a book. -/
import Derived.Test.YtlklbhjcohgmhaaObN
import Derived.Test.YtlklbhjcohgmhaaScA
namespace Go.Proofs.Ytlklbhjcohgmhaa
open Go.RowKit Go.Shelf Go.Lib Go.Sort
open Go.Joins (cell_of_block unfrozen_of_block block_setCell)
set_option linter.unusedVariables false
set_option linter.unusedSimpArgs false
set_option maxRecDepth 20000

def nm (i : Nat) : ByteArray := { data := #[112, UInt8.ofNat (97 + i / 26), UInt8.ofNat (97 + i % 26)] }
theorem run_str2 (w : World) (a b : Nat) : (convert 53 9 (.slice (some ⟨w.heap.size, 0, none⟩) 2 2)).run Try.prog (w.alloc (.cells #[.int .u8 (a : Int), .int .u8 (b : Int)] 5)) = .ok (.string (mk [UInt8.ofNat a, UInt8.ofNat b])) (w.alloc (.cells #[.int .u8 (a : Int), .int .u8 (b : Int)] 5)) := by
  have h := run_convert_bytes_arg (P := Try.prog) (w.alloc (.cells #[.int .u8 (a : Int), .int .u8 (b : Int)] 5)) 53 5 Try.underlying53 Try.underlying5 w.heap.size 0 2 2 [(a : Int), (b : Int)] rfl (fun i hi => by
    have : i = 0 ∨ i = 1 := by omega
    rcases this with rfl | rfl
    · simp
    · simp) 9 Try.underlying9
  rw [h]
  rfl
set_option maxHeartbeats 1000000 in
theorem nm_any (w : World) (i : Nat) (hi : i < 512) : Calls Try.prog 15 #[.int .i64 (i : Int)] w fun r w' => r = .returned (.string (nm i)) ∧ Below w.heap.size w w' := by
  obtain ⟨a, ha⟩ : ∃ a, a = i / 26 := ⟨_, rfl⟩
  obtain ⟨b, hb⟩ : ∃ b, b = i % 26 := ⟨_, rfl⟩
  have e1 : (i : Int) / 26 = (a : Int) := by omega
  have e2 : (i : Int) % 26 = (b : Int) := by omega
  obtain ⟨x, hx⟩ : ∃ x, x = 97 + a := ⟨_, rfl⟩
  obtain ⟨y, hy⟩ : ∃ y, y = 97 + b := ⟨_, rfl⟩
  have e3 : (97 : Int) + (a : Int) = (x : Int) := by omega
  have e4 : (97 : Int) + (b : Int) = (y : Int) := by omega
  have la : a ≤ 19 := by omega
  have lb : b ≤ 25 := by omega
  have hn : nm i = mk [112] ++ mk [UInt8.ofNat x, UInt8.ofNat y] := by
    unfold nm
    rw [mk_app, hx, hy, ha, hb]
    rfl
  have cs := run_str2 w x y
  have hs : (mk [112]).size + (mk [UInt8.ofNat x, UInt8.ofNat y]).size ≤ 9223372036854775807 := by rw [mk_size, mk_size]; simp
  have F : Hid (∀ o, Below w.heap.size w (w.alloc o)) := fun o => (Below.refl _ _).alloc (Nat.le_refl _) _
  have HN := Lib.hid hn
  have h112 : ({ data := #[112] } : ByteArray) = mk [112] := rfl
  have H112 := Lib.hid h112
  clear ha hb hx hy hn h112
  go_enter Try.func15, Try.ntmps15
  go_wp2
  go_ret
  exact ⟨by rw [HN.out]; rfl, F.out _⟩
theorem nm_inj {i j : Nat} (hi : i < 512) (hj : j < 512) (h : nm i = nm j) : i = j := by
  unfold nm at h
  simp only [ByteArray.mk.injEq, Array.mk.injEq, List.cons.injEq, and_true, true_and] at h
  obtain ⟨h1, h2⟩ := h
  have a1 := congrArg UInt8.toNat h1
  have a2 := congrArg UInt8.toNat h2
  simp only [UInt8.toNat_ofNat'] at a1 a2
  omega
theorem nm_name : ∀ i, i < 512 → nameB (nm i) = true := by decide +kernel
theorem nm_size (i : Nat) : (nm i).size = 3 := rfl
def vM : ByteArray := { data := #[109] }
def vO : ByteArray := { data := #[111, 116, 104, 101, 114] }
theorem name_M : nameB vM = true := by decide +kernel
theorem name_O : nameB vO = true := by decide +kernel
theorem nm_other (i : Nat) : nm i ≠ vO := fun e => by
  have := congrArg ByteArray.size e
  rw [nm_size] at this
  cases this
theorem ok_nm (i : Nat) : OkS (nm i, vM) := ⟨by show (3 : Nat) ≤ maxLen; decide, by show (1 : Nat) ≤ maxLen; decide⟩
theorem ok_O : OkS (vO, vM) := ⟨by show (5 : Nat) ≤ maxLen; decide, by show (1 : Nat) ≤ maxLen; decide⟩
end Go.Proofs.Ytlklbhjcohgmhaa
