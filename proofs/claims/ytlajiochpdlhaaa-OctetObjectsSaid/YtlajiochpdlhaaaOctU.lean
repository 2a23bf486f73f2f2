/- What is written is read: numbers and texts. -/
import Derived.Test.YtlajiochpdlhaaaOctK
namespace Go.Proofs.Ytlajiochpdlhaaa
open Go.RowKit Go.Shelf Go.Lib Go.Sort
set_option linter.unusedVariables false

theorem take_of {n : Nat} {a r : List UInt8} (h : a.length = n) : takeS n (some (a ++ r)) = a ∧ dropS n (some (a ++ r)) = some r := by
  subst h
  unfold takeS dropS
  dsimp only
  rw [if_pos (by simp), if_pos (by simp)]
  simp
theorem valU_le : ∀ (n x : Nat), valU (le x n) = x % 256 ^ n
  | 0, x => by simp [le, valU, Nat.mod_one]
  | n + 1, x => by
    rw [le, valU, valU_le n]
    have h1 : (UInt8.ofNat x).toNat = x % 256 := by simp
    rw [h1, Nat.pow_succ, Nat.mul_comm (256 ^ n) 256, Nat.mod_mul]
theorem get_le {n x : Nat} {r : List UInt8} : valU (takeS n (some (le x n ++ r))) = x % 256 ^ n ∧ dropS n (some (le x n ++ r)) = some r := by
  obtain ⟨h1, h2⟩ := take_of (n := n) (a := le x n) (r := r) (le_len n x)
  rw [h1, h2, valU_le]
  exact ⟨rfl, rfl⟩
theorem int_num {x : Int} {r : List UInt8} (h1 : -9223372036854775808 ≤ x) (h2 : x < 9223372036854775808) : intS (some (num x ++ r)) = x ∧ dropS 8 (some (num x ++ r)) = some r := by
  obtain ⟨g1, g2⟩ := get_le (n := 8) (x := u64 x) (r := r)
  refine ⟨?_, g2⟩
  unfold intS
  show toI (valU (takeS 8 (some (le (u64 x) 8 ++ r)))) = x
  rw [g1, Nat.mod_eq_of_lt (u64_lt x), toI_u64 h1 h2]
theorem text_txt {t : ByteArray} {r : List UInt8} (h : t.size ≤ 255) : textS (some (txt t ++ r)) = by_ t ∧ textD (some (txt t ++ r)) = some r := by
  have e : some (txt t ++ r) = some (le t.size 1 ++ (by_ t ++ r)) := by rw [txt, List.append_assoc]
  obtain ⟨g1, g2⟩ := get_le (n := 1) (x := t.size) (r := by_ t ++ r)
  have hl : lenS (some (le t.size 1 ++ (by_ t ++ r))) = t.size := by
    unfold lenS
    rw [g1]
    exact Nat.mod_eq_of_lt (by omega)
  unfold textS textD
  rw [e, hl, g2]
  exact take_of (by_len t)
end Go.Proofs.Ytlajiochpdlhaaa
