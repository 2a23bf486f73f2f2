/- What 'Text' of package quant answers. -/
import Derived.Test.YtbocjgamlkoflaaDoorQuantC
import Derived.Lib.AppendIntMem
namespace Go.Proofs.YtbocjgamlkoflaaDoor
open Go.RowKit
set_option linter.unusedVariables false

/-- The call answers a text of these bytes. -/
def RetText (l : List UInt8) (w : World) (e : Ending) (w' : World) : Prop := ∃ s : ByteArray, e = .returned (.string s) ∧ s.data.toList = l ∧ Below w.heap.size w w'

theorem format_nat (m : Nat) (w : World) (hm : m ≤ 9223372036854775807) (hL : Laid w) :
    Calls Tryd.prog 28 #[.int .i64 (m : Int), .int .i64 10] w (RetText (Lib.decDigits m) w) := by
  refine (sh_strconv_FormatInt_10 (m : Int) (by omega) (by omega) w hL.1).mono ?_
  rintro e w' ⟨rfl, k, os, rfl⟩
  exact ⟨_, rfl, by simp [Lib.itoa_nonneg], Lib.below_grow _ _ (Nat.le_refl _) _ _⟩

theorem text_no (m : Int) (w : World) (h : m < 0 ∨ 9007199254740992 < m) :
    Calls Tryd.prog 15 #[.int .i64 m] w fun e w' => e = .returned (.string ⟨#[63]⟩) ∧ w = w' := by
  go_enter Tryd.func15, Tryd.ntmps15
  go_wp2_with fail
  refine (right_no _ _ h).mono ?_
  rintro e w' ⟨rfl, rfl⟩
  go_wp2
  go_ret
  exact ⟨rfl, rfl⟩
theorem text_whole (m : Nat) (w : World) (h : m ≤ 9007199254740992) (hm : m % 1000 = 0) (hL : Laid w) :
    Calls Tryd.prog 15 #[.int .i64 (m : Int)] w (RetText (Lib.decDigits (m / 1000)) w) := by
  obtain ⟨q, hq⟩ : ∃ q, q = m / 1000 := ⟨_, rfl⟩
  have F := Lib.hid (format_nat q w (by omega) hL)
  rw [← hq]
  have c1 : (m : Int) / 1000 = (q : Int) := by omega
  have c2 : (m : Int) % 1000 = 0 := by omega
  have h1 : (m : Int) ≤ 9007199254740992 := by omega
  clear hq h hm hL
  go_enter Tryd.func15, Tryd.ntmps15
  go_wp2_with fail
  refine (right_yes _ _ (by omega) h1).mono ?_
  rintro e w' ⟨rfl, rfl⟩
  go_wp2_with fail
  refine F.out.mono ?_
  rintro e w1 ⟨s, rfl, hs, hb⟩
  have HS := Lib.hid hs
  clear hs
  go_wp2
  go_ret
  exact ⟨s, rfl, HS.out, hb⟩
theorem text_milli (m : Nat) (w : World) (h : m ≤ 9007199254740992) (hm : m % 1000 ≠ 0) (hL : Laid w) :
    Calls Tryd.prog 15 #[.int .i64 (m : Int)] w (RetText (Lib.decDigits m ++ [109]) w) := by
  have F := Lib.hid (format_nat m w (by omega) hL)
  have c2 : ((m : Int) % 1000 == 0) = false := by simp; omega
  have hlm := decD_len m 15 (by omega)
  have h1 : (m : Int) ≤ 9007199254740992 := by omega
  clear h hm hL
  go_enter Tryd.func15, Tryd.ntmps15
  go_wp2_with fail
  refine (right_yes _ _ (by omega) h1).mono ?_
  rintro e w' ⟨rfl, rfl⟩
  go_wp2_with fail
  refine F.out.mono ?_
  rintro e w1 ⟨s, rfl, hs, hb⟩
  have hlen : s.size + 1 ≤ 9223372036854775807 := by
    have h2 := hlm
    rw [← hs, ← Lib.size_eq] at h2
    omega
  have HS := Lib.hid hs
  clear hs hlm
  go_wp2
  go_ret
  exact ⟨_, rfl, by simp [HS.out], hb⟩

theorem lit_good {l : List UInt8} {n d u : Nat} (h1 : n = lead l) (h2 : 0 < n) (h3 : ¬ (1 < n ∧ l.head? = some 48)) (h4 : u = unitOf (l.drop n)) (h5 : 0 < u) (h6 : d = dec 0 (l.take n)) : Good l n d u := ⟨h1, h2, h3, h4, h5, h6⟩

/-- The text of a quantity is one, and that quantity's. -/
theorem good_whole (q : Nat) : Good (Lib.decDigits q) (Lib.decDigits q).length q 1000 := by
  have e : lead (Lib.decDigits q) = (Lib.decDigits q).length := by
    have := lead_all (m := []) (decD_dig q) rfl
    rwa [List.append_nil] at this
  have hp : 0 < (Lib.decDigits q).length := List.length_pos_iff.2 (decD_ne q)
  refine ⟨e.symm, hp, ?_, by rw [List.drop_length]; rfl, by decide, by rw [List.take_length, decD_val]⟩
  rintro ⟨h1, h2⟩
  rcases Nat.eq_zero_or_pos q with rfl | h
  · rw [show Lib.decDigits 0 = [48] from by rw [Lib.decDigits, dif_pos (by decide)]; rfl] at h1
    simp at h1
  · obtain ⟨c, r, ec, hc⟩ := decD_head q h
    rw [ec] at h2
    obtain rfl := Option.some.inj h2
    exact hc rfl
theorem good_milli (m : Nat) : Good (Lib.decDigits m ++ [109]) (Lib.decDigits m).length m 1 := by
  have e : lead (Lib.decDigits m ++ [109]) = (Lib.decDigits m).length := lead_all (decD_dig m) rfl
  have hp : 0 < (Lib.decDigits m).length := List.length_pos_iff.2 (decD_ne m)
  refine ⟨e.symm, hp, ?_, by rw [List.drop_left' rfl]; rfl, by decide, by rw [List.take_left' rfl, decD_val]⟩
  rintro ⟨h1, h2⟩
  rcases Nat.eq_zero_or_pos m with rfl | h
  · rw [show Lib.decDigits 0 = [48] from by rw [Lib.decDigits, dif_pos (by decide)]; rfl] at h1
    simp at h1
  · obtain ⟨c, r, ec, hc⟩ := decD_head m h
    rw [ec] at h2
    obtain rfl := Option.some.inj h2
    exact hc rfl
end Go.Proofs.YtbocjgamlkoflaaDoor
