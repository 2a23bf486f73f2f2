/- Plain facts on decimal digits, as bytes. No program is named here. -/
import Derived.Test.YtbocjgamlkoflaaDoorQuantB
import Derived.Lib.ParseIntB
import Derived.Lib.ItoaNum
import Derived.Lib.ItoaMem
import Derived.Lib.Strings
namespace Go.Proofs.YtbocjgamlkoflaaDoor
open Go.RowKit
set_option linter.unusedVariables false

abbrev isDig (c : UInt8) : Prop := 48 ≤ c.toNat ∧ c.toNat ≤ 57
def AllDig (l : List UInt8) : Prop := ∀ c ∈ l, isDig c
def dec (acc : Nat) (l : List UInt8) : Nat := l.foldl (fun a c => a * 10 + (c.toNat - 48)) acc
theorem dec_nil (acc : Nat) : dec acc [] = acc := rfl
theorem dec_cons (acc : Nat) (c : UInt8) (r : List UInt8) : dec acc (c :: r) = dec (acc * 10 + (c.toNat - 48)) r := by unfold dec; rw [List.foldl_cons]
theorem dec_append (l m : List UInt8) (acc : Nat) : dec acc (l ++ m) = dec (dec acc l) m := by unfold dec; rw [List.foldl_append]
theorem dec_snoc (acc : Nat) (l : List UInt8) (c : UInt8) : dec acc (l ++ [c]) = dec acc l * 10 + (c.toNat - 48) := by rw [dec_append, dec_cons, dec_nil]
theorem dec_ge (l : List UInt8) : ∀ acc, acc ≤ dec acc l := by
  induction l with
  | nil => intro acc; exact Nat.le_refl _
  | cons c r ih =>
    intro acc
    rw [dec_cons]
    exact Nat.le_trans (by omega) (ih (acc * 10 + (c.toNat - 48)))
theorem lead_take : ∀ l : List UInt8, AllDig (l.take (lead l))
  | [] => by intro c hc; cases hc
  | c :: r => by
    by_cases h : 48 ≤ c.toNat ∧ c.toNat ≤ 57
    · rw [lead_yes h.1 h.2, List.take_succ_cons]
      intro d hd
      rcases List.mem_cons.1 hd with rfl | hd
      · exact h
      · exact lead_take r d hd
    · rw [lead_no h]
      intro d hd
      cases hd
theorem lead_all : ∀ {l m : List UInt8}, AllDig l → lead m = 0 → lead (l ++ m) = l.length
  | [], m, _, h => h
  | c :: r, m, ha, h => by
    have hc := ha c (List.mem_cons_self)
    rw [List.cons_append, lead_yes hc.1 hc.2, lead_all (fun d hd => ha d (List.mem_cons_of_mem _ hd)) h]
    rfl

theorem pum_nil (M acc : Nat) : Lib.parseUintM M acc [] = .ok acc := rfl
theorem pum_dig (M acc : Nat) (c : UInt8) (r : List UInt8) (h : isDig c) : Lib.parseUintM M acc (c :: r) =
    if 1844674407370955162 ≤ acc then .range
    else if M < acc * 10 + (c.toNat - 48) then .range
    else Lib.parseUintM M (acc * 10 + (c.toNat - 48)) r := if_pos h
theorem parse_dig (M : Nat) (hM : M = 18446744073709551615) (l : List UInt8) : ∀ acc, AllDig l → acc ≤ M →
    Lib.parseUintM M acc l = if dec acc l ≤ M then .ok (dec acc l) else .range := by
  have hM' : M / 10 + 1 = 1844674407370955162 := by rw [hM]
  clear hM
  induction l with
  | nil => intro acc _ h; rw [pum_nil, dec_nil, if_pos h]
  | cons c r ih =>
    intro acc ha h
    have hc : isDig c := ha c (List.mem_cons_self)
    have hr : AllDig r := fun d hd => ha d (List.mem_cons_of_mem _ hd)
    have hg := dec_ge r (acc * 10 + (c.toNat - 48))
    rw [pum_dig _ _ _ _ hc, dec_cons, ← hM']
    by_cases h1 : M / 10 + 1 ≤ acc
    · rw [if_pos h1, if_neg (by omega)]
    · rw [if_neg h1]
      by_cases h2 : M < acc * 10 + (c.toNat - 48)
      · rw [if_pos h2, if_neg (by omega)]
      · rw [if_neg h2]
        exact ih _ hr (by omega)
theorem parseU_ok {l : List UInt8} (h0 : l ≠ []) (ha : AllDig l) (h : dec 0 l ≤ 18446744073709551615) : Lib.parseUintB 64 l = .ok (dec 0 l) := by
  rw [Lib.parseUintB, if_neg h0, parse_dig (2 ^ 64 - 1) (by decide) l 0 ha (Nat.zero_le _), if_pos h]
theorem parseU_range {l : List UInt8} (h0 : l ≠ []) (ha : AllDig l) (h : 18446744073709551615 < dec 0 l) : Lib.parseUintB 64 l = .range := by
  rw [Lib.parseUintB, if_neg h0, parse_dig (2 ^ 64 - 1) (by decide) l 0 ha (Nat.zero_le _), if_neg (Nat.not_le.2 h)]

theorem dig_nat {d : Nat} (h : d < 10) : (UInt8.ofNat (48 + d)).toNat = 48 + d := by
  rw [UInt8.toNat_ofNat']; omega
theorem decD_dig (u : Nat) : AllDig (Lib.decDigits u) := by
  induction u using Nat.strongRecOn with
  | _ u ih =>
    rw [Lib.decDigits]
    split
    · rename_i h
      intro c hc
      obtain rfl := List.mem_singleton.1 hc
      have := dig_nat h
      unfold isDig
      omega
    · rename_i h
      intro c hc
      rcases List.mem_append.1 hc with hc | hc
      · exact ih (u / 10) (by omega) c hc
      · obtain rfl := List.mem_singleton.1 hc
        have := dig_nat (d := u % 10) (by omega)
        unfold isDig
        omega
theorem decD_val (u : Nat) : dec 0 (Lib.decDigits u) = u := by
  induction u using Nat.strongRecOn with
  | _ u ih =>
    rw [Lib.decDigits]
    split
    · rename_i h
      rw [dec_cons, dec_nil, dig_nat h]; omega
    · rename_i h
      rw [dec_snoc, ih (u / 10) (by omega), dig_nat (by omega)]
      omega
theorem decD_ne (u : Nat) : Lib.decDigits u ≠ [] := by
  intro e
  have h1 := Lib.decDigits_length u
  have h2 := Lib.nDigits_pos u
  rw [e] at h1
  simp at h1
  omega
/-- No nought ahead of others. -/
theorem decD_head (u : Nat) : 0 < u → ∃ c r, Lib.decDigits u = c :: r ∧ c.toNat ≠ 48 := by
  induction u using Nat.strongRecOn with
  | _ u ih =>
    intro h0
    rw [Lib.decDigits]
    split
    · rename_i h
      exact ⟨_, _, rfl, by rw [dig_nat h]; omega⟩
    · rename_i h
      obtain ⟨c, r, e, hc⟩ := ih (u / 10) (by omega) (by omega)
      exact ⟨c, r ++ [UInt8.ofNat (48 + u % 10)], by rw [e]; rfl, hc⟩
theorem decD_len (u : Nat) : ∀ k, u < 10 ^ (k + 1) → (Lib.decDigits u).length ≤ k + 1 := by
  intro k
  induction k generalizing u with
  | zero => intro h; rw [Lib.decDigits, dif_pos (by simpa using h)]; simp
  | succ k ih =>
    intro h
    rw [Lib.decDigits]
    split
    · simp
    · rw [List.length_append, List.length_singleton]
      have := ih (u / 10) (by rw [Nat.pow_succ] at h; omega)
      omega
end Go.Proofs.YtbocjgamlkoflaaDoor
