/- A ring of string: how many there are; places; the youngest one. -/
import Derived.Test.YthpmdaioekpipaaRgA
namespace Go.Proofs.Ythpmdaioekpipaa
open Go.RowKit Go.Lib
open Go.Joins (cell_of_block unfrozen_of_block block_setCell)
set_option linter.unusedVariables false
set_option linter.unusedSimpArgs false
set_option maxRecDepth 20000

abbrev TRS : TypeId := 62
abbrev TSS : TypeId := 50
abbrev RgS (w : World) (rb gb n cp f m : Nat) (c : Nat → Int × ByteArray) : Prop := Rg TRS TSS (fun x => .string x) w rb gb n cp f m c
abbrev HasS (w : World) (rb gb n : Nat) (L : List (Int × ByteArray)) : Prop := Has TRS TSS (fun x => .string x) w rb gb n L

theorem infoS : ∃ i : TypeInfo, Try.prog.info? TSS = some i ∧ i.zero = some (.agg #[.int .i64 0, (.string { data := #[] })]) ∧ i.size = 2 ∧ i.bytes = 24 := by
  have hinf : (Try.prog.info? TSS).map (fun i => (i.zero, i.size, i.bytes)) = some (some (.agg #[.int .i64 0, (.string { data := #[] })]), 2, 24) := by kernel_rfl
  cases hi : Try.prog.info? TSS with
  | none => rw [hi] at hinf; cases hinf
  | some i =>
    rw [hi] at hinf
    simp only [Option.map_some, Option.some.injEq, Prod.mk.injEq] at hinf
    exact ⟨i, rfl, hinf.1, hinf.2.1, hinf.2.2⟩

theorem rlen_nilS (w : World) : Calls Try.prog 17 #[.pointer none] w fun e w' => e = .returned (.int .i64 0) ∧ w = w' := by
  go_enter Try.func17, Try.ntmps17
  go_wp2
  go_ret
  exact ⟨rfl, rfl⟩
theorem rlenS (w : World) (rb m : Nat) (h : w.cell? ⟨rb, 2, none⟩ = some (.int .i64 (m : Int))) :
    Calls Try.prog 17 #[.pointer (some ⟨rb, 0, none⟩)] w fun e w' => e = .returned (.int .i64 (m : Int)) ∧ w = w' := by
  go_enter Try.func17, Try.ntmps17
  go_wp2
  go_ret
  exact ⟨rfl, rfl⟩

theorem placeS (w : World) (rb gb n cp f i : Nat) (h0 : w.cell? ⟨rb, 0, none⟩ = some (.slice (some ⟨gb, 0, none⟩) n cp)) (h1 : w.cell? ⟨rb, 1, none⟩ = some (.int .i64 (f : Int))) (hf : f < n) (hi : i ≤ n) (hn : n ≤ 32) :
    Calls Try.prog 24 #[.pointer (some ⟨rb, 0, none⟩), .int .i64 (i : Int)] w fun e w' => e = .returned (.int .i64 ((pl n f i : Nat) : Int)) ∧ w = w' := by
  by_cases hlt : f + i < n
  · have e : ((pl n f i : Nat) : Int) = (f : Int) + (i : Int) := by unfold pl; rw [if_pos hlt]; omega
    have E := Lib.hid e
    have hlt' : ¬ ((n : Int) ≤ (f : Int) + (i : Int)) := by omega
    clear e
    go_enter Try.func24, Try.ntmps24
    go_wp2
    go_ret
    exact ⟨by rw [E.out]; rfl, rfl⟩
  · have e : ((pl n f i : Nat) : Int) = (f : Int) + (i : Int) - (n : Int) := by unfold pl; rw [if_neg hlt]; omega
    have E := Lib.hid e
    have hlt' : (n : Int) ≤ (f : Int) + (i : Int) := by omega
    clear e
    go_enter Try.func24, Try.ntmps24
    go_wp2
    go_ret
    exact ⟨by rw [E.out]; rfl, rfl⟩
end Go.Proofs.Ythpmdaioekpipaa
