/- A ring of int: how many there are; places; the youngest one. -/
import Derived.Test.YthpmdaioekpipaaRgA
namespace Go.Proofs.Ythpmdaioekpipaa
open Go.RowKit Go.Lib
open Go.Joins (cell_of_block unfrozen_of_block block_setCell)
set_option linter.unusedVariables false
set_option linter.unusedSimpArgs false
set_option maxRecDepth 20000

abbrev TRI : TypeId := 54
abbrev TSI : TypeId := 32
abbrev RgI (w : World) (rb gb n cp f m : Nat) (c : Nat → Int × Int) : Prop := Rg TRI TSI (fun x => .int .i64 x) w rb gb n cp f m c
abbrev HasI (w : World) (rb gb n : Nat) (L : List (Int × Int)) : Prop := Has TRI TSI (fun x => .int .i64 x) w rb gb n L

theorem infoI : ∃ i : TypeInfo, Try.prog.info? TSI = some i ∧ i.zero = some (.agg #[.int .i64 0, (.int .i64 0)]) ∧ i.size = 2 ∧ i.bytes = 16 := by
  have hinf : (Try.prog.info? TSI).map (fun i => (i.zero, i.size, i.bytes)) = some (some (.agg #[.int .i64 0, (.int .i64 0)]), 2, 16) := by kernel_rfl
  cases hi : Try.prog.info? TSI with
  | none => rw [hi] at hinf; cases hinf
  | some i =>
    rw [hi] at hinf
    simp only [Option.map_some, Option.some.injEq, Prod.mk.injEq] at hinf
    exact ⟨i, rfl, hinf.1, hinf.2.1, hinf.2.2⟩

theorem rlen_nilI (w : World) : Calls Try.prog 13 #[.pointer none] w fun e w' => e = .returned (.int .i64 0) ∧ w = w' := by
  go_enter Try.func13, Try.ntmps13
  go_wp2
  go_ret
  exact ⟨rfl, rfl⟩
theorem rlenI (w : World) (rb m : Nat) (h : w.cell? ⟨rb, 2, none⟩ = some (.int .i64 (m : Int))) :
    Calls Try.prog 13 #[.pointer (some ⟨rb, 0, none⟩)] w fun e w' => e = .returned (.int .i64 (m : Int)) ∧ w = w' := by
  go_enter Try.func13, Try.ntmps13
  go_wp2
  go_ret
  exact ⟨rfl, rfl⟩

theorem placeI (w : World) (rb gb n cp f i : Nat) (h0 : w.cell? ⟨rb, 0, none⟩ = some (.slice (some ⟨gb, 0, none⟩) n cp)) (h1 : w.cell? ⟨rb, 1, none⟩ = some (.int .i64 (f : Int))) (hf : f < n) (hi : i ≤ n) (hn : n ≤ 32) :
    Calls Try.prog 19 #[.pointer (some ⟨rb, 0, none⟩), .int .i64 (i : Int)] w fun e w' => e = .returned (.int .i64 ((pl n f i : Nat) : Int)) ∧ w = w' := by
  by_cases hlt : f + i < n
  · have e : ((pl n f i : Nat) : Int) = (f : Int) + (i : Int) := by unfold pl; rw [if_pos hlt]; omega
    have E := Lib.hid e
    have hlt' : ¬ ((n : Int) ≤ (f : Int) + (i : Int)) := by omega
    clear e
    go_enter Try.func19, Try.ntmps19
    go_wp2
    go_ret
    exact ⟨by rw [E.out]; rfl, rfl⟩
  · have e : ((pl n f i : Nat) : Int) = (f : Int) + (i : Int) - (n : Int) := by unfold pl; rw [if_neg hlt]; omega
    have E := Lib.hid e
    have hlt' : (n : Int) ≤ (f : Int) + (i : Int) := by omega
    clear e
    go_enter Try.func19, Try.ntmps19
    go_wp2
    go_ret
    exact ⟨by rw [E.out]; rfl, rfl⟩
end Go.Proofs.Ythpmdaioekpipaa
