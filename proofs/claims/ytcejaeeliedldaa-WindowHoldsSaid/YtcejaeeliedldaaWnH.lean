/- Layer 21 (window): the least and the greatest proposal within a window, and the stable number, of any memory. -/
import Derived.Test.YtcejaeeliedldaaWnB
import Derived.Test.YtcejaeeliedldaaWnG
namespace Go.Proofs.Ytcejaeeliedldaa.Wn
open Go.RowKit Go.Shelf Go.Lib Go.Sort Go.Deep
open Go.Joins (cell_of_block unfrozen_of_block block_setCell)
open Go.Proofs.Ytcejaeeliedldaa.Ow
set_option linter.unusedVariables false
set_option linter.unusedSimpArgs false
set_option maxRecDepth 20000

def anyT (l : List Tk) (now win : Int) : Bool := !(wtn l now win).isEmpty
def leV (l : List Tk) (now win : Int) : Int := match minT (wtn l now win) with | none => 0 | some m => m.lo
def grV (l : List Tk) (now win : Int) : Int := match maxT (wtn l now win) with | none => 0 | some m => m.hi
theorem leastF_nil (w : World) (now win : Int) : Calls Try.prog 13 #[.pointer none, .int .i64 now, .int .i64 win] w fun e w' => e = .returned (.tuple #[.int .i64 0, .bool false]) ∧ Below w.heap.size w w' := by
  have C := Lib.hid (within_nil w now win)
  go_enter Try.func13, Try.ntmps13
  go_wp2_with fail
  refine C.out.mono ?_
  rintro e w1 ⟨rfl, b1⟩
  go_wp2
  go_ret2
  exact ⟨rfl, b1⟩
set_option maxHeartbeats 2000000 in
theorem leastF_any (N : Nat) (w : World) (mb : Nat) (v : Value) (l : List Tk) (h : Mem N w mb v l) (hl : l.length ≤ 1000000) (hr : Ris l) (now win : Int) (hn : now < 9223372036854775808) :
    Calls Try.prog 13 #[.pointer (some ⟨mb, 0, none⟩), .int .i64 now, .int .i64 win] w fun e w' => e = .returned (.tuple #[.int .i64 (leV l now win), .bool (anyT l now win)]) ∧ Below w.heap.size w w' := by
  have C := Lib.hid (within_any N w mb v l h hl hr now win hn)
  have hlen : (wtn l now win).length ≤ 1000000 := Nat.le_trans (List.length_filter_le _ _) hl
  have EV : Hid (leV l now win = match minT (wtn l now win) with | none => 0 | some m => m.lo) := rfl
  have EB : Hid (anyT l now win = !(wtn l now win).isEmpty) := rfl
  generalize leV l now win = V at EV ⊢
  generalize anyT l now win = B at EB ⊢
  generalize wtn l now win = k at C EV EB hlen
  clear h hl hr hn
  go_enter Try.func13, Try.ntmps13
  go_wp2_with fail
  refine C.out.mono ?_
  rintro e w1 ⟨⟨q, c, rfl, rw1⟩, b1⟩
  clear C
  cases k with
  | nil =>
    obtain rfl : B = false := EB.out
    obtain rfl : V = 0 := EV.out
    clear rw1 EB EV
    go_wp2
    go_ret2
    exact ⟨rfl, b1⟩
  | cons x r =>
    obtain ⟨k, hk⟩ : ∃ k, k = x :: r := ⟨_, rfl⟩
    rw [← hk] at hlen rw1 EV EB ⊢
    obtain ⟨b, off, rfl, hb, _⟩ := rw1 0 x (by rw [hk]; rfl)
    have h1 : 1 ≤ k.length := by rw [hk]; simp
    have C := Lib.hid (tk_min w1 b off c k rw1 hb h1 hlen)
    obtain ⟨n, hn⟩ : ∃ n, n = k.length := ⟨_, rfl⟩
    rw [← hn] at C h1 ⊢
    have n0 : ((n : Int) == 0) = false := by simp; omega
    have HB : Hid (B = true) := by show _ = _; rw [EB.out, hk]; rfl
    have B1 := Lib.hid b1
    clear rw1 hb hlen hn hk EB b1
    obtain rfl := HB.out
    go_wp2_with fail
    refine C.out.mono ?_
    rintro e w2 ⟨⟨m, hm, rfl⟩, b2⟩
    have HV : Hid (V = m.lo) := by show _ = _; rw [EV.out, hm]
    have FIN := Lib.hid (B1.out.trans (b2.mono B1.out.size))
    have f : ∀ W, (Instr.field TT (.agg (encA m)) 1).run Try.prog W = .ok (.int .i64 m.lo) W := fun W => by obtain ⟨a, b, c⟩ := m; kernel_rfl
    clear hm EV b2 C B1
    obtain rfl := HV.out
    generalize encA m = X at f
    go_wp2
    go_ret2
    exact ⟨rfl, FIN.out⟩
theorem greatestF_nil (w : World) (now win : Int) : Calls Try.prog 14 #[.pointer none, .int .i64 now, .int .i64 win] w fun e w' => e = .returned (.tuple #[.int .i64 0, .bool false]) ∧ Below w.heap.size w w' := by
  have C := Lib.hid (within_nil w now win)
  go_enter Try.func14, Try.ntmps14
  go_wp2_with fail
  refine C.out.mono ?_
  rintro e w1 ⟨rfl, b1⟩
  go_wp2
  go_ret2
  exact ⟨rfl, b1⟩
set_option maxHeartbeats 2000000 in
theorem greatestF_any (N : Nat) (w : World) (mb : Nat) (v : Value) (l : List Tk) (h : Mem N w mb v l) (hl : l.length ≤ 1000000) (hr : Ris l) (now win : Int) (hn : now < 9223372036854775808) :
    Calls Try.prog 14 #[.pointer (some ⟨mb, 0, none⟩), .int .i64 now, .int .i64 win] w fun e w' => e = .returned (.tuple #[.int .i64 (grV l now win), .bool (anyT l now win)]) ∧ Below w.heap.size w w' := by
  have C := Lib.hid (within_any N w mb v l h hl hr now win hn)
  have hlen : (wtn l now win).length ≤ 1000000 := Nat.le_trans (List.length_filter_le _ _) hl
  have EV : Hid (grV l now win = match maxT (wtn l now win) with | none => 0 | some m => m.hi) := rfl
  have EB : Hid (anyT l now win = !(wtn l now win).isEmpty) := rfl
  generalize grV l now win = V at EV ⊢
  generalize anyT l now win = B at EB ⊢
  generalize wtn l now win = k at C EV EB hlen
  clear h hl hr hn
  go_enter Try.func14, Try.ntmps14
  go_wp2_with fail
  refine C.out.mono ?_
  rintro e w1 ⟨⟨q, c, rfl, rw1⟩, b1⟩
  clear C
  cases k with
  | nil =>
    obtain rfl : B = false := EB.out
    obtain rfl : V = 0 := EV.out
    clear rw1 EB EV
    go_wp2
    go_ret2
    exact ⟨rfl, b1⟩
  | cons x r =>
    obtain ⟨k, hk⟩ : ∃ k, k = x :: r := ⟨_, rfl⟩
    rw [← hk] at hlen rw1 EV EB ⊢
    obtain ⟨b, off, rfl, hb, _⟩ := rw1 0 x (by rw [hk]; rfl)
    have h1 : 1 ≤ k.length := by rw [hk]; simp
    have C := Lib.hid (tk_max w1 b off c k rw1 hb h1 hlen)
    obtain ⟨n, hn⟩ : ∃ n, n = k.length := ⟨_, rfl⟩
    rw [← hn] at C h1 ⊢
    have n0 : ((n : Int) == 0) = false := by simp; omega
    have HB : Hid (B = true) := by show _ = _; rw [EB.out, hk]; rfl
    have B1 := Lib.hid b1
    clear rw1 hb hlen hn hk EB b1
    obtain rfl := HB.out
    go_wp2_with fail
    refine C.out.mono ?_
    rintro e w2 ⟨⟨m, hm, rfl⟩, b2⟩
    have HV : Hid (V = m.hi) := by show _ = _; rw [EV.out, hm]
    have FIN := Lib.hid (B1.out.trans (b2.mono B1.out.size))
    have f : ∀ W, (Instr.field TT (.agg (encA m)) 2).run Try.prog W = .ok (.int .i64 m.hi) W := fun W => by obtain ⟨a, b, c⟩ := m; kernel_rfl
    clear hm EV b2 C B1
    obtain rfl := HV.out
    generalize encA m = X at f
    go_wp2
    go_ret2
    exact ⟨rfl, FIN.out⟩
end Go.Proofs.Ytcejaeeliedldaa.Wn
