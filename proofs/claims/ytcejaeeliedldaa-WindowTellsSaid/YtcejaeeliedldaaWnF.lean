/- Layer 21 (window): the ticks within a window (within). -/
import Derived.Test.YtcejaeeliedldaaWnD
import Derived.Test.YtcejaeeliedldaaWnE
namespace Go.Proofs.Ytcejaeeliedldaa.Wn
open Go.RowKit Go.Shelf Go.Lib Go.Sort Go.Deep
open Go.Joins (cell_of_block unfrozen_of_block block_setCell)
open Go.Proofs.Ytcejaeeliedldaa.Ow
set_option linter.unusedVariables false
set_option linter.unusedSimpArgs false
set_option maxRecDepth 20000

abbrev PT : TypeId := 24
/-- Ticks that rise, each of which may be. -/
def Ris (l : List Tk) : Prop := l.Pairwise (fun x y => x.tm < y.tm) ∧ ∀ x ∈ l, 0 ≤ x.tm ∧ x.tm ≤ 4611686018427387904
theorem ris_at {l : List Tk} (h : Ris l) {i j : Nat} {x y : Tk} (hij : i < j) (hx : l[i]? = some x) (hy : l[j]? = some y) : x.tm < y.tm := by
  obtain ⟨hi, rfl⟩ := List.getElem?_eq_some_iff.1 hx
  obtain ⟨hj, rfl⟩ := List.getElem?_eq_some_iff.1 hy
  exact List.pairwise_iff_getElem.1 h.1 i j hi hj hij

set_option maxHeartbeats 2000000 in
theorem w1_any (N : Nat) (w : World) (mb : Nat) (v : Value) (l : List Tk) (h : Mem N w mb v l) (hl : l.length ≤ 1000000) (A B : Nat) (now : Int) (hA : w.heap[A]? = some (.cells #[.pointer (some ⟨mb, 0, none⟩)] PT (0, 0))) (hB : w.heap[B]? = some (.cells #[.int .i64 now] AT (0, 0)))
    (i : Nat) (x : Tk) (hx : l[i]? = some x) :
    Calls Try.prog 28 #[.int .i64 (i : Int), .pointer (some ⟨A, 0, none⟩), .pointer (some ⟨B, 0, none⟩)] w fun e w' => e = .returned (.bool (decide (x.tm > now))) ∧ Gr w w' := by
  have mixed : Try.prog.follows .mixedOrders = true := by kernel_rfl
  have c0 := h.c0
  have a0 : w.cell? ⟨A, 0, none⟩ = some (.pointer (some ⟨mb, 0, none⟩)) := cell_of_block hA 0
  have b0 : w.cell? ⟨B, 0, none⟩ = some (.int .i64 now) := cell_of_block hB 0
  obtain ⟨g, c, rfl, _, _, _, hr⟩ := h.at hx
  obtain ⟨r0, r1, r2⟩ := range3 hr
  obtain ⟨n, hn⟩ : ∃ n, n = l.length := ⟨_, rfl⟩
  have hi : i < n := by rw [hn]; exact (List.getElem?_eq_some_iff.1 hx).1
  rw [← hn] at c0 hl
  have i0 : (0 : Int) ≤ (i : Int) := by omega
  have i1 : (i : Int) < (n : Int) := by omega
  obtain ⟨r, hrr⟩ : ∃ r, r = decide (x.tm > now) := ⟨_, rfl⟩
  rw [← hrr]
  generalize x.tm = t at r0 hrr
  have hrr' := hrr.symm
  clear h hA hB hx hr hn r1 r2 hrr
  go_enter Try.func28, Try.ntmps28
  go_wp2_with fail
  go_quiet (fail)
  go_wp2
  go_ret
  exact ⟨rfl, (Gr.refl _).drewN _⟩
set_option maxHeartbeats 2000000 in
theorem w2_any (N : Nat) (w : World) (mb : Nat) (v : Value) (l : List Tk) (h : Mem N w mb v l) (hl : l.length ≤ 1000000) (A B C : Nat) (now wd : Int) (hA : w.heap[A]? = some (.cells #[.pointer (some ⟨mb, 0, none⟩)] PT (0, 0))) (hB : w.heap[B]? = some (.cells #[.int .i64 now] AT (0, 0))) (hC : w.heap[C]? = some (.cells #[.int .i64 wd] AT (0, 0)))
    (i : Nat) (x : Tk) (hx : l[i]? = some x) (hx0 : 0 ≤ x.tm) (hxn : x.tm ≤ now) (hn64 : now < 9223372036854775808) :
    Calls Try.prog 29 #[.int .i64 (i : Int), .pointer (some ⟨B, 0, none⟩), .pointer (some ⟨A, 0, none⟩), .pointer (some ⟨C, 0, none⟩)] w fun e w' => e = .returned (.bool (decide (now - x.tm < wd))) ∧ Gr w w' := by
  have mixed : Try.prog.follows .mixedOrders = true := by kernel_rfl
  have c0 := h.c0
  have a0 : w.cell? ⟨A, 0, none⟩ = some (.pointer (some ⟨mb, 0, none⟩)) := cell_of_block hA 0
  have b0 : w.cell? ⟨B, 0, none⟩ = some (.int .i64 now) := cell_of_block hB 0
  have d0 : w.cell? ⟨C, 0, none⟩ = some (.int .i64 wd) := cell_of_block hC 0
  obtain ⟨g, c, rfl, _, _, _, hr⟩ := h.at hx
  obtain ⟨r0, r1, r2⟩ := range3 hr
  obtain ⟨n, hn⟩ : ∃ n, n = l.length := ⟨_, rfl⟩
  have hi : i < n := by rw [hn]; exact (List.getElem?_eq_some_iff.1 hx).1
  rw [← hn] at c0 hl
  have i0 : (0 : Int) ≤ (i : Int) := by omega
  have i1 : (i : Int) < (n : Int) := by omega
  obtain ⟨d, hd⟩ : ∃ d, d = now - x.tm := ⟨_, rfl⟩
  have wr : IntKind.i64.wrap (now - x.tm) = d := by rw [IntKind.wrap_i64]; omega
  obtain ⟨r, hrr⟩ : ∃ r, r = decide (now - x.tm < wd) := ⟨_, rfl⟩
  rw [← hrr]
  rw [← hd] at hrr
  generalize x.tm = t at r0 wr
  have hrr' := hrr.symm
  clear h hA hB hC hx hr hn r1 r2 hrr hd hx0 hxn hn64
  go_enter Try.func29, Try.ntmps29
  go_wp2_with fail
  go_quiet (fail)
  go_wp2
  go_ret
  exact ⟨rfl, (Gr.refl _).drewN _⟩
theorem enters_w1 : ∀ args w, (callFunc 28 args).run Try.prog w = .ok (.enter 28 args) w := enters_of Try.func28 (by kernel_rfl) rfl
theorem enters_w2 : ∀ args w, (callFunc 29 args).run Try.prog w = .ok (.enter 29 args) w := enters_of Try.func29 (by kernel_rfl) rfl

/-- Is a tick within so many ticks, at this one? -/
def inW (now wd : Int) (x : Tk) : Bool := decide (x.tm ≤ now) && decide (now - x.tm < wd)
/-- How wide a window is. -/
def wid (win : Int) : Int := min (max win 1) 1800
def wtn (l : List Tk) (now win : Int) : List Tk := l.filter (inW now (wid win))
theorem wid_range (win : Int) : 1 ≤ wid win ∧ wid win ≤ 1800 := by unfold wid; omega
/-- The row's part between two places is what is within. -/
theorem cut_in {l : List Tk} {now wd : Int} {b e : Nat} (hb : b ≤ e) (he : e ≤ l.length) (h1 : ∀ i x, l[i]? = some x → (i < e ↔ x.tm ≤ now)) (h2 : ∀ i x, l[i]? = some x → i < e → (b ≤ i ↔ now - x.tm < wd)) :
    (l.take e).drop b = l.filter (inW now wd) := by
  have key : l = l.take b ++ ((l.take e).drop b ++ l.drop e) := by
    conv => lhs; rw [← List.take_append_drop e l, ← List.take_append_drop b (l.take e)]
    rw [List.append_assoc, List.take_take, Nat.min_eq_left hb]
  have f1 : (l.take b).filter (inW now wd) = [] := by
    rw [List.filter_eq_nil_iff]
    intro x hx
    obtain ⟨i, hi⟩ := List.mem_iff_getElem?.1 hx
    have hib : i < b := by have := (List.getElem?_eq_some_iff.1 hi).1; rw [List.length_take] at this; omega
    rw [List.getElem?_take_of_lt hib] at hi
    have : ¬ now - x.tm < wd := fun h => by have := (h2 i x hi (by omega)).2 h; omega
    unfold inW
    simp [this]
  have f3 : (l.drop e).filter (inW now wd) = [] := by
    rw [List.filter_eq_nil_iff]
    intro x hx
    obtain ⟨i, hi⟩ := List.mem_iff_getElem?.1 hx
    rw [List.getElem?_drop] at hi
    have : ¬ x.tm ≤ now := fun h => by have := (h1 (e + i) x hi).2 h; omega
    unfold inW
    simp [this]
  have f2 : ((l.take e).drop b).filter (inW now wd) = (l.take e).drop b := by
    rw [List.filter_eq_self]
    intro x hx
    obtain ⟨i, hi⟩ := List.mem_iff_getElem?.1 hx
    rw [List.getElem?_drop] at hi
    have hie : b + i < e := by have := (List.getElem?_eq_some_iff.1 hi).1; rw [List.length_take] at this; omega
    rw [List.getElem?_take_of_lt hie] at hi
    have a1 := (h1 (b + i) x hi).1 hie
    have a2 := (h2 (b + i) x hi hie).1 (by omega)
    unfold inW
    simp [a1, a2]
  conv => rhs; rw [key, List.filter_append, List.filter_append, f1, f2, f3]
  simp
end Go.Proofs.Ytcejaeeliedldaa.Wn
