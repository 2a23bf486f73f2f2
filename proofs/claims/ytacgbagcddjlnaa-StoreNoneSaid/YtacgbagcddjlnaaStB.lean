/- Keys; the event of a change. -/
import Derived.Test.YtacgbagcddjlnaaStW
import Derived.Test.YtacgbagcddjlnaaVaG
import Derived.Deep.DeepCutAuto
import Derived.BigQuiet
namespace Go.Proofs.Ytacgbagcddjlnaa
open Go.RowKit Go.Shelf Go.Lib Go.Sort
open Go.Joins (cell_of_block unfrozen_of_block block_setCell)
set_option linter.unusedVariables false
set_option linter.unusedSimpArgs false
set_option maxRecDepth 20000

set_option maxHeartbeats 4000000 in
theorem key_any (w : World) (cs : Array Value) (k : Int) (nm : ByteArray) (h0 : cs[0]? = some (.int .i64 k)) (h1 : cs[1]? = some (.string nm)) :
    Calls Try.prog 27 #[.agg cs] w fun e w' => e = .returned (thing k nm) ∧ Gr w w' := by
  have G := Lib.hid (Gr.refl w)
  go_enter Try.func27, Try.ntmps27
  go_wp2
  refine bodyPost_ret (results_cell_row rfl _ _ (w.heap.size + 1) 91 #[.int .i64 k, .string nm] (0, 0) _ (by rfl) (by simpa using heap_alloc_new (w.alloc (.cells cs 56)) (.cells #[.int .i64 k, .string nm] 91)) Try.underlying91 rfl (by kernel_rfl)) rfl ?_
  exact ⟨rfl, (G.out.alloc _).alloc _⟩

structure Ev where
  (what kind : Int)
  (name : ByteArray)
  (ver : Nat)
def encE (e : Ev) : List Value := [.int .i64 e.what, .int .i64 e.kind, .string e.name, .int .u64 (e.ver : Int)]
theorem lenE (e : Ev) : (encE e).length = 4 := rfl
theorem oneE (e : Ev) : ∀ u ∈ encE e, u.oneCell' = true := by intro u hu; simp [encE] at hu; rcases hu with rfl | rfl | rfl | rfl <;> rfl
abbrev ET : TypeId := 67
abbrev SlE : TypeId := 32
abbrev ST : TypeId := 85

/-- Of what came the last are kept, each at its place. -/
def Ring (hist kept : List Ev) : Prop := kept.length = min hist.length 1024 ∧ ∀ v, v < hist.length → hist.length ≤ v + 1024 → kept[v % 1024]? = hist[v]?
theorem ring_nil : Ring [] [] := ⟨rfl, by simp⟩
theorem ring_app {hist kept : List Ev} (h : Ring hist kept) (hl : kept.length < 1024) (e : Ev) : Ring (hist ++ [e]) (kept ++ [e]) := by
  obtain ⟨h1, h2⟩ := h
  have hh : hist.length = kept.length := by omega
  refine ⟨by simp; omega, fun v hv hv2 => ?_⟩
  rw [List.length_append, List.length_singleton] at hv hv2
  rw [Nat.mod_eq_of_lt (by omega)]
  by_cases e1 : v = hist.length
  · rw [e1, List.getElem?_append_right (by omega), List.getElem?_append_right (by omega), hh]
  · rw [List.getElem?_append_left (by omega), List.getElem?_append_left (by omega)]
    have := h2 v (by omega) (by omega)
    rwa [Nat.mod_eq_of_lt (by omega)] at this
theorem ring_set {hist kept : List Ev} (h : Ring hist kept) (hl : kept.length = 1024) (e : Ev) : Ring (hist ++ [e]) (kept.set (hist.length % 1024) e) := by
  obtain ⟨h1, h2⟩ := h
  refine ⟨by simp; omega, fun v hv hv2 => ?_⟩
  rw [List.length_append, List.length_singleton] at hv hv2
  by_cases e1 : v = hist.length
  · rw [e1, List.getElem?_set_self (by omega), List.getElem?_append_right (by omega), Nat.sub_self]
    rfl
  · rw [List.getElem?_set_ne (by omega), List.getElem?_append_left (by omega)]
    exact h2 v (by omega) (by omega)

end Go.Proofs.Ytacgbagcddjlnaa
