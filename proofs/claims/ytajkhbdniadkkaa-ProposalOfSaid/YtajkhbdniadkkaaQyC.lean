/- Layer 13: One and Rate, of a book. -/
import Derived.Test.YtajkhbdniadkkaaQyA
import Derived.Test.YtajkhbdniadkkaaScH
import Derived.Test.YtajkhbdniadkkaaRtR
namespace Go.Proofs.Ytajkhbdniadkkaa.Qy
open Go.RowKit Go.Deep Go.Lib Go.Shelf Go.Sort
open Go.Joins (cell_of_block unfrozen_of_block block_setCell)
set_option linter.unusedVariables false
set_option linter.unusedSimpArgs false
set_option maxRecDepth 20000

set_option maxHeartbeats 1000000 in
theorem one_nil (w : World) (now : Int) (s : Sr) : Calls Try.prog 30 #[.pointer none, .int .i64 now, .string s.1, .string s.2] w fun r w' => r = .returned (.tuple #[.int .i64 0, .int .i64 1]) ∧ Below w.heap.size w w' := by
  have C := Lib.hid (fresh_nil w now s)
  unfold ser at C
  go_enter Try.func30, Try.ntmps30
  go_wp2_with fail
  refine C.out.mono ?_
  rintro r w' ⟨rfl, b⟩
  have B := Lib.hid b
  clear b
  go_wp2
  go_ret2
  exact ⟨rfl, B.out⟩
set_option maxHeartbeats 1000000 in
theorem one_any (w : World) (bb mb n a : Nat) (E : List En) (h : Bk w bb mb n a E) (now : Int) (s : Sr) (hk : OkS s) (hn : now ≤ 9223372036854775807) :
    Calls Try.prog 30 #[.pointer (some ⟨bb, 0, none⟩), .int .i64 now, .string s.1, .string s.2] w fun r w' => r = .returned (.tuple #[.int .i64 (freV now a (upto now (smpsOf E s))), .int .i64 (freE now a (upto now (smpsOf E s)))]) ∧ Below w.heap.size w w' := by
  have C := Lib.hid (fresh_any w bb mb n a E h now s hk hn)
  obtain ⟨V, hV⟩ : ∃ V, V = freV now a (upto now (smpsOf E s)) := ⟨_, rfl⟩
  obtain ⟨Z, hZ⟩ : ∃ Z, Z = freE now a (upto now (smpsOf E s)) := ⟨_, rfl⟩
  rw [← hV, ← hZ] at C ⊢
  unfold ser at C
  clear h hV hZ hk hn
  go_enter Try.func30, Try.ntmps30
  go_wp2_with fail
  refine C.out.mono ?_
  rintro r w' ⟨rfl, b⟩
  have B := Lib.hid b
  clear b
  go_wp2
  go_ret2
  exact ⟨rfl, B.out⟩

/-- What is fresh of a series. -/
def frsh (now : Int) (a : Nat) (E : List En) (s : Sr) : List (Int × Int) := rowOf now a (upto now (smpsOf E s))
theorem frsh_sub (now : Int) (a : Nat) (E : List En) (s : Sr) : List.Sublist (frsh now a E s) (smpsOf E s) := List.Sublist.trans List.filter_sublist List.filter_sublist
/-- All values are quantities. -/
def Vals (E : List En) : Prop := ∀ e ∈ E, ∀ x ∈ e.l, 0 ≤ x.2 ∧ x.2 ≤ 9007199254740992
theorem smps_in {w : World} {bb mb n a : Nat} {E : List En} (h : Bk w bb mb n a E) (hv : Vals E) (s : Sr) : Up (smpsOf E s) ∧ ∀ x ∈ smpsOf E s, 0 ≤ x.2 ∧ x.2 ≤ 9007199254740992 := by
  rcases has_or E s with ⟨e, he, rfl⟩ | hs
  · have hf : smpsOf E e.s = e.l := by unfold smpsOf; rw [find_some h.apart he]
    rw [hf]
    exact ⟨((h.each e he).2).up, hv e he⟩
  · have hf : smpsOf E s = [] := by unfold smpsOf; rw [find_none hs]
    rw [hf]
    exact ⟨List.Pairwise.nil, fun x hx => by cases hx⟩
theorem frsh_good {w : World} {bb mb n a : Nat} {E : List En} (h : Bk w bb mb n a E) (hv : Vals E) (now : Int) (s : Sr) : Rt.Good (frsh now a E s) := by
  obtain ⟨h1, h2⟩ := smps_in h hv s
  have hs := frsh_sub now a E s
  refine ⟨fun i x hx => h2 x (hs.subset (List.mem_of_getElem? hx)), fun i x y hx hy => ?_⟩
  have hp : Up (frsh now a E s) := List.Pairwise.sublist hs h1
  obtain ⟨ix, rfl⟩ := List.getElem?_eq_some_iff.1 hx
  obtain ⟨iy, rfl⟩ := List.getElem?_eq_some_iff.1 hy
  exact (List.pairwise_iff_getElem.1 hp) i (i + 1) ix iy (by omega)
theorem frsh_rows {w W : World} {bb mb n a N : Nat} {E : List En} (h : Bk w bb mb n a E) (hv : Vals E) (now : Int) (s : Sr) (hk : OkS s) (hn : now ≤ 9223372036854775807) {q : Option Addr} {c : Nat} (own : W.ownsRow N TSQ 2 (.slice q (frsh now a E s).length c) (frsh now a E s).length (flQ (frsh now a E s))) : Rt.RowS W q (frsh now a E s) := fun i x hx => by
  obtain ⟨_, h2⟩ := smps_in h hv s
  obtain ⟨_, _, hpos, _⟩ := h.pts hk
  have hm := (frsh_sub now a E s).subset (List.mem_of_getElem? hx)
  have hu : x.1 ≤ now := by
    have : x ∈ upto now (smpsOf E s) := (List.filter_sublist (l := upto now (smpsOf E s))).subset (List.mem_of_getElem? hx)
    exact (upto_mem this).2
  have h3 := hpos x hm
  have h4 := h2 x hm
  obtain ⟨g, e, hg1, hg2, a0, a1⟩ := own_atQ own rfl hx
  refine ⟨⟨⟨by omega, by omega⟩, by omega, by omega⟩, g, 0, e, hg2, ?_, ?_⟩
  · rw [Nat.zero_add]; exact a0
  · rw [Nat.zero_add]; exact a1
theorem frsh_few {w : World} {bb mb n a : Nat} {E : List En} (h : Bk w bb mb n a E) (now : Int) {s : Sr} (hk : OkS s) : (frsh now a E s).length ≤ 32 := by
  obtain ⟨_, _, _, hfew⟩ := h.pts hk
  exact Nat.le_trans (frsh_sub now a E s).length_le hfew

end Go.Proofs.Ytajkhbdniadkkaa.Qy
