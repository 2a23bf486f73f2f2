/- A ring of int: all from a tick on, in new memory. -/
import Derived.Test.YthpmdaioekpipaaRgDI
import Derived.Deep.AppendLies
namespace Go.Proofs.Ythpmdaioekpipaa
open Go.RowKit Go.Lib
open Go.Joins (cell_of_block unfrozen_of_block block_setCell)
set_option linter.unusedVariables false
set_option linter.unusedSimpArgs false
set_option maxRecDepth 20000

/-- Samples' cells. -/
def flI (l : List (Int × Int)) : List Value := l.flatMap (fun x => [.int .i64 x.1, (.int .i64 x.2)])
theorem fl_snocI (l : List (Int × Int)) (x : Int × Int) : flI (l ++ [x]) = flI l ++ [.int .i64 x.1, (.int .i64 x.2)] := by unfold flI; rw [List.flatMap_append]; rfl
theorem fl_lenI : ∀ l : List (Int × Int), (flI l).length = l.length * 2
  | [] => rfl
  | x :: l => by
    have := fl_lenI l
    unfold flI at this ⊢
    rw [List.flatMap_cons, List.length_append, this]
    simp only [List.length_cons, List.length_nil]
    omega
theorem fl_atI : ∀ (l : List (Int × Int)) (i : Nat) (x : Int × Int), l[i]? = some x → (flI l)[i * 2]? = some (.int .i64 x.1) ∧ (flI l)[i * 2 + 1]? = some (.int .i64 x.2)
  | [], i, x, h => by simp at h
  | y :: l, 0, x, h => by
    simp at h
    subst h
    exact ⟨rfl, rfl⟩
  | y :: l, i + 1, x, h => by
    have := fl_atI l i x (by simpa using h)
    have e : (i + 1) * 2 = i * 2 + 1 + 1 := by omega
    rw [e]
    exact this

/-- Those from a tick on. -/
def frmI (at_ : Int) (l : List (Int × Int)) : List (Int × Int) := l.filter (fun x => decide (at_ ≤ x.1))
theorem frm_nextI (at_ : Int) {L : List (Int × Int)} {j : Nat} {x : Int × Int} (h : L[j]? = some x) : frmI at_ (L.take (j + 1)) = frmI at_ (L.take j) ++ (if at_ ≤ x.1 then [x] else []) := by
  obtain ⟨hl, rfl⟩ := List.getElem?_eq_some_iff.1 h
  unfold frmI
  rw [List.take_succ_eq_append_getElem hl, List.filter_append]
  congr 1
  by_cases e : at_ ≤ L[j].1 <;> simp [List.filter_cons, e]
theorem frm_fewI (at_ : Int) (l : List (Int × Int)) : (frmI at_ l).length ≤ l.length := List.length_filter_le _ _

set_option maxHeartbeats 4000000 in
theorem fromI (w : World) (rb gb n : Nat) (L : List (Int × Int)) (at_ : Int) (H : HasI w rb gb n L) :
    Calls Try.prog 20 #[.pointer (some ⟨rb, 0, none⟩), .int .i64 at_] w fun e w' =>
      (∃ v, e = .returned v ∧ w'.ownsRow w.heap.size TSI 2 v (frmI at_ L).length (flI (frmI at_ L))) ∧ Below w.heap.size w w' := by
  have mixed : Try.prog.follows .mixedOrders = true := by kernel_rfl
  obtain ⟨cp, f, c, h, hc⟩ := H
  obtain ⟨m, hm⟩ : ∃ m, m = L.length := ⟨_, rfl⟩
  rw [← hm] at h
  obtain ⟨B, hB⟩ : ∃ B, B = w.heap.size := ⟨_, rfl⟩
  have hmn := h.hm
  have hn32 := h.hn
  have hf := h.hf
  have c2 := h.c2
  have CL := Lib.hid (rlenI w rb m c2)
  have HH := Lib.hid (And.intro h (And.intro hc (And.intro hm hB)))
  have S0 : Hid (w.ownsRow B TSI 2 (.slice none 0 0) (frmI at_ (L.take 0)).length (flI (frmI at_ (L.take 0))) ∧ Below B w w) := ⟨World.ownsRow_nil _ _ _ _, Below.refl _ _⟩
  obtain ⟨inf, i1, i2, i3, i4⟩ := infoI
  have HI := Lib.hid (And.intro i1 (And.intro i2 (And.intro i3 i4)))
  clear h hc hm hB i1 i2 i3 i4
  go_enter Try.func20, Try.ntmps20
  go_wp2_with fail
  refine CL.out.mono ?_
  rintro e w' ⟨rfl, rfl⟩
  go_wp2_with fail
  clear c2 CL
  go_loopg [5, 10] m (fun g v5 vi wr => ∃ j : Nat, vi = .int .i64 (j : Int) ∧ j ≤ m ∧ m - j ≤ g ∧ Hid (wr.ownsRow B TSI 2 v5 (frmI at_ (L.take j)).length (flI (frmI at_ (L.take j))) ∧ Below B w wr))
  case atStart => exact ⟨0, rfl, by omega, by omega, S0⟩
  case round =>
    obtain ⟨j, rfl, hj, hg, HR⟩ := hrel
    by_cases hlt : j < m
    · obtain ⟨own, low⟩ := HR.out
      obtain ⟨h, hc, hm, hB⟩ := HH.out
      have lt := h.lt
      rw [← hB] at lt
      have hr := h.gr (w' := wr) (by rw [← hB]; exact low)
      obtain ⟨x, hx⟩ : ∃ x, L[j]? = some x := ⟨L[j]'(by omega), List.getElem?_eq_getElem (by omega)⟩
      have hcx := hc j x hx
      have hpl : pl n f j < n := pl_lt hf (by omega)
      have c0 := hr.c0
      have c1 := hr.c1
      have a0 := hr.at0 hpl
      have a1 := hr.at1 hpl
      rw [hcx] at a0 a1
      have CP := Lib.hid (fun (W : World) (q : W.cell? ⟨rb, 0, none⟩ = some (.slice (some ⟨gb, 0, none⟩) n cp) ∧ W.cell? ⟨rb, 1, none⟩ = some (.int .i64 (f : Int))) => placeI W rb gb n cp f j q.1 q.2 hf (by omega) hn32.2)
      obtain ⟨p, hp⟩ : ∃ p, p = pl n f j := ⟨_, rfl⟩
      rw [← hp] at CP a0 a1 hpl
      obtain ⟨xa, xv⟩ := x
      simp only at a0 a1
      have p0 : (0 : Int) ≤ (p : Int) := Int.natCast_nonneg _
      have p1 : (p : Int) < (n : Int) := by omega
      have HN := Lib.hid (frm_nextI at_ hx)
      have HX := Lib.hid (And.intro own low)
      have LT := Lib.hid lt
      have hBr : Hid (B ≤ wr.heap.size) := by have := low.size; show _ ≤ _; omega
      clear own low h hc hm hB hr hx hcx hp HR lt
      have hlr : rb < wr.heap.size ∧ gb < wr.heap.size := by have := LT.out; have := hBr.out; omega
      obtain ⟨hlr1, hlr2⟩ := hlr
      have e0 : (wr.alloc (.cells #[.int .i64 0, (.int .i64 0)] TSI)).cell? ⟨gb, p * 2, none⟩ = some (.int .i64 xa) := (World.cell?_of_block (Below.heap_alloc wr _ _ hlr2)).trans a0
      have e1 : (wr.alloc (.cells #[.int .i64 0, (.int .i64 0)] TSI)).cell? ⟨gb, p * 2 + 1, none⟩ = some (.int .i64 xv) := (World.cell?_of_block (Below.heap_alloc wr _ _ hlr2)).trans a1
      have g0 : (wr.alloc (.cells #[.int .i64 0, (.int .i64 0)] TSI)).cell? ⟨rb, 0, none⟩ = some (.slice (some ⟨gb, 0, none⟩) n cp) := (World.cell?_of_block (Below.heap_alloc wr _ _ hlr1)).trans c0
      have g1 : (wr.alloc (.cells #[.int .i64 0, (.int .i64 0)] TSI)).cell? ⟨rb, 1, none⟩ = some (.int .i64 (f : Int)) := (World.cell?_of_block (Below.heap_alloc wr _ _ hlr1)).trans c1
      obtain ⟨A, hA⟩ : ∃ A, A = wr.heap.size := ⟨_, rfl⟩
      obtain ⟨w2, hw2⟩ : ∃ w2, w2 = (wr.alloc (.cells #[.int .i64 xa, (.int .i64 xv)] TSI)).drew := ⟨_, rfl⟩
      have HW := Lib.hid (And.intro hA hw2)
      clear hA hw2
      go_upto_region 5 with fail
      go_cut [7] from 13 to 21 (fun v wx => v = .pointer (some ⟨A, 0, none⟩) ∧ Hid (wx = w2))
      case first =>
        go_region_with (go_at_call 19; refine (CP.out _ (by constructor <;> first | assumption | simp [*])).mono ?_; rintro e w' ⟨rfl, rfl⟩)
        all_goals (go_wp2_with fail; go_meet; case rel => exact ⟨by rw [HW.out.1], HW.out.2.symm⟩)
      case rest =>
        obtain ⟨rfl, hwx⟩ := hcut
        have e := hwx.out
        subst e
        have hz2 : wc.heap.size = A + 1 := by rw [HW.out.2, HW.out.1]; simp
        have k0 : wc.heap[A]? = some (.cells #[.int .i64 xa, (.int .i64 xv)] TSI (0, 0)) := by rw [HW.out.2, HW.out.1]; exact heap_alloc_new wr _
        have d0 : wc.cell? ⟨A, 0, none⟩ = some (.int .i64 xa) := cell_of_block k0 0
        have d1 : wc.cell? ⟨A, 1, none⟩ = some (.int .i64 xv) := cell_of_block k0 1
        have b2 : Below B wr wc := by rw [HW.out.2]; exact Below.drewN' ((Below.refl B wr).alloc hBr.out _) 1
        have own2 : Hid (wc.ownsRow B TSI 2 u5 (frmI at_ (L.take j)).length (flI (frmI at_ (L.take j)))) := by
          show World.ownsRow _ _ _ _ _ _ _
          rw [HW.out.2]; exact (HX.out.1.alloc _).drew
        have LOW : Hid (Below B w wc) := HX.out.2.trans b2
        clear a0 a1 e0 e1 c0 c1 g0 g1 CP hlr1 hlr2 k0 b2 hwx
        by_cases hge : at_ ≤ xa
        · have hnext : frmI at_ (L.take (j + 1)) = frmI at_ (L.take j) ++ [(xa, xv)] := by rw [HN.out, if_pos hge]
          have hfew := frm_fewI at_ (L.take j)
          rw [List.length_take] at hfew
          obtain ⟨acc, hacc⟩ : ∃ acc, acc = frmI at_ (L.take j) := ⟨_, rfl⟩
          rw [← hacc] at hnext own2 hfew
          have NEW : Hid (∀ (t : Nat) u, ([.int .i64 xa, (.int .i64 xv)] : List Value)[t]? = some u → (wc.alloc (.cells #[.int .i64 xa, (.int .i64 xv)] TSI)).cell? ((⟨A + 1, 0, none⟩ : Addr).add t) = some u) := by
            have := World.news_of_block (w := wc.alloc (.cells #[.int .i64 xa, (.int .i64 xv)] TSI)) (B := A + 1) (cs := #[.int .i64 xa, (.int .i64 xv)]) (t := TSI) (fr := (0, 0)) (by rw [← hz2]; exact heap_alloc_new wc _)
            exact this
          have OW := Lib.hid (own2.out.alloc (.cells #[.int .i64 xa, (.int .i64 xv)] TSI))
          have BS : Hid (B ≤ (wc.alloc (.cells #[.int .i64 xa, (.int .i64 xv)] TSI)).heap.size) := by show _ ≤ _; have := LOW.out.size; have := LT.out; have := hBr.out; have := HW.out.1; simp; omega
          have HNX := Lib.hid (And.intro hnext hacc)
          clear hnext hacc own2
          go_wp2_with (at_builtin; refine wpList_append_lies _ rfl _ _ 28 (by rfl) B TSI inf (.agg #[.int .i64 0, (.int .i64 0)]) 2 16 Try.underlying28 HI.out.1 HI.out.2.1 HI.out.2.2.1 HI.out.2.2.2 rfl (by omega) u5 acc.length (flI acc) (by rfl) OW.out ⟨A + 1, 0, none⟩ 1 1 [.int .i64 xa, (.int .i64 xv)] (by rfl) rfl NEW.out (by intro u hu; simp at hu; rcases hu with rfl | rfl <;> rfl) (by omega) (by unfold maxLen; omega) (by omega) BS.out (A + 2) (by simp; omega) ?_; intro g cap w4 hown4 hgrow4 hat4 hlt4)
          have FIN : Hid (w4.ownsRow B TSI 2 (.slice (some ⟨g, 0, none⟩) (acc.length + 1) cap) (frmI at_ (L.take (j + 1))).length (flI (frmI at_ (L.take (j + 1)))) ∧ Below B w w4) := by
            refine ⟨?_, ?_⟩
            · rw [HNX.out.1, fl_snocI, List.length_append]
              exact hown4
            · refine (LOW.out.alloc (by have := HH.out.2.2.2; have := LOW.out.size; omega) _).grown hgrow4 BS.out ?_
              exact fun k e => (OW.out.lt k e).1
          clear hown4 hgrow4 hat4 hlt4 OW BS NEW HNX
          go_wp2
          go_roundg (m - (j + 1))
          case measure => omega
          case rel => exact ⟨j + 1, by push_cast; rfl, by omega, by omega, FIN⟩
        · have FIN : Hid (wc.ownsRow B TSI 2 u5 (frmI at_ (L.take (j + 1))).length (flI (frmI at_ (L.take (j + 1)))) ∧ Below B w wc) := by
            rw [HN.out, if_neg hge, List.append_nil]
            exact ⟨own2.out, LOW.out⟩
          clear own2 LOW HN
          go_wp2
          go_roundg (m - (j + 1))
          case measure => omega
          case rel => exact ⟨j + 1, by push_cast; rfl, by omega, by omega, FIN⟩
    · have e : j = m := by omega
      subst e
      obtain ⟨own, low⟩ := HR.out
      rw [HH.out.2.2.1, List.take_length] at own
      rw [HH.out.2.2.2] at own low
      have FIN := Lib.hid (And.intro own low)
      clear own low HR S0
      go_wp2
      go_ret
      exact ⟨⟨_, rfl, FIN.out.1⟩, FIN.out.2⟩
end Go.Proofs.Ythpmdaioekpipaa
