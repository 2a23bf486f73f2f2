/- A ring of int: cut. -/
import Derived.Test.YthpmdaioekpipaaRgEI
namespace Go.Proofs.Ythpmdaioekpipaa
open Go.RowKit Go.Lib
open Go.Joins (cell_of_block unfrozen_of_block block_setCell)
set_option linter.unusedVariables false
set_option linter.unusedSimpArgs false
set_option maxRecDepth 20000

theorem own_sliceI {w : World} {N : Nat} {v : Value} {n : Nat} {xs : List Value} (h : w.ownsRow N TSI 2 v n xs) : ∃ q c, v = .slice q n c := by
  rcases h.2 with ⟨rfl, rfl⟩ | ⟨g, cap, cur, rfl, _⟩
  · exact ⟨_, _, rfl⟩
  · exact ⟨_, _, rfl⟩
theorem drop_nilI (w : World) : Calls Try.prog 18 #[.pointer none, .int .i64 0] w fun e w' => e = .returned (.tuple #[]) ∧ w = w' := by
  go_enter Try.func18, Try.ntmps18
  go_wp2_with fail
  go_loopg [5] 0 (fun g vi wr => vi = .int .i64 0 ∧ wr = w)
  case atStart => exact ⟨rfl, rfl⟩
  case round =>
    obtain ⟨rfl, rfl⟩ := hrel
    go_wp2
    go_end0
    exact ⟨rfl, rfl⟩
theorem cut_nilI (w : World) (at_ : Int) (h : Calls Try.prog 20 #[.pointer none, .int .i64 at_] w fun e w' => e = .returned (.slice none 0 0) ∧ w = w') :
    Calls Try.prog 8 #[.pointer none, .int .i64 at_] w fun e w' => e = .returned (.int .i64 0) ∧ w = w' := by
  have C := Lib.hid h
  have CD := Lib.hid (drop_nilI w)
  have CL := Lib.hid (rlen_nilI w)
  clear h
  go_enter Try.func8, Try.ntmps8
  go_wp2_with fail
  refine CL.out.mono ?_
  rintro e w' ⟨rfl, rfl⟩
  go_wp2_with fail
  refine C.out.mono ?_
  rintro e w' ⟨rfl, rfl⟩
  go_upto_region 2 with fail
  go_wp2_with fail
  refine CD.out.mono ?_
  rintro e w' ⟨rfl, rfl⟩
  go_wp2
  go_ret
  exact ⟨rfl, rfl⟩
theorem from_nilI (w : World) (at_ : Int) : Calls Try.prog 20 #[.pointer none, .int .i64 at_] w fun e w' => e = .returned (.slice none 0 0) ∧ w = w' := by
  have CL := Lib.hid (rlen_nilI w)
  go_enter Try.func20, Try.ntmps20
  go_wp2_with fail
  refine CL.out.mono ?_
  rintro e w' ⟨rfl, rfl⟩
  go_wp2_with fail
  go_loopg [5, 10] 0 (fun g v5 vi wr => v5 = .slice none 0 0 ∧ vi = .int .i64 0 ∧ wr = w)
  case atStart => exact ⟨rfl, rfl, rfl⟩
  case round =>
    obtain ⟨rfl, rfl, rfl⟩ := hrel
    go_wp2
    go_ret
    exact ⟨rfl, rfl⟩
theorem cut_someI (w : World) (rb gb n : Nat) (L : List (Int × Int)) (at_ : Int) (H : HasI w rb gb n L) (hs : frmI at_ L = L.drop (L.length - (frmI at_ L).length)) :
    Calls Try.prog 8 #[.pointer (some ⟨rb, 0, none⟩), .int .i64 at_] w fun e w' => e = .returned (.int .i64 ((L.length - (frmI at_ L).length : Nat) : Int)) ∧ HasI w' rb gb n (frmI at_ L) ∧ Tch [rb, gb] w w' := by
  have CF := Lib.hid (fromI w rb gb n L at_ H)
  have hfew := frm_fewI at_ L
  obtain ⟨cp, f, c, h, hc⟩ := H
  obtain ⟨m, hm⟩ : ∃ m, m = L.length := ⟨_, rfl⟩
  obtain ⟨r, hr⟩ : ∃ r, r = (frmI at_ L).length := ⟨_, rfl⟩
  rw [← hm, ← hr] at hs hfew
  rw [← hm] at h
  rw [← hr] at CF
  have hmn := h.hm
  have hn := h.hn
  have CL := Lib.hid (rlenI w rb m h.c2)
  obtain ⟨k, hk⟩ : ∃ k, k = m - r := ⟨_, rfl⟩
  rw [← hm, ← hr, ← hk]
  have ek : (k : Int) = (m : Int) - (r : Int) := by omega
  have EK := Lib.hid ek
  have HH := Lib.hid (And.intro h (And.intro hc (And.intro hm (And.intro hr (And.intro hk hs)))))
  have hmr : r ≤ m := hfew
  clear h hc hm hr hk hs ek hfew
  go_enter Try.func8, Try.ntmps8
  go_wp2_with fail
  refine CL.out.mono ?_
  rintro e w' ⟨rfl, rfl⟩
  go_wp2_with fail
  refine CF.out.mono ?_
  rintro e w1 ⟨⟨v, rfl, own⟩, b1⟩
  obtain ⟨q, cq, rfl⟩ := own_sliceI own
  have B1 := Lib.hid b1
  have CD := Lib.hid (dropI w1 rb gb n cp f m k c (HH.out.1.gr b1) (by have := HH.out.2.2.2.2.1; omega))
  rw [EK.out] at CD
  clear own b1 CL CF
  go_upto_region 2 with fail
  go_wp2_with fail
  refine CD.out.mono ?_
  rintro e w2 ⟨rfl, f', c', h2, hc2, t2⟩
  have FIN : Hid (HasI w2 rb gb n (frmI at_ L) ∧ Tch [rb, gb] w w2) := by
    obtain ⟨h, hc, hm, hr, hk, hs⟩ := HH.out
    refine ⟨⟨cp, f', c', by rw [← hr, show r = m - k by omega]; exact h2, fun i x hx => ?_⟩, (Tch.ofBelow B1.out [rb, gb]).trans t2 (fun g hg => .inl hg)⟩
    rw [hs, List.getElem?_drop] at hx
    have hi := (List.getElem?_eq_some_iff.1 hx).1
    rw [hc2 i (by omega)]
    exact hc _ x (by rw [show i + k = m - r + i by omega]; exact hx)
  clear h2 hc2 t2 CD
  go_wp2
  go_ret
  exact ⟨by rw [EK.out]; rfl, FIN.out⟩
end Go.Proofs.Ythpmdaioekpipaa
