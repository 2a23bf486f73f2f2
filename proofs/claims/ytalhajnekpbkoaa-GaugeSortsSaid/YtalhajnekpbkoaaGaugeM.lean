/- What 'Mean' of package gauge answers. -/
import Derived.Test.YtalhajnekpbkoaaGaugeD
import Derived.Test.YtalhajnekpbkoaaWideP
namespace Go.Proofs.Ytalhajnekpbkoaa
open Go.RowKit
set_option linter.unusedVariables false

/-- A slice that holds samples. -/
def Samp (w : World) (a : Option Addr) (l : List Nat) : Prop := ∀ (j x : Nat), l[j]? = some x → x < 18446744073709551616 ∧ ∃ ad, a = some ad ∧ ad.block < w.heap.size ∧ w.cell? (ad.add j) = some (.int .u64 (x : Int))
theorem Samp.below {w w' : World} {a : Option Addr} {l : List Nat} (h : Samp w a l) (hb : Below w.heap.size w w') : Samp w' a l := fun j x hj => by
  obtain ⟨h0, ad, h1, h2, h3⟩ := h j x hj
  exact ⟨h0, ad, h1, Nat.lt_of_lt_of_le h2 hb.size, (hb.cell (by rw [add_block]; exact h2)).trans h3⟩
theorem Samp.under {w w0 w' : World} {a : Option Addr} {l : List Nat} (h : Samp w a l) (hb : Below w.heap.size w w') : Samp w' a l := h.below hb

def tot (l : List Nat) : Nat := (l.map rdV).sum
def cnt (l : List Nat) : Nat := (l.filter fun x => rdE x == 0).length
theorem take_more {l : List Nat} {k x : Nat} (h : l[k]? = some x) : l.take (k + 1) = l.take k ++ [x] := by
  rw [List.take_add_one, h]
  rfl
theorem tot_more {l : List Nat} {k x : Nat} (h : l[k]? = some x) : tot (l.take (k + 1)) = tot (l.take k) + rdV x := by
  unfold tot
  rw [take_more h, List.map_append, List.sum_append]
  simp
theorem cnt_more {l : List Nat} {k x : Nat} (h : l[k]? = some x) (h0 : rdE x = 0) : cnt (l.take (k + 1)) = cnt (l.take k) + 1 := by
  unfold cnt
  rw [take_more h, List.filter_append, List.length_append]
  simp [h0]
theorem cnt_same {l : List Nat} {k x : Nat} (h : l[k]? = some x) (h0 : rdE x ≠ 0) : cnt (l.take (k + 1)) = cnt (l.take k) := by
  unfold cnt
  rw [take_more h, List.filter_append, List.length_append]
  simp [h0]
theorem rdV_le (x : Nat) : rdV x ≤ 9007199254740992 := by
  unfold rdV
  split
  · rename_i h
    unfold rdE at h
    split at h
    · cases h
    · rename_i h1
      split at h
      · rename_i h2
        rw [h2]
        rw [show 9223372036854775808 % 9223372036854775808 = 0 by decide, mil_low (by decide)]
        decide
      · split at h
        · cases h
        · split at h
          · cases h
          · rename_i h3 h4
            rw [Nat.mod_eq_of_lt (by omega)]
            omega
  · omega
theorem rdV_bad {x : Nat} (h : rdE x ≠ 0) : rdV x = 0 := by unfold rdV; rw [if_neg h]
theorem tot_le (l : List Nat) : tot l ≤ l.length * 9007199254740992 := by
  induction l with
  | nil => exact Nat.le_refl _
  | cons x l ih =>
    have := rdV_le x
    unfold tot at *
    simp only [List.map_cons, List.sum_cons, List.length_cons]
    omega
theorem cnt_le (l : List Nat) : cnt l ≤ l.length := List.length_filter_le _ _

theorem wide_add0 (S m : Nat) (w : World) (hS : S + m < 18446744073709551616) :
    Calls Try.prog 34 #[wd 0 (S : Int), wd 0 (m : Int)] w fun e w' => (∃ b, e = .returned (.tuple #[wd 0 ((S + m : Nat) : Int), .bool b])) ∧ Below w.heap.size w w' := by
  have h := wide_addN S m w (by omega) (by omega)
  have e1 : S / 18446744073709551616 = 0 := by omega
  have e2 : S % 18446744073709551616 = S := by omega
  have e3 : (S + m) / 18446744073709551616 = 0 := by omega
  have e4 : (S + m) % 18446744073709551616 = S + m := by omega
  rw [e1, e2, e3, e4] at h
  exact h
theorem wide_divS (S n : Nat) (w : World) (hS : S < 18446744073709551616) (hn : n < 18446744073709551616) :
    Calls Try.prog 35 #[wd 0 (S : Int), .int .u64 (n : Int)] w fun e w' => (∃ r c : Int, e = .returned (.tuple #[wd 0 ((S / n : Nat) : Int), .int .u64 r, .int .i64 c])) ∧ Below w.heap.size w w' := by
  rcases Nat.eq_zero_or_pos n with rfl | h0
  · refine (wide_div0 0 S w).mono ?_
    rintro e w' ⟨rfl, hb⟩
    rw [Nat.div_zero]
    exact ⟨⟨_, _, rfl⟩, hb⟩
  · refine (wide_div 0 S n w h0 (by decide) hS hn).mono ?_
    rintro e w' ⟨rfl, hb⟩
    have hq : S / n < 18446744073709551616 := Nat.lt_of_le_of_lt (Nat.div_le_self _ _) hS
    rw [Nat.zero_mul, Nat.zero_add, Nat.div_eq_of_lt hq, Nat.mod_eq_of_lt hq]
    exact ⟨⟨_, _, rfl⟩, hb⟩

/-- The sum's two cells. -/
def SumAt (wr : World) (B S : Nat) : Prop := wr.cell? ⟨B, 0, none⟩ = some (.int .u64 0) ∧ wr.cell? ⟨B, 1, none⟩ = some (.int .u64 (S : Int)) ∧ wr.frozen? ⟨B, 0, none⟩ = false ∧ wr.frozen? ⟨B, 1, none⟩ = false ∧ B < wr.heap.size
theorem SumAt.below {w w' : World} {B S : Nat} (h : SumAt w B S) (hb : Below w.heap.size w w') : SumAt w' B S := by
  obtain ⟨a, b, c, d, e⟩ := h
  exact ⟨(hb.cell (p := ⟨B, 0, none⟩) e).trans a, (hb.cell (p := ⟨B, 1, none⟩) e).trans b, (hb.frozen (p := ⟨B, 0, none⟩) e).trans c, (hb.frozen (p := ⟨B, 1, none⟩) e).trans d, Nat.lt_of_lt_of_le e hb.size⟩

theorem SumAt.put {w : World} {B S S' : Nat} (h : SumAt w B S) : SumAt ((w.setCell ⟨B, 0, none⟩ (.int .u64 0)).setCell ⟨B, 1, none⟩ (.int .u64 (S' : Int))) B S' := by
  obtain ⟨a, b, c, d, e⟩ := h
  have n1 : (⟨B, 1, none⟩ : Addr) ≠ ⟨B, 0, none⟩ := by simp
  have b1 : (w.setCell ⟨B, 0, none⟩ (.int .u64 0)).cell? ⟨B, 1, none⟩ = some (.int .u64 (S : Int)) := (World.cell?_setCell_other w _ _ _ (by simp)).trans b
  refine ⟨(World.cell?_setCell_other _ _ _ _ n1).trans (World.cell?_setCell_same w _ _ a), World.cell?_setCell_same _ _ _ b1, ?_, ?_, ?_⟩
  · simpa using c
  · simpa using d
  · simpa [World.setCell] using e
theorem ret_mean {a b c d : Nat} (h : a = c) (g : b = d) : Ending.returned (.tuple #[.int .i64 (a : Int), .int .i64 (b : Int)]) = .returned (.tuple #[.int .i64 (c : Int), .int .i64 (d : Int)]) := by rw [h, g]

set_option maxHeartbeats 1000000 in
theorem mean_any (w : World) (a : Option Addr) (c : Nat) (l : List Nat) (hl : l.length ≤ 50) (h : Samp w a l) :
    Calls Try.prog 20 #[.slice a l.length c] w fun e w' => e = .returned (.tuple #[.int .i64 ((tot l / cnt l : Nat) : Int), .int .i64 ((cnt l : Nat) : Int)]) ∧ Below w.heap.size w w' := by
  have HS := Lib.hid h
  clear h
  go_enter Try.func20, Try.ntmps20
  go_wp2_with fail
  have hb0 : Below w.heap.size w (w.alloc (.cells #[.int .u64 0, .int .u64 0] 59)) := (Below.refl _ _).alloc (Nat.le_refl _) _
  go_loopw [5, 15] (fun n i wr => ∃ k N T : Nat, k ≤ l.length ∧ n = .int .i64 (N : Int) ∧ i = .int .i64 (k : Int) ∧ Hid (N = cnt (l.take k)) ∧ Hid (T = tot (l.take k)) ∧ SumAt wr w.heap.size T ∧ Below w.heap.size w wr) (fun _ i _ => l.length - (intOf i).toNat)
  case atStart => exact ⟨0, 0, 0, Nat.zero_le _, rfl, rfl, rfl, rfl, ⟨by simp, by simp, by simp, by simp, by simp⟩, hb0⟩
  case round =>
    obtain ⟨k, N, T, hk, rfl, rfl, hN, hT, hsum, hbel⟩ := hrel
    have bN : N ≤ 50 := by
      rw [hN.out]
      exact Nat.le_trans (cnt_le _) (by rw [List.length_take]; omega)
    have bT : T ≤ 50 * 9007199254740992 := by
      rw [hT.out]
      refine Nat.le_trans (tot_le _) (Nat.mul_le_mul_right _ ?_)
      rw [List.length_take]
      omega
    have HSUM := Lib.hid hsum
    by_cases hlt : k < l.length
    · obtain ⟨x, hx⟩ : ∃ x, l[k]? = some x := ⟨l[k], List.getElem?_eq_getElem hlt⟩
      obtain ⟨hx64, ad, rfl, had, hcell⟩ := HS.out k x hx
      have hcell2 : wr.cell? (ad.add k) = some (.int .u64 (x : Int)) := (hbel.cell (by rw [add_block]; exact had)).trans hcell
      have M := Lib.hid (fun W : World => read_any x W hx64)
      have HX := Lib.hid hx
      have bx := rdV_le x
      by_cases hg : rdE x = 0
      · obtain ⟨m, hm⟩ : ∃ m, m = rdV x := ⟨_, rfl⟩
        rw [hg, ← hm] at M
        rw [← hm] at bx
        have HM := Lib.hid hm
        have HG := Lib.hid hg
        have HBEL := Lib.hid hbel
        have hcv : IntKind.u64.wrap (m : Int) = (m : Int) := wrapN m (by omega)
        have A := Lib.hid (fun W : World => wide_add0 T m W (by omega))
        clear hcell hx had hx64 hm hg hbel
        obtain ⟨s1, s2, s3, s4, s5⟩ := hsum
        go_wp2_with fail
        refine (M.out _).mono ?_
        rintro e w1 ⟨rfl, j, rfl⟩
        go_wp2_with fail
        refine (A.out _).mono ?_
        rintro e w2 ⟨⟨b, rfl⟩, hb2⟩
        have hb2' : Below wr.heap.size wr w2 := (Below.refl _ _).trans ⟨hb2.os, hb2.tape, hb2.output, hb2.size, hb2.block⟩
        have hs2 := HSUM.out.below hb2'
        obtain ⟨q1, q2, q3, q4, q5⟩ := id hs2
        have HQ := Lib.hid hs2
        clear s1 s2 s3 s4 s5 hs2
        go_wp2_with fail
        refine ⟨⟨k + 1, N + 1, T + m, hlt, by go_num, by go_num, ?_, ?_, ?_, ?_⟩, by simp [intOf]; omega⟩
        · show _ = _
          rw [cnt_more HX.out HG.out, ← hN.out]
        · show _ = _
          rw [tot_more HX.out, ← hT.out, ← HM.out]
        · have h := HQ.out.put (S' := T + m)
          rw [Int.natCast_add] at h
          exact h
        · exact ((HBEL.out.trans (hb2'.mono HBEL.out.size)).setCell (Nat.le_refl _) _).setCell (Nat.le_refl _) _
      · obtain ⟨m, hm⟩ : ∃ m, m = rdV x := ⟨_, rfl⟩
        obtain ⟨q, hq⟩ : ∃ q, q = rdE x := ⟨_, rfl⟩
        rw [← hq, ← hm] at M
        have hz : rdV x = 0 := rdV_bad hg
        have hq0 : ((q : Int) == 0) = false := by rw [hq]; simpa using hg
        have HM := Lib.hid hz
        have HG := Lib.hid hg
        have HBEL := Lib.hid hbel
        have hsum' := Lib.hid hsum
        clear hcell hx had hx64 hm hg hbel hq hz hsum bx
        go_wp2_with fail
        refine (M.out _).mono ?_
        rintro e w1 ⟨rfl, j, rfl⟩
        go_wp2_with fail
        refine ⟨⟨k + 1, N, T, hlt, rfl, by go_num, ?_, ?_, hsum'.out, ?_⟩, by simp [intOf]; omega⟩
        · show _ = _
          rw [cnt_same HX.out HG.out, ← hN.out]
        · show _ = _
          rw [tot_more HX.out, ← hT.out, HM.out, Nat.add_zero]
        · exact HBEL.out.trans ⟨rfl, rfl, rfl, Nat.le_refl _, fun _ _ => rfl⟩
    · obtain rfl : k = l.length := by omega
      have eN : N = cnt l := by rw [hN.out, List.take_length]
      have eT : T = tot l := by rw [hT.out, List.take_length]
      have EN := Lib.hid eN
      have ET := Lib.hid eT
      have HBEL := Lib.hid hbel
      have D := Lib.hid (fun W : World => wide_divS T N W (by omega) (by omega))
      obtain ⟨Q, hQ⟩ : ∃ Q, Q = T / N := ⟨_, rfl⟩
      rw [← hQ] at D
      have hQ2 : Q ≤ T := by rw [hQ]; exact Nat.div_le_self _ _
      have HQ := Lib.hid hQ
      have hcv : IntKind.u64.wrap (N : Int) = (N : Int) := wrapN N (by omega)
      have hcv2 : IntKind.i64.wrap (Q : Int) = (Q : Int) := by rw [IntKind.wrap_i64]; omega
      clear eN eT hN hT hbel hQ hQ2
      obtain ⟨s1, s2, s3, s4, s5⟩ := hsum
      go_wp2_with fail
      refine (D.out _).mono ?_
      rintro e w2 ⟨⟨r, cc, rfl⟩, hb2⟩
      go_wp2_with fail
      go_ret2
      refine ⟨ret_mean (by rw [HQ.out, ET.out, EN.out]) EN.out, ?_⟩
      have z := hb2.size
      have z2 := HBEL.out.size
      have z3 : w.heap.size ≤ w2.heap.size := by omega
      have hB := HBEL.out.trans (hb2.mono z2)
      exact hB.alloc z3 _

end Go.Proofs.Ytalhajnekpbkoaa
