/- The library's stable sort of labels: rows of labels in memory; ranges exchanged. -/
import Derived.Test.YtmdpkblkbokhoaaLabA
import Derived.Shelf.SlSortCmp.KitK
import Derived.Sort.WalkB2
import Derived.Deep.LoopGhost
namespace Go.Proofs.Ytmdpkblkbokhoaa
open Go.Shelf Go.RowKit Go.Lib Go.Sort
set_option linter.unusedVariables false

def encL (x : Lab) : List Value := [.string x.1, .string x.2]
theorem encL_len (x : Lab) : (encL x).length = 2 := rfl
theorem encL_one (x : Lab) : ∀ v ∈ encL x, v.oneCell' = true := by
  intro v hv
  simp [encL] at hv
  rcases hv with rfl | rfl <;> rfl
/-- The world is one of the sort's, with these labels in the row. -/
abbrev St (w0 : World) (blk off : Nat) (l : List Lab) (W : World) : Prop := SWK encL 2 w0 blk off l.toArray W
abbrev RowL (w0 : World) (blk off : Nat) (l0 : List Lab) : Prop := RowK encL 2 w0 blk off l0.toArray

theorem at_split {A C : List Lab} {x : Lab} {i : Nat} (hi : i = A.length) : (A ++ x :: C).toArray[i]! = x := by
  subst hi
  rw [getElem!_pos _ _ (by simp)]
  simp
theorem swp_split {A B C : List Lab} {x y : Lab} {i j : Nat} (hi : i = A.length) (hj : j = A.length + 1 + B.length) : swp (A ++ x :: (B ++ y :: C)).toArray i j = (A ++ y :: (B ++ x :: C)).toArray := by
  have h1 : (A ++ x :: (B ++ y :: C)).toArray[i]! = x := at_split hi
  have h2 : (A ++ x :: (B ++ y :: C)).toArray[j]! = y := by
    have := at_split (A := A ++ x :: B) (C := C) (x := y) (i := j) (by rw [hj]; simp; omega)
    simpa using this
  unfold swp
  rw [h1, h2]
  subst hi hj
  apply Array.toList_inj.1
  simp only [Array.toList_setIfInBounds]
  rw [List.set_append_right _ _ (Nat.le_refl _), Nat.sub_self, List.set_cons_zero, List.set_append_right _ _ (by omega), show A.length + 1 + B.length - A.length = B.length + 1 by omega, List.set_cons_succ, List.set_append_right _ _ (Nat.le_refl _), Nat.sub_self, List.set_cons_zero]
theorem swp_split' {A B C : List Lab} {x y : Lab} {i j : Nat} (hi : i = A.length) (hj : j = A.length + 1 + B.length) : swp (A ++ x :: (B ++ y :: C)).toArray j i = (A ++ y :: (B ++ x :: C)).toArray := by
  have h1 : (A ++ x :: (B ++ y :: C)).toArray[i]! = x := at_split hi
  have h2 : (A ++ x :: (B ++ y :: C)).toArray[j]! = y := by
    have := at_split (A := A ++ x :: B) (C := C) (x := y) (i := j) (by rw [hj]; simp; omega)
    simpa using this
  unfold swp
  rw [h1, h2]
  subst hi hj
  apply Array.toList_inj.1
  simp only [Array.toList_setIfInBounds]
  rw [List.set_append_right _ _ (by omega), show A.length + 1 + B.length - A.length = B.length + 1 by omega, List.set_cons_succ, List.set_append_right _ _ (Nat.le_refl _), Nat.sub_self, List.set_cons_zero, List.set_append_right _ _ (Nat.le_refl _), Nat.sub_self, List.set_cons_zero]

/-- An exchange of two labels: what it reads, what it may write, and where it ends. -/
theorem swap_facts {w0 W : World} {blk off : Nat} {d0 dk : Array Lab} (h : SWK encL 2 w0 blk off dk W) (R : RowK encL 2 w0 blk off d0) (hs : dk.size = d0.size) (i j : Nat) (hi : i < dk.size) (hj : j < dk.size) (x y : Lab) (hx : dk[i]! = x) (hy : dk[j]! = y) :
    W.cell? ⟨blk, off + i * 2, none⟩ = some (.string x.1) ∧ W.cell? ⟨blk, off + i * 2 + 1, none⟩ = some (.string x.2) ∧ W.cell? ⟨blk, off + j * 2, none⟩ = some (.string y.1) ∧ W.cell? ⟨blk, off + j * 2 + 1, none⟩ = some (.string y.2) ∧
    W.frozen? ⟨blk, off + i * 2, none⟩ = false ∧ W.frozen? ⟨blk, off + i * 2 + 1, none⟩ = false ∧ W.frozen? ⟨blk, off + j * 2, none⟩ = false ∧ W.frozen? ⟨blk, off + j * 2 + 1, none⟩ = false ∧
    (∃ v, (W.setCell ⟨blk, off + i * 2, none⟩ (.string y.1)).cell? ⟨blk, off + i * 2 + 1, none⟩ = some v) ∧
    (∃ v, ((W.setCell ⟨blk, off + i * 2, none⟩ (.string y.1)).setCell ⟨blk, off + i * 2 + 1, none⟩ (.string y.2)).cell? ⟨blk, off + j * 2, none⟩ = some v) ∧
    (∃ v, (((W.setCell ⟨blk, off + i * 2, none⟩ (.string y.1)).setCell ⟨blk, off + i * 2 + 1, none⟩ (.string y.2)).setCell ⟨blk, off + j * 2, none⟩ (.string x.1)).cell? ⟨blk, off + j * 2 + 1, none⟩ = some v) ∧
    Hid (SWK encL 2 w0 blk off (swp dk i j) ((((W.setCell ⟨blk, off + i * 2, none⟩ (.string y.1)).setCell ⟨blk, off + i * 2 + 1, none⟩ (.string y.2)).setCell ⟨blk, off + j * 2, none⟩ (.string x.1)).setCell ⟨blk, off + j * 2 + 1, none⟩ (.string x.2)).drew) := by
  have H := h.holds R.hblk R.hH hs
  have a0 := HoldsK.cell H hi (c := 0) (by decide)
  have a1 := HoldsK.cell H hi (c := 1) (by decide)
  have b0 := HoldsK.cell H hj (c := 0) (by decide)
  have b1 := HoldsK.cell H hj (c := 1) (by decide)
  have e := h.swapped R i j hi hj
  rw [hx] at a0 a1
  rw [hy] at b0 b1
  rw [hx, hy] at e
  refine ⟨a0.1, a1.1, b0.1, b1.1, a0.2, a1.2, b0.2, b1.2, ?_, ?_, ?_, e⟩
  · exact cell?_setCell_some (w := W) (p := ⟨blk, off + i * 2, none⟩) (x := .string y.1) (q := ⟨blk, off + i * 2 + 1, none⟩) a1.1
  · obtain ⟨v, hv⟩ := cell?_setCell_some (w := W) (p := ⟨blk, off + i * 2, none⟩) (x := .string y.1) (q := ⟨blk, off + j * 2, none⟩) b0.1
    exact cell?_setCell_some (p := ⟨blk, off + i * 2 + 1, none⟩) (x := .string y.2) hv
  · obtain ⟨v, hv⟩ := cell?_setCell_some (w := W) (p := ⟨blk, off + i * 2, none⟩) (x := .string y.1) (q := ⟨blk, off + j * 2 + 1, none⟩) b1.1
    obtain ⟨v2, hv2⟩ := cell?_setCell_some (p := ⟨blk, off + i * 2 + 1, none⟩) (x := .string y.2) hv
    exact cell?_setCell_some (p := ⟨blk, off + j * 2, none⟩) (x := .string x.1) hv2

/-- A round of the exchange of two ranges. -/
theorem range_step {p s mid t q : List Lab} {i n a b : Nat} (hs : s.length = n) (ht : t.length = n) (ha : p.length = a) (hb : p.length + n + mid.length = b) (hi : i < n) :
    swp (p ++ (t.take i ++ s.drop i) ++ mid ++ (s.take i ++ t.drop i) ++ q).toArray (a + i) (b + i) = (p ++ (t.take (i + 1) ++ s.drop (i + 1)) ++ mid ++ (s.take (i + 1) ++ t.drop (i + 1)) ++ q).toArray := by
  have e1 : s.drop i = s[i]'(by omega) :: s.drop (i + 1) := List.drop_eq_getElem_cons (by omega)
  have e2 : t.drop i = t[i]'(by omega) :: t.drop (i + 1) := List.drop_eq_getElem_cons (by omega)
  have e3 : s.take (i + 1) = s.take i ++ [s[i]'(by omega)] := by rw [List.take_add_one, List.getElem?_eq_getElem (by omega)]; rfl
  have e4 : t.take (i + 1) = t.take i ++ [t[i]'(by omega)] := by rw [List.take_add_one, List.getElem?_eq_getElem (by omega)]; rfl
  have h := swp_split (A := p ++ t.take i) (B := s.drop (i + 1) ++ mid ++ s.take i) (C := t.drop (i + 1) ++ q) (x := s[i]'(by omega)) (y := t[i]'(by omega)) (i := a + i) (j := b + i)
    (by simp; omega) (by simp; omega)
  rw [e1, e2, e3, e4]
  simp only [List.append_assoc, List.cons_append, List.nil_append] at h ⊢
  exact h

set_option maxHeartbeats 4000000 in
set_option maxRecDepth 1000000 in
theorem swap_range (w0 w : World) (blk off cap : Nat) (l0 p s mid t q : List Lab) (a b n N : Nat) (fv : Value) (R : RowL w0 blk off l0) (S : St w0 blk off (p ++ s ++ mid ++ t ++ q) w)
    (hN : (p ++ s ++ mid ++ t ++ q).length = N) (h0 : l0.length = N) (hs : s.length = n) (ht : t.length = n) (ha : p.length = a) (hb : p.length + n + mid.length = b) (hsz : N < 4611686018427387904) :
    Calls Try.prog 35 #[.slice (some ⟨blk, off, none⟩) N cap, .int .i64 (a : Int), .int .i64 (b : Int), .int .i64 (n : Int), fv] w fun e w' => e = .returned (.tuple #[]) ∧ St w0 blk off (p ++ t ++ mid ++ s ++ q) w' := by
  have mixed : Try.prog.follows .mixedOrders = true := by kernel_rfl
  have RR := Lib.hid R
  have S0 : Hid (St w0 blk off (p ++ (t.take 0 ++ s.drop 0) ++ mid ++ (s.take 0 ++ t.drop 0) ++ q) w) := by
    show St _ _ _ _ _
    simpa using S
  have HA : Hid ((p ++ s ++ mid ++ t ++ q).length = N ∧ l0.length = N ∧ s.length = n ∧ t.length = n ∧ p.length = a ∧ p.length + n + mid.length = b) := ⟨hN, h0, hs, ht, ha, hb⟩
  have hbn : a + n ≤ N ∧ b + n ≤ N := by simp at hN; omega
  clear R S hN h0 hs ht ha hb
  go_enter Try.func35, Try.ntmps35
  go_wp2
  go_loopg [10] n (fun g vi wr => ∃ i : Nat, vi = .int .i64 (i : Int) ∧ i ≤ n ∧ n - i ≤ g ∧ Hid (St w0 blk off (p ++ (t.take i ++ s.drop i) ++ mid ++ (s.take i ++ t.drop i) ++ q) wr))
  case atStart => exact ⟨0, rfl, Nat.zero_le _, by omega, S0.out⟩
  case round =>
    clear S0
    obtain ⟨i, rfl, hi, hg, S1⟩ := hrel
    by_cases hlt : i < n
    · obtain ⟨dk, hdk⟩ : ∃ dk, dk = (p ++ (t.take i ++ s.drop i) ++ mid ++ (s.take i ++ t.drop i) ++ q).toArray := ⟨_, rfl⟩
      have S2 : Hid (SWK encL 2 w0 blk off dk wr) := by show SWK _ _ _ _ _ _ _; rw [hdk]; exact S1.out
      have hz : dk.size = l0.toArray.size := by
        rw [hdk]
        obtain ⟨h1, h2, h3, h4, _⟩ := HA.out
        simp at h1 ⊢
        omega
      have hzN : dk.size = N := by rw [hz]; exact HA.out.2.1
      obtain ⟨x, hx⟩ : ∃ x, dk[a + i]! = x := ⟨_, rfl⟩
      obtain ⟨y, hy⟩ : ∃ y, dk[b + i]! = y := ⟨_, rfl⟩
      obtain ⟨c1, c2, c3, c4, f1, f2, f3, f4, ⟨v1, g1⟩, ⟨v2, g2⟩, ⟨v3, g3⟩, S3⟩ := swap_facts S2.out RR.out hz (a + i) (b + i) (by omega) (by omega) x y hx hy
      have w1 : IntKind.i64.wrap ((a : Int) + (i : Int)) = (a : Int) + (i : Int) := by rw [IntKind.wrap_i64]; omega
      have w2 : IntKind.i64.wrap ((b : Int) + (i : Int)) = (b : Int) + (i : Int) := by rw [IntKind.wrap_i64]; omega
      have t1 : ((a : Int) + (i : Int)).toNat = a + i := by omega
      have t2 : ((b : Int) + (i : Int)).toNat = b + i := by omega
      have p1 : (0 : Int) ≤ (a : Int) + (i : Int) := by omega
      have p2 : (0 : Int) ≤ (b : Int) + (i : Int) := by omega
      have q1 : (a : Int) + (i : Int) < (N : Int) := by omega
      have q2 : (b : Int) + (i : Int) < (N : Int) := by omega
      have HXY := Lib.hid (And.intro hx hy)
      clear hx hy
      have HDK := Lib.hid hdk
      clear hdk S2 S1
      go_wp2_with fail
      go_big_region_o
      clear c1 c2 c3 c4 f1 f2 f3 f4 g1 g2 g3
      generalize ((((wr.setCell ⟨blk, off + (a + i) * 2, none⟩ (.string y.1)).setCell ⟨blk, off + (a + i) * 2 + 1, none⟩ (.string y.2)).setCell ⟨blk, off + (b + i) * 2, none⟩ (.string x.1)).setCell ⟨blk, off + (b + i) * 2 + 1, none⟩ (.string x.2)).drew = wq at S3 ⊢
      go_wp2
      go_roundg (n - (i + 1))
      case measure => omega
      case rel =>
        refine ⟨i + 1, by go_num, hlt, Nat.le_refl _, ?_⟩
        show St _ _ _ _ _
        have h := S3.out
        rw [HDK.out, range_step HA.out.2.2.1 HA.out.2.2.2.1 HA.out.2.2.2.2.1 HA.out.2.2.2.2.2 hlt] at h
        exact h
    · obtain rfl : i = n := by omega
      go_wp2
      go_end0
      refine ⟨rfl, ?_⟩
      have h := S1.out
      obtain ⟨_, _, h3, h4, _, _⟩ := HA.out
      rw [List.take_of_length_le (by omega), List.drop_of_length_le (by omega), List.take_of_length_le (by omega), List.drop_of_length_le (by omega)] at h
      simpa using h
end Go.Proofs.Ytmdpkblkbokhoaa
