/- The library's stable sort of labels: two blocks rotated. -/
import Derived.Test.YtmdpkblkbokhoaaStA
namespace Go.Proofs.Ytmdpkblkbokhoaa
open Go.Shelf Go.RowKit Go.Lib Go.Sort
set_option linter.unusedVariables false

set_option maxHeartbeats 4000000 in
set_option maxRecDepth 1000000 in
theorem rotate_any (w0 w : World) (blk off cap : Nat) (l0 p U V q : List Lab) (a m b N : Nat) (fv : Value) (R : RowL w0 blk off l0) (S : St w0 blk off (p ++ U ++ V ++ q) w)
    (hN : (p ++ U ++ V ++ q).length = N) (h0 : l0.length = N) (ha : p.length = a) (hm : p.length + U.length = m) (hb : p.length + U.length + V.length = b) (hU : 0 < U.length) (hV : 0 < V.length) (hsz : N < 4611686018427387904) :
    Calls Try.prog 34 #[.slice (some ⟨blk, off, none⟩) N cap, .int .i64 (a : Int), .int .i64 (m : Int), .int .i64 (b : Int), fv] w fun e w' => e = .returned (.tuple #[]) ∧ St w0 blk off (p ++ V ++ U ++ q) w' := by
  have RR := Lib.hid R
  have S0 := Lib.hid S
  have H0 := Lib.hid h0
  have hbN : b ≤ N := by simp at hN; omega
  have ham : a < m := by omega
  have hmb : m < b := by omega
  have HU : Hid (U.length = m - a ∧ V.length = b - m) := ⟨by omega, by omega⟩
  have HP : Hid (p.length + (m - a) = m) := by show _ = _; omega
  have HN := Lib.hid hN
  clear R S hN h0 ha hm hb hU hV
  have w1 : IntKind.i64.wrap ((m : Int) - (a : Int)) = ((m - a : Nat) : Int) := by rw [IntKind.wrap_i64]; omega
  have w2 : IntKind.i64.wrap ((b : Int) - (m : Int)) = ((b - m : Nat) : Int) := by rw [IntKind.wrap_i64]; omega
  have e1 : ((m : Int) - (a : Int)) = ((m - a : Nat) : Int) := by omega
  have e2 : ((b : Int) - (m : Int)) = ((b - m : Nat) : Int) := by omega
  obtain ⟨i0, hi0⟩ : ∃ i0, i0 = m - a := ⟨_, rfl⟩
  obtain ⟨j0, hj0⟩ : ∃ j0, j0 = b - m := ⟨_, rfl⟩
  rw [← hi0] at w1 HU HP e1
  rw [← hj0] at w2 HU e2
  have hi1 : 0 < i0 := by omega
  have hj1 : 0 < j0 := by omega
  have him : i0 ≤ m := by omega
  have hjm : m + j0 ≤ N := by omega
  clear hi0 hj0
  go_enter Try.func34, Try.ntmps34
  go_wp2
  clear w1 w2 e1 e2
  go_loopg [10, 11] (i0 + j0) (fun g vi vj wr => ∃ (i j : Nat) (P u v Q : List Lab), vi = .int .i64 (i : Int) ∧ vj = .int .i64 (j : Int) ∧ 0 < i ∧ 0 < j ∧ i ≤ m ∧ m + j ≤ N ∧ i + j ≤ g ∧ Hid (P.length + i = m ∧ u.length = i ∧ v.length = j ∧ P ++ v ++ u ++ Q = p ++ V ++ U ++ q) ∧ Hid (St w0 blk off (P ++ u ++ v ++ Q) wr))
  case atStart => exact ⟨i0, j0, p, U, V, q, rfl, rfl, hi1, hj1, him, hjm, Nat.le_refl _, ⟨HP.out, HU.out.1, HU.out.2, rfl⟩, S0.out⟩
  case round =>
    clear S0
    obtain ⟨i, j, P, u, v, Q, rfl, rfl, hi, hj, hiM, hjM, hg, HI, S1⟩ := hrel
    have HL : Hid ((P ++ u ++ v ++ Q).length = N) := by
      obtain ⟨h1, h2, h3, h4⟩ := HI.out
      have := congrArg List.length h4
      have h5 := HN.out
      show _ = _
      simp at this h5 ⊢
      omega
    have wa : IntKind.i64.wrap ((m : Int) - (i : Int)) = (m : Int) - (i : Int) := by rw [IntKind.wrap_i64]; omega
    have ea : ((m - i : Nat) : Int) = (m : Int) - (i : Int) := by omega
    rcases Nat.lt_trichotomy i j with hlt | heq | hgt
    · -- i < j
      have hne : ((i : Int) != (j : Int)) = true := by simp; omega
      have hgt0 : decide ((i : Int) > (j : Int)) = false := by simp; omega
      have C : ∀ W, St w0 blk off (P ++ u ++ v ++ Q) W → Calls Try.prog 35 #[.slice (some ⟨blk, off, none⟩) N cap, .int .i64 ((m : Int) - (i : Int)), .int .i64 ((m : Int) + (j : Int) - (i : Int)), .int .i64 (i : Int), fv] W fun e w' => e = .returned (.tuple #[]) ∧ St w0 blk off (P ++ v.drop (j - i) ++ v.take (j - i) ++ u ++ Q) w' := by
        intro W hW
        obtain ⟨h1, h2, h3, h4⟩ := HI.out
        have e : v.take (j - i) ++ v.drop (j - i) = v := List.take_append_drop _ _
        have h := swap_range w0 W blk off cap l0 P u (v.take (j - i)) (v.drop (j - i)) Q (m - i) (m + j - i) i N fv RR.out (by rw [show P ++ u ++ v.take (j - i) ++ v.drop (j - i) ++ Q = P ++ u ++ v ++ Q by rw [List.append_assoc (P ++ u), e]]; exact hW)
          (by rw [show P ++ u ++ v.take (j - i) ++ v.drop (j - i) ++ Q = P ++ u ++ v ++ Q by rw [List.append_assoc (P ++ u), e]]; exact HL.out) H0.out h2 (by rw [List.length_drop]; omega) (by omega) (by rw [List.length_take]; omega) hsz
        have e3 : ((m + j - i : Nat) : Int) = (m : Int) + (j : Int) - (i : Int) := by omega
        rw [ea, e3] at h
        exact h
      have CC := Lib.hid (C _ S1.out)
      have wb : IntKind.i64.wrap ((m : Int) + (j : Int)) = (m : Int) + (j : Int) := by rw [IntKind.wrap_i64]; omega
      have wc : IntKind.i64.wrap ((m : Int) + (j : Int) - (i : Int)) = (m : Int) + (j : Int) - (i : Int) := by rw [IntKind.wrap_i64]; omega
      have wd : IntKind.i64.wrap ((j : Int) - (i : Int)) = (j : Int) - (i : Int) := by rw [IntKind.wrap_i64]; omega
      clear C ea S1
      go_wp2_with fail
      refine CC.out.mono ?_
      rintro e w1 ⟨rfl, S2⟩
      have S3 := Lib.hid S2
      clear S2
      go_wp2_with fail
      go_roundg (i + (j - i))
      case measure => omega
      case rel =>
        refine ⟨i, j - i, P, v.drop (j - i), v.take (j - i), u ++ Q, rfl, by go_num, hi, by omega, hiM, by omega, Nat.le_refl _, ?_, ?_⟩
        · obtain ⟨h1, h2, h3, h4⟩ := HI.out
          refine ⟨h1, by rw [List.length_drop]; omega, by rw [List.length_take]; omega, ?_⟩
          rw [← h4]
          simp
        · show St _ _ _ _ _
          simpa using S3.out
    · -- i = j
      subst heq
      have hne : ((i : Int) != (i : Int)) = false := by simp
      have C : Calls Try.prog 35 #[.slice (some ⟨blk, off, none⟩) N cap, .int .i64 ((m : Int) - (i : Int)), .int .i64 (m : Int), .int .i64 (i : Int), fv] wr fun e w' => e = .returned (.tuple #[]) ∧ St w0 blk off (P ++ v ++ [] ++ u ++ Q) w' := by
        obtain ⟨h1, h2, h3, h4⟩ := HI.out
        have h := swap_range w0 wr blk off cap l0 P u [] v Q (m - i) m i N fv RR.out (by rw [List.append_nil]; exact S1.out) (by rw [List.append_nil]; exact HL.out) H0.out h2 h3 (by omega) (by rw [List.length_nil]; omega) hsz
        rw [ea] at h
        exact h
      have CC := Lib.hid C
      clear C ea S1
      go_wp2_with fail
      refine CC.out.mono ?_
      rintro e w1 ⟨rfl, S2⟩
      have S3 := Lib.hid S2
      clear S2
      go_wp2
      go_end0
      refine ⟨rfl, ?_⟩
      have h := S3.out
      rw [List.append_nil, HI.out.2.2.2] at h
      exact h
    · -- i > j
      have hne : ((i : Int) != (j : Int)) = true := by simp; omega
      have C : Calls Try.prog 35 #[.slice (some ⟨blk, off, none⟩) N cap, .int .i64 ((m : Int) - (i : Int)), .int .i64 (m : Int), .int .i64 (j : Int), fv] wr fun e w' => e = .returned (.tuple #[]) ∧ St w0 blk off (P ++ v ++ u.drop j ++ u.take j ++ Q) w' := by
        obtain ⟨h1, h2, h3, h4⟩ := HI.out
        have e : u.take j ++ u.drop j = u := List.take_append_drop _ _
        have h := swap_range w0 wr blk off cap l0 P (u.take j) (u.drop j) v Q (m - i) m j N fv RR.out (by rw [show P ++ u.take j ++ u.drop j ++ v ++ Q = P ++ u ++ v ++ Q by rw [List.append_assoc P, e]]; exact S1.out)
          (by rw [show P ++ u.take j ++ u.drop j ++ v ++ Q = P ++ u ++ v ++ Q by rw [List.append_assoc P, e]]; exact HL.out) H0.out (by rw [List.length_take]; omega) h3 (by omega) (by rw [List.length_drop]; omega) hsz
        rw [ea] at h
        exact h
      have CC := Lib.hid C
      have wd : IntKind.i64.wrap ((i : Int) - (j : Int)) = (i : Int) - (j : Int) := by rw [IntKind.wrap_i64]; omega
      clear C ea S1
      go_wp2_with fail
      refine CC.out.mono ?_
      rintro e w1 ⟨rfl, S2⟩
      have S3 := Lib.hid S2
      clear S2
      go_wp2_with fail
      go_roundg ((i - j) + j)
      case measure => omega
      case rel =>
        refine ⟨i - j, j, P ++ v, u.drop j, u.take j, Q, by go_num, rfl, by omega, hj, by omega, hjM, Nat.le_refl _, ?_, ?_⟩
        · obtain ⟨h1, h2, h3, h4⟩ := HI.out
          refine ⟨by rw [List.length_append]; omega, by rw [List.length_drop]; omega, by rw [List.length_take]; omega, ?_⟩
          rw [← h4]
          simp
        · exact S3.out
end Go.Proofs.Ytmdpkblkbokhoaa
