/- The library's stable sort of labels, whole. -/
import Derived.Test.YtmdpkblkbokhoaaStF
namespace Go.Proofs.Ytmdpkblkbokhoaa
open Go.Shelf Go.RowKit Go.Lib Go.Sort
set_option linter.unusedVariables false

/-- Rows of so many, each sorted, one behind the other; the last one may be shorter. -/
inductive Runs (bs : Nat) : List Lab → Prop
  | short (l : List Lab) : l.length ≤ bs → Sorted l → Runs bs l
  | cons (s t : List Lab) : s.length = bs → Sorted s → Runs bs t → Runs bs (s ++ t)
theorem Runs.cut {bs : Nat} {l : List Lab} (h : Runs bs l) (hl : bs ≤ l.length) : ∃ s t, l = s ++ t ∧ s.length = bs ∧ Sorted s ∧ Runs bs t := by
  cases h with
  | short _ h1 h2 => exact ⟨l, [], by simp, by omega, h2, .short [] (by simp) Sorted.nil⟩
  | cons s t h1 h2 h3 => exact ⟨s, t, rfl, h1, h2, h3⟩
theorem Runs.sorted {bs : Nat} {l : List Lab} (h : Runs bs l) (hl : l.length ≤ bs) : Sorted l := by
  cases h with
  | short _ h1 h2 => exact h2
  | cons s t h1 h2 h3 =>
    rw [List.length_append] at hl
    obtain rfl : t = [] := List.eq_nil_of_length_eq_zero (by omega)
    simpa using h2
def Full (bs : Nat) (A : List Lab) : Prop := ∀ t, Runs bs t → Runs bs (A ++ t)
theorem Full.nil (bs : Nat) : Full bs [] := fun t h => h
theorem Full.more {bs : Nat} {A s : List Lab} (h : Full bs A) (hs : s.length = bs) (ss : Sorted s) : Full bs (A ++ s) := fun t ht => by
  rw [List.append_assoc]
  exact h _ (.cons s t hs ss ht)

set_option maxHeartbeats 4000000 in
set_option maxRecDepth 1000000 in
theorem stable_any (w : World) (blk off cap : Nat) (l : List Lab) (N : Nat) (R : RowL w blk off l) (S : St w blk off l w) (hN : l.length = N) (hsz : N < 1000000) :
    Calls Try.prog 28 #[.slice (some ⟨blk, off, none⟩) N cap, .int .i64 (N : Int), fvC] w fun e w' => e = .returned (.tuple #[]) ∧ ∃ s, s.length = l.length ∧ Sorted s ∧ Same1 l s ∧ St w blk off s w' := by
  have RR := Lib.hid R
  have S0 := Lib.hid S
  have HN := Lib.hid hN
  clear R S hN
  go_enter Try.func28, Try.ntmps28
  go_wp2_with fail
  go_loopg [7, 8] N (fun g va vb wr => ∃ (a bb : Nat) (A B : List Lab), va = .int .i64 (a : Int) ∧ vb = .int .i64 (bb : Int) ∧ a ≤ N ∧ N - a ≤ g ∧ bb ≤ a + 20 ∧ Hid (bb = a + 20 ∧ A.length = a ∧ A.length + B.length = N ∧ Full 20 A ∧ Same1 l (A ++ B)) ∧ Hid (St w blk off (A ++ B) wr))
  case atStart => exact ⟨0, 20, [], l, rfl, rfl, Nat.zero_le _, by omega, Nat.le_refl _, ⟨rfl, rfl, by have := HN.out; simpa using this, Full.nil _, Same1.refl _⟩, S0.out⟩
  case round =>
    clear S0
    obtain ⟨a, bb, A, B, rfl, rfl, haN, hg, hba, HI, S1⟩ := hrel
    by_cases hlt : bb ≤ N
    · have C : Calls Try.prog 31 #[.slice (some ⟨blk, off, none⟩) N cap, .int .i64 (a : Int), .int .i64 (bb : Int), fvC] wr fun e w' => e = .returned (.tuple #[]) ∧ ∃ s', s'.length = 20 ∧ Sorted s' ∧ Same1 (B.take 20) s' ∧ St w blk off (A ++ s' ++ B.drop 20) w' := by
        obtain ⟨h0, h1, h2, h3, h4⟩ := HI.out
        have e : A ++ B.take 20 ++ B.drop 20 = A ++ B := by rw [List.append_assoc, List.take_append_drop]
        have ht : (B.take 20).length = 20 := by rw [List.length_take]; omega
        have h := insertion_any w wr blk off cap l A (B.take 20) (B.drop 20) a bb N RR.out (by rw [e]; exact S1.out) (by rw [e, List.length_append]; exact h2) HN.out h1 (by omega) (by omega)
        rw [ht] at h
        exact h
      have C := Lib.hid C
      obtain ⟨cc, hcc⟩ : ∃ cc, cc = bb + 20 := ⟨_, rfl⟩
      have e1 : (bb : Int) + 20 = (cc : Int) := by omega
      have w1 : IntKind.i64.wrap (cc : Int) = (cc : Int) := by rw [IntKind.wrap_i64]; omega
      have hcb : cc ≤ bb + 20 := by omega
      have HCC := Lib.hid hcc
      clear S1 hcc
      go_wp2_with fail
      refine C.out.mono ?_
      rintro e w1 ⟨rfl, s', hl, hs, hm, S2⟩
      have T : Hid (s'.length = 20 ∧ Sorted s' ∧ Same1 (B.take 20) s') := ⟨hl, hs, hm⟩
      have S2 := Lib.hid S2
      clear hl hs hm C
      go_wp2_with fail
      go_roundg (N - bb)
      case measure => have := HI.out.1; omega
      case rel =>
        refine ⟨bb, cc, A ++ s', B.drop 20, rfl, rfl, hlt, Nat.le_refl _, hcb, ?_, ?_⟩
        · obtain ⟨h0, h1, h2, h3, h4⟩ := HI.out
          obtain ⟨g1, g2, g3⟩ := T.out
          refine ⟨HCC.out, by rw [List.length_append]; omega, by rw [List.length_append, List.length_drop]; omega, h3.more g1 g2, h4.trans ?_⟩
          have := Same1.mid g3 A (B.drop 20)
          rw [List.append_assoc, List.take_append_drop] at this
          exact this
        · exact S2.out
    · -- the last row; then the merges
      have hlt : N < bb := by omega
      have C : Calls Try.prog 31 #[.slice (some ⟨blk, off, none⟩) N cap, .int .i64 (a : Int), .int .i64 (N : Int), fvC] wr fun e w' => e = .returned (.tuple #[]) ∧ ∃ L, L.length = N ∧ Runs 20 L ∧ Same1 l L ∧ St w blk off L w' := by
        obtain ⟨h0, h1, h2, h3, h4⟩ := HI.out
        refine (insertion_any w wr blk off cap l A B [] a N N RR.out (by rw [List.append_nil]; exact S1.out) (by rw [List.append_nil, List.length_append]; exact h2) HN.out h1 (by omega) (by omega)).mono ?_
        rintro e w1 ⟨rfl, s', hl, hs, hm, S2⟩
        refine ⟨rfl, A ++ s', by rw [List.length_append]; omega, h3 _ (.short s' (by omega) hs), h4.trans (Same1.app (Same1.refl A) hm), by simpa using S2⟩
      have C := Lib.hid C
      clear S1
      go_wp2_with fail
      refine C.out.mono ?_
      rintro e w1 ⟨rfl, L, hl, hr, hm, S2⟩
      have T : Hid (L.length = N ∧ Runs 20 L ∧ Same1 l L) := ⟨hl, hr, hm⟩
      have S2 := Lib.hid S2
      clear hl hr hm C HI
      go_wp2_with fail
      go_loopg [6, 7, 8, 9] N (fun g vs va vb vm wr => ∃ (bs : Nat) (L : List Lab), vs = .int .i64 (bs : Int) ∧ 20 ≤ bs ∧ bs ≤ 2 * N + 20 ∧ N - bs ≤ g ∧ Hid (L.length = N ∧ Runs bs L ∧ Same1 l L) ∧ Hid (St w blk off L wr))
      case atStart => exact ⟨20, L, rfl, Nat.le_refl _, by omega, by omega, T.out, S2.out⟩
      case round =>
        clear S2 T
        obtain ⟨bs, L, rfl, h20, hbs, hg2, T, S2⟩ := hrel
        by_cases hlt2 : bs < N
        · obtain ⟨ds, hds⟩ : ∃ ds, ds = 2 * bs := ⟨_, rfl⟩
          have e1 : 2 * (bs : Int) = (ds : Int) := by omega
          have e1' : (bs : Int) * 2 = (ds : Int) := by omega
          have w1 : IntKind.i64.wrap (ds : Int) = (ds : Int) := by rw [IntKind.wrap_i64]; omega
          have hdsN : ds ≤ 2 * N := by omega
          have hbds : bs < ds := by omega
          have HDS := Lib.hid hds
          clear hds
          go_wp2_with fail
          have hgk : N - ds < N - bs := by omega
          go_loopg [7, 8] N (fun g va vb wr => ∃ (a bb : Nat) (A B : List Lab), va = .int .i64 (a : Int) ∧ vb = .int .i64 (bb : Int) ∧ a ≤ N ∧ N - a ≤ g ∧ bb ≤ a + ds ∧ Hid (bb = a + ds ∧ A.length = a ∧ A.length + B.length = N ∧ Full ds A ∧ Runs bs B ∧ Same1 l (A ++ B)) ∧ Hid (St w blk off (A ++ B) wr))
          case atStart => exact ⟨0, ds, [], L, rfl, rfl, Nat.zero_le _, by omega, by omega, ⟨by omega, rfl, by have := T.out.1; simpa using this, Full.nil _, T.out.2.1, T.out.2.2⟩, S2.out⟩
          case round =>
            clear S2 T
            obtain ⟨a, bb, A, B, rfl, rfl, haN2, hg3, hba2, HI, S3⟩ := hrel
            obtain ⟨mm, hmm⟩ : ∃ mm, mm = a + bs := ⟨_, rfl⟩
            have e2 : (a : Int) + (bs : Int) = (mm : Int) := by omega
            have w2 : IntKind.i64.wrap (mm : Int) = (mm : Int) := by rw [IntKind.wrap_i64]; omega
            have hmmN : mm ≤ a + bs := by omega
            have HMM := Lib.hid hmm
            clear hmm
            by_cases hlt3 : bb ≤ N
            · have C : Calls Try.prog 32 #[.slice (some ⟨blk, off, none⟩) N cap, .int .i64 (a : Int), .int .i64 (mm : Int), .int .i64 (bb : Int), fvC] wr fun e w' => e = .returned (.tuple #[]) ∧ ∃ s t, s.length = ds ∧ Sorted s ∧ Runs bs t ∧ Same1 l (A ++ s ++ t) ∧ (A ++ s).length + t.length = N ∧ St w blk off (A ++ s ++ t) w' := by
                obtain ⟨h0, h1, h2, h3, h4, h5⟩ := HI.out
                have j1 := HDS.out
                have j2 := HMM.out
                obtain ⟨s1, t1, rfl, k1, k2, k3⟩ := h4.cut (by omega)
                rw [List.length_append] at h2
                obtain ⟨s2, t2, rfl, k4, k5, k6⟩ := k3.cut (by omega)
                rw [List.length_append] at h2
                refine (sym_any w blk off cap l N RR.out HN.out (by omega) _ A s1 s2 t2 a mm bb wr (Nat.le_refl _) (by omega) (by omega) k2 k5 (by simp; omega) h1 (by omega) (by omega) (by have := S3.out; simpa [Hid] using this)).mono ?_
                rintro e w1 ⟨rfl, s, g1, g2, g3, g4⟩
                refine ⟨rfl, s, t2, by omega, g2, k6, h5.trans ?_, by simp; omega, g4⟩
                have := Same1.mid g3 A t2
                simpa using this
              have C := Lib.hid C
              obtain ⟨cc, hcc⟩ : ∃ cc, cc = bb + ds := ⟨_, rfl⟩
              have e3 : (bb : Int) + (ds : Int) = (cc : Int) := by omega
              have w3 : IntKind.i64.wrap (cc : Int) = (cc : Int) := by rw [IntKind.wrap_i64]; omega
              have hcb : cc ≤ bb + ds := by omega
              have HCC := Lib.hid hcc
              clear S3 hcc
              go_wp2_with fail
              refine C.out.mono ?_
              rintro e w1 ⟨rfl, s, t, hl, hs, hr, hm, hn, S4⟩
              have T : Hid (s.length = ds ∧ Sorted s ∧ Runs bs t ∧ Same1 l (A ++ s ++ t) ∧ (A ++ s).length + t.length = N) := ⟨hl, hs, hr, hm, hn⟩
              have S4 := Lib.hid S4
              clear hl hs hr hm hn C
              go_wp2_with fail
              go_roundg (N - bb)
              case measure => have := HI.out.1; omega
              case rel =>
                refine ⟨bb, cc, A ++ s, t, rfl, rfl, hlt3, Nat.le_refl _, hcb, ?_, S4.out⟩
                obtain ⟨h0, h1, h2, h3, h4, h5⟩ := HI.out
                obtain ⟨g1, g2, g3, g4, g5⟩ := T.out
                exact ⟨HCC.out, by rw [List.length_append]; omega, g5, h3.more g1 g2, g3, g4⟩
            · have hlt3 : N < bb := by omega
              by_cases hlt4 : mm < N
              · have C : Calls Try.prog 32 #[.slice (some ⟨blk, off, none⟩) N cap, .int .i64 (a : Int), .int .i64 (mm : Int), .int .i64 (N : Int), fvC] wr fun e w' => e = .returned (.tuple #[]) ∧ ∃ L, L.length = N ∧ Runs ds L ∧ Same1 l L ∧ St w blk off L w' := by
                  obtain ⟨h0, h1, h2, h3, h4, h5⟩ := HI.out
                  have j1 := HDS.out
                  have j2 := HMM.out
                  obtain ⟨s1, t1, rfl, k1, k2, k3⟩ := h4.cut (by omega)
                  rw [List.length_append] at h2
                  refine (sym_any w blk off cap l N RR.out HN.out (by omega) _ A s1 t1 [] a mm N wr (Nat.le_refl _) (by omega) (by omega) k2 (k3.sorted (by omega)) (by simp; omega) h1 (by omega) (by omega) (by have := S3.out; simpa [Hid] using this)).mono ?_
                  rintro e w1 ⟨rfl, s, g1, g2, g3, g4⟩
                  refine ⟨rfl, A ++ s, by rw [List.length_append]; omega, h3 _ (.short s (by omega) g2), h5.trans (Same1.app (Same1.refl A) g3), by simpa using g4⟩
                have C := Lib.hid C
                clear S3 HI
                go_wp2_with fail
                refine C.out.mono ?_
                rintro e w1 ⟨rfl, L2, hl, hr, hm, S4⟩
                have T : Hid (L2.length = N ∧ Runs ds L2 ∧ Same1 l L2) := ⟨hl, hr, hm⟩
                have S4 := Lib.hid S4
                clear hl hr hm C
                go_wp2_with fail
                go_roundg (N - ds)
                case measure => omega
                case rel => exact ⟨ds, L2, rfl, by omega, by omega, Nat.le_refl _, T.out, S4.out⟩
              · have hlt4 : N ≤ mm := by omega
                have T : Hid ((A ++ B).length = N ∧ Runs ds (A ++ B) ∧ Same1 l (A ++ B)) := by
                  obtain ⟨h0, h1, h2, h3, h4, h5⟩ := HI.out
                  have j1 := HDS.out
                  have j2 := HMM.out
                  exact ⟨by rw [List.length_append]; exact h2, h3 _ (.short B (by omega) (h4.sorted (by omega))), h5⟩
                clear HI
                go_wp2_with fail
                go_roundg (N - ds)
                case measure => omega
                case rel => exact ⟨ds, A ++ B, rfl, by omega, by omega, Nat.le_refl _, T.out, S3.out⟩
        · have hlt2 : N ≤ bs := by omega
          go_wp2
          go_end0
          obtain ⟨h1, h2, h3⟩ := T.out
          exact ⟨rfl, L, by rw [h1, HN.out], h2.sorted (by omega), h3, S2.out⟩

theorem sortStable_any (w : World) (blk off cap : Nat) (l : List Lab) (hH : HoldsK encL 2 w blk off l.toArray) (hblk : blk < w.heap.size) (hsz : l.length < 1000000) :
    Calls Try.prog 21 #[.slice (some ⟨blk, off, none⟩) l.length cap, fvC] w fun e w' => e = .returned (.tuple #[]) ∧ ∃ s, s.length = l.length ∧ Sorted s ∧ Same1 l s ∧ St w blk off s w' := by
  have C := Lib.hid (stable_any w blk off cap l l.length ⟨encL_len, encL_one, hH, hblk⟩ (SWK.start hH) rfl hsz)
  clear hH
  go_enter Try.func21, Try.ntmps21
  go_wp2_with fail
  refine C.out.mono ?_
  rintro e w1 ⟨rfl, h⟩
  have H := Lib.hid h
  clear h
  go_wp2
  go_end0
  exact ⟨rfl, H.out⟩
end Go.Proofs.Ytmdpkblkbokhoaa
