/- The library's stable sort: rows in memory; ranges exchanged; two blocks rotated (by sort/gensort.py). -/
import Derived.Test.YtajkhbdniadkkaaSoQP
import Derived.Test.YtajkhbdniadkkaaLoads
namespace Go.Proofs.Ytajkhbdniadkkaa.Qs
open Go.Shelf Go.RowKit Go.Lib Go.Sort Go.Deep
open Go.Joins (cell_of_block unfrozen_of_block block_setCell)
set_option linter.unusedVariables false
set_option linter.unusedSimpArgs false
def enc (x : El) : List Value := (enA x).toList
theorem enc_len (x : El) : (enc x).length = 5 := by unfold enc; rw [Array.length_toList]; exact enA_size x
theorem enc_one (x : El) : ∀ v ∈ enc x, v.oneCell' = true := by
  intro v hv
  have h := enA_one x
  rw [← Array.all_toList] at h
  exact List.all_eq_true.1 h v hv
/-- The world is one of the sort's, with these in the row. -/
abbrev St (w0 : World) (blk off : Nat) (l : List El) (W : World) : Prop := SWK enc 5 w0 blk off l.toArray W
abbrev RowL (w0 : World) (blk off : Nat) (l0 : List El) : Prop := RowK enc 5 w0 blk off l0.toArray
abbrev fvC : Value := .func (.func 40) #[] #[]
theorem at_split {A C : List El} {x : El} {i : Nat} (hi : i = A.length) : (A ++ x :: C).toArray[i]! = x := by
  subst hi
  rw [getElem!_pos _ _ (by simp)]
  simp
theorem swp_split {A B C : List El} {x y : El} {i j : Nat} (hi : i = A.length) (hj : j = A.length + 1 + B.length) : swp (A ++ x :: (B ++ y :: C)).toArray i j = (A ++ y :: (B ++ x :: C)).toArray := by
  have h1 : (A ++ x :: (B ++ y :: C)).toArray[i]! = x := at_split hi
  have h2 : (A ++ x :: (B ++ y :: C)).toArray[j]! = y := by
    have := at_split (A := A ++ x :: B) (C := C) (x := y) (i := j) (by rw [hj]; simp; omega)
    simpa using this
  unfold swp
  rw [h1, h2]
  subst hi hj
  apply Array.toList_inj.1
  simp only [Array.toList_setIfInBounds]
  rw [List.set_append_right _ _ (Nat.le_refl _), Nat.sub_self, List.set_cons_zero, List.set_append_right _ _ (by omega), show A.length + 1 + B.length - A.length = B.length + 1 by omega, List.set_cons_succ, List.set_append_right _ _ (Nat.le_refl _), Nat.sub_self, List.set_cons_zero]
theorem swp_split' {A B C : List El} {x y : El} {i j : Nat} (hi : i = A.length) (hj : j = A.length + 1 + B.length) : swp (A ++ x :: (B ++ y :: C)).toArray j i = (A ++ y :: (B ++ x :: C)).toArray := by
  have h1 : (A ++ x :: (B ++ y :: C)).toArray[i]! = x := at_split hi
  have h2 : (A ++ x :: (B ++ y :: C)).toArray[j]! = y := by
    have := at_split (A := A ++ x :: B) (C := C) (x := y) (i := j) (by rw [hj]; simp; omega)
    simpa using this
  unfold swp
  rw [h1, h2]
  subst hi hj
  apply Array.toList_inj.1
  simp only [Array.toList_setIfInBounds]
  rw [List.set_append_right _ _ (by omega), show A.length + 1 + B.length - A.length = B.length + 1 by omega, List.set_cons_succ, List.set_append_right _ _ (Nat.le_refl _), Nat.sub_self, List.set_cons_zero, List.set_append_right _ _ (Nat.le_refl _), Nat.sub_self, List.set_cons_zero]

/-- What stands at a place of the row, in a world of the sort's. -/
theorem rangeO {w0 W : World} {blk off : Nat} {d0 dk : Array El} (h : SWK enc 5 w0 blk off dk W) (R : RowK enc 5 w0 blk off d0) (hs : dk.size = d0.size) (i : Nat) (hi : i < dk.size) (x : El) (hx : dk[i]! = x) : W.rangeAt blk (off + i * 5) (enA x).toList := fun j v hv => by
  have H := h.holds R.hblk R.hH hs
  have hj : j < 5 := by
    have := (List.getElem?_eq_some_iff.1 hv).1
    rw [Array.length_toList, enA_size] at this
    exact this
  have c := (HoldsK.cell H hi (c := j) hj).1
  rw [hx] at c
  have hv' : (enc x)[j]? = some v := hv
  rw [c]
  congr 1
  have e := List.getElem?_eq_some_iff.1 hv'
  rw [getElem!_pos (enc x) j e.1]
  exact e.2
theorem ldO {w0 W : World} {blk off : Nat} {d0 dk : Array El} (h : SWK enc 5 w0 blk off dk W) (R : RowK enc 5 w0 blk off d0) (hs : dk.size = d0.size) (i : Nat) (hi : i < dk.size) (x : El) (hx : dk[i]! = x) (n : Nat) (os : Array Obj) :
    (Instr.loadAt 52 (.pointer (some ⟨blk, off + i * 5, none⟩))).run Try.prog (grow (W.drewN n) os) = .ok (.agg (enA x)) (grow (W.drewN n) os) :=
  run_loadAt_mid (P := Try.prog) _ blk (off + i * 5) 52 (enA x).toList _ (rangeO (h.grown n os) R hs i hi x hx) Try.underlying52 rfl (by rw [Array.length_toList, enA_size]; kernel_rfl)
theorem thereO {w0 W : World} {blk off : Nat} {d0 dk : Array El} (h : SWK enc 5 w0 blk off dk W) (R : RowK enc 5 w0 blk off d0) (hs : dk.size = d0.size) (i : Nat) (hi : i < dk.size) : W.there blk (off + i * 5) 5 := fun j hj => by
  have H := h.holds R.hblk R.hH hs
  have c := HoldsK.cell H hi (c := j) hj
  rw [c.1]
  exact ⟨rfl, c.2⟩
theorem there_setCells : ∀ (vs : List Value) {W : World} {b o n : Nat} (c p : Nat), W.there b o n → (W.setCells c p vs).there b o n
  | [], W, b, o, n, c, p, h => h
  | v :: r, W, b, o, n, c, p, h => by
    rw [World.setCells]
    refine there_setCells r c (p + 1) (fun j hj => ?_)
    obtain ⟨h1, h2⟩ := h j hj
    refine ⟨?_, by rw [World.frozen?_setCell]; exact h2⟩
    obtain ⟨u, hu⟩ := Option.isSome_iff_exists.1 h1
    obtain ⟨u', hu'⟩ := cell?_setCell_some (w := W) (p := ⟨c, p, none⟩) (x := v) hu
    rw [hu']
    rfl
/-- An exchange of two: what it reads, what it may write, and where it ends. -/
theorem swapO {w0 W : World} {blk off : Nat} {d0 dk : Array El} (h : SWK enc 5 w0 blk off dk W) (R : RowK enc 5 w0 blk off d0) (hs : dk.size = d0.size) (i j : Nat) (hi : i < dk.size) (hj : j < dk.size) (x y : El) (hx : dk[i]! = x) (hy : dk[j]! = y) :
    W.drew.rangeAt blk (off + i * 5) (enA x).toList ∧ W.drew.rangeAt blk (off + j * 5) (enA y).toList ∧ W.drew.there blk (off + i * 5) (enA y).size ∧ (W.drew.setCells blk (off + i * 5) (enA y).toList).there blk (off + j * 5) (enA x).size ∧
    SWK enc 5 w0 blk off (swp dk i j) ((W.drew.setCells blk (off + i * 5) (enA y).toList).setCells blk (off + j * 5) (enA x).toList) := by
  have e := h.swapped R i j hi hj
  rw [hx, hy] at e
  refine ⟨rangeO h.drew R hs i hi x hx, rangeO h.drew R hs j hj y hy, ?_, ?_, e⟩
  · rw [enA_size]; exact thereO h.drew R hs i hi
  · rw [enA_size]; exact there_setCells _ _ _ (thereO h.drew R hs j hj)

/-- A round of the exchange of two ranges. -/
theorem range_step {p s mid t q : List El} {i n a b : Nat} (hs : s.length = n) (ht : t.length = n) (ha : p.length = a) (hb : p.length + n + mid.length = b) (hi : i < n) :
    swp (p ++ (t.take i ++ s.drop i) ++ mid ++ (s.take i ++ t.drop i) ++ q).toArray (a + i) (b + i) = (p ++ (t.take (i + 1) ++ s.drop (i + 1)) ++ mid ++ (s.take (i + 1) ++ t.drop (i + 1)) ++ q).toArray := by
  have e1 : s.drop i = s[i]'(by omega) :: s.drop (i + 1) := List.drop_eq_getElem_cons (by omega)
  have e2 : t.drop i = t[i]'(by omega) :: t.drop (i + 1) := List.drop_eq_getElem_cons (by omega)
  have e3 : s.take (i + 1) = s.take i ++ [s[i]'(by omega)] := by rw [List.take_add_one, List.getElem?_eq_getElem (by omega)]; rfl
  have e4 : t.take (i + 1) = t.take i ++ [t[i]'(by omega)] := by rw [List.take_add_one, List.getElem?_eq_getElem (by omega)]; rfl
  have h := swp_split (A := p ++ t.take i) (B := s.drop (i + 1) ++ mid ++ s.take i) (C := t.drop (i + 1) ++ q) (x := s[i]'(by omega)) (y := t[i]'(by omega)) (i := a + i) (j := b + i)
    (by simp; omega) (by simp; omega)
  rw [e1, e2, e3, e4]
  simp only [List.append_assoc, List.cons_append, List.nil_append] at h ⊢
  exact h

set_option maxHeartbeats 4000000 in
set_option maxRecDepth 1000000 in
theorem swap_range (w0 w : World) (blk off cap : Nat) (l0 p s mid t q : List El) (a b n N : Nat) (fv : Value) (R : RowL w0 blk off l0) (S : St w0 blk off (p ++ s ++ mid ++ t ++ q) w)
    (hN : (p ++ s ++ mid ++ t ++ q).length = N) (h0 : l0.length = N) (hs : s.length = n) (ht : t.length = n) (ha : p.length = a) (hb : p.length + n + mid.length = b) (hsz : N < 4611686018427387904) :
    Calls Try.prog 100 #[.slice (some ⟨blk, off, none⟩) N cap, .int .i64 (a : Int), .int .i64 (b : Int), .int .i64 (n : Int), fv] w fun e w' => e = .returned (.tuple #[]) ∧ St w0 blk off (p ++ t ++ mid ++ s ++ q) w' := by
  have mixed : Try.prog.follows .mixedOrders = true := by kernel_rfl
  have RR := Lib.hid R
  have S0 : Hid (St w0 blk off (p ++ (t.take 0 ++ s.drop 0) ++ mid ++ (s.take 0 ++ t.drop 0) ++ q) w) := by
    show St _ _ _ _ _
    simpa using S
  have HA : Hid ((p ++ s ++ mid ++ t ++ q).length = N ∧ l0.length = N ∧ s.length = n ∧ t.length = n ∧ p.length = a ∧ p.length + n + mid.length = b) := ⟨hN, h0, hs, ht, ha, hb⟩
  have hbn : a + n ≤ N ∧ b + n ≤ N := by simp at hN; omega
  clear R S hN h0 hs ht ha hb
  go_enter Try.func100, Try.ntmps100
  go_wp2
  go_loopg [10] n (fun g vi wr => ∃ i : Nat, vi = .int .i64 (i : Int) ∧ i ≤ n ∧ n - i ≤ g ∧ Hid (St w0 blk off (p ++ (t.take i ++ s.drop i) ++ mid ++ (s.take i ++ t.drop i) ++ q) wr))
  case atStart => exact ⟨0, rfl, Nat.zero_le _, by omega, S0.out⟩
  case round =>
    clear S0
    obtain ⟨i, rfl, hi, hg, S1⟩ := hrel
    by_cases hlt : i < n
    · obtain ⟨dk, hdk⟩ : ∃ dk, dk = (p ++ (t.take i ++ s.drop i) ++ mid ++ (s.take i ++ t.drop i) ++ q).toArray := ⟨_, rfl⟩
      have S2 : Hid (SWK enc 5 w0 blk off dk wr) := by show SWK _ _ _ _ _ _ _; rw [hdk]; exact S1.out
      have hz : dk.size = l0.toArray.size := by
        rw [hdk]
        obtain ⟨h1, h2, h3, h4, _⟩ := HA.out
        simp at h1 ⊢
        omega
      have hzN : dk.size = N := by rw [hz]; exact HA.out.2.1
      obtain ⟨x, hx⟩ : ∃ x, dk[a + i]! = x := ⟨_, rfl⟩
      obtain ⟨y, hy⟩ : ∃ y, dk[b + i]! = y := ⟨_, rfl⟩
      have SW := Lib.hid (swapO S2.out RR.out hz (a + i) (b + i) (by omega) (by omega) x y hx hy)
      have w1 : IntKind.i64.wrap ((a : Int) + (i : Int)) = (a : Int) + (i : Int) := by rw [IntKind.wrap_i64]; omega
      have w2 : IntKind.i64.wrap ((b : Int) + (i : Int)) = (b : Int) + (i : Int) := by rw [IntKind.wrap_i64]; omega
      have t1 : ((a : Int) + (i : Int)).toNat = a + i := by omega
      have t2 : ((b : Int) + (i : Int)).toNat = b + i := by omega
      have p1 : (0 : Int) ≤ (a : Int) + (i : Int) := by omega
      have p2 : (0 : Int) ≤ (b : Int) + (i : Int) := by omega
      have q1 : (a : Int) + (i : Int) < (N : Int) := by omega
      have q2 : (b : Int) + (i : Int) < (N : Int) := by omega
      have HXY := Lib.hid (And.intro hx hy)
      clear hx hy
      have HDK := Lib.hid hdk
      clear hdk S2 S1
      go_wp2_with fail
      refine wp_region_E (S := fun ws => ws.rangeAt blk (off + (a + i) * 5) (enA x).toList ∧ ws.rangeAt blk (off + (b + i) * 5) (enA y).toList) (f := 21) mixed ⟨SW.out.1, SW.out.2.1⟩ (fun hS => ?_)
      refine wpAnyE_takeP (i := 0) (d := 16) (v := .slice (some ⟨blk, off, none⟩) N cap) _ rfl rfl (by kernel_rfl) (by kernel_rfl) (by kernel_rfl) (by kernel_rfl) (fun _ _ _ h => h) (Or.inl ⟨by kernel_rfl, fun ws => by first | (go_simp; done) | (go_simp; with_reducible rfl) | (go_simp; rfl) | (go_simp; intro hlt; exfalso; omega) | (go_simp; omega)⟩) hS ?_
      simp only [Act.put, List.setIfInBounds_toArray, List.set_cons_zero, List.set_cons_succ]
      refine wpAnyE_takeP (i := 1) (d := 17) (v := .int .i64 ((a : Int))) _ rfl rfl (by kernel_rfl) (by kernel_rfl) (by kernel_rfl) (by kernel_rfl) (fun _ _ _ h => h) (Or.inl ⟨by kernel_rfl, fun ws => by first | (go_simp; done) | (go_simp; with_reducible rfl) | (go_simp; rfl) | (go_simp; intro hlt; exfalso; omega) | (go_simp; omega)⟩) hS ?_
      simp only [Act.put, List.setIfInBounds_toArray, List.set_cons_zero, List.set_cons_succ]
      refine wpAnyE_takeP (i := 2) (d := 18) (v := .int .i64 ((i : Int))) _ rfl rfl (by kernel_rfl) (by kernel_rfl) (by kernel_rfl) (by kernel_rfl) (fun _ _ _ h => h) (Or.inl ⟨by kernel_rfl, fun ws => by first | (go_simp; done) | (go_simp; with_reducible rfl) | (go_simp; rfl) | (go_simp; intro hlt; exfalso; omega) | (go_simp; omega)⟩) hS ?_
      simp only [Act.put, List.setIfInBounds_toArray, List.set_cons_zero, List.set_cons_succ]
      refine wpAnyE_takeP (i := 3) (d := 19) (v := .int .i64 ((a : Int) + (i : Int))) _ rfl rfl (by kernel_rfl) (by kernel_rfl) (by kernel_rfl) (by kernel_rfl) (fun _ _ _ h => h) (Or.inl ⟨by kernel_rfl, fun ws => by first | (go_simp; done) | (go_simp; with_reducible rfl) | (go_simp; rfl) | (go_simp; intro hlt; exfalso; omega) | (go_simp; omega)⟩) hS ?_
      simp only [Act.put, List.setIfInBounds_toArray, List.set_cons_zero, List.set_cons_succ]
      refine wpAnyE_takeP (i := 4) (d := 20) (v := .slice (some ⟨blk, off, none⟩) N cap) _ rfl rfl (by kernel_rfl) (by kernel_rfl) (by kernel_rfl) (by kernel_rfl) (fun _ _ _ h => h) (Or.inl ⟨by kernel_rfl, fun ws => by first | (go_simp; done) | (go_simp; with_reducible rfl) | (go_simp; rfl) | (go_simp; intro hlt; exfalso; omega) | (go_simp; omega)⟩) hS ?_
      simp only [Act.put, List.setIfInBounds_toArray, List.set_cons_zero, List.set_cons_succ]
      refine wpAnyE_takeP (i := 5) (d := 21) (v := .int .i64 ((b : Int))) _ rfl rfl (by kernel_rfl) (by kernel_rfl) (by kernel_rfl) (by kernel_rfl) (fun _ _ _ h => h) (Or.inl ⟨by kernel_rfl, fun ws => by first | (go_simp; done) | (go_simp; with_reducible rfl) | (go_simp; rfl) | (go_simp; intro hlt; exfalso; omega) | (go_simp; omega)⟩) hS ?_
      simp only [Act.put, List.setIfInBounds_toArray, List.set_cons_zero, List.set_cons_succ]
      refine wpAnyE_takeP (i := 6) (d := 22) (v := .int .i64 ((i : Int))) _ rfl rfl (by kernel_rfl) (by kernel_rfl) (by kernel_rfl) (by kernel_rfl) (fun _ _ _ h => h) (Or.inl ⟨by kernel_rfl, fun ws => by first | (go_simp; done) | (go_simp; with_reducible rfl) | (go_simp; rfl) | (go_simp; intro hlt; exfalso; omega) | (go_simp; omega)⟩) hS ?_
      simp only [Act.put, List.setIfInBounds_toArray, List.set_cons_zero, List.set_cons_succ]
      refine wpAnyE_takeP (i := 7) (d := 23) (v := .int .i64 ((b : Int) + (i : Int))) _ rfl rfl (by kernel_rfl) (by kernel_rfl) (by kernel_rfl) (by kernel_rfl) (fun _ _ _ h => h) (Or.inl ⟨by kernel_rfl, fun ws => by first | (go_simp; done) | (go_simp; with_reducible rfl) | (go_simp; rfl) | (go_simp; intro hlt; exfalso; omega) | (go_simp; omega)⟩) hS ?_
      simp only [Act.put, List.setIfInBounds_toArray, List.set_cons_zero, List.set_cons_succ]
      refine wpAnyE_takeP (i := 8) (d := 24) (v := .slice (some ⟨blk, off, none⟩) N cap) _ rfl rfl (by kernel_rfl) (by kernel_rfl) (by kernel_rfl) (by kernel_rfl) (fun _ _ _ h => h) (Or.inl ⟨by kernel_rfl, fun ws => by first | (go_simp; done) | (go_simp; with_reducible rfl) | (go_simp; rfl) | (go_simp; intro hlt; exfalso; omega) | (go_simp; omega)⟩) hS ?_
      simp only [Act.put, List.setIfInBounds_toArray, List.set_cons_zero, List.set_cons_succ]
      refine wpAnyE_takeP (i := 9) (d := 25) (v := .int .i64 ((b : Int))) _ rfl rfl (by kernel_rfl) (by kernel_rfl) (by kernel_rfl) (by kernel_rfl) (fun _ _ _ h => h) (Or.inl ⟨by kernel_rfl, fun ws => by first | (go_simp; done) | (go_simp; with_reducible rfl) | (go_simp; rfl) | (go_simp; intro hlt; exfalso; omega) | (go_simp; omega)⟩) hS ?_
      simp only [Act.put, List.setIfInBounds_toArray, List.set_cons_zero, List.set_cons_succ]
      refine wpAnyE_takeP (i := 10) (d := 26) (v := .int .i64 ((i : Int))) _ rfl rfl (by kernel_rfl) (by kernel_rfl) (by kernel_rfl) (by kernel_rfl) (fun _ _ _ h => h) (Or.inl ⟨by kernel_rfl, fun ws => by first | (go_simp; done) | (go_simp; with_reducible rfl) | (go_simp; rfl) | (go_simp; intro hlt; exfalso; omega) | (go_simp; omega)⟩) hS ?_
      simp only [Act.put, List.setIfInBounds_toArray, List.set_cons_zero, List.set_cons_succ]
      refine wpAnyE_takeP (i := 11) (d := 27) (v := .int .i64 ((b : Int) + (i : Int))) _ rfl rfl (by kernel_rfl) (by kernel_rfl) (by kernel_rfl) (by kernel_rfl) (fun _ _ _ h => h) (Or.inl ⟨by kernel_rfl, fun ws => by first | (go_simp; done) | (go_simp; with_reducible rfl) | (go_simp; rfl) | (go_simp; intro hlt; exfalso; omega) | (go_simp; omega)⟩) hS ?_
      simp only [Act.put, List.setIfInBounds_toArray, List.set_cons_zero, List.set_cons_succ]
      refine wpAnyE_takeP (i := 12) (d := 28) (v := .pointer (some ⟨blk, off + (b + i) * 5, none⟩)) _ rfl rfl (by kernel_rfl) (by kernel_rfl) (by kernel_rfl) (by kernel_rfl) (fun _ _ _ h => h) (Or.inl ⟨by kernel_rfl, fun ws => by first | (go_simp; done) | (go_simp; with_reducible rfl) | (go_simp; rfl) | (go_simp; intro hlt; exfalso; omega) | (go_simp; omega)⟩) hS ?_
      simp only [Act.put, List.setIfInBounds_toArray, List.set_cons_zero, List.set_cons_succ]
      refine wpAnyE_takeD (i := 13) (d := 29) (v := .agg (enA y)) _ rfl rfl (by kernel_rfl) (by kernel_rfl) (by kernel_rfl) (by kernel_rfl) (fun _ _ _ h => h) (yieldsIf_load_mid (by kernel_rfl) _ _ rfl blk (off + (b + i) * 5) (by kernel_rfl) (enA y).toList _ (fun ws hSw => hSw.2) Try.underlying52 rfl (by rw [Array.length_toList, enA_size]; kernel_rfl)) hS ?_
      simp only [Act.put, List.setIfInBounds_toArray, List.set_cons_zero, List.set_cons_succ]
      refine wpAnyE_takeP (i := 14) (d := 30) (v := .slice (some ⟨blk, off, none⟩) N cap) _ rfl rfl (by kernel_rfl) (by kernel_rfl) (by kernel_rfl) (by kernel_rfl) (fun _ _ _ h => h) (Or.inl ⟨by kernel_rfl, fun ws => by first | (go_simp; done) | (go_simp; with_reducible rfl) | (go_simp; rfl) | (go_simp; intro hlt; exfalso; omega) | (go_simp; omega)⟩) hS ?_
      simp only [Act.put, List.setIfInBounds_toArray, List.set_cons_zero, List.set_cons_succ]
      refine wpAnyE_takeP (i := 15) (d := 31) (v := .int .i64 ((a : Int))) _ rfl rfl (by kernel_rfl) (by kernel_rfl) (by kernel_rfl) (by kernel_rfl) (fun _ _ _ h => h) (Or.inl ⟨by kernel_rfl, fun ws => by first | (go_simp; done) | (go_simp; with_reducible rfl) | (go_simp; rfl) | (go_simp; intro hlt; exfalso; omega) | (go_simp; omega)⟩) hS ?_
      simp only [Act.put, List.setIfInBounds_toArray, List.set_cons_zero, List.set_cons_succ]
      refine wpAnyE_takeP (i := 16) (d := 32) (v := .int .i64 ((i : Int))) _ rfl rfl (by kernel_rfl) (by kernel_rfl) (by kernel_rfl) (by kernel_rfl) (fun _ _ _ h => h) (Or.inl ⟨by kernel_rfl, fun ws => by first | (go_simp; done) | (go_simp; with_reducible rfl) | (go_simp; rfl) | (go_simp; intro hlt; exfalso; omega) | (go_simp; omega)⟩) hS ?_
      simp only [Act.put, List.setIfInBounds_toArray, List.set_cons_zero, List.set_cons_succ]
      refine wpAnyE_takeP (i := 17) (d := 33) (v := .int .i64 ((a : Int) + (i : Int))) _ rfl rfl (by kernel_rfl) (by kernel_rfl) (by kernel_rfl) (by kernel_rfl) (fun _ _ _ h => h) (Or.inl ⟨by kernel_rfl, fun ws => by first | (go_simp; done) | (go_simp; with_reducible rfl) | (go_simp; rfl) | (go_simp; intro hlt; exfalso; omega) | (go_simp; omega)⟩) hS ?_
      simp only [Act.put, List.setIfInBounds_toArray, List.set_cons_zero, List.set_cons_succ]
      refine wpAnyE_takeP (i := 18) (d := 34) (v := .pointer (some ⟨blk, off + (a + i) * 5, none⟩)) _ rfl rfl (by kernel_rfl) (by kernel_rfl) (by kernel_rfl) (by kernel_rfl) (fun _ _ _ h => h) (Or.inl ⟨by kernel_rfl, fun ws => by first | (go_simp; done) | (go_simp; with_reducible rfl) | (go_simp; rfl) | (go_simp; intro hlt; exfalso; omega) | (go_simp; omega)⟩) hS ?_
      simp only [Act.put, List.setIfInBounds_toArray, List.set_cons_zero, List.set_cons_succ]
      refine wpAnyE_takeD (i := 19) (d := 35) (v := .agg (enA x)) _ rfl rfl (by kernel_rfl) (by kernel_rfl) (by kernel_rfl) (by kernel_rfl) (fun _ _ _ h => h) (yieldsIf_load_mid (by kernel_rfl) _ _ rfl blk (off + (a + i) * 5) (by kernel_rfl) (enA x).toList _ (fun ws hSw => hSw.1) Try.underlying52 rfl (by rw [Array.length_toList, enA_size]; kernel_rfl)) hS ?_
      simp only [Act.put, List.setIfInBounds_toArray, List.set_cons_zero, List.set_cons_succ]
      refine wpAnyE_takeP (i := 20) (d := 36) (v := .pointer (some ⟨blk, off + (a + i) * 5, none⟩)) _ rfl rfl (by kernel_rfl) (by kernel_rfl) (by kernel_rfl) (by kernel_rfl) (fun _ _ _ h => h) (Or.inl ⟨by kernel_rfl, fun ws => by first | (go_simp; done) | (go_simp; with_reducible rfl) | (go_simp; rfl) | (go_simp; intro hlt; exfalso; omega) | (go_simp; omega)⟩) hS ?_
      simp only [Act.put, List.setIfInBounds_toArray, List.set_cons_zero, List.set_cons_succ]
      refine wpAnyE_write rfl (by kernel_rfl) (fun K hK => ?_)
      refine Ld.step_store (by rfl) _ _ _ rfl blk (off + (a + i) * 5) (enA y) (by rfl) (by rfl) SW.out.2.2.1 (by rw [enA_size]; kernel_rfl) (enA_one y) ?_
      refine hK _ _ ?_
      try simp only [Act.put, List.setIfInBounds_toArray, List.set_cons_zero, List.set_cons_succ]
      refine wpAny_one (i := 22) rfl (by kernel_rfl) (fun K hK => ?_)
      go_simp
      refine hK _ _ ?_
      try simp only [Act.put, List.setIfInBounds_toArray, List.set_cons_zero, List.set_cons_succ]
      refine wpAny_one (i := 23) rfl (by kernel_rfl) (fun K hK => ?_)
      refine Ld.step_store (by rfl) _ _ _ rfl blk (off + (b + i) * 5) (enA x) (by rfl) (by rfl) SW.out.2.2.2.1 (by rw [enA_size]; kernel_rfl) (enA_one x) ?_
      refine hK _ _ ?_
      try simp only [Act.put, List.setIfInBounds_toArray, List.set_cons_zero, List.set_cons_succ]
      refine wpAny_end (by kernel_rfl) ?_
      have S3 := Lib.hid SW.out.2.2.2.2
      clear SW
      generalize (wr.drew.setCells blk (off + (a + i) * 5) (enA y).toList).setCells blk (off + (b + i) * 5) (enA x).toList = wq at S3 ⊢
      go_wp2
      go_roundg (n - (i + 1))
      case measure => omega
      case rel =>
        refine ⟨i + 1, by go_num, hlt, Nat.le_refl _, ?_⟩
        show St _ _ _ _ _
        have h := S3.out
        rw [HDK.out, range_step HA.out.2.2.1 HA.out.2.2.2.1 HA.out.2.2.2.2.1 HA.out.2.2.2.2.2 hlt] at h
        exact h
    · obtain rfl : i = n := by omega
      go_wp2
      go_end0
      refine ⟨rfl, ?_⟩
      have h := S1.out
      obtain ⟨_, _, h3, h4, _, _⟩ := HA.out
      rw [List.take_of_length_le (by omega), List.drop_of_length_le (by omega), List.take_of_length_le (by omega), List.drop_of_length_le (by omega)] at h
      simpa using h

set_option maxHeartbeats 4000000 in
set_option maxRecDepth 1000000 in
theorem rotate_any (w0 w : World) (blk off cap : Nat) (l0 p U V q : List El) (a m b N : Nat) (fv : Value) (R : RowL w0 blk off l0) (S : St w0 blk off (p ++ U ++ V ++ q) w)
    (hN : (p ++ U ++ V ++ q).length = N) (h0 : l0.length = N) (ha : p.length = a) (hm : p.length + U.length = m) (hb : p.length + U.length + V.length = b) (hU : 0 < U.length) (hV : 0 < V.length) (hsz : N < 4611686018427387904) :
    Calls Try.prog 94 #[.slice (some ⟨blk, off, none⟩) N cap, .int .i64 (a : Int), .int .i64 (m : Int), .int .i64 (b : Int), fv] w fun e w' => e = .returned (.tuple #[]) ∧ St w0 blk off (p ++ V ++ U ++ q) w' := by
  have RR := Lib.hid R
  have S0 := Lib.hid S
  have H0 := Lib.hid h0
  have hbN : b ≤ N := by simp at hN; omega
  have ham : a < m := by omega
  have hmb : m < b := by omega
  have HU : Hid (U.length = m - a ∧ V.length = b - m) := ⟨by omega, by omega⟩
  have HP : Hid (p.length + (m - a) = m) := by show _ = _; omega
  have HN := Lib.hid hN
  clear R S hN h0 ha hm hb hU hV
  have w1 : IntKind.i64.wrap ((m : Int) - (a : Int)) = ((m - a : Nat) : Int) := by rw [IntKind.wrap_i64]; omega
  have w2 : IntKind.i64.wrap ((b : Int) - (m : Int)) = ((b - m : Nat) : Int) := by rw [IntKind.wrap_i64]; omega
  have e1 : ((m : Int) - (a : Int)) = ((m - a : Nat) : Int) := by omega
  have e2 : ((b : Int) - (m : Int)) = ((b - m : Nat) : Int) := by omega
  obtain ⟨i0, hi0⟩ : ∃ i0, i0 = m - a := ⟨_, rfl⟩
  obtain ⟨j0, hj0⟩ : ∃ j0, j0 = b - m := ⟨_, rfl⟩
  rw [← hi0] at w1 HU HP e1
  rw [← hj0] at w2 HU e2
  have hi1 : 0 < i0 := by omega
  have hj1 : 0 < j0 := by omega
  have him : i0 ≤ m := by omega
  have hjm : m + j0 ≤ N := by omega
  clear hi0 hj0
  go_enter Try.func94, Try.ntmps94
  go_wp2
  clear w1 w2 e1 e2
  go_loopg [10, 11] (i0 + j0) (fun g vi vj wr => ∃ (i j : Nat) (P u v Q : List El), vi = .int .i64 (i : Int) ∧ vj = .int .i64 (j : Int) ∧ 0 < i ∧ 0 < j ∧ i ≤ m ∧ m + j ≤ N ∧ i + j ≤ g ∧ Hid (P.length + i = m ∧ u.length = i ∧ v.length = j ∧ P ++ v ++ u ++ Q = p ++ V ++ U ++ q) ∧ Hid (St w0 blk off (P ++ u ++ v ++ Q) wr))
  case atStart => exact ⟨i0, j0, p, U, V, q, rfl, rfl, hi1, hj1, him, hjm, Nat.le_refl _, ⟨HP.out, HU.out.1, HU.out.2, rfl⟩, S0.out⟩
  case round =>
    clear S0
    obtain ⟨i, j, P, u, v, Q, rfl, rfl, hi, hj, hiM, hjM, hg, HI, S1⟩ := hrel
    have HL : Hid ((P ++ u ++ v ++ Q).length = N) := by
      obtain ⟨h1, h2, h3, h4⟩ := HI.out
      have := congrArg List.length h4
      have h5 := HN.out
      show _ = _
      simp at this h5 ⊢
      omega
    have wa : IntKind.i64.wrap ((m : Int) - (i : Int)) = (m : Int) - (i : Int) := by rw [IntKind.wrap_i64]; omega
    have ea : ((m - i : Nat) : Int) = (m : Int) - (i : Int) := by omega
    rcases Nat.lt_trichotomy i j with hlt | heq | hgt
    · -- i < j
      have hne : ((i : Int) != (j : Int)) = true := by simp; omega
      have hgt0 : decide ((i : Int) > (j : Int)) = false := by simp; omega
      have C : ∀ W, St w0 blk off (P ++ u ++ v ++ Q) W → Calls Try.prog 100 #[.slice (some ⟨blk, off, none⟩) N cap, .int .i64 ((m : Int) - (i : Int)), .int .i64 ((m : Int) + (j : Int) - (i : Int)), .int .i64 (i : Int), fv] W fun e w' => e = .returned (.tuple #[]) ∧ St w0 blk off (P ++ v.drop (j - i) ++ v.take (j - i) ++ u ++ Q) w' := by
        intro W hW
        obtain ⟨h1, h2, h3, h4⟩ := HI.out
        have e : v.take (j - i) ++ v.drop (j - i) = v := List.take_append_drop _ _
        have h := swap_range w0 W blk off cap l0 P u (v.take (j - i)) (v.drop (j - i)) Q (m - i) (m + j - i) i N fv RR.out (by rw [show P ++ u ++ v.take (j - i) ++ v.drop (j - i) ++ Q = P ++ u ++ v ++ Q by rw [List.append_assoc (P ++ u), e]]; exact hW)
          (by rw [show P ++ u ++ v.take (j - i) ++ v.drop (j - i) ++ Q = P ++ u ++ v ++ Q by rw [List.append_assoc (P ++ u), e]]; exact HL.out) H0.out h2 (by rw [List.length_drop]; omega) (by omega) (by rw [List.length_take]; omega) hsz
        have e3 : ((m + j - i : Nat) : Int) = (m : Int) + (j : Int) - (i : Int) := by omega
        rw [ea, e3] at h
        exact h
      have CC := Lib.hid (C _ S1.out)
      have wb : IntKind.i64.wrap ((m : Int) + (j : Int)) = (m : Int) + (j : Int) := by rw [IntKind.wrap_i64]; omega
      have wc : IntKind.i64.wrap ((m : Int) + (j : Int) - (i : Int)) = (m : Int) + (j : Int) - (i : Int) := by rw [IntKind.wrap_i64]; omega
      have wd : IntKind.i64.wrap ((j : Int) - (i : Int)) = (j : Int) - (i : Int) := by rw [IntKind.wrap_i64]; omega
      clear C ea S1
      go_wp2_with fail
      refine CC.out.mono ?_
      rintro e w1 ⟨rfl, S2⟩
      have S3 := Lib.hid S2
      clear S2
      go_wp2_with fail
      go_roundg (i + (j - i))
      case measure => omega
      case rel =>
        refine ⟨i, j - i, P, v.drop (j - i), v.take (j - i), u ++ Q, rfl, by go_num, hi, by omega, hiM, by omega, Nat.le_refl _, ?_, ?_⟩
        · obtain ⟨h1, h2, h3, h4⟩ := HI.out
          refine ⟨h1, by rw [List.length_drop]; omega, by rw [List.length_take]; omega, ?_⟩
          rw [← h4]
          simp
        · show St _ _ _ _ _
          simpa using S3.out
    · -- i = j
      subst heq
      have hne : ((i : Int) != (i : Int)) = false := by simp
      have C : Calls Try.prog 100 #[.slice (some ⟨blk, off, none⟩) N cap, .int .i64 ((m : Int) - (i : Int)), .int .i64 (m : Int), .int .i64 (i : Int), fv] wr fun e w' => e = .returned (.tuple #[]) ∧ St w0 blk off (P ++ v ++ [] ++ u ++ Q) w' := by
        obtain ⟨h1, h2, h3, h4⟩ := HI.out
        have h := swap_range w0 wr blk off cap l0 P u [] v Q (m - i) m i N fv RR.out (by rw [List.append_nil]; exact S1.out) (by rw [List.append_nil]; exact HL.out) H0.out h2 h3 (by omega) (by rw [List.length_nil]; omega) hsz
        rw [ea] at h
        exact h
      have CC := Lib.hid C
      clear C ea S1
      go_wp2_with fail
      refine CC.out.mono ?_
      rintro e w1 ⟨rfl, S2⟩
      have S3 := Lib.hid S2
      clear S2
      go_wp2
      go_end0
      refine ⟨rfl, ?_⟩
      have h := S3.out
      rw [List.append_nil, HI.out.2.2.2] at h
      exact h
    · -- i > j
      have hne : ((i : Int) != (j : Int)) = true := by simp; omega
      have C : Calls Try.prog 100 #[.slice (some ⟨blk, off, none⟩) N cap, .int .i64 ((m : Int) - (i : Int)), .int .i64 (m : Int), .int .i64 (j : Int), fv] wr fun e w' => e = .returned (.tuple #[]) ∧ St w0 blk off (P ++ v ++ u.drop j ++ u.take j ++ Q) w' := by
        obtain ⟨h1, h2, h3, h4⟩ := HI.out
        have e : u.take j ++ u.drop j = u := List.take_append_drop _ _
        have h := swap_range w0 wr blk off cap l0 P (u.take j) (u.drop j) v Q (m - i) m j N fv RR.out (by rw [show P ++ u.take j ++ u.drop j ++ v ++ Q = P ++ u ++ v ++ Q by rw [List.append_assoc P, e]]; exact S1.out)
          (by rw [show P ++ u.take j ++ u.drop j ++ v ++ Q = P ++ u ++ v ++ Q by rw [List.append_assoc P, e]]; exact HL.out) H0.out (by rw [List.length_take]; omega) h3 (by omega) (by rw [List.length_drop]; omega) hsz
        rw [ea] at h
        exact h
      have CC := Lib.hid C
      have wd : IntKind.i64.wrap ((i : Int) - (j : Int)) = (i : Int) - (j : Int) := by rw [IntKind.wrap_i64]; omega
      clear C ea S1
      go_wp2_with fail
      refine CC.out.mono ?_
      rintro e w1 ⟨rfl, S2⟩
      have S3 := Lib.hid S2
      clear S2
      go_wp2_with fail
      go_roundg ((i - j) + j)
      case measure => omega
      case rel =>
        refine ⟨i - j, j, P ++ v, u.drop j, u.take j, Q, by go_num, rfl, by omega, hj, by omega, hjM, Nat.le_refl _, ?_, ?_⟩
        · obtain ⟨h1, h2, h3, h4⟩ := HI.out
          refine ⟨by rw [List.length_append]; omega, by rw [List.length_drop]; omega, by rw [List.length_take]; omega, ?_⟩
          rw [← h4]
          simp
        · exact S3.out
end Go.Proofs.Ytajkhbdniadkkaa.Qs
