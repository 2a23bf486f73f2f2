/- The law's model of a sample that comes: scraped, where it is taken, or stale. -/
import Derived.Test.YtlklbhjcohgmhaaScY
namespace Go.Proofs.Ytlklbhjcohgmhaa
open Go.RowKit Go.Lib Go.Shelf Go.Sort
open Go.Joins (cell_of_block unfrozen_of_block block_setCell)
set_option linter.unusedVariables false
set_option linter.unusedSimpArgs false
set_option maxRecDepth 20000

/-- Where a series stands in the model. -/
def Where (M : List Me) (s : Sr) (l0 : List (Int × Int)) (Al Bl : List (Sr × List (Int × Int))) : Prop :=
  (∃ A y B, M = A ++ y :: B ∧ y.s = s ∧ y.l = l0 ∧ A.map slM = Al ∧ B.map slM = Bl ∧ ∀ z ∈ A, z.s ≠ s) ∨ ((∀ z ∈ M, z.s ≠ s) ∧ l0 = [] ∧ M.map slM = Al ∧ Bl = [])
/-- The model turned: of what was there its own blocks alone were touched; its blocks are these, or new. -/
def ModTo (N : Nat) (w w' : World) (bx : Nat) (q : Option Addr) (M : List Me) (L : List (Sr × List (Int × Int))) : Prop :=
  ∃ q' c' M', Mod N w' bx q' c' M' ∧ M'.map slM = L ∧ (∃ S, Tch S w w' ∧ ∀ k ∈ S, k ∈ mfoot bx q M) ∧ ∀ k ∈ mfoot bx q' M', k ∈ mfoot bx q M ∨ w.heap.size ≤ k
/-- What comes of a sample. -/
def Scd (N : Nat) (w : World) (bx : Nat) (q : Option Addr) (M : List Me) (n : Nat) (x : Ac) (l0 : List (Int × Int)) (Al Bl : List (Sr × List (Int × Int))) (r : Ending) (w' : World) : Prop :=
  (r = .returned (.tuple #[.int .i64 0, .int .i64 13]) ∧ (∃ y, l0.getLast? = some y ∧ x.at_ ≤ y.1) ∧ Below w.heap.size w w') ∨
  (r = .returned (.tuple #[.int .i64 (rdV x.bits : Int), .int .i64 0]) ∧ (∀ y, l0.getLast? = some y → y.1 < x.at_) ∧ ModTo N w w' bx q M (Al ++ (x.s, keepQ n l0 ++ [(x.at_, (rdV x.bits : Int))]) :: Bl))

set_option maxHeartbeats 16000000 in
theorem rscr_main (N : Nat) (w : World) (bx : Nat) (q : Option Addr) (c : Nat) (M : List Me) (h : Mod N w bx q c M) (hN : N ≤ w.heap.size) (n : Nat) (hn : 1 ≤ n ∧ n ≤ 32) (x : Ac) (h0 : 0 ≤ x.at_ ∧ x.at_ ≤ 4611686018427387904) (hk : OkS x.s) (hnm : (nameB x.s.1 && nameB x.s.2) = true) (hx : x.bits < 18446744073709551616) (hr : rdE x.bits = 0)
    (hM : M.length ≤ 1000) (l0 : List (Int × Int)) (hl0 : l0.length ≤ n) (Al Bl : List (Sr × List (Int × Int))) (hw : Where M x.s l0 Al Bl) :
    Calls Try.prog 9 #[.pointer (some ⟨bx, 0, none⟩), .int .i64 (n : Int), .agg (acC x)] w fun r w' => Scd N w bx q M n x l0 Al Bl r w' := by
  have mixed : Try.prog.follows .mixedOrders = true := by kernel_rfl
  obtain ⟨w1, P, X⟩ := boxA w x
  have c1 : w1.cell? ⟨P, 1, none⟩ = some (.int .i64 x.at_) := cell_of_block X.blk 1
  have c2 : w1.cell? ⟨P, 2, none⟩ = some (.string x.s.1) := cell_of_block X.blk 2
  have c3 : w1.cell? ⟨P, 3, none⟩ = some (.string x.s.2) := cell_of_block X.blk 3
  have c4 : w1.cell? ⟨P, 4, none⟩ = some (.int .u64 (x.bits : Int)) := cell_of_block X.blk 4
  have HW := Lib.hid (And.intro X.eq X.at_)
  rw [Bool.and_eq_true] at hnm
  have C1 := Lib.hid (rname_any w1 x.s.1 (len_ok hk.1))
  have C2 := Lib.hid (rname_any w1 x.s.2 (len_ok hk.2))
  rw [hnm.1] at C1
  rw [hnm.2] at C2
  have C3 := Lib.hid (read_any x.bits w1 hx)
  rw [hr] at C3
  have h1 : decide (x.at_ < 0) = false := decide_eq_false (by omega)
  have h2 : decide (4611686018427387904 < x.at_) = false := decide_eq_false (by omega)
  obtain ⟨V, hV⟩ : ∃ V : Int, V = (rdV x.bits : Int) := ⟨_, rfl⟩
  rw [← hV] at C3
  obtain ⟨m, hm⟩ : ∃ m, m = M.length := ⟨_, rfl⟩
  -- where it is
  obtain ⟨rv, CF, hcase⟩ : ∃ rv : Int, Hid (∀ ws : World, Below w1.heap.size w1 ws → Calls Try.prog 13 #[.slice q m c, .agg #[.string x.s.1, .string x.s.2]] ws fun r w' => r = .returned (.int .i64 rv) ∧ Below ws.heap.size ws w') ∧
      ((∃ A y B, rv = (A.length : Int) ∧ M = A ++ y :: B ∧ y.s = x.s ∧ y.l = l0 ∧ A.map slM = Al ∧ B.map slM = Bl) ∨ (rv = -1 ∧ l0 = [] ∧ M.map slM = Al ∧ Bl = [])) := by
    have h1 := h.gr X.b
    rw [hm]
    rcases hw with ⟨A, y, B, hMe, hy, hyl, hA, hBl, hno⟩ | ⟨hno, hl, hA, hBl⟩
    · have hK : M[A.length]? = some y := by rw [hMe]; simp
      have hlt : A.length < M.length := (List.getElem?_eq_some_iff.1 hK).1
      refine ⟨(A.length : Int), fun ws b => ?_, .inl ⟨A, y, B, rfl, hMe, hy, hyl, hA, hBl⟩⟩
      have C := find_k N ws q c M (h1.gr b).row x.s A.length (by omega) (by omega) (fun j z hz hj => ?_) (fun z hz => by rw [hK] at hz; cases hz; exact hy)
      · rw [if_pos hlt] at C
        exact C
      · rw [hMe, List.getElem?_append_left hj] at hz
        exact hno z (List.mem_of_getElem? hz)
    · refine ⟨-1, fun ws b => ?_, .inr ⟨rfl, hl, hA, hBl⟩⟩
      have C := find_k N ws q c M (h1.gr b).row x.s M.length (Nat.le_refl _) (by omega) (fun j z hz _ => hno z (List.mem_of_getElem? hz)) (fun z hz => by simp at hz)
      rw [if_neg (by omega)] at C
      exact C
  have cb : w1.cell? ⟨bx, 0, none⟩ = some (.slice q m c) := by rw [hm]; exact cell_of_block (h.gr X.b).box 0
  have HH := Lib.hid (And.intro h (And.intro hN (And.intro hn (And.intro h0 (And.intro hM (And.intro hl0 (And.intro hV (And.intro hm X))))))))
  have HC := Lib.hid hcase
  obtain ⟨kd, at_, s, bits⟩ := x
  obtain ⟨s1, s2⟩ := s
  unfold acC
  simp only at c1 c2 c3 c4 HW h1 h2 C1 C2 C3 CF HC ⊢
  have S1 : Hid (∀ ws : World, Below w1.heap.size w1 ws → ws.cell? ⟨bx, 0, none⟩ = some (.slice q m c) ∧ ws.cell? ⟨P, 2, none⟩ = some (.string s1) ∧ ws.cell? ⟨P, 3, none⟩ = some (.string s2) ∧ ws.cell? ⟨P, 1, none⟩ = some (.int .i64 at_)) := fun ws b =>
    ⟨(b.cell (World.block_lt_of_cell? _ _ cb)).trans cb, (b.cell (World.block_lt_of_cell? _ _ c2)).trans c2, (b.cell (World.block_lt_of_cell? _ _ c3)).trans c3, (b.cell (World.block_lt_of_cell? _ _ c1)).trans c1⟩
  clear h hN hn h0 hk hnm hx hr hM hl0 hw hV hm X hcase cb
  go_enter Try.func9, Try.ntmps9
  go_upto_region 1 with fail
  rw [HW.out.1, HW.out.2]
  go_wp2_with fail
  refine C1.out.mono ?_
  rintro r w' ⟨rfl, h⟩
  subst h
  go_wp2_with fail
  refine C2.out.mono ?_
  rintro r w' ⟨rfl, h⟩
  subst h
  go_wp2_with fail
  refine C3.out.mono ?_
  rintro r w2 ⟨rfl, k, hw2⟩
  have B2 : Hid (Below w1.heap.size w1 w2) := by show Below _ _ _; rw [hw2]; exact Below.drewN' (Below.refl _ _) k
  clear hw2 c1 c2 c3 c4 C1 C2 C3
  go_upto_region 8 with fail
  have S2 : Hid (w2.drew.cell? ⟨bx, 0, none⟩ = some (.slice q m c) ∧ w2.drew.cell? ⟨P, 2, none⟩ = some (.string s1) ∧ w2.drew.cell? ⟨P, 3, none⟩ = some (.string s2)) := ⟨(S1.out w2 B2.out).1, (S1.out w2 B2.out).2.1, (S1.out w2 B2.out).2.2.1⟩
  have S0 : Hid (∀ ws : World, (ws.cell? ⟨bx, 0, none⟩ = some (.slice q m c) ∧ ws.cell? ⟨P, 2, none⟩ = some (.string s1) ∧ ws.cell? ⟨P, 3, none⟩ = some (.string s2)) → ws.cell? ⟨bx, 0, none⟩ = some (.slice q m c) ∧ ws.cell? ⟨P, 2, none⟩ = some (.string s1) ∧ ws.cell? ⟨P, 3, none⟩ = some (.string s2)) := fun ws h => h
  have CF2 := Lib.hid (CF.out w2.drew (Below.drewN' B2.out 1))
  refine wp_region_held_drew (S := fun ws => ws.cell? ⟨bx, 0, none⟩ = some (.slice q m c) ∧ ws.cell? ⟨P, 2, none⟩ = some (.string s1) ∧ ws.cell? ⟨P, 3, none⟩ = some (.string s2)) mixed S2.out (fun hS => ?_)
  refine wpAnyH_takeD (i := 0) (d := 41) (v := .pointer (some ⟨bx, 0, none⟩)) _ rfl rfl (by kernel_rfl) (by kernel_rfl) (by kernel_rfl) (fun _ _ _ h => h) (Or.inl ⟨by kernel_rfl, fun ws hSw => by first | (go_simp; done) | (go_simp; with_reducible rfl) | (go_simp; rfl)⟩) hS ?_
  simp only [Act.put, List.setIfInBounds_toArray, List.set_cons_zero, List.set_cons_succ]
  refine wpAnyH_takeD (i := 1) (d := 42) (v := .pointer (some ⟨bx, 0, none⟩)) _ rfl rfl (by kernel_rfl) (by kernel_rfl) (by kernel_rfl) (fun _ _ _ h => h) (Or.inl ⟨by kernel_rfl, fun ws hSw => by first | (go_simp; done) | (go_simp; with_reducible rfl) | (go_simp; rfl)⟩) hS ?_
  simp only [Act.put, List.setIfInBounds_toArray, List.set_cons_zero, List.set_cons_succ]
  refine wpAnyH_takeD (i := 2) (d := 43) (v := .slice q m c) _ rfl rfl (by kernel_rfl) (by kernel_rfl) (by kernel_rfl) (fun _ _ _ h => h) (Or.inl ⟨by kernel_rfl, fun ws hSw => by have q := S0.out ws hSw; first | (go_simp; done) | (go_simp; with_reducible rfl) | (go_simp; rfl)⟩) hS ?_
  simp only [Act.put, List.setIfInBounds_toArray, List.set_cons_zero, List.set_cons_succ]
  refine wpAnyH_takeD (i := 3) (d := 44) (v := .pointer (some ⟨P, 2, none⟩)) _ rfl rfl (by kernel_rfl) (by kernel_rfl) (by kernel_rfl) (fun _ _ _ h => h) (Or.inl ⟨by kernel_rfl, fun ws hSw => by first | (go_simp; done) | (go_simp; with_reducible rfl) | (go_simp; rfl)⟩) hS ?_
  simp only [Act.put, List.setIfInBounds_toArray, List.set_cons_zero, List.set_cons_succ]
  refine wpAnyH_takeD (i := 4) (d := 45) (v := .agg #[.string s1, .string s2]) _ rfl rfl (by kernel_rfl) (by kernel_rfl) (by kernel_rfl) (fun _ _ _ h => h) (Or.inl ⟨by kernel_rfl, fun ws hSw => by have q := S0.out ws hSw; first | (go_simp; done) | (go_simp; with_reducible rfl) | (go_simp; rfl)⟩) hS ?_
  simp only [Act.put, List.setIfInBounds_toArray, List.set_cons_zero, List.set_cons_succ]
  refine wpAnyH_ready (rs := [5]) (by kernel_rfl) (by simp) ?_
  refine AllReadyH.cons rfl (fun K hK => ?_) AllReadyH.nil
  go_simp
  refine CF2.out.mono ?_
  rintro r w3 ⟨rfl, b3⟩
  have B3 : Hid (Below w1.heap.size w1 w3) := (Below.drewN' B2.out 1).trans (b3.mono B2.out.size)
  have S3 := S1.out w3 B3.out
  refine hK _ _ ⟨S3.1, S3.2.1, S3.2.2.1⟩ (fun hS => ?_)
  try simp only [Act.put, List.setIfInBounds_toArray, List.set_cons_zero, List.set_cons_succ]
  refine wpAnyH_takeD (i := 6) (d := 10) (v := .int .i64 rv) _ rfl rfl (by kernel_rfl) (by kernel_rfl) (by kernel_rfl) (fun _ _ _ h => h) (Or.inl ⟨by kernel_rfl, fun ws hSw => by first | (go_simp; done) | (go_simp; with_reducible rfl) | (go_simp; rfl)⟩) hS ?_
  simp only [Act.put, List.setIfInBounds_toArray, List.set_cons_zero, List.set_cons_succ]
  refine wpAnyH_done (by kernel_rfl) ?_ _
  clear b3 CF2 CF S2 S3
  go_upto_if 48 with fail
  go_cut [10] from 41 to 64 (fun v wc => ∃ (i : Nat) (q4 : Option Addr) (c4 : Nat) (A : List Me) (y : Me) (B : List Me), v = .int .i64 (i : Int) ∧ Hid (i = A.length ∧ Mod N wc bx q4 c4 (A ++ y :: B) ∧ y.s = (s1, s2) ∧ y.l = l0 ∧ A.map slM = Al ∧ B.map slM = Bl ∧ wc.heap[P]? = some (.cells #[.int .i64 kd, .int .i64 at_, .string s1, .string s2, .int .u64 (bits : Int)] AcT (0, 0)) ∧ (A ++ y :: B).length ≤ 2000 ∧ w.heap.size ≤ wc.heap.size ∧ (l0 ≠ [] → Below w.heap.size w wc) ∧ (∃ S, Tch S w wc ∧ ∀ k ∈ S, k ∈ mfoot bx q M) ∧ ∀ k ∈ mfoot bx q4 (A ++ y :: B), k ∈ mfoot bx q M ∨ w.heap.size ≤ k))
  case first =>
    rcases HC.out with ⟨A, y, B, rfl, hMe, hy, hyl, hA, hBl⟩ | ⟨rfl, hl, hA, hBl⟩
    · obtain ⟨i, hi⟩ : ∃ i, i = A.length := ⟨_, rfl⟩
      have NX : Hid (i = A.length ∧ Mod N w3 bx q c (A ++ y :: B) ∧ y.s = (s1, s2) ∧ y.l = l0 ∧ A.map slM = Al ∧ B.map slM = Bl ∧ w3.heap[P]? = some (.cells #[.int .i64 kd, .int .i64 at_, .string s1, .string s2, .int .u64 (bits : Int)] AcT (0, 0)) ∧ (A ++ y :: B).length ≤ 2000 ∧ w.heap.size ≤ w3.heap.size ∧ (l0 ≠ [] → Below w.heap.size w w3) ∧ (∃ S, Tch S w w3 ∧ ∀ k ∈ S, k ∈ mfoot bx q M) ∧ ∀ k ∈ mfoot bx q (A ++ y :: B), k ∈ mfoot bx q M ∨ w.heap.size ≤ k) := by
        obtain ⟨h, hN, hn, h0, hM, hl0, hV, hm, X⟩ := HH.out
        have b03 : Below w.heap.size w w3 := X.b.trans (B3.out.mono X.b.size)
        rw [← hMe]
        exact ⟨hi, h.gr b03, hy, hyl, hA, hBl, (B3.out.block P (Array.getElem?_eq_some_iff.1 X.blk).1).trans X.blk, by omega, b03.size, fun _ => b03, ⟨[], Tch.ofBelow b03 [], by simp⟩, fun k hk => .inl hk⟩
      rw [← hi]
      have k0 : (0 : Int) ≤ (i : Int) := Int.natCast_nonneg _
      clear hMe hy hyl hA hBl hi
      go_wp2_with fail
      go_meet
      case rel => exact ⟨i, q, c, A, y, B, rfl, NX⟩
    · obtain ⟨h, hN, hn, h0, hM, hl0, hV, hm, X⟩ := HH.out
      have b03 : Below w.heap.size w w3 := X.b.trans (B3.out.mono X.b.size)
      have h3 := h.gr b03
      -- the new row's cells
      obtain ⟨G, hG⟩ : ∃ G, G = w3.heap.size := ⟨_, rfl⟩
      obtain ⟨w4, hw4⟩ : ∃ x, x = (w3.alloc (.cells #[.string s1, .string s2, .slice none 0 0] TSer)).drew := ⟨_, rfl⟩
      have b34 : Below w3.heap.size w3 w4 := by rw [hw4]; exact Below.drewN' ((Below.refl _ w3).alloc (Nat.le_refl _) _) 1
      have k4 : w4.heap[G]? = some (.cells #[.string s1, .string s2, .slice none 0 0] TSer (0, 0)) := by rw [hw4, hG]; exact heap_alloc_new w3 _
      have b04 : Below w.heap.size w w4 := b03.trans (b34.mono b03.size)
      have h4 := h.gr b04
      have P3 : w3.heap[P]? = some (.cells #[.int .i64 kd, .int .i64 at_, .string s1, .string s2, .int .u64 (bits : Int)] AcT (0, 0)) := (B3.out.block P (Array.getElem?_eq_some_iff.1 X.blk).1).trans X.blk
      have P4 := (b34.block P (Array.getElem?_eq_some_iff.1 P3).1).trans P3
      have PN : P ∉ mfoot bx q M := fun hm' => by
        have := (h.lt P hm').2
        have e := X.at_
        omega
      have SB : Hid (w3.drew.cell? ⟨bx, 0, none⟩ = some (.slice q m c) ∧ w3.drew.cell? ⟨P, 2, none⟩ = some (.string s1) ∧ w3.drew.cell? ⟨P, 3, none⟩ = some (.string s2)) := by
        have := S1.out w3 B3.out
        exact ⟨this.1, this.2.1, this.2.2.1⟩
      have S4 : Hid (w4.cell? ⟨bx, 0, none⟩ = some (.slice q m c) ∧ w4.cell? ⟨P, 2, none⟩ = some (.string s1) ∧ w4.cell? ⟨P, 3, none⟩ = some (.string s2)) := ⟨(b34.cell (World.block_lt_of_cell? _ _ SB.out.1)).trans SB.out.1, (b34.cell (World.block_lt_of_cell? _ _ SB.out.2.1)).trans SB.out.2.1, (b34.cell (World.block_lt_of_cell? _ _ SB.out.2.2)).trans SB.out.2.2⟩
      have HW4 : Hid ((w3.alloc (.cells #[.string s1, .string s2, .slice none 0 0] TSer)).drew = w4 ∧ w3.heap.size = G) := ⟨hw4.symm, hG.symm⟩
      have OWN : Hid (w4.ownsRow N TSer 3 (.slice q m c) m (flM M)) := by show World.ownsRow _ _ _ _ _ _ _; rw [hm]; exact h4.row
      have NEW : Hid (∀ (t : Nat) u, ([.string s1, .string s2, .slice none 0 0] : List Value)[t]? = some u → w4.cell? ((⟨G, 0, none⟩ : Addr).add t) = some u) := by
        have := World.news_of_block (w := w4) (B := G) (cs := #[.string s1, .string s2, .slice none 0 0]) (t := TSer) (fr := (0, 0)) k4
        exact this
      have BS : Hid (N ≤ w4.heap.size) := by have := b04.size; show _ ≤ _; omega
      have hm1000 : m ≤ 1000 := by rw [hm]; exact hM
      have ADD : Hid (∀ g cap w6, w6.ownsRow N TSer 3 (.slice (some ⟨g, 0, none⟩) (m + 1) cap) (m + 1) (flM M ++ [.string s1, .string s2, .slice none 0 0]) → w4.grownBy w6 (Value.slice q m c).ownBlock → ((Value.slice q m c).ownBlock = some g ∨ g = w4.heap.size) →
          (w6.cell? ⟨bx, 0, none⟩ = some (.slice q m c) ∧ w6.cell? ⟨P, 2, none⟩ = some (.string s1) ∧ w6.cell? ⟨P, 3, none⟩ = some (.string s2)) ∧ w6.frozen? ⟨bx, 0, none⟩ = false ∧ (w6.setCell ⟨bx, 0, none⟩ (.slice (some ⟨g, 0, none⟩) (m + 1) cap)).cell? ⟨bx, 0, none⟩ = some (.slice (some ⟨g, 0, none⟩) (m + 1) cap) ∧
          (m = M.length ∧ Mod N (w6.setCell ⟨bx, 0, none⟩ (.slice (some ⟨g, 0, none⟩) (m + 1) cap)) bx (some ⟨g, 0, none⟩) cap (M ++ me0 (s1, s2) :: []) ∧ (me0 (s1, s2)).s = (s1, s2) ∧ (me0 (s1, s2)).l = l0 ∧ M.map slM = Al ∧ ([] : List Me).map slM = Bl ∧ (w6.setCell ⟨bx, 0, none⟩ (.slice (some ⟨g, 0, none⟩) (m + 1) cap)).heap[P]? = some (.cells #[.int .i64 kd, .int .i64 at_, .string s1, .string s2, .int .u64 (bits : Int)] AcT (0, 0)) ∧ (M ++ me0 (s1, s2) :: []).length ≤ 2000 ∧ w.heap.size ≤ (w6.setCell ⟨bx, 0, none⟩ (.slice (some ⟨g, 0, none⟩) (m + 1) cap)).heap.size ∧ (l0 ≠ [] → Below w.heap.size w (w6.setCell ⟨bx, 0, none⟩ (.slice (some ⟨g, 0, none⟩) (m + 1) cap))) ∧
            (∃ S, Tch S w (w6.setCell ⟨bx, 0, none⟩ (.slice (some ⟨g, 0, none⟩) (m + 1) cap)) ∧ ∀ k ∈ S, k ∈ mfoot bx q M) ∧ ∀ k ∈ mfoot bx (some ⟨g, 0, none⟩) (M ++ me0 (s1, s2) :: []), k ∈ mfoot bx q M ∨ w.heap.size ≤ k)) := fun g cap w6 own hgr hat => by
        rw [hm] at own hgr hat ⊢
        obtain ⟨a1, a2, a3, ⟨S, a4, a5⟩, a6⟩ := h.add (s := (s1, s2)) b04 hN own hgr hat
        have t46 : Tch (Value.slice q M.length c).ownBlock.toList w4 w6 := Tch.ofGrown hgr (fun g e => .inl (by rw [e]; simp))
        have hob : ∀ k, k ∈ (Value.slice q M.length c).ownBlock.toList → k ∈ mfoot bx q M := fun k hk => mfoot_mem.2 (.inr (.inl (row_own h.row (by simpa using hk))))
        have P6 := (t46.block P (Array.getElem?_eq_some_iff.1 P4).1 (fun hm' => PN (hob P hm'))).trans P4
        have P7 : (w6.setCell ⟨bx, 0, none⟩ (.slice (some ⟨g, 0, none⟩) (M.length + 1) cap)).heap[P]? = some (.cells #[.int .i64 kd, .int .i64 at_, .string s1, .string s2, .int .u64 (bits : Int)] AcT (0, 0)) := (Below.heap_setCell _ _ _ _ (by show P ≠ bx; exact fun e => PN (mfoot_mem.2 (.inl e)))).trans P6
        refine ⟨⟨a1, (cell_of_block P6 2), (cell_of_block P6 3)⟩, a2, ?_, rfl, a3, rfl, hl.symm, hA, hBl.symm, P7, by simp; omega, a4.size, fun hne => absurd hl hne, ⟨S, a4, a5⟩, a6⟩
        have := cell_of_block a3.box 0
        rw [List.length_append] at this
        exact this
      have WJ : IntKind.i64.wrap ((m : Int) + 1 - 1) = (m : Int) := by rw [show (m : Int) + 1 - 1 = (m : Int) by omega]; exact IntWalk.i64_in _ (by omega)
      have hinfo : (Try.prog.info? TSer).map (fun i => (i.zero, i.size, i.bytes)) = some (some (.agg #[.string { data := #[] }, .string { data := #[] }, .slice none 0 0]), 3, 56) := by kernel_rfl
      clear h hN hn h0 hM hl0 hV hm X b03 h3 hG hw4 b34 k4 b04 h4 P3 P4 PN hl hA hBl B2 B3 HC S1 HW HH
      go_upto_region 10 with fail
      refine wp_region_G (f := 10) (S := fun ws => ws.cell? ⟨bx, 0, none⟩ = some (.slice q m c) ∧ ws.cell? ⟨P, 2, none⟩ = some (.string s1) ∧ ws.cell? ⟨P, 3, none⟩ = some (.string s2)) mixed SB.out (fun hS => ?_)
      refine wpAnyG_takeD (i := 0) (d := 49) (v := .pointer (some ⟨bx, 0, none⟩)) _ rfl rfl (by kernel_rfl) (by kernel_rfl) (by kernel_rfl) (by kernel_rfl) (fun _ _ _ h => h) (Or.inl ⟨by kernel_rfl, fun ws hSw => by first | (go_simp; done) | (go_simp; with_reducible rfl) | (go_simp; rfl)⟩) hS ?_
      simp only [Act.put, List.setIfInBounds_toArray, List.set_cons_zero, List.set_cons_succ]
      refine wpAnyG_takeD (i := 1) (d := 50) (v := .pointer (some ⟨bx, 0, none⟩)) _ rfl rfl (by kernel_rfl) (by kernel_rfl) (by kernel_rfl) (by kernel_rfl) (fun _ _ _ h => h) (Or.inl ⟨by kernel_rfl, fun ws hSw => by first | (go_simp; done) | (go_simp; with_reducible rfl) | (go_simp; rfl)⟩) hS ?_
      simp only [Act.put, List.setIfInBounds_toArray, List.set_cons_zero, List.set_cons_succ]
      refine wpAnyG_takeD (i := 2) (d := 51) (v := .pointer (some ⟨bx, 0, none⟩)) _ rfl rfl (by kernel_rfl) (by kernel_rfl) (by kernel_rfl) (by kernel_rfl) (fun _ _ _ h => h) (Or.inl ⟨by kernel_rfl, fun ws hSw => by first | (go_simp; done) | (go_simp; with_reducible rfl) | (go_simp; rfl)⟩) hS ?_
      simp only [Act.put, List.setIfInBounds_toArray, List.set_cons_zero, List.set_cons_succ]
      refine wpAnyG_takeD (i := 3) (d := 52) (v := .slice q m c) _ rfl rfl (by kernel_rfl) (by kernel_rfl) (by kernel_rfl) (by kernel_rfl) (fun _ _ _ h => h) (Or.inl ⟨by kernel_rfl, fun ws hSw => by have q := S0.out ws hSw; first | (go_simp; done) | (go_simp; with_reducible rfl) | (go_simp; rfl)⟩) hS ?_
      simp only [Act.put, List.setIfInBounds_toArray, List.set_cons_zero, List.set_cons_succ]
      refine wpAnyG_takeD (i := 4) (d := 53) (v := .pointer (some ⟨P, 2, none⟩)) _ rfl rfl (by kernel_rfl) (by kernel_rfl) (by kernel_rfl) (by kernel_rfl) (fun _ _ _ h => h) (Or.inl ⟨by kernel_rfl, fun ws hSw => by first | (go_simp; done) | (go_simp; with_reducible rfl) | (go_simp; rfl)⟩) hS ?_
      simp only [Act.put, List.setIfInBounds_toArray, List.set_cons_zero, List.set_cons_succ]
      refine wpAnyG_takeD (i := 5) (d := 54) (v := .agg #[.string s1, .string s2]) _ rfl rfl (by kernel_rfl) (by kernel_rfl) (by kernel_rfl) (by kernel_rfl) (fun _ _ _ h => h) (Or.inl ⟨by kernel_rfl, fun ws hSw => by have q := S0.out ws hSw; first | (go_simp; done) | (go_simp; with_reducible rfl) | (go_simp; rfl)⟩) hS ?_
      simp only [Act.put, List.setIfInBounds_toArray, List.set_cons_zero, List.set_cons_succ]
      refine wpAnyG_takeD (i := 6) (d := 55) (v := .agg #[.string s1, .string s2, .slice none 0 0]) _ rfl rfl (by kernel_rfl) (by kernel_rfl) (by kernel_rfl) (by kernel_rfl) (fun _ _ _ h => h) (Or.inl ⟨by kernel_rfl, fun ws hSw => by first | (go_simp; done) | (go_simp; with_reducible rfl) | (go_simp; rfl)⟩) hS ?_
      simp only [Act.put, List.setIfInBounds_toArray, List.set_cons_zero, List.set_cons_succ]
      refine wpAnyG_ready (rs := [7]) (by kernel_rfl) (by simp) ?_
      refine AllReadyG.cons rfl (fun K hK => ?_) AllReadyG.nil
      go_simp
      rw [HW4.out.1, HW4.out.2]
      refine hK _ _ S4.out (fun hS => ?_)
      try simp only [Act.put, List.setIfInBounds_toArray, List.set_cons_zero, List.set_cons_succ]
      refine wpAnyG_ready (rs := [8]) (by kernel_rfl) (by simp) ?_
      refine AllReadyG.cons rfl (fun K hK => ?_) AllReadyG.nil
      refine step_appendS (by rfl) _ _ SlSer rfl N TSer (.agg #[.string { data := #[] }, .string { data := #[] }, .slice none 0 0]) 3 56 Try.underlying31 hinfo rfl (by omega) (.slice q m c) m (flM M) (by rfl) OWN.out ⟨G, 0, none⟩ 1 1 [.string s1, .string s2, .slice none 0 0] (by rfl) rfl NEW.out (by intro u hu; simp at hu; rcases hu with rfl | rfl | rfl <;> rfl) (by unfold maxLen; omega) (by omega) BS.out ?_
      intro v6 w6 own6 hgr6 hat6
      obtain ⟨g6, cap6, rfl, hat7⟩ : ∃ g cap, v6 = .slice (some ⟨g, 0, none⟩) (m + 1) cap ∧ ((Value.slice q m c).ownBlock = some g ∨ g = w4.heap.size) := by
        rcases own6.2 with ⟨_, h0⟩ | ⟨g, cap, cur, rfl, _⟩
        · omega
        · refine ⟨g, cap, rfl, ?_⟩
          rcases hat6 with e | e
          · exact .inl e.symm
          · simp [Value.ownBlock] at e
            exact .inr e
      obtain ⟨x1, x2, x3, x4⟩ := ADD.out g6 cap6 w6 own6 hgr6 hat7
      have X4 := Lib.hid x4
      refine hK _ _ x1 (fun hS => ?_)
      have y1 := x1.1
      clear own6 hgr6 hat6 hat7 x4 ADD OWN NEW BS x1
      try simp only [Act.put, List.setIfInBounds_toArray, List.set_cons_zero, List.set_cons_succ]
      refine wpAnyG_takeD (i := 9) (d := 58) (v := .pointer (some ⟨bx, 0, none⟩)) _ rfl rfl (by kernel_rfl) (by kernel_rfl) (by kernel_rfl) (by kernel_rfl) (fun _ _ _ h => h) (Or.inl ⟨by kernel_rfl, fun ws hSw => by first | (go_simp; done) | (go_simp; with_reducible rfl) | (go_simp; rfl)⟩) hS ?_
      simp only [Act.put, List.setIfInBounds_toArray, List.set_cons_zero, List.set_cons_succ]
      refine wpAnyG_ready (rs := [10]) (by kernel_rfl) (by simp) ?_
      refine AllReadyG.last rfl rfl (fun K hK => ?_)
      go_simp
      refine hK _ _ ?_
      try simp only [Act.put, List.setIfInBounds_toArray, List.set_cons_zero, List.set_cons_succ]
      refine wpAnyG_done (by kernel_rfl) ?_
      go_wp2_with fail
      go_meet
      case rel => exact ⟨m, _, _, M, me0 (s1, s2), [], rfl, X4⟩
  case rest =>
    obtain ⟨i, q4, c4, A, y, B, rfl, HZ⟩ := hcut
    obtain ⟨mm, hmm⟩ : ∃ mm, mm = (A ++ y :: B).length := ⟨_, rfl⟩
    obtain ⟨yq, hyq⟩ : ∃ z, z = y.q := ⟨_, rfl⟩
    obtain ⟨yc, hyc⟩ : ∃ z, z = y.c := ⟨_, rfl⟩
    obtain ⟨len, hlen⟩ : ∃ z, z = l0.length := ⟨_, rfl⟩
    have FACTS : Hid (wc.cell? ⟨bx, 0, none⟩ = some (.slice q4 mm c4) ∧ (∃ g : Nat, q4 = some ⟨g, 0, none⟩ ∧ wc.cell? ⟨g, i * 3 + 2, none⟩ = some (.slice yq len yc)) ∧ wc.cell? ⟨P, 1, none⟩ = some (.int .i64 at_) ∧ i < mm ∧ mm ≤ 2000 ∧ len ≤ n ∧ (1 ≤ n ∧ n ≤ 32) ∧ MoQ N wc yq yc l0 ∧ N ≤ wc.heap.size) := by
      obtain ⟨h, hN, hn, h0, hM, hl0, hV, hm, X⟩ := HH.out
      obtain ⟨hi, mod4, hys, hyl, hA, hB, hPc, hlen4, hsz, hbe, hS, hf⟩ := HZ.out
      have hi' : (A ++ y :: B)[i]? = some y := by rw [hi]; simp
      obtain ⟨g, hg, _, _, _, _, r2, _⟩ := row_cells mod4.row hi'
      have hmo := mod4.mo y (by simp)
      rw [hyl] at r2 hmo
      exact ⟨by rw [hmm]; exact cell_of_block mod4.box 0, ⟨g, hg, by rw [hyq, hyc, hlen]; exact r2⟩, cell_of_block hPc 1, by rw [hmm]; exact (List.getElem?_eq_some_iff.1 hi').1, by rw [hmm]; exact hlen4, by rw [hlen]; exact hl0, hn, by rw [hyq, hyc]; exact hmo, by omega⟩
    obtain ⟨f0, ⟨g, rfl, fr⟩, fp, him, hmm2, hln, hn32, hmoy, hNc⟩ := FACTS.out
    have i0 : (0 : Int) ≤ (i : Int) := Int.natCast_nonneg _
    have i1 : (i : Int) < (mm : Int) := by omega
    have HY := Lib.hid (And.intro hmm (And.intro hyq (And.intro hyc hlen)))
    have HM := Lib.hid (And.intro hmoy hNc)
    clear hmm hyq hyc hmoy hNc FACTS hlen
    rcases List.eq_nil_or_concat l0 with hl0e | ⟨l1, z, hl0e⟩
    · have hlen0 : len = 0 := by rw [HY.out.2.2.2, hl0e]; rfl
      have p1 : decide ((0 : Int) < (len : Int)) = false := decide_eq_false (by omega)
      have p2 : ¬ 0 < len := by omega
      have HLT : Hid (∀ z, l0.getLast? = some z → z.1 < at_) := fun z hz => by rw [hl0e] at hz; cases hz
      clear hl0e hlen0
      go_wp2_with fail
      go_quiet (fail)
      clear p1 p2
      obtain ⟨wq, hwq⟩ : ∃ x, x = wc.drewN nq := ⟨_, rfl⟩
      rw [← hwq]
      have EQW : Hid (wq.heap.size = wc.heap.size) := by show _ = _; rw [hwq]; rfl
      obtain ⟨T, hT⟩ : ∃ T, T = wq.heap.size := ⟨_, rfl⟩
      obtain ⟨w5, hw5⟩ : ∃ x, x = wq.alloc (.cells #[.int .i64 at_, .int .i64 V] TSQ) := ⟨_, rfl⟩
      have fpq : wq.cell? ⟨P, 1, none⟩ = some (.int .i64 at_) := by rw [hwq]; exact fp
      have b5 : Below wc.heap.size wc w5 := by rw [hw5, hwq]; exact (Below.drewN' (Below.refl _ wc) nq).alloc (Nat.le_refl _) _
      have MO5 := Lib.hid (HM.out.1.gr b5)
      have NEW : Hid (∀ (t : Nat) u, ([.int .i64 at_, .int .i64 V] : List Value)[t]? = some u → w5.cell? ((⟨T, 0, none⟩ : Addr).add t) = some u) := by
        have := World.news_of_block (w := w5) (B := T) (cs := #[.int .i64 at_, .int .i64 V]) (t := TSQ) (fr := (0, 0)) (by rw [hw5, hT]; exact heap_alloc_new wq _)
        exact this
      have HB5 : Hid (N ≤ w5.heap.size) := by show _ ≤ _; have := b5.size; have := HM.out.2; omega
      have HW5 : Hid (wq.alloc (.cells #[.int .i64 at_, .int .i64 V] TSQ) = w5 ∧ wq.heap.size = T) := ⟨hw5.symm, hT.symm⟩
      have HLEN : Hid (l0.length = len) := HY.out.2.2.2.symm
      have FINX : Hid (∀ l8 q8 c8 w7, MoQ N w7 q8 c8 l8 → (∃ S, Tch S w5 w7 ∧ ∀ g ∈ S, ownBQ yq g) → (∀ k, ownBQ q8 k → ownBQ yq k ∨ wc.heap.size ≤ k) → l8 = keepQ n l0 ++ [(at_, V)] →
          (w7.cell? ⟨bx, 0, none⟩ = some (.slice (some ⟨g, 0, none⟩) mm c4) ∧ w7.cell? ⟨g, i * 3 + 2, none⟩ = some (.slice yq len yc) ∧ w7.frozen? ⟨g, i * 3 + 2, none⟩ = false) ∧
          Scd N w bx q M n ⟨kd, at_, (s1, s2), bits⟩ l0 Al Bl (.returned (.tuple #[.int .i64 V, .int .i64 0])) (w7.setCell ⟨g, i * 3 + 2, none⟩ (.slice q8 l8.length c8))) := fun l8 q8 c8 w7 mo8 t7 hq8 hl8 => by
        obtain ⟨h, hN, hn, h0, hM, hl0, hV, hm, X⟩ := HH.out
        obtain ⟨hi, mod4, hys, hyl, hA, hB, hPc, hlen4, hsz, hbe, ⟨S, tS, hS⟩, hf⟩ := HZ.out
        obtain ⟨hmm, hyq, hyc, hlen⟩ := HY.out
        rw [hyq] at t7 hq8
        have still := mod4.still b5 t7
        obtain ⟨mod8, ⟨S8, t8, hS8⟩, hf8⟩ := mod4.push b5 mo8 t7 hq8 rfl
        rw [← hi] at mod8 t8
        have gm : g ∈ mrest bx (some ⟨g, 0, none⟩) A B := mrest_mem.2 (.inr (.inl ⟨_, rfl, rfl⟩))
        have bm : bx ∈ mrest bx (some ⟨g, 0, none⟩) A B := mrest_mem.2 (.inl rfl)
        obtain ⟨g', hg', _, _, _, _, r2, rf⟩ := row_cells mod4.row (i := i) (x := y) (by rw [hi]; simp)
        cases hg'
        refine ⟨⟨(World.cell?_of_block (a := ⟨bx, 0, none⟩) (still bx bm)).trans f0, (World.cell?_of_block (a := ⟨g, i * 3 + 2, none⟩) (still g gm)).trans fr, ?_⟩, .inr ⟨by rw [hV], HLT.out, _, _, _, mod8, ?_, ⟨mfoot bx q M, ?_, fun k hk => hk⟩, fun k hk => ?_⟩⟩
        · have e : w7.frozen? ⟨g, i * 3 + 2, none⟩ = wc.frozen? ⟨g, i * 3 + 2, none⟩ := by unfold World.frozen?; simp only [still g gm]
          rw [e]; exact rf
        · rw [List.map_append, List.map_cons, hA, hB, hl8, hV]
          simp only [slM, hys]
        · refine (tS.less (fun k hk => .inl (hS k hk))).trans t8 (fun k hk => ?_)
          exact hf k (hS8 k hk)
        · rcases hf8 k hk with h1 | h1
          · exact hf k h1
          · exact .inr (by omega)
      clear hwq hT hw5 b5 fp fr f0
      go_wp2_with (at_builtin; rw [HW5.out.1, HW5.out.2]; refine wpList_pushQ rfl _ _ (by rfl) (x := (at_, V)) HLEN.out (by rfl) MO5.out HB5.out (by have := HLEN.out; omega) ⟨T, 0, none⟩ 1 (by rfl) NEW.out ?_; intro v7 w7 hp7)
      obtain ⟨q7, c7, rfl, mo7, t7, hq7⟩ := hp7
      have hq7' : ∀ k, ownBQ q7 k → ownBQ yq k ∨ wc.heap.size ≤ k := fun k hk => by
        rcases hq7 k hk with h | h
        · exact .inl h
        · have e : wc.heap.size ≤ w5.heap.size := by rw [← HW5.out.1]; have := HM.out.2; simp only [World.size_alloc]; have e2 : wq.heap.size = wc.heap.size := EQW.out; omega
          exact .inr (by omega)
      have hml : l0.length = len := HLEN.out
      by_cases hfull : len = n
      · have KQ : Hid (∃ g' o' : Nat, q7 = some ⟨g', o', none⟩ ∧ 2 ≤ c7 ∧ MoQ N w7 (some ⟨g', o' + 2, none⟩) (c7 - 1) (keepQ n l0 ++ [(at_, V)]) ∧ (keepQ n l0 ++ [(at_, V)]).length = n) := by
          obtain ⟨y0, r0, hr⟩ : ∃ y0 r, l0 = y0 :: r := by
            cases l0 with
            | nil => simp at hml; omega
            | cons a b => exact ⟨a, b, rfl⟩
          have e : keepQ n l0 ++ [(at_, V)] = (l0 ++ [(at_, V)]).drop 1 := by
            unfold keepQ
            rw [if_pos (by omega), hr]
            rfl
          have hle := mo7.le
          rw [List.length_append] at hle
          simp only [List.length_singleton] at hle
          cases hq : q7 with
          | none => have := mo7.nul hq; omega
          | some a =>
            obtain ⟨g', o', cur, rfl, _⟩ := mo7.row a hq
            subst hq
            have e2 : (keepQ n l0 ++ [(at_, V)]).length = n := by rw [e, List.length_drop, List.length_append]; simp only [List.length_singleton]; omega
            refine ⟨g', o', rfl, by omega, ?_, e2⟩
            rw [e]
            rw [hr] at mo7 ⊢
            rw [List.cons_append] at mo7 ⊢
            have s8 := mo7.tail
            rw [if_neg (by omega)] at s8
            exact s8
        obtain ⟨g7, o7, rfl, hc7, mo8, hl8⟩ := KQ.out
        obtain ⟨⟨e1, e2, e3⟩, SC⟩ := FINX.out _ (some ⟨g7, o7 + 2, none⟩) (c7 - 1) w7 mo8 t7 (fun k ⟨a, h1, h2⟩ => by cases h1; exact hq7' _ ⟨_, rfl, h2⟩) rfl
        have FIN := Lib.hid SC
        rw [hl8, ← hfull] at FIN
        have hnf : (len : Int) < (len : Int) + 1 := by omega
        have hc1 : ¬ c7 = 1 := by omega
        subst hfull
        rw [hml]
        clear mo7 t7 hq7 hq7' KQ mo8 hl8 SC FINX MO5 NEW HB5 HW5 hml fpq HLEN
        go_simp
        go_wp2_with fail
        go_ret2
        exact FIN.out
      · have hkq : keepQ n l0 = l0 := if_neg (by omega)
        obtain ⟨⟨e1, e2, e3⟩, SC⟩ := FINX.out _ q7 c7 w7 mo7 t7 hq7' (by rw [hkq])
        have FIN := Lib.hid SC
        rw [List.length_append, hml] at FIN
        have hnf : ¬ (n : Int) < (len : Int) + 1 := by omega
        rw [hml]
        clear mo7 t7 hq7 hq7' SC FINX MO5 NEW HB5 HW5 hml fpq HLEN hkq hfull
        go_wp2_with fail
        go_ret2
        exact FIN.out
    · rw [List.concat_eq_append] at hl0e
      obtain ⟨j, hj⟩ : ∃ j, j = l1.length := ⟨_, rfl⟩
      have hlj : len = j + 1 := by rw [HY.out.2.2.2, hl0e, hj]; simp
      have hz : l0[j]? = some z := by rw [hl0e, hj]; simp
      obtain ⟨gq, o, rfl, _, hgl, a0, a1⟩ := HM.out.1.cells hz
      have WJ : IntKind.i64.wrap ((len : Int) - 1) = (j : Int) := by rw [show (len : Int) - 1 = (j : Int) by omega]; exact IntWalk.i64_in _ (by omega)
      have p1 : decide ((0 : Int) < (len : Int)) = true := decide_eq_true (by omega)
      have p2 : 0 < len := by omega
      have j0 : (0 : Int) ≤ (j : Int) := Int.natCast_nonneg _
      have j1 : (j : Int) < (len : Int) := by omega
      have j2 : j < len := by omega
      have HL : Hid (l0.getLast? = some z) := by show _ = _; rw [hl0e]; simp
      have HNE : Hid (l0 ≠ []) := by show _ ≠ _; rw [hl0e]; simp
      obtain ⟨za, zv⟩ := z
      simp only at a0 a1 HL
      clear hl0e hj hz a1 hgl
      by_cases hst : at_ ≤ za
      · have hst' : decide (at_ ≤ za) = true := decide_eq_true hst
        have FIN : Hid (∀ t, Scd N w bx q M n ⟨kd, at_, (s1, s2), bits⟩ l0 Al Bl (.returned (.tuple #[.int .i64 0, .int .i64 13])) (wc.drewN t)) := fun t => .inl ⟨rfl, ⟨_, HL.out, hst⟩, Below.drewN' (HZ.out.2.2.2.2.2.2.2.2.2.1 HNE.out) t⟩
        clear hst hlj
        go_wp2_with fail
        go_quiet (fail)
        go_wp2
        go_ret2
        exact FIN.out _
      · have hst' : decide (at_ ≤ za) = false := decide_eq_false hst
        have HLT : Hid (∀ z, l0.getLast? = some z → z.1 < at_) := fun z hz => by rw [HL.out] at hz; cases hz; show za < at_; omega
        clear hst hlj
        go_wp2_with fail
        go_quiet (fail)
        clear p1 p2 hst' WJ a0 j0 j1 j2 HL HNE
        obtain ⟨wq, hwq⟩ : ∃ x, x = wc.drewN nq := ⟨_, rfl⟩
        rw [← hwq]
        have EQW : Hid (wq.heap.size = wc.heap.size) := by show _ = _; rw [hwq]; rfl
        obtain ⟨T, hT⟩ : ∃ T, T = wq.heap.size := ⟨_, rfl⟩
        obtain ⟨w5, hw5⟩ : ∃ x, x = wq.alloc (.cells #[.int .i64 at_, .int .i64 V] TSQ) := ⟨_, rfl⟩
        have fpq : wq.cell? ⟨P, 1, none⟩ = some (.int .i64 at_) := by rw [hwq]; exact fp
        have b5 : Below wc.heap.size wc w5 := by rw [hw5, hwq]; exact (Below.drewN' (Below.refl _ wc) nq).alloc (Nat.le_refl _) _
        have MO5 := Lib.hid (HM.out.1.gr b5)
        have NEW : Hid (∀ (t : Nat) u, ([.int .i64 at_, .int .i64 V] : List Value)[t]? = some u → w5.cell? ((⟨T, 0, none⟩ : Addr).add t) = some u) := by
          have := World.news_of_block (w := w5) (B := T) (cs := #[.int .i64 at_, .int .i64 V]) (t := TSQ) (fr := (0, 0)) (by rw [hw5, hT]; exact heap_alloc_new wq _)
          exact this
        have HB5 : Hid (N ≤ w5.heap.size) := by show _ ≤ _; have := b5.size; have := HM.out.2; omega
        have HW5 : Hid (wq.alloc (.cells #[.int .i64 at_, .int .i64 V] TSQ) = w5 ∧ wq.heap.size = T) := ⟨hw5.symm, hT.symm⟩
        have HLEN : Hid (l0.length = len) := HY.out.2.2.2.symm
        have FINX : Hid (∀ l8 q8 c8 w7, MoQ N w7 q8 c8 l8 → (∃ S, Tch S w5 w7 ∧ ∀ g ∈ S, ownBQ (some ⟨gq, o, none⟩) g) → (∀ k, ownBQ q8 k → ownBQ (some ⟨gq, o, none⟩) k ∨ wc.heap.size ≤ k) → l8 = keepQ n l0 ++ [(at_, V)] →
            (w7.cell? ⟨bx, 0, none⟩ = some (.slice (some ⟨g, 0, none⟩) mm c4) ∧ w7.cell? ⟨g, i * 3 + 2, none⟩ = some (.slice (some ⟨gq, o, none⟩) len yc) ∧ w7.frozen? ⟨g, i * 3 + 2, none⟩ = false) ∧
            Scd N w bx q M n ⟨kd, at_, (s1, s2), bits⟩ l0 Al Bl (.returned (.tuple #[.int .i64 V, .int .i64 0])) (w7.setCell ⟨g, i * 3 + 2, none⟩ (.slice q8 l8.length c8))) := fun l8 q8 c8 w7 mo8 t7 hq8 hl8 => by
          obtain ⟨h, hN, hn, h0, hM, hl0, hV, hm, X⟩ := HH.out
          obtain ⟨hi, mod4, hys, hyl, hA, hB, hPc, hlen4, hsz, hbe, ⟨S, tS, hS⟩, hf⟩ := HZ.out
          obtain ⟨hmm, hyq, hyc, hlen⟩ := HY.out
          rw [hyq] at t7 hq8
          have still := mod4.still b5 t7
          obtain ⟨mod8, ⟨S8, t8, hS8⟩, hf8⟩ := mod4.push b5 mo8 t7 hq8 rfl
          rw [← hi] at mod8 t8
          have gm : g ∈ mrest bx (some ⟨g, 0, none⟩) A B := mrest_mem.2 (.inr (.inl ⟨_, rfl, rfl⟩))
          have bm : bx ∈ mrest bx (some ⟨g, 0, none⟩) A B := mrest_mem.2 (.inl rfl)
          obtain ⟨g', hg', _, _, _, _, r2, rf⟩ := row_cells mod4.row (i := i) (x := y) (by rw [hi]; simp)
          cases hg'
          refine ⟨⟨(World.cell?_of_block (a := ⟨bx, 0, none⟩) (still bx bm)).trans f0, (World.cell?_of_block (a := ⟨g, i * 3 + 2, none⟩) (still g gm)).trans fr, ?_⟩, .inr ⟨by rw [hV], HLT.out, _, _, _, mod8, ?_, ⟨mfoot bx q M, ?_, fun k hk => hk⟩, fun k hk => ?_⟩⟩
          · have e : w7.frozen? ⟨g, i * 3 + 2, none⟩ = wc.frozen? ⟨g, i * 3 + 2, none⟩ := by unfold World.frozen?; simp only [still g gm]
            rw [e]; exact rf
          · rw [List.map_append, List.map_cons, hA, hB, hl8, hV]
            simp only [slM, hys]
          · refine (tS.less (fun k hk => .inl (hS k hk))).trans t8 (fun k hk => ?_)
            exact hf k (hS8 k hk)
          · rcases hf8 k hk with h1 | h1
            · exact hf k h1
            · exact .inr (by omega)
        clear hwq hT hw5 b5 fp fr f0
        go_wp2_with (at_builtin; rw [HW5.out.1, HW5.out.2]; refine wpList_pushQ rfl _ _ (by rfl) (x := (at_, V)) HLEN.out (by rfl) MO5.out HB5.out (by have := HLEN.out; omega) ⟨T, 0, none⟩ 1 (by rfl) NEW.out ?_; intro v7 w7 hp7)
        obtain ⟨q7, c7, rfl, mo7, t7, hq7⟩ := hp7
        have hq7' : ∀ k, ownBQ q7 k → ownBQ (some ⟨gq, o, none⟩) k ∨ wc.heap.size ≤ k := fun k hk => by
          rcases hq7 k hk with h | h
          · exact .inl h
          · have e : wc.heap.size ≤ w5.heap.size := by rw [← HW5.out.1]; have := HM.out.2; simp only [World.size_alloc]; have e2 : wq.heap.size = wc.heap.size := EQW.out; omega
            exact .inr (by omega)
        have hml : l0.length = len := HLEN.out
        by_cases hfull : len = n
        · have KQ : Hid (∃ g' o' : Nat, q7 = some ⟨g', o', none⟩ ∧ 2 ≤ c7 ∧ MoQ N w7 (some ⟨g', o' + 2, none⟩) (c7 - 1) (keepQ n l0 ++ [(at_, V)]) ∧ (keepQ n l0 ++ [(at_, V)]).length = n) := by
            obtain ⟨y0, r0, hr⟩ : ∃ y0 r, l0 = y0 :: r := by
              cases l0 with
              | nil => simp at hml; omega
              | cons a b => exact ⟨a, b, rfl⟩
            have e : keepQ n l0 ++ [(at_, V)] = (l0 ++ [(at_, V)]).drop 1 := by
              unfold keepQ
              rw [if_pos (by omega), hr]
              rfl
            have hle := mo7.le
            rw [List.length_append] at hle
            simp only [List.length_singleton] at hle
            cases hq : q7 with
            | none => have := mo7.nul hq; omega
            | some a =>
              obtain ⟨g', o', cur, rfl, _⟩ := mo7.row a hq
              subst hq
              have e2 : (keepQ n l0 ++ [(at_, V)]).length = n := by rw [e, List.length_drop, List.length_append]; simp only [List.length_singleton]; omega
              refine ⟨g', o', rfl, by omega, ?_, e2⟩
              rw [e]
              rw [hr] at mo7 ⊢
              rw [List.cons_append] at mo7 ⊢
              have s8 := mo7.tail
              rw [if_neg (by omega)] at s8
              exact s8
          obtain ⟨g7, o7, rfl, hc7, mo8, hl8⟩ := KQ.out
          obtain ⟨⟨e1, e2, e3⟩, SC⟩ := FINX.out _ (some ⟨g7, o7 + 2, none⟩) (c7 - 1) w7 mo8 t7 (fun k ⟨a, h1, h2⟩ => by cases h1; exact hq7' _ ⟨_, rfl, h2⟩) rfl
          have FIN := Lib.hid SC
          rw [hl8, ← hfull] at FIN
          have hnf : (len : Int) < (len : Int) + 1 := by omega
          have hc1 : ¬ c7 = 1 := by omega
          subst hfull
          rw [hml]
          clear mo7 t7 hq7 hq7' KQ mo8 hl8 SC FINX MO5 NEW HB5 HW5 hml fpq HLEN
          go_simp
          go_wp2_with fail
          go_ret2
          exact FIN.out
        · have hkq : keepQ n l0 = l0 := if_neg (by omega)
          obtain ⟨⟨e1, e2, e3⟩, SC⟩ := FINX.out _ q7 c7 w7 mo7 t7 hq7' (by rw [hkq])
          have FIN := Lib.hid SC
          rw [List.length_append, hml] at FIN
          have hnf : ¬ (n : Int) < (len : Int) + 1 := by omega
          rw [hml]
          clear mo7 t7 hq7 hq7' SC FINX MO5 NEW HB5 HW5 hml fpq HLEN hkq hfull
          go_wp2_with fail
          go_ret2
          exact FIN.out
end Go.Proofs.Ytlklbhjcohgmhaa
