/- Layer 20: Row of any row of uses. -/
import Derived.Test.YtajkhbdniadkkaaPpG
namespace Go.Proofs.Ytajkhbdniadkkaa.Pp
open Go.RowKit Go.Shelf Go.Lib Go.Sort Go.Deep
open Go.Joins (cell_of_block unfrozen_of_block block_setCell)
open Go.Proofs.Ytajkhbdniadkkaa.Ow Go.Proofs.Ytajkhbdniadkkaa.Ld
set_option linter.unusedVariables false
set_option linter.unusedSimpArgs false
set_option maxRecDepth 20000

/-! ### What Row answers -/
def hasL (l : List Ut) : List Ut := l.filter isHas
def misL (l : List Ut) : List Ut := l.filter isMis
def unL (l : List Ut) : List Ut := l.filter isUn
/-- Of whom nobody knows what they use: those that are added; their goals. -/
def addL (k : Int) (t : Nat) (l : List Ut) : List Ut :=
  if sumG k t (hasL l) < sumU (hasL l) then misL l ++ unL l else if sumU (hasL l) < sumG k t (hasL l) then misL l else []
def addS (k : Int) (t : Nat) (l : List Ut) : Nat := sumG k t (addL k t l)
def use2 (k : Int) (t : Nat) (l : List Ut) : Nat := if sumU (hasL l) < sumG k t (hasL l) then sumU (hasL l) + addS k t l else sumU (hasL l)
def goal2 (k : Int) (t : Nat) (l : List Ut) : Nat := sumG k t (hasL l) + addS k t l
def num2 (k : Int) (t : Nat) (l : List Ut) : Nat := (hasL l).length + (addL k t l).length
def moreB (k : Int) (t : Nat) (l : List Ut) : Bool := decide (sumG k t (hasL l) < sumU (hasL l))
def rowE (k : Int) (t : Nat) (l : List Ut) : Int :=
  if (hasL l).length = 0 then 7 else if 9007199254740992 < sumU (hasL l) ∨ 9007199254740992 < sumG k t (hasL l) then 3 else if sumG k t (hasL l) = 0 then 5 else capE (goal2 k t l)
def rowN (k : Int) (t : Nat) (l : List Ut) (r x : Nat) : Nat :=
  if nearB (use2 k t l) (goal2 k t l) x = true then r else if moreB k t l ≠ decide (goal2 k t l < use2 k t l) then r
  else if moreB k t l = true then max (needN (num2 k t l) (use2 k t l) (goal2 k t l)) r else min (needN (num2 k t l) (use2 k t l) (goal2 k t l)) r
def rowV (k : Int) (t : Nat) (l : List Ut) (r x : Nat) : Int := if rowE k t l = 0 then (rowN k t l r x : Int) else 0

theorem fil_sub (f : Ut → Bool) {l : List Ut} (h : ∀ x ∈ l, okU x = true) : ∀ x ∈ l.filter f, okU x = true := fun x hx => h x (List.mem_filter.1 hx).1
theorem three_len : ∀ l : List Ut, (hasL l).length + ((misL l).length + (unL l).length) = l.length
  | [] => rfl
  | x :: l => by
    have ih := three_len l
    unfold hasL misL unL at ih ⊢
    rcases x with ⟨p, rd, hs, a, u⟩
    cases rd <;> cases hs <;> simp [List.filter_cons, isHas, isMis, isUn] <;> omega

theorem pp_guessed (w : World) (u g n : Nat) (hu : u ≤ 9007199254740992) (hg : g ≤ 9007199254740992) (hn : n ≤ 1000000000) (k : Int) (s : ByteArray) (t : Nat) (ht : t ≤ 9007199254740992)
    (q : Option Addr) (c : Nat) (l : List Ut) (hr : RowR 5 encT w q l) (hq : q = none → c = 0 ∧ l = []) (q2 : Option Addr) (c2 : Nat) (l2 : List Ut) (hr2 : RowR 5 encT w q2 l2) (hq2 : q2 = none → c2 = 0 ∧ l2 = []) (hlen : l.length + l2.length ≤ 1000000) (hok : ∀ x ∈ l ++ l2, okU x = true)
    (A : List Ut) (hA : A = if g < u then l ++ l2 else if u < g then l else []) :
    Calls Try.prog 35 #[.agg (loadC (u : Int) (g : Int) (n : Int)), .agg (metC k s (t : Int)), .slice q l.length c, .slice q2 l2.length c2] w fun e w' => (∃ D, e = .returned (.tuple #[.agg D, .int .i64 (capE (g + sumG k t A))]) ∧ LdTold D (capE (g + sumG k t A)) (if u < g then u + sumG k t A else u) (g + sumG k t A) (n + A.length)) ∧ Below w.heap.size w w' := by
  rcases Nat.lt_trichotomy u g with h | h | h
  · rw [if_neg (by omega), if_pos h] at hA
    subst hA
    rw [if_pos h]
    exact guessed_less w u g n hu hg hn h k s t ht q c A hr (by omega) (fun x hx => hok x (List.mem_append_left _ hx)) _
  · subst h
    rw [if_neg (by omega), if_neg (by omega)] at hA
    subst hA
    rw [if_neg (by omega)]
    have e : sumG k t [] = 0 := rfl
    rw [e, Nat.add_zero, (capV_in hu).2]
    refine (guessed_even w u n _ _ _).mono ?_
    rintro e w' ⟨rfl, b⟩
    exact ⟨⟨_, rfl, rfl, loadC_all _ _ _, fun _ => rfl⟩, b⟩
  · rw [if_pos h] at hA
    subst hA
    rw [if_neg (by omega)]
    exact guessed_more w u g n hu hg hn h k s t ht q c l hr hq q2 c2 l2 hr2 hq2 hlen hok

set_option maxHeartbeats 8000000 in
theorem row_bad (w : World) (k : Int) (s : ByteArray) (t r x : Int) (q : Option Addr) (c : Nat) (l : List Ut) (hr : RowR 5 encT w q l) (hlen : l.length ≤ 1000000) (h : rightB t r x = false ∨ l.all okU = false) :
    Calls Try.prog 14 #[.agg (metC k s t), .slice q l.length c, .int .i64 r, .int .i64 x] w fun e w' => e = .returned (.tuple #[.int .i64 0, .int .i64 1]) ∧ Below w.heap.size w w' := by
  obtain ⟨M, hM⟩ : ∃ M, M = metC k s t := ⟨_, rfl⟩
  have sM : M.size = 3 := by rw [hM]; rfl
  rw [← hM]
  obtain ⟨B, hB⟩ : ∃ B, B = w.heap.size := ⟨_, rfl⟩
  obtain ⟨w1, hw1⟩ : ∃ x, x = w.alloc (.cells M MT) := ⟨_, rfl⟩
  have Ba : Below w.heap.size w w1 := by rw [hw1]; exact ((Gr.refl w).alloc _).below
  have y0 : w1.heap[B]? = some (.cells M MT (0, 0)) := by rw [hw1, hB]; exact heap_alloc_new w _
  have HW : Hid (w.alloc (.cells M MT) = w1 ∧ w.heap.size = B) := ⟨hw1.symm, hB.symm⟩
  have LM := Lib.hid (load_met y0 sM)
  have CR := Lib.hid (pp_right w1 k s t r x)
  rw [← hM] at CR
  have CO : Hid (∀ W, Below w.heap.size w W → Calls Try.prog 31 #[.slice q l.length c, .func (.func 32) #[] #[]] W fun e w' => e = .returned (.bool (!l.all okU)) ∧ Gr W w') := fun W b => off_contains W q c l (hr.below b) (by omega)
  obtain ⟨n, hn⟩ : ∃ n, n = l.length := ⟨_, rfl⟩
  rw [← hn] at CO
  rw [← hn]
  have HBa := Lib.hid Ba
  generalize rightB t r x = rb at CR h
  generalize l.all okU = ob at CO h
  clear hr hlen hM sM hB hw1 y0 hn Ba
  cases rb with
  | false =>
    go_enter Try.func14, Try.ntmps14
    go_upto_region 1 with fail
    rw [HW.out.1, HW.out.2]
    go_wp2_with (refine wpList_load_by (by kernel_rfl) MT _ rfl (.pointer (some ⟨B, 0, none⟩)) (.agg M) (by rfl) LM.out ?_)
    refine CR.out.mono ?_
    rintro e w2 ⟨rfl, b2⟩
    have FIN := Lib.hid (HBa.out.trans (b2.mono HBa.out.size))
    clear b2 CO CR LM HBa
    go_wp2
    go_ret2
    exact ⟨rfl, FIN.out⟩
  | true =>
    obtain rfl : ob = false := by simpa using h
    go_enter Try.func14, Try.ntmps14
    go_upto_region 1 with fail
    rw [HW.out.1, HW.out.2]
    go_wp2_with (refine wpList_load_by (by kernel_rfl) MT _ rfl (.pointer (some ⟨B, 0, none⟩)) (.agg M) (by rfl) LM.out ?_)
    refine CR.out.mono ?_
    rintro e w2 ⟨rfl, b2⟩
    have B2 := Lib.hid (HBa.out.trans (b2.mono HBa.out.size))
    have C2 := Lib.hid (CO.out w2 B2.out)
    clear b2 CO CR LM HBa
    go_wp2_with fail
    refine C2.out.mono ?_
    rintro e w3 ⟨rfl, b3⟩
    have FIN := Lib.hid (B2.out.trans (b3.below.mono B2.out.size))
    clear b3 C2 B2
    go_wp2
    go_ret2
    exact ⟨rfl, FIN.out⟩

set_option maxHeartbeats 16000000 in
theorem row_ok (w : World) (k : Int) (s : ByteArray) (t r x : Nat) (ht0 : 0 < t) (ht : t ≤ 9007199254740992) (hr1 : r ≤ 1000000) (hx : x ≤ 1000) (q : Option Addr) (c : Nat) (l : List Ut) (hr : RowR 5 encT w q l) (hlen : l.length ≤ 1000000) (hok : l.all okU = true) :
    Calls Try.prog 14 #[.agg (metC k s (t : Int)), .slice q l.length c, .int .i64 (r : Int), .int .i64 (x : Int)] w fun e w' => e = .returned (.tuple #[.int .i64 (rowV k t l r x), .int .i64 (rowE k t l)]) ∧ Below w.heap.size w w' := by
  have oks : ∀ x ∈ l, okU x = true := List.all_eq_true.1 hok
  have tl := three_len l
  obtain ⟨H, hH⟩ : ∃ H, H = hasL l := ⟨_, rfl⟩
  obtain ⟨Mi, hMi⟩ : ∃ H, H = misL l := ⟨_, rfl⟩
  obtain ⟨Un, hUn⟩ : ∃ H, H = unL l := ⟨_, rfl⟩
  obtain ⟨A, hA⟩ : ∃ A, A = addL k t l := ⟨_, rfl⟩
  have oH : ∀ x ∈ H, okU x = true := by rw [hH]; exact fil_sub _ oks
  have oMU : ∀ x ∈ Mi ++ Un, okU x = true := by
    rw [hMi, hUn]
    intro x hx
    rcases List.mem_append.1 hx with h | h
    · exact fil_sub _ oks x h
    · exact fil_sub _ oks x h
  obtain ⟨U, hU⟩ : ∃ U, U = sumU H := ⟨_, rfl⟩
  obtain ⟨G, hG⟩ : ∃ U, U = sumG k t H := ⟨_, rfl⟩
  have eA : A = if G < U then Mi ++ Un else if U < G then Mi else [] := by rw [hA, hG, hU, hMi, hUn, hH]; rfl
  obtain ⟨U2, hU2⟩ : ∃ U, U = use2 k t l := ⟨_, rfl⟩
  obtain ⟨G2, hG2⟩ : ∃ U, U = goal2 k t l := ⟨_, rfl⟩
  obtain ⟨N2, hN2⟩ : ∃ U, U = num2 k t l := ⟨_, rfl⟩
  have eU2 : U2 = if U < G then U + sumG k t A else U := by rw [hU2, hU, hG, hH, hA]; rfl
  have eG2 : G2 = G + sumG k t A := by rw [hG2, hG, hH, hA]; rfl
  have eN2 : N2 = H.length + A.length := by rw [hN2, hH, hA]; rfl
  rw [← hH, ← hMi, ← hUn] at tl
  have lA : A.length ≤ Mi.length + Un.length := by
    rw [eA]
    split
    · rw [List.length_append]; exact Nat.le_refl _
    · split
      · omega
      · exact Nat.zero_le _
  obtain ⟨ge, hge⟩ : ∃ x, x = capE G2 := ⟨_, rfl⟩
  have ER : Hid (rowE k t l = if H.length = 0 then 7 else if 9007199254740992 < U ∨ 9007199254740992 < G then 3 else if G = 0 then 5 else ge) := by
    show _ = _
    rw [hge, hG2, hU, hG, hH]
    rfl
  obtain ⟨nb, hnb⟩ : ∃ b, b = nearB U2 G2 x := ⟨_, rfl⟩
  obtain ⟨nd, hnd⟩ : ∃ b, b = needN N2 U2 G2 := ⟨_, rfl⟩
  have EV : Hid (rowV k t l r x = if rowE k t l = 0 then ((if nb = true then r else if decide (G < U) ≠ decide (G2 < U2) then r else if decide (G < U) = true then max nd r else min nd r : Nat) : Int) else 0) := by
    show _ = _
    rw [hnb, hnd, hU2, hG2, hN2, hU, hG, hH]
    rfl
  generalize rowV k t l r x = RV at EV ⊢
  generalize rowE k t l = RE at EV ER ⊢
  obtain ⟨M, hM⟩ : ∃ M, M = metC k s (t : Int) := ⟨_, rfl⟩
  have sM : M.size = 3 := by rw [hM]; rfl
  have CR : Hid (∀ W, Calls Try.prog 18 #[.agg M, .int .i64 (r : Int), .int .i64 (x : Int)] W fun e w' => e = .returned (.bool true) ∧ Below W.heap.size W w') := fun W => by
    have := pp_right W k s (t : Int) (r : Int) (x : Int)
    rw [rightB_iff.2 ⟨⟨by omega, by omega⟩, ⟨by omega, by omega⟩, by omega, by omega⟩, ← hM] at this
    exact this
  obtain ⟨n, hn⟩ : ∃ n, n = l.length := ⟨_, rfl⟩
  have CO : Hid (∀ W, Below w.heap.size w W → Calls Try.prog 31 #[.slice q n c, .func (.func 32) #[] #[]] W fun e w' => e = .returned (.bool false) ∧ Gr W w') := fun W b => by
    have := off_contains W q c l (hr.below b) (by omega)
    rw [hok, ← hn] at this
    exact this
  have CS : Hid (∀ W, Below w.heap.size w W → Calls Try.prog 33 #[.slice q n c] W fun e w' => (∃ va vb vc, e = .returned (.tuple #[va, vb, vc]) ∧ Hid (Three W.heap.size w' va vb vc H Mi Un)) ∧ Below W.heap.size W w') := fun W b => by
    have := pp_split W q c l (hr.below b) hlen
    rw [← hn] at this
    rw [hH, hMi, hUn]
    exact this
  obtain ⟨nH, hnH⟩ : ∃ n, n = H.length := ⟨_, rfl⟩
  obtain ⟨nM, hnM⟩ : ∃ n, n = Mi.length := ⟨_, rfl⟩
  obtain ⟨nU, hnU⟩ : ∃ n, n = Un.length := ⟨_, rfl⟩
  obtain ⟨D0, hD0⟩ : ∃ D, D = measC k t H := ⟨_, rfl⟩
  obtain ⟨me, hme⟩ : ∃ D, D = measE k t H := ⟨_, rfl⟩
  have CM : Hid (∀ W q1 c1, RowR 5 encT W q1 H → Calls Try.prog 34 #[.agg M, .slice q1 nH c1] W fun e w' => e = .returned (.tuple #[.agg D0, .int .i64 me]) ∧ Below W.heap.size W w') := fun W q1 c1 h => by
    have := pp_measured W k s t ht q1 c1 H h (by omega) oH
    rw [← hM, ← hnH, ← hD0, ← hme] at this
    exact this
  have sD0 : D0.size = 3 := by rw [hD0]; unfold measC; split <;> rfl
  have oD0 : D0.all (·.oneCell') = true := by rw [hD0]; unfold measC; split <;> exact loadC_all _ _ _
  have MB : Hid ((9007199254740992 < U ∨ 9007199254740992 < G) → me = 3) := fun h => by
    rw [hme]
    unfold measE
    rw [← hU, ← hG]
    rcases Nat.lt_or_ge 9007199254740992 U with h' | h'
    · exact if_pos h'
    · rw [if_neg (by omega)]; exact (capV_over (by omega)).2
  have MG : Hid (¬ (9007199254740992 < U ∨ 9007199254740992 < G) → me = 0 ∧ D0 = loadC (U : Int) (G : Int) (nH : Int)) := fun h => by
    have h1 : ¬ 9007199254740992 < U := fun e => h (.inl e)
    have h2 : G ≤ 9007199254740992 := by omega
    rw [hme, hD0]
    unfold measE measC
    rw [← hU, ← hG, if_neg h1, if_neg h1, (capV_in h2).1, (capV_in h2).2, hnH]
    exact ⟨rfl, rfl⟩
  have CGd : Hid (¬ (9007199254740992 < U ∨ 9007199254740992 < G) → ∀ W q2 c2 q3 c3, RowR 5 encT W q2 Mi → (q2 = none → c2 = 0 ∧ Mi = []) → RowR 5 encT W q3 Un → (q3 = none → c3 = 0 ∧ Un = []) → Calls Try.prog 35 #[.agg D0, .agg M, .slice q2 nM c2, .slice q3 nU c3] W fun e w' => (∃ D, e = .returned (.tuple #[.agg D, .int .i64 ge]) ∧ LdTold D ge U2 G2 N2) ∧ Below W.heap.size W w') := fun h W q2 c2 q3 c3 r2 z2 r3 z3 => by
    have h1 : ¬ 9007199254740992 < U := fun e => h (.inl e)
    have h2 : G ≤ 9007199254740992 := by omega
    have := pp_guessed W U G nH (by omega) h2 (by omega) k s t ht q2 c2 Mi r2 z2 q3 c3 Un r3 z3 (by omega) oMU A eA
    rw [← eU2, ← eG2, ← hge, hnH, ← eN2, ← hnH, ← hM, ← (MG.out h).2, ← hnM, ← hnU] at this
    exact this
  have UB : Hid (¬ (9007199254740992 < U ∨ 9007199254740992 < G) → ge = 0 → G ≠ 0 → U2 ≤ 9007199254740992 ∧ G2 ≤ 9007199254740992 ∧ 0 < G2) := fun h e h0 => by
    have h1 : ¬ 9007199254740992 < U := fun e => h (.inl e)
    have g2 : G2 ≤ 9007199254740992 := by
      rcases Nat.lt_or_ge 9007199254740992 G2 with h' | h'
      · rw [hge, (capV_over h').2] at e; exact absurd e (by decide)
      · exact h'
    refine ⟨?_, g2, by omega⟩
    rw [eU2]
    split <;> omega
  have CN : Hid (¬ (9007199254740992 < U ∨ 9007199254740992 < G) → ge = 0 → G ≠ 0 → ∀ W, Calls Try.prog 20 #[.int .i64 (U2 : Int), .int .i64 (G2 : Int), .int .i64 (x : Int)] W fun e w' => e = .returned (.bool nb) ∧ Below W.heap.size W w') := fun h e h0 W => by
    obtain ⟨b1, b2, _⟩ := UB.out h e h0
    rw [hnb]
    exact pp_near U2 G2 x W b1 b2 hx
  have CD : Hid (¬ (9007199254740992 < U ∨ 9007199254740992 < G) → ge = 0 → G ≠ 0 → ∀ W, Calls Try.prog 36 #[.agg (loadC (U2 : Int) (G2 : Int) (N2 : Int))] W fun e w' => e = .returned (.int .i64 (nd : Int)) ∧ Below W.heap.size W w') := fun h e h0 W => by
    obtain ⟨b1, b2, b3⟩ := UB.out h e h0
    rw [hnd]
    exact pp_need W N2 U2 G2 (by omega) b1 b2 b3
  obtain ⟨B, hB⟩ : ∃ B, B = w.heap.size := ⟨_, rfl⟩
  obtain ⟨w1, hw1⟩ : ∃ x, x = w.alloc (.cells M MT) := ⟨_, rfl⟩
  have Ba : Below w.heap.size w w1 := by rw [hw1]; exact ((Gr.refl w).alloc _).below
  have y0 : w1.heap[B]? = some (.cells M MT (0, 0)) := by rw [hw1, hB]; exact heap_alloc_new w _
  have HW : Hid (w.alloc (.cells M MT) = w1 ∧ w.heap.size = B) := ⟨hw1.symm, hB.symm⟩
  have LMa : Hid (∀ W, Below w1.heap.size w1 W → (Instr.loadAt MT (.pointer (some ⟨B, 0, none⟩))).run Try.prog W = .ok (.agg M) W) := fun W b => load_met ((b.block B (Array.getElem?_eq_some_iff.1 y0).1).trans y0) sM
  have HBa := Lib.hid Ba
  have HD0 := Lib.hid (And.intro sD0 oD0)
  have HNH : Hid (nH = H.length) := hnH
  have ER2 : Hid (RE = if nH = 0 then 7 else if 9007199254740992 < U ∨ 9007199254740992 < G then 3 else if G = 0 then 5 else ge) := by rw [hnH]; exact ER.out
  have HZ : Hid (nH = H.length ∧ nM = Mi.length ∧ nU = Un.length) := ⟨hnH, hnM, hnU⟩
  rw [← hM, ← hn]
  clear hU2 hG2 hN2 hU hG hH hMi hUn hA eA eU2 eG2 eN2 tl lA hge hnb hnd hM sM hn hnH hnM hnU hD0 hme sD0 oD0 oH oMU oks hok hr hB hw1 Ba y0 ER ht ht0 hx UB
  go_enter Try.func14, Try.ntmps14
  go_upto_region 1 with fail
  rw [HW.out.1, HW.out.2]
  have LM := Lib.hid (LMa.out w1 (Below.refl _ _))
  go_wp2_with (refine wpList_load_by (by kernel_rfl) MT _ rfl (.pointer (some ⟨B, 0, none⟩)) (.agg M) (by rfl) LM.out ?_)
  refine (CR.out _).mono ?_
  rintro e w2 ⟨rfl, b2⟩
  have B2 := Lib.hid (HBa.out.trans (b2.mono HBa.out.size))
  have C2 := Lib.hid (CO.out w2 B2.out)
  have E2 := Lib.hid b2
  clear b2 CO CR LM
  go_wp2_with fail
  refine C2.out.mono ?_
  rintro e w3 ⟨rfl, b3⟩
  have B3 := Lib.hid (B2.out.trans (b3.below.mono B2.out.size))
  have E3 := Lib.hid (E2.out.trans (b3.below.mono E2.out.size))
  have C3 := Lib.hid (CS.out w3 B3.out)
  clear b3 C2 B2 E2 CS
  go_wp2_with fail
  refine C3.out.mono ?_
  rintro e w4 ⟨⟨va, vb, vc, rfl, T4⟩, b4⟩
  have B4 := Lib.hid (B3.out.trans (b4.mono B3.out.size))
  have E4 := Lib.hid (E3.out.trans (b4.mono E3.out.size))
  obtain ⟨q1, c1, rfl, r1, _⟩ := T4.out.h1.row
  obtain ⟨q2, c2, rfl, r2, z2⟩ := T4.out.h2.row
  obtain ⟨q3, c3, rfl, r3, z3⟩ := T4.out.h3.row
  obtain ⟨zH, zM, zU⟩ := HZ.out
  rw [← zH, ← zM, ← zU]
  have LM := Lib.hid (LMa.out w4 E4.out)
  have C4 := Lib.hid (CM.out w4 q1 c1 r1)
  have ROWS := Lib.hid (And.intro r2 (And.intro z2 (And.intro r3 z3)))
  clear b4 C3 B3 E3 T4 r1 r2 z2 r3 z3 zH zM zU CM
  by_cases h0 : nH = 0
  · have ERR : Hid (RE = 7) := by show _ = _; rw [ER2.out, if_pos h0]
    have EVV : Hid (RV = 0) := by show _ = _; rw [EV.out, ERR.out]; rfl
    subst h0
    clear EV ER2 C4 LM CGd CN CD MB MG ROWS
    go_wp2
    go_ret2
    exact ⟨by rw [ERR.out, EVV.out]; rfl, B4.out⟩
  · have t0 : (nH == 0) = false := by simpa using h0
    have t0' : ((nH : Int) == 0) = false := by simpa using h0
    go_wp2_with (refine wpList_load_by (by kernel_rfl) MT _ rfl (.pointer (some ⟨B, 0, none⟩)) (.agg M) (by rfl) LM.out ?_)
    refine C4.out.mono ?_
    rintro e w5 ⟨rfl, b5⟩
    have B5 := Lib.hid (B4.out.trans (b5.mono B4.out.size))
    have E5 := Lib.hid (E4.out.trans (b5.mono E4.out.size))
    obtain ⟨th, eb, bl⟩ := cell_new w5 LT zerL D0 (by rw [HD0.out.1]; rfl)
    have TH := Lib.hid th
    have IN : Hid ((Try.prog.info? LT).map (·.size) = some D0.size) := by show _ = _; rw [HD0.out.1]; exact info_LT
    obtain ⟨w6, hw6⟩ : ∃ W', W' = (w5.alloc (.cells zerL LT)).setCells w5.heap.size 0 D0.toList := ⟨_, rfl⟩
    obtain ⟨O, hO⟩ : ∃ A, A = w5.heap.size := ⟨_, rfl⟩
    have HW6 : Hid ((w5.alloc (.cells zerL LT)).setCells w5.heap.size 0 D0.toList = w6 ∧ w5.heap.size = O) := ⟨hw6.symm, hO.symm⟩
    rw [← hw6] at eb bl
    rw [← hO] at eb
    have B6 := Lib.hid (B5.out.trans (bl.mono B5.out.size))
    have E6 := Lib.hid (E5.out.trans (bl.mono E5.out.size))
    have EB := Lib.hid eb
    have WO : Hid (w.heap.size ≤ O) := by have := B5.out.size; rw [hO]; exact this
    have R6 : Hid (Below w4.heap.size w4 w6) := b5.trans (bl.mono b5.size)
    clear th bl hw6 hO b5 C4 LM B4 E4 B5 E5 eb
    go_upto_region 7 with (refine wpList_store_mid rfl _ _ _ rfl w5.heap.size 0 D0 (by rfl) (by rfl) TH.out IN.out HD0.out.2 ?_; rw [HW6.out.1, HW6.out.2])
    clear TH IN HW6
    by_cases hbig : 9007199254740992 < U ∨ 9007199254740992 < G
    · have ERR : Hid (RE = 3) := by show _ = _; rw [ER2.out, if_neg h0, if_pos hbig]
      have EVV : Hid (RV = 0) := by show _ = _; rw [EV.out, ERR.out]; rfl
      have hme := MB.out hbig
      subst hme
      clear EV ER2 CGd CN CD MB MG ROWS hbig EB E6
      go_wp2
      go_ret2
      exact ⟨by rw [ERR.out, EVV.out]; rfl, B6.out⟩
    · obtain ⟨hme, hD0⟩ := MG.out hbig
      have CGd' := Lib.hid (CGd.out hbig)
      have CN' := Lib.hid (CN.out hbig)
      have CD' := Lib.hid (CD.out hbig)
      have eb := EB.out
      have k1 : w6.cell? ⟨O, 1, none⟩ = some (.int .i64 (G : Int)) := (cell_of_block eb 1).trans (by rw [hD0]; rfl)
      have k0 : w6.cell? ⟨O, 0, none⟩ = some (.int .i64 (U : Int)) := (cell_of_block eb 0).trans (by rw [hD0]; rfl)
      have ER3 : Hid (RE = if G = 0 then 5 else ge) := by show _ = _; rw [ER2.out, if_neg h0, if_neg hbig]
      subst hme
      clear ER2 CGd CN CD MB MG eb hbig hD0
      by_cases hG : G = 0
      · have ERR : Hid (RE = 5) := by show _ = _; rw [ER3.out, if_pos hG]
        have EVV : Hid (RV = 0) := by show _ = _; rw [EV.out, ERR.out]; rfl
        subst hG
        clear EV ER3 CGd' CN' CD' ROWS EB E6
        go_wp2
        go_ret2
        exact ⟨by rw [ERR.out, EVV.out]; rfl, B6.out⟩
      · have tG : (G == 0) = false := by simpa using hG
        have tG' : ((G : Int) == 0) = false := by simpa using hG
        have ERR : Hid (RE = ge) := by show _ = _; rw [ER3.out, if_neg hG]
        have HG := Lib.hid hG
        have LD6 := Lib.hid (load_ld EB.out HD0.out.1)
        have LM6 := Lib.hid (LMa.out w6 E6.out)
        obtain ⟨r2, z2, r3, z3⟩ := ROWS.out
        have C6 := Lib.hid (CGd'.out w6 q2 c2 q3 c3 (r2.below R6.out) z2 (r3.below R6.out) z3)
        clear r2 z2 r3 z3 ROWS ER3 CGd' hG
        go_wp2_with (first | (refine wpList_load_by (by kernel_rfl) MT _ rfl (.pointer (some ⟨B, 0, none⟩)) (.agg M) (by rfl) LM6.out ?_) | (refine wpList_load_by (by kernel_rfl) LT _ rfl (.pointer (some ⟨O, 0, none⟩)) (.agg D0) (by rfl) LD6.out ?_))
        refine C6.out.mono ?_
        rintro e w7 ⟨⟨D2, rfl, sD2, oD2, eD2⟩, b7⟩
        have b67 : Below w.heap.size w w7 := B6.out.trans (b7.mono B6.out.size)
        have eb7 : w7.heap[O]? = some (.cells D0 LT (0, 0)) := (b7.block O (Array.getElem?_eq_some_iff.1 EB.out).1).trans EB.out
        obtain ⟨th, blk, blw⟩ := put_ld (D := D2) eb7 HD0.out.1 sD2 b67 WO.out
        have TH := Lib.hid th
        have IN : Hid ((Try.prog.info? LT).map (·.size) = some D2.size) := by show _ = _; rw [sD2]; exact info_LT
        have OD := Lib.hid oD2
        obtain ⟨w8, hw8⟩ : ∃ x, x = w7.setCells O 0 D2.toList := ⟨_, rfl⟩
        have HW8 : Hid (w7.setCells O 0 D2.toList = w8) := hw8.symm
        rw [← hw8] at blk blw
        have B8 := Lib.hid (And.intro blk blw)
        have TOLD : Hid (LdTold D2 ge U2 G2 N2) := ⟨sD2, oD2, eD2⟩
        clear b67 eb7 th blk blw sD2 oD2 eD2 hw8 b7 LD6 LM6 C6 EB E6 B6 R6 k0 k1
        go_upto_region 13 with (refine wpList_store_mid rfl _ _ _ rfl O 0 D2 (by rfl) (by rfl) TH.out IN.out OD.out ?_; rw [HW8.out])
        clear TH IN OD HW8
        by_cases he : ge = 0
        · have EVV : Hid (RV = ((if nb = true then r else if decide (G < U) ≠ decide (G2 < U2) then r else if decide (G < U) = true then max nd r else min nd r : Nat) : Int)) := by
            show _ = _
            rw [EV.out, ERR.out, if_pos he]
          have ERZ : Hid (RE = 0) := ERR.out.trans he
          have CN8 := Lib.hid (CN'.out he HG.out)
          have CD8 := Lib.hid (CD'.out he HG.out)
          have eD := TOLD.out.2.2 he
          have blk := B8.out.1
          rw [eD] at blk
          have k0 : w8.cell? ⟨O, 0, none⟩ = some (.int .i64 (U2 : Int)) := cell_of_block blk 0
          have k1 : w8.cell? ⟨O, 1, none⟩ = some (.int .i64 (G2 : Int)) := cell_of_block blk 1
          have BLK := Lib.hid blk
          subst he
          clear EV ERR CN' CD' eD TOLD blk
          go_wp2_with fail
          refine (CN8.out _).mono ?_
          rintro e w9 ⟨rfl, b9⟩
          have blk9 : w9.heap[O]? = some (.cells (loadC (U2 : Int) (G2 : Int) (N2 : Int)) LT (0, 0)) := (b9.block O (Array.getElem?_eq_some_iff.1 BLK.out).1).trans BLK.out
          have B9 := Lib.hid (B8.out.2.trans (b9.mono B8.out.2.size))
          have LD9 := Lib.hid (load_ld blk9 rfl)
          have C9 := Lib.hid (CD8.out w9)
          have m0 : w9.cell? ⟨O, 0, none⟩ = some (.int .i64 (U2 : Int)) := cell_of_block blk9 0
          have m1 : w9.cell? ⟨O, 1, none⟩ = some (.int .i64 (G2 : Int)) := cell_of_block blk9 1
          clear b9 blk9 BLK B8 CN8 CD8 k0 k1
          cases nb with
          | true =>
            clear C9 LD9
            go_wp2
            go_ret2
            exact ⟨by rw [EVV.out, ERZ.out]; rfl, B9.out⟩
          | false =>
            by_cases hmo : G < U <;> by_cases hm2 : G2 < U2
            · have EV5 : Hid (RV = ((max nd r : Nat) : Int)) := by show _ = _; rw [EVV.out, decide_eq_true hmo, decide_eq_true hm2]; rfl
              have emx : max (nd : Int) (r : Int) = ((max nd r : Nat) : Int) := by omega
              clear EVV
              go_wp2_with (refine wpList_load_by (by kernel_rfl) LT _ rfl (.pointer (some ⟨O, 0, none⟩)) (.agg (loadC (U2 : Int) (G2 : Int) (N2 : Int))) (by rfl) LD9.out ?_)
              refine C9.out.mono ?_
              rintro e w10 ⟨rfl, b10⟩
              have B10 := Lib.hid (B9.out.trans (b10.mono B9.out.size))
              clear b10 C9 LD9 m0 m1 B9
              go_wp2
              go_ret2
              exact ⟨by rw [EV5.out, ERZ.out]; first | rfl | (rw [← emx]; rfl), B10.out⟩
            · have EV5 : Hid (RV = (r : Int)) := by show _ = _; rw [EVV.out, decide_eq_true hmo, decide_eq_false hm2]; rfl
              clear EVV C9 LD9
              go_wp2
              go_ret2
              exact ⟨by rw [EV5.out, ERZ.out]; rfl, B9.out⟩
            · have EV5 : Hid (RV = (r : Int)) := by show _ = _; rw [EVV.out, decide_eq_false hmo, decide_eq_true hm2]; rfl
              clear EVV C9 LD9
              go_wp2
              go_ret2
              exact ⟨by rw [EV5.out, ERZ.out]; rfl, B9.out⟩
            · have EV5 : Hid (RV = ((min nd r : Nat) : Int)) := by show _ = _; rw [EVV.out, decide_eq_false hmo, decide_eq_false hm2]; rfl
              have emn : min (nd : Int) (r : Int) = ((min nd r : Nat) : Int) := by omega
              clear EVV
              go_wp2_with (refine wpList_load_by (by kernel_rfl) LT _ rfl (.pointer (some ⟨O, 0, none⟩)) (.agg (loadC (U2 : Int) (G2 : Int) (N2 : Int))) (by rfl) LD9.out ?_)
              refine C9.out.mono ?_
              rintro e w10 ⟨rfl, b10⟩
              have B10 := Lib.hid (B9.out.trans (b10.mono B9.out.size))
              clear b10 C9 LD9 m0 m1 B9
              go_wp2
              go_ret2
              exact ⟨by rw [EV5.out, ERZ.out]; first | rfl | (rw [← emn]; rfl), B10.out⟩
        · have EVV : Hid (RV = 0) := by show _ = _; rw [EV.out, ERR.out, if_neg he]
          have te : (ge == 0) = false := by simpa using he
          have te2 : (ge != 0) = true := by simpa using he
          clear EV CN' CD' TOLD he
          go_wp2
          go_ret2
          exact ⟨by rw [EVV.out, ERR.out]; rfl, B8.out.2⟩
end Go.Proofs.Ytajkhbdniadkkaa.Pp
