/- A book apart: Copy. -/
import Derived.Test.YtlklbhjcohgmhaaScQ
import Derived.Test.YtlklbhjcohgmhaaScH
namespace Go.Proofs.Ytlklbhjcohgmhaa
open Go.RowKit Go.Shelf Go.Lib Go.Sort
open Go.Maps (Keyed IsMap Tidy)
open Go.Joins (cell_of_block unfrozen_of_block block_setCell)
set_option linter.unusedVariables false
set_option linter.unusedSimpArgs false
set_option maxRecDepth 20000

/-- A series more, with its samples. -/
theorem Bk.join {w w2 w3 : World} {bb mb n a rb gb : Nat} {E : List En} {s : Sr} {l : List (Int × Int)} (h : Bk w bb mb n a E) (hl : E.length < 512) (b : Below w.heap.size w w2) (hr : w.heap.size ≤ rb) (hg : w.heap.size ≤ gb) (hne : rb ≠ gb) (hs : Smps l)
    (m3 : MapS w3 mb (E ++ [⟨s, rb, gb, l⟩])) (t3 : Tch [mb] w2 w3) (H : HasQ w3 rb gb n l) :
    Bk w3 bb mb n a (E ++ [⟨s, rb, gb, l⟩]) ∧ Tch [mb] w w3 := by
  have lt := h.lt
  have hm : mb < w.heap.size := h.map.lt
  have tt : Tch [mb] w w3 := (Tch.ofBelow b [mb]).trans t3 (fun g hg => .inl hg)
  have hn := h.blks
  refine ⟨⟨?_, m3, h.hn, h.ha, ?_, ?_, by simp; omega⟩, tt⟩
  · refine (tt.block bb (lt bb (foot_mem.2 (.inl rfl))) ?_).trans h.book
    intro e
    rw [List.mem_singleton] at e
    unfold foot at hn
    rw [List.nodup_cons] at hn
    exact hn.1 (e ▸ List.mem_cons_self)
  · intro y hy
    rcases List.mem_append.1 hy with hy | hy
    · obtain ⟨k1, k2⟩ := h.each y hy
      have q : ∀ g, g = y.rb ∨ g = y.gb → g ∉ [mb] := fun g hg e => by
        rw [List.mem_singleton] at e
        subst e
        unfold foot at hn
        rw [List.nodup_cons, List.nodup_cons] at hn
        exact hn.2.1 (List.mem_flatMap.2 ⟨y, hy, by simpa using hg⟩)
      exact ⟨k1.tch tt (q _ (.inl rfl)) (q _ (.inr rfl)), k2⟩
    · rw [List.mem_singleton] at hy
      subst hy
      exact ⟨H, hs⟩
  · have e : foot bb mb (E ++ [⟨s, rb, gb, l⟩]) = foot bb mb E ++ [rb, gb] := by simp [foot]
    rw [e, List.nodup_append]
    refine ⟨hn, by simpa using hne, fun g hg k hk e => ?_⟩
    subst e
    have := lt g hg
    simp at hk
    omega
/-- What has been copied. -/
structure Cop (E : List En) (left : Lit → Bool) (E2 : List En) : Prop where
  iff : ∀ e ∈ E, left (ks e.s) = false → ∃ x ∈ E2, x.s = e.s ∧ x.l = e.l
  sub : ∀ x ∈ E2, ∃ e ∈ E, e.s = x.s ∧ e.l = x.l ∧ left (ks e.s) = false
theorem Cop.next {E E2 : List En} {left : Lit → Bool} (h : Cop E left E2) (ok : ∀ e ∈ E, OkS e.s) (ha : ApartS E) {e : En} (he : e ∈ E) (hl : left (ks e.s) = true) (rb gb : Nat) : Cop E (fun z => left z && !z.sameKey (ks e.s)) (E2 ++ [⟨e.s, rb, gb, e.l⟩]) ∧ ∀ x ∈ E2, x.s ≠ e.s := by
  have hk : ∀ x ∈ E, (ks x.s).sameKey (ks e.s) = decide (x.s = e.s) := fun x hx => by
    rw [Bool.eq_iff_iff, WideAt.sameKey_iff (isKeyS _), decide_eq_true_eq]
    exact ⟨fun h => ks_inj (ok x hx) (ok e he) h, fun h => by rw [h]⟩
  refine ⟨⟨fun x hx hf => ?_, fun x hx => ?_⟩, fun x hx e1 => ?_⟩
  · simp only [hk x hx, Bool.and_eq_false_iff, Bool.not_eq_false', decide_eq_true_eq] at hf
    rcases hf with hf | hf
    · obtain ⟨y, h1, h2⟩ := h.iff x hx hf
      exact ⟨y, List.mem_append_left _ h1, h2⟩
    · have h1 := find_some ha hx
      have h2 := find_some ha he
      rw [hf, h2] at h1
      cases h1
      exact ⟨_, List.mem_append_right _ (List.mem_singleton_self _), rfl, rfl⟩
  · rcases List.mem_append.1 hx with hx | hx
    · obtain ⟨y, h1, h2, h3, h4⟩ := h.sub x hx
      exact ⟨y, h1, h2, h3, by simp only [h4, Bool.false_and]⟩
    · rw [List.mem_singleton] at hx
      subst hx
      exact ⟨e, he, rfl, rfl, by simp only [hk e he, decide_true, Bool.not_true, Bool.and_false]⟩
  · obtain ⟨y, h1, h2, h3, h4⟩ := h.sub x hx
    rw [h2, e1, hl] at h4
    cases h4
/-- The same samples. -/
def SameE (E E2 : List En) : Prop := (E2.map (fun e => (e.s, e.l))).Perm (E.map (fun e => (e.s, e.l)))
theorem nodup_sl {E : List En} (ha : ApartS E) : (E.map (fun e => (e.s, e.l))).Nodup := by
  refine List.pairwise_map.2 (ha.imp (fun {a b} h e => h ?_))
  rw [Prod.mk.injEq] at e
  exact e.1
theorem Cop.fin {E E2 : List En} {left : Lit → Bool} (h : Cop E left E2) (ha : ApartS E) (ha2 : ApartS E2) (hl : ∀ z, left z = false) : SameE E E2 := by
  refine (List.perm_ext_iff_of_nodup (nodup_sl ha2) (nodup_sl ha)).2 (fun p => ⟨fun hp => ?_, fun hp => ?_⟩)
  · obtain ⟨x, hx, rfl⟩ := List.mem_map.1 hp
    obtain ⟨e, h1, h2, h3, _⟩ := h.sub x hx
    exact List.mem_map.2 ⟨e, h1, by rw [h2, h3]⟩
  · obtain ⟨e, he, rfl⟩ := List.mem_map.1 hp
    obtain ⟨x, h1, h2, h3⟩ := h.iff e he (hl _)
    exact List.mem_map.2 ⟨x, h1, by rw [h2, h3]⟩
/-- A book that lies behind all that was. -/
def ApartBk (w w' : World) (b2 m2 n a : Nat) (E : List En) : Prop := ∃ E2, Bk w' b2 m2 n a E2 ∧ SameE E E2 ∧ (∀ g ∈ foot b2 m2 E2, w.heap.size ≤ g) ∧ Below w.heap.size w w'

set_option maxHeartbeats 8000000 in
theorem bcopy_any (w : World) (bb mb n a : Nat) (E : List En) (h : Bk w bb mb n a E) :
    Calls Try.prog 11 #[.pointer (some ⟨bb, 0, none⟩)] w fun r w' => ∃ b2 m2, r = .returned (.pointer (some ⟨b2, 0, none⟩)) ∧ ApartBk w w' b2 m2 n a E := by
  have mixed : Try.prog.follows .mixedOrders = true := by kernel_rfl
  obtain ⟨N, hN⟩ : ∃ N, N = w.heap.size := ⟨_, rfl⟩
  obtain ⟨w1, hw1⟩ : ∃ x, x = w.alloc (.map #[] 0) := ⟨_, rfl⟩
  obtain ⟨B2, hB2⟩ : ∃ B, B = N + 1 := ⟨_, rfl⟩
  obtain ⟨w2, hw2⟩ : ∃ x, x = w1.alloc (.cells #[.int .i64 (n : Int), .int .i64 (a : Int), .map (some N)] TB) := ⟨_, rfl⟩
  have z1 : w1.heap.size = B2 := by rw [hw1, hB2, hN]; simp
  have b01 : Below w.heap.size w w1 := hw1 ▸ (Below.refl _ _).alloc (Nat.le_refl _) _
  have b12 : Below w1.heap.size w1 w2 := hw2 ▸ (Below.refl _ _).alloc (Nat.le_refl _) _
  have b02 : Below w.heap.size w w2 := b01.trans (b12.mono b01.size)
  have k2 : w2.heap[B2]? = some (.cells #[.int .i64 (n : Int), .int .i64 (a : Int), .map (some N)] TB (0, 0)) := by rw [hw2, ← z1]; exact heap_alloc_new w1 _
  have m1 : MapS w1 N [] := by rw [hw1, hN]; exact MapS.made w
  have K2 : Bk w2 B2 N n a [] := ⟨k2, m1.keep (b12.block N (by omega)), h.hn, h.ha, by simp, by simp [foot]; omega, by simp⟩
  have h2 := h.gr b02
  have mk := @run_makeMap Try.prog
  have c0 := h.c0
  have c1 := h.c1
  have c2 : w2.cell? ⟨bb, 2, none⟩ = some (.map (some mb)) := h2.c2
  obtain ⟨D, own, hrd⟩ := h2.map
  obtain ⟨m, hmE⟩ : ∃ m, m = E.length := ⟨_, rfl⟩
  rw [← hmE] at own
  have HMAX : Maps.size D = m := by rw [hrd.size, hmE]
  have OW := Lib.hid own
  obtain ⟨R, hR⟩ : ∃ R, R = w2.heap.size := ⟨_, rfl⟩
  have hmbN : mb < N := by rw [hN]; exact h.map.lt
  have zR : R = N + 2 := by rw [hR, hw2, World.size_alloc, z1, hB2]
  have HW : Hid ((w.alloc (.map #[] 0)).alloc (.cells #[.int .i64 (n : Int), .int .i64 (a : Int), .map (some N)] TB) = w2 ∧ w.heap.size = N ∧ N + 1 = B2) := ⟨by rw [hw2, hw1], hN.symm, hB2.symm⟩
  have HH := Lib.hid (And.intro h2 (And.intro hrd (And.intro hmE (And.intro hR (And.intro hmbN (And.intro zR (And.intro hN (And.intro b02 (And.intro K2 (And.intro hB2 h))))))))))
  clear h own hrd hmE hR hmbN zR hN b02 K2 hw1 hw2 z1 b01 b12 k2 m1 h2 hB2
  go_enter Try.func11, Try.ntmps11
  go_upto_region 4 with fail
  rw [HW.out.2.1]
  rw [HW.out.2.2]
  rw [HW.out.1]
  go_wp2_with (first
    | (at_range; refine wpList_range_own _ rfl _ MS rfl KS PR lawS mapTS hS mb m D rfl OW.out ?_; intro w3 hrg3 hg3 hs3)
    | go_in)
  try go_frame
  rw [← HH.out.2.2.2.1] at hrg3 ⊢
  rw [HMAX] at hrg3
  have W3 : Hid (Below N w w3 ∧ Bk w3 B2 N n a [] ∧ w3.heap.size = R + 1) := by
    obtain ⟨h2, hrd, hmE, hR, hmbN, zR, hN, b02, K2, hB2, h00⟩ := HH.out
    have b3 : Below w2.heap.size w2 w3 := ⟨hg3.os, hg3.tape, hg3.output, hg3.size, fun g hg => hg3.block g hg (by simp)⟩
    exact ⟨by rw [hN]; exact b02.trans (b3.mono b02.size), K2.gr b3, by rw [hs3, hR]⟩
  have R0 := Lib.hid hrg3
  clear hrg3 hg3 hs3 OW HMAX c0 c1 c2 mk
  go_loopg [] m (fun g wr => ∃ (left : Lit → Bool) (cnt : Nat) (E2 : List En), cnt ≤ g ∧ E2.length + cnt ≤ m ∧ wr.ranges Try.prog KS hS mb R m D left cnt ∧ Hid (Bk wr B2 N n a E2 ∧ Cop E left E2 ∧ (∀ g ∈ foot B2 N E2, N ≤ g) ∧ Below N w wr ∧ ∀ z, left z = true → Maps.has D z = true))
  case atStart =>
    obtain ⟨h2, hrd, hmE, hR, hmbN, zR, hN, b02, K2, hB2, h00⟩ := HH.out
    refine ⟨_, m, [], Nat.le_refl _, by simp, R0.out, W3.out.2.1, ⟨fun e he hf => ?_, by simp⟩, fun g hg => ?_, W3.out.1, fun z hz => hz⟩
    · rw [hrd.has _ (hrd.ok e he), any_some he] at hf
      cases hf
    · rcases foot_mem.1 hg with rfl | rfl | ⟨e, he, _⟩
      · omega
      · omega
      · cases he
  case round =>
    obtain ⟨left, cnt, E2, hcnt, hpc, hrg, HX⟩ := hrel
    go_wp2_with (first
      | (at_next; refine wpList_next_ranges _ rfl _ rfl KS lawS hS (fun v : Value => v) (fun v : Value => v) (fun key _ _ => ⟨key, rfl⟩) (fun v _ _ => ⟨v, rfl⟩) mb R m D _ _ rfl hrg ?_ ?_)
      | go_in)
    · intro hc0 hl0
      obtain ⟨K, hcp, hf, low, _⟩ := HX.out
      have FIN : Hid (ApartBk w wr B2 N n a E) := by
        obtain ⟨h2, hrd, hmE, hR, hmbN, zR, hN, b02, K2, hB2, h00⟩ := HH.out
        exact ⟨E2, K, hcp.fin h2.apart K.apart hl0, by rw [← hN]; exact hf, by rw [← hN]; exact low⟩
      clear K hcp hf low hrg hl0 HX R0 hc0
      go_wp2
      go_ret
      exact ⟨_, _, rfl, FIN.out⟩
    · intro x cv klit y yp w4 cnt1 hkey hlx hv hat hrg4 hlt hg4 hs4 hen
      obtain ⟨K, hcp, hf, low, hsub⟩ := HX.out
      obtain ⟨h2, hrd, hmE, hR, hmbN, zR, hN, b02, K2, hB2, h00⟩ := HH.out
      have hkey' : keyOf Try.prog KS x = some klit := hkey
      obtain ⟨s, hs, rfl, rfl⟩ := ks_inv hkey'
      have hany : E.any (hitS s) = true := by rw [← hrd.has s hs]; exact hsub _ hlx
      obtain ⟨e, he, hes⟩ := List.any_eq_true.1 hany
      have hes' := hitS_iff.1 hes
      subst hes'
      have hc : cv = .pointer (some ⟨e.rb, 0, none⟩) := by
        have h1 : D.atKey (ks e.s) (.held (.bool false)) = y := hat _
        rw [hrd.ats e he] at h1
        have hv' : hS cv = some (y, yp) := hv
        simp only [hS, Option.some.injEq, Prod.mk.injEq] at hv'
        rw [← hv'.1] at h1
        simp only [DataW.held.injEq] at h1
        exact h1.symm
      subst hc
      have hrz := hrg.lt
      have t4 : Tch [R] wr w4 := Tch.ofGrown hg4 (fun g e => .inl (by simp at e; simp [e]))
      have hRf : ∀ g ∈ foot B2 N E2, g ∉ [R] := fun g hg hm => by
        rw [List.mem_singleton] at hm
        subst hm
        obtain ⟨o, ho, hc⟩ := ranges_iter hrg
        rcases foot_mem.1 hg with rfl | rfl | ⟨e', he', hg'⟩
        · rw [K.book] at ho; cases ho; cases hc
        · obtain ⟨D', ⟨es, c, q1, _⟩, _⟩ := K.map
          omega
        · obtain ⟨⟨cp, f, c, hrr, _⟩, _⟩ := K.each e' he'
          rcases hg' with rfl | rfl
          · rw [hrr.ring] at ho; cases ho; cases hc
          · obtain ⟨cs, q1, _⟩ := hrr.room
            rw [q1] at ho; cases ho; cases hc
      have K4 := K.tch t4 hRf
      have low4 : Below N w w4 := low.trans (t4.below (fun g hg => by rw [List.mem_singleton] at hg; omega) (by omega))
      obtain ⟨A, hA⟩ : ∃ A, A = w4.heap.size := ⟨_, rfl⟩
      obtain ⟨w5, hw5⟩ : ∃ w5, w5 = w4.alloc (.cells #[.string e.s.1, .string e.s.2] KS) := ⟨_, rfl⟩
      have b5 : Below w4.heap.size w4 w5 := hw5 ▸ (Below.refl _ _).alloc (Nat.le_refl _) _
      have k5 : w5.heap[A]? = some (.cells #[.string e.s.1, .string e.s.2] KS (0, 0)) := by rw [hw5, hA]; exact heap_alloc_new w4 _
      have K5 := K4.gr b5
      have low5 : Below N w w5 := low4.trans (b5.mono low4.size |>.mono (by have := low4.size; omega))
      have he5 := ((h00.gr (by rw [← hN]; exact low5)).each e he)
      have CC := Lib.hid (copyQ w5.drew e.rb e.gb n e.l (he5.1.drewN 1))
      have q2 : w5.cell? ⟨B2, 2, none⟩ = some (.map (some N)) := K5.c2
      have d0 : w5.cell? ⟨A, 0, none⟩ = some (.string e.s.1) := cell_of_block k5 0
      have d1 : w5.cell? ⟨A, 1, none⟩ = some (.string e.s.2) := cell_of_block k5 1
      have hen' : (Instr.entry (.pointer (some ⟨R, 0, none⟩))).run Try.prog w4 = .ok (.tuple #[.agg #[.string e.s.1, .string e.s.2], .pointer (some ⟨e.rb, 0, none⟩)]) w4 := hen
      have hE5 : E2.length < 512 := by have := h00.few; omega
      have hcp2 := hcp.next hrd.ok h2.apart he hlx
      have hne2 := (hcp2 0 0).2
      have PUT : Hid (∀ w6 rb2, ApartQ w5.drew w6 rb2 n e.l → (w6.cell? ⟨B2, 2, none⟩ = some (.map (some N)) ∧ w6.cell? ⟨A, 0, none⟩ = some (.string e.s.1) ∧ w6.cell? ⟨A, 1, none⟩ = some (.string e.s.2)) ∧ ∃ w7, (Instr.mapUpdate MS (.map (some N)) (.agg #[.string e.s.1, .string e.s.2]) (.pointer (some ⟨rb2, 0, none⟩))).run Try.prog w6 = .ok () w7 ∧
          ∃ E3, E3.length = E2.length + 1 ∧ w7.ranges Try.prog KS hS mb R m D (fun z => left z && !z.sameKey (ks e.s)) cnt1 ∧ Bk w7 B2 N n a E3 ∧ Cop E (fun z => left z && !z.sameKey (ks e.s)) E3 ∧ (∀ g ∈ foot B2 N E3, N ≤ g) ∧ Below N w w7 ∧ ∀ z, (left z && !z.sameKey (ks e.s)) = true → Maps.has D z = true) := fun w6 rb2 ⟨gb2, g1, g2, H6, b6⟩ => by
        have b6 : Below w5.heap.size w5 w6 := (Below.drewN' (Below.refl _ w5) 1).trans b6
        have g1 : w5.heap.size ≤ rb2 := g1
        have g2 : w5.heap.size ≤ gb2 := g2
        refine ⟨⟨(b6.cell (World.block_lt_of_cell? _ _ q2)).trans q2, (b6.cell (World.block_lt_of_cell? _ _ d0)).trans d0, (b6.cell (World.block_lt_of_cell? _ _ d1)).trans d1⟩, ?_⟩
        have K6 := K5.gr b6
        obtain ⟨w7, hr, m7, t7⟩ := K6.map.put (by unfold maxLen; omega) (e := ⟨e.s, rb2, gb2, e.l⟩) (hrd.ok e he) hne2
        have hne : rb2 ≠ gb2 := by obtain ⟨cp, f, c, g, _⟩ := H6; exact g.ne
        have hNl : N < w5.heap.size := K5.map.lt
        have H7 : HasQ w7 rb2 gb2 n e.l := H6.tch t7 (by rw [List.mem_singleton]; omega) (by rw [List.mem_singleton]; omega)
        obtain ⟨K7, t57⟩ := K5.join hE5 b6 g1 g2 hne he5.2 m7 t7 H7
        have hz5 := low5.size
        refine ⟨w7, hr, _, by simp, ?_, K7, hcp2 rb2 gb2 |>.1, fun g hg => ?_, low5.trans (t57.below (fun g hg => by rw [List.mem_singleton] at hg; omega) (by omega)), fun z hz => hsub z (by rw [Bool.and_eq_true] at hz; exact hz.1)⟩
        · have r5 : w5.ranges Try.prog KS hS mb R m D (fun z => left z && !z.sameKey (ks e.s)) cnt1 := by rw [hw5]; exact hrg4.alloc _
          exact ranges_keep r5 (t57.block mb r5.owns.lt (by rw [List.mem_singleton]; omega)) (t57.block R r5.lt (by rw [List.mem_singleton]; omega))
        · rcases foot_mem.1 hg with rfl | rfl | ⟨e', he', hg'⟩
          · omega
          · omega
          · rcases List.mem_append.1 he' with he' | he'
            · exact hf g (foot_mem.2 (.inr (.inr ⟨e', he', hg'⟩)))
            · rw [List.mem_singleton] at he'
              subst he'
              simp only at hg'
              rcases hg' with rfl | rfl <;> omega
      have HW5 : Hid (w4.alloc (.cells #[.string e.s.1, .string e.s.2] KS) = w5 ∧ w4.heap.size = A) := ⟨hw5.symm, hA.symm⟩
      have S0 : Hid (∀ ws : World, (ws.cell? ⟨B2, 2, none⟩ = some (.map (some N)) ∧ ws.cell? ⟨A, 0, none⟩ = some (.string e.s.1) ∧ ws.cell? ⟨A, 1, none⟩ = some (.string e.s.2)) → ws.cell? ⟨B2, 2, none⟩ = some (.map (some N)) ∧ ws.cell? ⟨A, 0, none⟩ = some (.string e.s.1) ∧ ws.cell? ⟨A, 1, none⟩ = some (.string e.s.2)) := fun ws h => h
      have SS : Hid (w5.drew.cell? ⟨B2, 2, none⟩ = some (.map (some N)) ∧ w5.drew.cell? ⟨A, 0, none⟩ = some (.string e.s.1) ∧ w5.drew.cell? ⟨A, 1, none⟩ = some (.string e.s.2)) := ⟨q2, d0, d1⟩
      have hlt' : cnt1 < cnt := hlt
      clear K hcp hf low hsub h2 hrd hmE hR hmbN zR hN b02 K2 hB2 h00 hkey hkey' hs hany hes he hen hrz t4 hRf K4 low4 hA hw5 b5 k5 K5 low5 he5 q2 d0 d1 hE5 hcp2 hne2 hg4 hs4 hrg4 hrg hlt HX hat hv hlx
      go_upto_region 7 with fail
      rw [HW5.out.1, HW5.out.2]
      refine wp_region_G (f := 7) (S := fun ws => ws.cell? ⟨B2, 2, none⟩ = some (.map (some N)) ∧ ws.cell? ⟨A, 0, none⟩ = some (.string e.s.1) ∧ ws.cell? ⟨A, 1, none⟩ = some (.string e.s.2)) mixed SS.out (fun hS' => ?_)
      have hS := hS'
      refine wpAnyG_takeD (i := 0) (d := 25) (v := .pointer (some ⟨B2, 0, none⟩)) _ rfl rfl (by kernel_rfl) (by kernel_rfl) (by kernel_rfl) (by kernel_rfl) (fun _ _ _ h => h) (Or.inl ⟨by kernel_rfl, fun ws hSw => by first | (go_simp; done) | (go_simp; with_reducible rfl) | (go_simp; rfl)⟩) hS ?_
      simp only [Act.put, List.setIfInBounds_toArray, List.set_cons_zero, List.set_cons_succ]
      refine wpAnyG_takeD (i := 1) (d := 26) (v := .pointer (some ⟨B2, 0, none⟩)) _ rfl rfl (by kernel_rfl) (by kernel_rfl) (by kernel_rfl) (by kernel_rfl) (fun _ _ _ h => h) (Or.inl ⟨by kernel_rfl, fun ws hSw => by first | (go_simp; done) | (go_simp; with_reducible rfl) | (go_simp; rfl)⟩) hS ?_
      simp only [Act.put, List.setIfInBounds_toArray, List.set_cons_zero, List.set_cons_succ]
      refine wpAnyG_takeD (i := 2) (d := 27) (v := .pointer (some ⟨B2, 2, none⟩)) _ rfl rfl (by kernel_rfl) (by kernel_rfl) (by kernel_rfl) (by kernel_rfl) (fun _ _ _ h => h) (Or.inl ⟨by kernel_rfl, fun ws hSw => by first | (go_simp; done) | (go_simp; with_reducible rfl) | (go_simp; rfl)⟩) hS ?_
      simp only [Act.put, List.setIfInBounds_toArray, List.set_cons_zero, List.set_cons_succ]
      refine wpAnyG_takeD (i := 3) (d := 28) (v := .map (some N)) _ rfl rfl (by kernel_rfl) (by kernel_rfl) (by kernel_rfl) (by kernel_rfl) (fun _ _ _ h => h) (Or.inl ⟨by kernel_rfl, fun ws hSw => by have q := S0.out ws hSw; first | (go_simp; done) | (go_simp; with_reducible rfl) | (go_simp; rfl)⟩) hS ?_
      simp only [Act.put, List.setIfInBounds_toArray, List.set_cons_zero, List.set_cons_succ]
      refine wpAnyG_takeD (i := 4) (d := 29) (v := .agg #[.string e.s.1, .string e.s.2]) _ rfl rfl (by kernel_rfl) (by kernel_rfl) (by kernel_rfl) (by kernel_rfl) (fun _ _ _ h => h) (Or.inl ⟨by kernel_rfl, fun ws hSw => by have q := S0.out ws hSw; first | (go_simp; done) | (go_simp; with_reducible rfl) | (go_simp; rfl)⟩) hS ?_
      simp only [Act.put, List.setIfInBounds_toArray, List.set_cons_zero, List.set_cons_succ]
      refine wpAnyG_takeD (i := 5) (d := 30) (v := .pointer (some ⟨e.rb, 0, none⟩)) _ rfl rfl (by kernel_rfl) (by kernel_rfl) (by kernel_rfl) (by kernel_rfl) (fun _ _ _ h => h) (Or.inl ⟨by kernel_rfl, fun ws hSw => by first | (go_simp; done) | (go_simp; with_reducible rfl) | (go_simp; rfl)⟩) hS ?_
      simp only [Act.put, List.setIfInBounds_toArray, List.set_cons_zero, List.set_cons_succ]
      refine wpAnyG_ready (rs := [6]) (by kernel_rfl) (by simp) ?_
      refine AllReadyG.cons rfl (fun K hK => ?_) AllReadyG.nil
      go_simp
      refine CC.out.mono ?_
      rintro r w6 ⟨rb2, rfl, hap⟩
      obtain ⟨s6, w7, hr7, E3, x1, x2, x3⟩ := PUT.out w6 rb2 hap
      have HR7 := Lib.hid hr7
      have X3 := Lib.hid x3
      have X1 := Lib.hid x1
      refine hK _ _ s6 (fun hS => ?_)
      clear hap hr7 x1 x3 CC PUT
      try simp only [Act.put, List.setIfInBounds_toArray, List.set_cons_zero, List.set_cons_succ]
      refine wpAnyG_ready (rs := [7]) (by kernel_rfl) (by simp) ?_
      refine AllReadyG.last rfl rfl (fun K hK => ?_)
      refine step_mapUpdateS (by rfl) _ _ _ MS rfl rfl rfl rfl HR7.out ?_
      refine hK _ _ ?_
      try simp only [Act.put, List.setIfInBounds_toArray, List.set_cons_zero, List.set_cons_succ]
      refine wpAnyG_done (by kernel_rfl) ?_
      go_wp2
      go_roundg cnt1
      case measure => omega
      case rel => exact ⟨_, cnt1, E3, Nat.le_refl _, by have := X1.out; omega, x2, X3⟩
end Go.Proofs.Ytlklbhjcohgmhaa
