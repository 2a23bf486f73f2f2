/- A book tells what the law's model has. -/
import Derived.Test.YtlklbhjcohgmhaaScV
import Derived.Test.YtlklbhjcohgmhaaScR
import Derived.Deep.CutBlock
namespace Go.Proofs.Ytlklbhjcohgmhaa
open Go.RowKit Go.Lib Go.Shelf Go.Sort
open Go.Joins (cell_of_block unfrozen_of_block block_setCell)
set_option linter.unusedVariables false
set_option linter.unusedSimpArgs false
set_option maxRecDepth 20000

theorem neq_smpQ (x : Int × Int) (w : World) : (binOp .neq TSQ (.agg #[.int .i64 x.1, .int .i64 x.2]) (.agg #[.int .i64 x.1, .int .i64 x.2])).run Try.prog w = .ok (.bool false) w := by
  have u3 := Try.underlying37
  have a3 := Try.isAgg37
  have z3 := Try.sizeOf37
  have u2 := Try.underlying2
  have a2 := Try.isAgg2
  have z2 := Try.sizeOf2
  have hS : Try.prog.underlying TSQ = some (.struct (Try.prog.fieldsOf TSQ)) := by kernel_rfl
  have hp : Try.prog.stoodInHeld TSQ = false := by kernel_rfl
  rw [run_neq_struct, show (10000 : Nat) = 9999 + 1 from rfl, run_equalIn_agg w 9999 TSQ _ _ hS hp]
  simp only [Program.fieldsOf, Try.underlying66]
  go_simp
theorem freV_snoc (now a : Int) (l : List (Int × Int)) (y : Int × Int) : freV now a (l ++ [y]) = if a < now - y.1 then 0 else y.2 := by unfold freV; simp
theorem freE_snoc (now a : Int) (l : List (Int × Int)) (y : Int × Int) : freE now a (l ++ [y]) = if a < now - y.1 then 13 else 0 := by unfold freE; simp
theorem take_snoc {L : List (Int × Int)} {j : Nat} {x : Int × Int} (h : L[j]? = some x) : L.take (j + 1) = L.take j ++ [x] := by
  obtain ⟨hl, rfl⟩ := List.getElem?_eq_some_iff.1 h
  exact List.take_succ_eq_append_getElem hl
theorem upto_take {now : Int} {L : List (Int × Int)} (hu : Up L) {j : Nat} (h1 : ∀ i x, L[i]? = some x → i < j → x.1 ≤ now) (h2 : ∀ x, L[j]? = some x → now < x.1) : upto now L = L.take j := by
  have e : L = L.take j ++ L.drop j := (List.take_append_drop j L).symm
  have a : upto now (L.take j) = L.take j := by
    unfold upto
    rw [List.filter_eq_self]
    intro x hx
    obtain ⟨i, hi⟩ := List.getElem?_of_mem hx
    have hij : i < j := by have := (List.getElem?_eq_some_iff.1 hi).1; rw [List.length_take] at this; omega
    rw [List.getElem?_take_of_lt hij] at hi
    exact decide_eq_true (h1 i x hi hij)
  have b : upto now (L.drop j) = [] := by
    unfold upto
    rw [List.filter_eq_nil_iff]
    intro x hx
    obtain ⟨i, hi⟩ := List.getElem?_of_mem hx
    rw [List.getElem?_drop] at hi
    have hji : j < L.length := by have := (List.getElem?_eq_some_iff.1 hi).1; omega
    have h0 := h2 _ (List.getElem?_eq_getElem hji)
    have : now < x.1 := by
      rcases Nat.eq_zero_or_pos i with hz | hz
      · subst hz
        rw [Nat.add_zero] at hi
        exact h2 x hi
      · obtain ⟨hl, e2⟩ := List.getElem?_eq_some_iff.1 hi
        have := List.pairwise_iff_getElem.1 hu j (j + i) hji hl (by omega)
        rw [e2] at this
        omega
    simp
    omega
  have c : upto now (L.take j ++ L.drop j) = upto now (L.take j) ++ upto now (L.drop j) := by unfold upto; exact List.filter_append ..
  rw [← e, a, b, List.append_nil] at c
  exact c
abbrev slE (e : En) : Sr × List (Int × Int) := (e.s, e.l)
abbrev slM (x : Me) : Sr × List (Int × Int) := (x.s, x.l)
theorem find_at (M : List Me) (s : Sr) : (∃ A x B, M = A ++ x :: B ∧ x.s = s ∧ ∀ y ∈ A, y.s ≠ s) ∨ ∀ y ∈ M, y.s ≠ s := by
  induction M with
  | nil => exact .inr (by simp)
  | cons z M ih =>
    by_cases h : z.s = s
    · exact .inl ⟨[], z, M, rfl, h, by simp⟩
    · rcases ih with ⟨A, x, B, rfl, h1, h2⟩ | h1
      · refine .inl ⟨z :: A, x, B, rfl, h1, fun y hy => ?_⟩
        rcases List.mem_cons.1 hy with rfl | hy
        · exact h
        · exact h2 y hy
      · refine .inr (fun y hy => ?_)
        rcases List.mem_cons.1 hy with rfl | hy
        · exact h
        · exact h1 y hy
/-- Where the model has a series: its samples are the book's. -/
theorem al_some {E : List En} {M : List Me} (ha : ApartS E) (al : E.map slE = M.map slM) {x : Me} (hx : x ∈ M) : ∃ e ∈ E, e.s = x.s ∧ e.l = x.l ∧ smpsOf E x.s = x.l := by
  have : slM x ∈ E.map slE := by rw [al]; exact List.mem_map.2 ⟨x, hx, rfl⟩
  obtain ⟨e, he, h1⟩ := List.mem_map.1 this
  rw [Prod.mk.injEq] at h1
  refine ⟨e, he, h1.1, h1.2, ?_⟩
  unfold smpsOf
  rw [← h1.1, find_some ha he]
  exact h1.2
theorem al_none {E : List En} {M : List Me} (al : E.map slE = M.map slM) {s : Sr} (h : ∀ y ∈ M, y.s ≠ s) : (∀ e ∈ E, e.s ≠ s) ∧ smpsOf E s = [] := by
  have h1 : ∀ e ∈ E, e.s ≠ s := fun e he h2 => by
    have : slE e ∈ M.map slM := by rw [← al]; exact List.mem_map.2 ⟨e, he, rfl⟩
    obtain ⟨x, hx, h3⟩ := List.mem_map.1 this
    rw [Prod.mk.injEq] at h3
    exact h x hx (by rw [h3.1, h2])
  refine ⟨h1, ?_⟩
  unfold smpsOf
  rw [find_none h1]

set_option maxHeartbeats 16000000 in
theorem sis_any (N : Nat) (w : World) (bb mb n a : Nat) (E : List En) (hB : Bk w bb mb n a E) (q : Option Addr) (c : Nat) (M : List Me) (row : w.ownsRow N TSer 3 (.slice q M.length c) M.length (flM M)) (mo : ∀ x ∈ M, MoQ N w x.q x.c x.l) (al : E.map slE = M.map slM)
    (now : Int) (hn : now ≤ 9223372036854775807) (s : Sr) (hk : OkS s) (hN : N ≤ w.heap.size) :
    Calls Try.prog 14 #[.pointer (some ⟨bb, 0, none⟩), .slice q M.length c, .int .i64 (a : Int), .int .i64 now, ser s] w fun r w' => r = .returned (.bool true) ∧ Below w.heap.size w w' := by
  have mixed : Try.prog.follows .mixedOrders = true := by kernel_rfl
  obtain ⟨w1, B, X⟩ := boxed w s
  have hB1 := hB.gr X.b
  obtain ⟨m, hm⟩ : ∃ m, m = M.length := ⟨_, rfl⟩
  have row1 : w1.ownsRow N TSer 3 (.slice q M.length c) M.length (flM M) := row_keep row (fun g hg => X.b.block g (row_blk row hg).2.1)
  have mo1 : ∀ x ∈ M, MoQ N w1 x.q x.c x.l := fun x hx => (mo x hx).gr X.b
  have hM : M.length ≤ 512 := by have := congrArg List.length al; simp at this; have := hB.few; omega
  obtain ⟨L, hL⟩ : ∃ L, L = smpsOf E s := ⟨_, rfl⟩
  obtain ⟨_, _, hpos, hfew⟩ := hB.pts hk
  -- where it is
  obtain ⟨rv, CF, hcase⟩ : ∃ rv : Int, Hid (Calls Try.prog 13 #[.slice q M.length c, ser s] w1 fun r w' => r = .returned (.int .i64 rv) ∧ Below w1.heap.size w1 w') ∧ ((rv = -1 ∧ L = []) ∨ ∃ (K : Nat) (x : Me), rv = (K : Int) ∧ M[K]? = some x ∧ x.l = L ∧ Up L) := by
    rcases find_at M s with ⟨A, x, Bm, hMe, hx, hA⟩ | hno
    · have hK : M[A.length]? = some x := by rw [hMe]; simp
      have hlt : A.length < M.length := (List.getElem?_eq_some_iff.1 hK).1
      have hxM : x ∈ M := List.mem_of_getElem? hK
      obtain ⟨e, he, h1, h2, h3⟩ := al_some hB.apart al hxM
      have C := find_k N w1 q c M row1 s A.length (by omega) (by omega) (fun j y hy hj => ?_) (fun y hy => by rw [hK] at hy; cases hy; exact hx)
      · rw [if_pos hlt] at C
        exact ⟨_, C, .inr ⟨A.length, x, rfl, hK, by rw [hL, ← hx, h3], by rw [hL, ← hx, h3, ← h2]; exact (hB.each e he).2.up⟩⟩
      · rw [hMe, List.getElem?_append_left hj] at hy
        exact hA y (List.mem_of_getElem? hy)
    · have C := find_k N w1 q c M row1 s M.length (Nat.le_refl _) (by omega) (fun j y hy _ => hno y (List.mem_of_getElem? hy)) (fun y hy => by simp at hy)
      rw [if_neg (by omega)] at C
      exact ⟨_, C, .inl ⟨rfl, by rw [hL]; exact (al_none al hno).2⟩⟩
  have b0 := X.c0
  have b1 := X.c1
  have HW : Hid (w.alloc (.cells #[.string s.1, .string s.2] KS) = w1 ∧ w.heap.size = B) := ⟨X.eq, X.at_⟩
  have HH := Lib.hid (And.intro hB1 (And.intro row1 (And.intro mo1 (And.intro hm (And.intro hL (And.intro hpos (And.intro hfew (And.intro hn (And.intro hk (And.intro X.b hN))))))))))
  have HC := Lib.hid hcase
  obtain ⟨inf, i1, i2, i3, i4⟩ := infoQ
  have HI := Lib.hid (And.intro i1 (And.intro i2 (And.intro i3 i4)))
  rw [← hm] at CF ⊢
  clear hB row mo al hB1 row1 mo1 hM hm hL hpos hfew hcase hn hk X hN i1 i2 i3 i4
  unfold ser at CF ⊢
  go_enter Try.func14, Try.ntmps14
  go_upto_region 3 with fail
  rw [HW.out.1, HW.out.2]
  go_wp2_with fail
  refine CF.out.mono ?_
  rintro r w2 ⟨rfl, b2⟩
  obtain ⟨P, hP⟩ : ∃ P, P = w2.heap.size := ⟨_, rfl⟩
  have W2 := Lib.hid (And.intro b2 hP)
  have d0 : w2.cell? ⟨B, 0, none⟩ = some (.string s.1) := (b2.cell (p := ⟨B, 0, none⟩) (World.block_lt_of_cell? _ _ b0)).trans b0
  have d1 : w2.cell? ⟨B, 1, none⟩ = some (.string s.2) := (b2.cell (p := ⟨B, 1, none⟩) (World.block_lt_of_cell? _ _ b1)).trans b1
  have HD := Lib.hid (And.intro d0 d1)
  clear b2 hP CF b0 b1 d0 d1
  go_upto_if 25 with fail
  go_cut [11, 12, 13] from 15 to 53 (fun v11 v12 v13 wc => ∃ q1 k c1 V Ex, v11 = .slice q1 k c1 ∧ v12 = .int .i64 V ∧ v13 = .int .i64 Ex ∧ Hid (V = freV now a (upto now L) ∧ Ex = freE now a (upto now L) ∧ k = (rowOf now a (upto now L)).length ∧ wc.ownsRow P TSQ 2 (.slice q1 k c1) k (flQ (rowOf now a (upto now L))) ∧ Below P w2 wc))
  case first =>
    rcases HC.out with ⟨rfl, hL0⟩ | ⟨K, x, rfl, hx, hxl, hup⟩
    · have NX : Hid ((0 : Int) = freV now a (upto now L) ∧ (7 : Int) = freE now a (upto now L) ∧ 0 = (rowOf now a (upto now L)).length ∧ w2.ownsRow P TSQ 2 (.slice none 0 0) 0 (flQ (rowOf now a (upto now L))) ∧ Below P w2 w2) := by
        rw [hL0]
        exact ⟨rfl, rfl, rfl, World.ownsRow_nil _ _ _ _, Below.refl _ _⟩
      clear hL0
      go_wp2_with fail
      go_meet
      case rel => exact ⟨none, 0, 0, 0, 7, rfl, rfl, rfl, NX⟩
    · obtain ⟨hB1, row1, mo1, hm, hL, hpos, hfew, hn, hk, hb, hN⟩ := HH.out
      obtain ⟨b2, hP⟩ := W2.out
      obtain ⟨g, rfl, hg1, hg2, _, _, r0, _⟩ := row_cells row1 hx
      have r0 : w2.cell? ⟨g, K * 3 + 2, none⟩ = some (.slice x.q x.l.length x.c) := (b2.cell (p := ⟨g, K * 3 + 2, none⟩) hg2).trans r0
      have hKm : K < m := by rw [hm]; exact (List.getElem?_eq_some_iff.1 hx).1
      have k0 : (0 : Int) ≤ (K : Int) := Int.natCast_nonneg _
      have k1 : (K : Int) < (m : Int) := by omega
      have mox : MoQ N w2 x.q x.c L := by rw [← hxl]; exact (mo1 x (List.mem_of_getElem? hx)).gr b2
      rw [hxl] at r0
      obtain ⟨qx, hqx⟩ : ∃ q, q = x.q := ⟨_, rfl⟩
      obtain ⟨cx, hcx⟩ : ∃ q, q = x.c := ⟨_, rfl⟩
      rw [← hqx, ← hcx] at r0 mox
      obtain ⟨len, hlen⟩ : ∃ l, l = L.length := ⟨_, rfl⟩
      rw [← hlen] at r0
      have hl32 : len ≤ 32 := by rw [hlen, hL]; exact hfew
      have S0 : Hid ((0 : Int) = freV now a (L.take 0) ∧ (7 : Int) = freE now a (L.take 0) ∧ 0 = (rowOf now a (L.take 0)).length ∧ w2.ownsRow P TSQ 2 (.slice none 0 0) 0 (flQ (rowOf now a (L.take 0))) ∧ Below P w2 w2 ∧ ∀ i y, L[i]? = some y → i < 0 → y.1 ≤ now) := ⟨rfl, rfl, rfl, World.ownsRow_nil _ _ _ _, Below.refl _ _, fun i y _ h => by omega⟩
      have HX := Lib.hid (And.intro mox (And.intro hlen (And.intro hup (And.intro (show ∀ y ∈ L, 0 ≤ y.1 from fun y hy => hpos y (by rw [← hL]; exact hy)) (And.intro hn (And.intro hP (show N ≤ P by have := hb.size; have := b2.size; omega)))))))
      clear hB1 row1 mo1 hm hL hpos hfew hn hk hb hN b2 hP hg1 hg2 hx hxl hup mox hqx hcx hlen
      go_wp2_with fail
      go_loopg [32, 11, 12, 13] len (fun gg vi v11 v12 v13 wr => ∃ (j : Nat) (q1 : Option Addr) (k c1 : Nat) (V Ex : Int), vi = .int .i64 (j : Int) ∧ v11 = .slice q1 k c1 ∧ v12 = .int .i64 V ∧ v13 = .int .i64 Ex ∧ j ≤ len ∧ len - j ≤ gg ∧ Hid (V = freV now a (L.take j) ∧ Ex = freE now a (L.take j) ∧ k = (rowOf now a (L.take j)).length ∧ wr.ownsRow P TSQ 2 (.slice q1 k c1) k (flQ (rowOf now a (L.take j))) ∧ Below P w2 wr ∧ ∀ i y, L[i]? = some y → i < j → y.1 ≤ now))
      case atStart => exact ⟨0, none, 0, 0, 0, 7, rfl, rfl, rfl, rfl, by omega, by omega, S0⟩
      case round =>
        obtain ⟨j, q1, k, c1, V, Ex, rfl, rfl, rfl, rfl, hj, hg, HR⟩ := hrel
        by_cases hlt : j < len
        · obtain ⟨hV, hE, hkk, own, low, hle⟩ := HR.out
          obtain ⟨mox, hlen, hup, hpos, hn, hP, hNP⟩ := HX.out
          obtain ⟨y, hy⟩ : ∃ y, L[j]? = some y := ⟨L[j]'(by omega), List.getElem?_eq_getElem (by omega)⟩
          obtain ⟨gq, o, rfl, _, hgl, a0, a1⟩ := mox.cells hy
          have a0 : wr.cell? ⟨gq, o + j * 2, none⟩ = some (.int .i64 y.1) := (low.cell (p := ⟨gq, o + j * 2, none⟩) (by show gq < P; omega)).trans a0
          have a1 : wr.cell? ⟨gq, o + j * 2 + 1, none⟩ = some (.int .i64 y.2) := (low.cell (p := ⟨gq, o + j * 2 + 1, none⟩) (by show gq < P; omega)).trans a1
          have hy0 := hpos y (List.mem_of_getElem? hy)
          have ht := take_snoc hy
          obtain ⟨O, hO⟩ : ∃ O, O = wr.heap.size := ⟨_, rfl⟩
          obtain ⟨w3, hw3⟩ : ∃ w3, w3 = wr.alloc (.cells #[.int .i64 y.1, .int .i64 y.2] TSQ) := ⟨_, rfl⟩
          have b3 : Below wr.heap.size wr w3 := hw3 ▸ (Below.refl _ _).alloc (Nat.le_refl _) _
          have k3 : w3.heap[O]? = some (.cells #[.int .i64 y.1, .int .i64 y.2] TSQ (0, 0)) := by rw [hw3, hO]; exact heap_alloc_new wr _
          have hPr : P ≤ wr.heap.size := by have := low.size; omega
          have low3 : Below P w2 w3 := low.trans (b3.mono hPr)
          have own3 : w3.ownsRow P TSQ 2 (.slice q1 k c1) k (flQ (rowOf now a (L.take j))) := by rw [hw3]; exact own.alloc _
          have e0 : w3.cell? ⟨O, 0, none⟩ = some (.int .i64 y.1) := cell_of_block k3 0
          have e1 : w3.cell? ⟨O, 1, none⟩ = some (.int .i64 y.2) := cell_of_block k3 1
          have HW3 : Hid (wr.alloc (.cells #[.int .i64 y.1, .int .i64 y.2] TSQ) = w3 ∧ wr.heap.size = O) := ⟨hw3.symm, hO.symm⟩
          have j0 : (0 : Int) ≤ (j : Int) := Int.natCast_nonneg _
          have j1 : (j : Int) < (len : Int) := by omega
          by_cases hgt : now < y.1
          · have NX : Hid (V = freV now a (upto now L) ∧ Ex = freE now a (upto now L) ∧ k = (rowOf now a (upto now L)).length ∧ w3.ownsRow P TSQ 2 (.slice q1 k c1) k (flQ (rowOf now a (upto now L))) ∧ Below P w2 w3) := by
              rw [upto_take hup hle (fun z hz => by rw [hy] at hz; cases hz; exact hgt)]
              exact ⟨hV, hE, hkk, own3, low3⟩
            have hgt' : decide (now < y.1) = true := decide_eq_true hgt
            obtain ⟨ya, yv⟩ := y
            simp only at a0 a1 e0 e1 hgt' HW3
            clear hV hE hkk own low hle mox hlen hup hpos hn hP hNP hy hgl hy0 ht hO hw3 b3 k3 hPr low3 own3 hgt HR S0
            go_upto_region 8 with fail
            rw [HW3.out.1, HW3.out.2]
            go_wp2_with fail
            go_meet
            case rel => exact ⟨_, _, _, _, _, rfl, rfl, rfl, NX⟩
          · have hle2 : ∀ i z, L[i]? = some z → i < j + 1 → z.1 ≤ now := fun i z hz hi => by
              rcases Nat.lt_or_ge i j with h | h
              · exact hle i z hz h
              · have : i = j := by omega
                subst this
                rw [hy] at hz
                cases hz
                omega
            have hngt : decide (now < y.1) = false := decide_eq_false hgt
            have WJ : IntKind.i64.wrap (now - y.1) = now - y.1 := IntWalk.i64_in _ (by omega)
            have hVn := freV_snoc now a (L.take j) y
            have hEn := freE_snoc now a (L.take j) y
            have hRn := row_next now a hy
            rw [← ht] at hVn hEn
            obtain ⟨ya, yv⟩ := y
            simp only at a0 a1 e0 e1 hngt HW3 WJ hVn hEn hRn
            obtain ⟨dt, hdt⟩ : ∃ d, d = now - ya := ⟨_, rfl⟩
            rw [← hdt] at WJ hVn hEn hRn
            have WJ' : IntKind.i64.wrap (now - ya) = dt := by rw [← hdt]; exact WJ
            by_cases hst : (a : Int) < dt
            · rw [if_pos hst] at hVn hEn hRn
              rw [List.append_nil] at hRn
              have NX : Hid ((0 : Int) = freV now a (L.take (j + 1)) ∧ (13 : Int) = freE now a (L.take (j + 1)) ∧ k = (rowOf now a (L.take (j + 1))).length ∧ w3.ownsRow P TSQ 2 (.slice q1 k c1) k (flQ (rowOf now a (L.take (j + 1)))) ∧ Below P w2 w3 ∧ ∀ i z, L[i]? = some z → i < j + 1 → z.1 ≤ now) := by
                rw [hRn]
                exact ⟨hVn.symm, hEn.symm, hkk, own3, low3, hle2⟩
              have hst' : decide ((a : Int) < dt) = true := decide_eq_true hst
              clear hV hE hkk own low hle mox hlen hup hpos hn hP hNP hy hgl hy0 ht hO hw3 b3 k3 hPr low3 own3 hgt HR S0 hVn hEn hRn hdt WJ hst hle2
              go_upto_region 8 with fail
              rw [HW3.out.1, HW3.out.2]
              go_wp2_with fail
              go_roundg (len - (j + 1))
              case measure => omega
              case rel => exact ⟨j + 1, _, _, _, _, _, by push_cast; rfl, rfl, rfl, rfl, by omega, by omega, NX⟩
            · rw [if_neg hst] at hVn hEn hRn
              have hst' : decide ((a : Int) < dt) = false := decide_eq_false hst
              obtain ⟨w5, hw5⟩ : ∃ w5, w5 = w3.alloc (.cells #[.int .i64 ya, .int .i64 yv] TSQ) := ⟨_, rfl⟩
              obtain ⟨Q, hQ⟩ : ∃ Q, Q = w3.heap.size := ⟨_, rfl⟩
              obtain ⟨acc, hacc⟩ : ∃ acc, acc = rowOf now a (L.take j) := ⟨_, rfl⟩
              rw [← hacc] at hkk own3 hRn
              have hk32 : k ≤ 32 := by
                have h1 := row_few now a (L.take j)
                rw [List.length_take] at h1
                rw [hkk, hacc]; omega
              have NEW : Hid (∀ (t : Nat) u, ([.int .i64 ya, .int .i64 yv] : List Value)[t]? = some u → w5.cell? ((⟨Q, 0, none⟩ : Addr).add t) = some u) := by
                have := World.news_of_block (w := w5) (B := Q) (cs := #[.int .i64 ya, .int .i64 yv]) (t := TSQ) (fr := (0, 0)) (by rw [hw5, hQ]; exact heap_alloc_new w3 _)
                exact this
              have hP3 : P ≤ w3.heap.size := by have := b3.size; omega
              have OWN : Hid (w5.ownsRow P TSQ 2 (.slice q1 k c1) k (flQ acc)) := by show World.ownsRow _ _ _ _ _ _ _; rw [hw5]; exact own3.alloc _
              have LOW5 : Hid (Below P w2 w5) := by show Below _ _ _; rw [hw5]; exact low3.alloc hP3 _
              have BS : Hid (P ≤ w5.heap.size) := by show _ ≤ _; rw [hw5]; simp; omega
              have HW5 : Hid (w3.alloc (.cells #[.int .i64 ya, .int .i64 yv] TSQ) = w5 ∧ w3.heap.size = Q) := ⟨hw5.symm, hQ.symm⟩
              have HN := Lib.hid (And.intro hVn (And.intro hEn (And.intro hRn (And.intro hkk hle2))))
              clear hV hE hkk own low hle mox hlen hup hpos hn hP hNP hy hgl hy0 ht hO hw3 b3 k3 hPr low3 own3 hgt HR S0 hVn hEn hRn hdt WJ hst hle2 hw5 hQ hacc hP3
              go_upto_region 8 with fail
              rw [HW3.out.1, HW3.out.2]
              go_wp2_with (at_builtin; rw [HW5.out.1, HW5.out.2]; refine wpList_append_lies _ rfl _ _ SlQ (by rfl) P TSQ inf (.agg #[.int .i64 0, .int .i64 0]) 2 16 Try.underlying42 HI.out.1 HI.out.2.1 HI.out.2.2.1 HI.out.2.2.2 rfl (by omega) (.slice q1 k c1) k (flQ acc) (by rfl) OWN.out ⟨Q, 0, none⟩ 1 1 [.int .i64 ya, .int .i64 yv] (by rfl) rfl NEW.out (by intro u hu; simp at hu; rcases hu with rfl | rfl <;> rfl) (by omega) (by unfold maxLen; omega) (by omega) BS.out _ rfl ?_; intro g6 cap w6 hown6 hgrow6 hat6 hlt6)
              have NX : Hid (yv = freV now a (L.take (j + 1)) ∧ (0 : Int) = freE now a (L.take (j + 1)) ∧ k + 1 = (rowOf now a (L.take (j + 1))).length ∧ w6.ownsRow P TSQ 2 (.slice (some ⟨g6, 0, none⟩) (k + 1) cap) (k + 1) (flQ (rowOf now a (L.take (j + 1)))) ∧ Below P w2 w6 ∧ ∀ i z, L[i]? = some z → i < j + 1 → z.1 ≤ now) := by
                obtain ⟨hVn, hEn, hRn, hkk, hle2⟩ := HN.out
                refine ⟨hVn.symm, hEn.symm, by rw [hRn, List.length_append, ← hkk]; rfl, by rw [hRn, fl_snocQ]; exact hown6, LOW5.out.grown hgrow6 BS.out (fun k e => (OWN.out.lt k e).1), hle2⟩
              clear hown6 hgrow6 hat6 hlt6 OWN BS NEW HN LOW5
              go_wp2_with fail
              go_roundg (len - (j + 1))
              case measure => omega
              case rel => exact ⟨j + 1, _, _, _, _, _, by push_cast; rfl, rfl, rfl, rfl, by omega, by omega, NX⟩
        · have hjl : j = len := by omega
          have NX : Hid (V = freV now a (upto now L) ∧ Ex = freE now a (upto now L) ∧ k = (rowOf now a (upto now L)).length ∧ wr.ownsRow P TSQ 2 (.slice q1 k c1) k (flQ (rowOf now a (upto now L))) ∧ Below P w2 wr) := by
            obtain ⟨hV, hE, hkk, own, low, hle⟩ := HR.out
            obtain ⟨mox, hlen, hup, hpos, hn, hP, hNP⟩ := HX.out
            rw [upto_take hup hle (fun z hz => by have := (List.getElem?_eq_some_iff.1 hz).1; omega)]
            exact ⟨hV, hE, hkk, own, low⟩
          clear HR S0 HX
          go_wp2_with fail
          go_meet
          case rel => exact ⟨_, _, _, _, _, rfl, rfl, rfl, NX⟩
  case rest =>
    obtain ⟨q1, k, c1, V, Ex, rfl, rfl, rfl, HZ⟩ := hcut
    have SET : Hid ((Calls Try.prog 16 #[.pointer (some ⟨bb, 0, none⟩), .int .i64 now, .agg #[.string s.1, .string s.2]] wc fun r w' => r = .returned (.tuple #[.int .i64 V, .int .i64 Ex]) ∧ Below wc.heap.size wc w') ∧ wc.cell? ⟨B, 0, none⟩ = some (.string s.1) ∧ wc.cell? ⟨B, 1, none⟩ = some (.string s.2) ∧ Bk wc bb mb n a E ∧ P ≤ wc.heap.size ∧ k ≤ 32 ∧ Below w.heap.size w wc) := by
      obtain ⟨hB1, row1, mo1, hm, hL, hpos, hfew, hn, hk, hb, hN⟩ := HH.out
      obtain ⟨b2, hP⟩ := W2.out
      obtain ⟨hV, hE, hkk, own, low⟩ := HZ.out
      have hBc := (hB1.gr b2).gr (by rw [← hP]; exact low)
      have C := fresh_any wc bb mb n a E hBc now s hk hn
      rw [← hL, ← hV, ← hE] at C
      refine ⟨C, ?_, ?_, hBc, by have := low.size; omega, ?_, (hb.trans (b2.mono hb.size)).trans (low.mono (by have := hb.size; have := b2.size; omega))⟩
      · exact (low.cell (p := ⟨B, 0, none⟩) (by have := World.block_lt_of_cell? _ _ HD.out.1; show B < P; have h2 : B < w2.heap.size := this; omega)).trans HD.out.1
      · exact (low.cell (p := ⟨B, 1, none⟩) (by have := World.block_lt_of_cell? _ _ HD.out.1; show B < P; have h2 : B < w2.heap.size := this; omega)).trans HD.out.2
      · rw [hkk]
        have h1 := row_few now a (upto now L)
        have h2 := upto_few now L
        rw [hL] at h1 h2 ⊢
        omega
    have CF := Lib.hid SET.out.1
    have f0 := SET.out.2.1
    have f1 := SET.out.2.2.1
    have hk32 := SET.out.2.2.2.2.2.1
    go_wp2_with fail
    refine CF.out.mono ?_
    rintro r w3 ⟨rfl, b3⟩
    have S3 : Hid ((Calls Try.prog 17 #[.pointer (some ⟨bb, 0, none⟩), .int .i64 now, .agg #[.string s.1, .string s.2]] w3 fun r w' => (∃ q2 c2, r = .returned (.slice q2 k c2) ∧ w'.ownsRow w3.heap.size TSQ 2 (.slice q2 k c2) k (flQ (rowOf now a (upto now L)))) ∧ Below w3.heap.size w3 w') ∧ w3.cell? ⟨B, 0, none⟩ = some (.string s.1) ∧ w3.cell? ⟨B, 1, none⟩ = some (.string s.2)) := by
      obtain ⟨hB1, row1, mo1, hm, hL, hpos, hfew, hn, hk, hb, hN⟩ := HH.out
      obtain ⟨hV, hE, hkk, own, low⟩ := HZ.out
      have C := row_any w3 bb mb n a E (SET.out.2.2.2.1.gr b3) now s hk hn
      rw [← hL, ← hkk] at C
      exact ⟨C, (b3.cell (World.block_lt_of_cell? _ _ f0)).trans f0, (b3.cell (World.block_lt_of_cell? _ _ f1)).trans f1⟩
    have B3 := Lib.hid b3
    have CR := Lib.hid S3.out.1
    have g0 := S3.out.2.1
    have g1 := S3.out.2.2
    clear b3 CF f0 f1
    go_wp2_with fail
    refine CR.out.mono ?_
    rintro r w4 ⟨⟨q2, c2, rfl, own2⟩, b4⟩
    have FIN : Hid (∀ t, Below w.heap.size w (w4.drewN t)) := fun t => by
      have h1 := SET.out.2.2.2.2.2.2
      have h2 := B3.out.size
      have h3 := h1.size
      exact Below.drewN' ((h1.trans (B3.out.mono h3)).trans (b4.mono (by omega))) t
    have ROWS : Hid (∀ (j : Nat) (t : Nat), j < k → ∃ g1 g2 : Nat, ∃ y : Int × Int, q1 = some ⟨g1, 0, none⟩ ∧ q2 = some ⟨g2, 0, none⟩ ∧ (w4.drewN t).cell? ⟨g1, j * 2, none⟩ = some (.int .i64 y.1) ∧ (w4.drewN t).cell? ⟨g1, j * 2 + 1, none⟩ = some (.int .i64 y.2) ∧ (w4.drewN t).cell? ⟨g2, j * 2, none⟩ = some (.int .i64 y.1) ∧ (w4.drewN t).cell? ⟨g2, j * 2 + 1, none⟩ = some (.int .i64 y.2)) := fun j t hj => by
      obtain ⟨hV, hE, hkk, own, low⟩ := HZ.out
      obtain ⟨y, hy⟩ : ∃ y, (rowOf now a (upto now L))[j]? = some y := ⟨_, List.getElem?_eq_getElem (by omega)⟩
      obtain ⟨h1, e1, _, l1, a0, a1⟩ := own_atQ own hkk.symm hy
      obtain ⟨h2, e2, _, l2, a2, a3⟩ := own_atQ own2 hkk.symm hy
      have l3 : h1 < w3.heap.size := by have := B3.out.size; omega
      exact ⟨h1, h2, y, e1, e2, (b4.cell (p := ⟨h1, j * 2, none⟩) l3).trans ((B3.out.cell (p := ⟨h1, j * 2, none⟩) l1).trans a0), (b4.cell (p := ⟨h1, j * 2 + 1, none⟩) l3).trans ((B3.out.cell (p := ⟨h1, j * 2 + 1, none⟩) l1).trans a1), a2, a3⟩
    have NE : Hid (∀ y : Int × Int, ∀ ws : World, (binOp .neq TSQ (.agg #[.int .i64 y.1, .int .i64 y.2]) (.agg #[.int .i64 y.1, .int .i64 y.2])).run Try.prog ws = .ok (.bool false) ws) := fun y ws => neq_smpQ y ws
    have S0 : Hid (∃ t, w4 = w4.drewN t) := ⟨0, rfl⟩
    clear own2 b4 CR g0 g1 S3 B3 SET HZ
    go_wp2_with fail
    go_loopg [81] k (fun gg vi wr => ∃ j : Nat, vi = .int .i64 (j : Int) ∧ j ≤ k ∧ k - j ≤ gg ∧ Hid (∃ t, wr = w4.drewN t))
    case atStart => exact ⟨0, rfl, by omega, by omega, S0⟩
    case round =>
      obtain ⟨j, rfl, hj, hg, HR⟩ := hrel
      obtain ⟨t, hwt⟩ := HR.out
      have KW := Lib.hid hwt
      by_cases hlt : j < k
      · obtain ⟨h1, h2, y, rfl, rfl, a0, a1, a2, a3⟩ := ROWS.out j t hlt
        rw [← hwt] at a0 a1 a2 a3
        have ne := NE.out y
        obtain ⟨ya, yv⟩ := y
        simp only at a0 a1 a2 a3 ne
        have j0 : (0 : Int) ≤ (j : Int) := Int.natCast_nonneg _
        have j1 : (j : Int) < (k : Int) := by omega
        clear hwt
        go_upto_region 21 with fail
        go_quiet (fail)
        have NX : Hid (∃ t, wr.drewN nq = w4.drewN t) := ⟨t + nq, by rw [KW.out]; exact World.drewN_drewN _ _ _⟩
        go_wp2_with fail
        go_roundg (k - (j + 1))
        case measure => omega
        case rel => exact ⟨j + 1, by push_cast; rfl, by omega, by omega, NX⟩
      · have F := Lib.hid (FIN.out t)
        rw [← hwt] at F
        clear hwt
        go_wp2
        go_ret
        exact ⟨rfl, F.out⟩
end Go.Proofs.Ytlklbhjcohgmhaa
