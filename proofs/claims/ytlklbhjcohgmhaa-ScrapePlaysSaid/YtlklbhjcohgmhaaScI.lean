/- All series of a subject go: Forget. -/
import Derived.Test.YtlklbhjcohgmhaaScC
import Derived.Test.YtlklbhjcohgmhaaObN
namespace Go.Proofs.Ytlklbhjcohgmhaa
open Go.RowKit Go.Shelf Go.Lib Go.Sort
open Go.Maps (Keyed IsMap Tidy)
open Go.Joins (cell_of_block unfrozen_of_block block_setCell)
set_option linter.unusedVariables false
set_option linter.unusedSimpArgs false
set_option maxRecDepth 20000

theorem str_eq (a b : ByteArray) : (a.toList == b.toList) = decide (a = b) := by
  rw [ByteArray.toList_eq, ByteArray.toList_eq, Bool.eq_iff_iff, beq_iff_eq, decide_eq_true_eq]
  refine ⟨fun h => ?_, fun h => by rw [h]⟩
  obtain ⟨⟨x⟩⟩ := a
  obtain ⟨⟨y⟩⟩ := b
  have : x = y := h
  rw [this]
theorem of_any (w : World) (s : Sr) (p : ByteArray) (v : Value) (P : Nat) (hP : w.cell? ⟨P, 0, none⟩ = some (.string p)) :
    Calls Try.prog 23 #[ser s, v, .pointer (some ⟨P, 0, none⟩)] w fun r w' => r = .returned (.bool (decide (s.1 = p))) ∧ Below w.heap.size w w' := by
  obtain ⟨w1, N, B⟩ := boxed w s
  have b0 := B.c0
  have HW : Hid (w.alloc (.cells #[.string s.1, .string s.2] KS) = w1 ∧ w.heap.size = N) := ⟨B.eq, B.at_⟩
  have HB := Lib.hid B.b
  have p0 : w1.cell? ⟨P, 0, none⟩ = some (.string p) := (B.b.cell (p := ⟨P, 0, none⟩) (World.block_lt_of_cell? _ _ hP)).trans hP
  have se := str_eq s.1 p
  obtain ⟨eb, he⟩ : ∃ e, e = decide (s.1 = p) := ⟨_, rfl⟩
  rw [← he] at se ⊢
  clear B hP he
  unfold ser
  go_enter Try.func23, Try.ntmps23
  go_upto_region 1 with fail
  rw [HW.out.1, HW.out.2]
  go_wp2
  go_ret
  exact ⟨rfl, HB.out⟩

/-- Those of a map that aren't of a subject, or are still to come. -/
def leftS (p : ByteArray) (left : Lit → Bool) (E : List En) : List En := E.filter (fun e => !decide (e.s.1 = p) || left (ks e.s))
def without (p : ByteArray) (E : List En) : List En := E.filter (fun e => !decide (e.s.1 = p))
theorem same_ks {s t : Sr} (hs : OkS s) (ht : OkS t) : (ks s).sameKey (ks t) = decide (s = t) := by
  rw [Bool.eq_iff_iff, WideAt.sameKey_iff (isKeyS _), decide_eq_true_eq]
  exact ⟨fun h => ks_inj hs ht h, fun h => by rw [h]⟩
theorem leftS_end {p : ByteArray} {left : Lit → Bool} {E : List En} (h : ∀ z, left z = false) : leftS p left E = without p E := List.filter_congr (fun e _ => by rw [h]; simp)
theorem leftS_all {p : ByteArray} {left : Lit → Bool} {E : List En} (h : ∀ e ∈ E, left (ks e.s) = true) : leftS p left E = E := by
  unfold leftS
  rw [List.filter_eq_self]
  intro e he
  rw [h e he]
  simp
theorem leftS_hit {p : ByteArray} {left : Lit → Bool} {E : List En} {s : Sr} (hs : OkS s) (ok : ∀ e ∈ E, OkS e.s) (h : s.1 = p) : leftS p (fun z => left z && !z.sameKey (ks s)) E = (leftS p left E).filter (fun e => !hitS s e) := by
  unfold leftS
  rw [List.filter_filter]
  refine List.filter_congr (fun e he => ?_)
  simp only [same_ks (ok e he) hs]
  unfold hitS
  by_cases h1 : e.s = s
  · rw [h1]
    simp [h]
  · simp [h1]
theorem leftS_miss {p : ByteArray} {left : Lit → Bool} {E : List En} {s : Sr} (hs : OkS s) (ok : ∀ e ∈ E, OkS e.s) (h : s.1 ≠ p) : leftS p (fun z => left z && !z.sameKey (ks s)) E = leftS p left E := by
  unfold leftS
  refine List.filter_congr (fun e he => ?_)
  simp only [same_ks (ok e he) hs]
  by_cases h1 : e.s = s
  · rw [h1]
    simp [h]
  · simp [h1]

set_option maxHeartbeats 4000000 in
theorem delf_any (w : World) (mb : Nat) (E : List En) (h : MapS w mb E) (p : ByteArray) (P : Nat) (hP : w.cell? ⟨P, 0, none⟩ = some (.string p)) :
    Calls Try.prog 22 #[.map (some mb), .func (.func 23) #[] #[.pointer (some ⟨P, 0, none⟩)]] w fun r w' => r = .returned (.tuple #[]) ∧ MapS w' mb (without p E) ∧ Tch [mb] w w' := by
  obtain ⟨D, own, hrd⟩ := h
  have hmb : mb < w.heap.size := by obtain ⟨es, c, h1, _⟩ := own; exact (Array.getElem?_eq_some_iff.1 h1).1
  have hPl : P < w.heap.size := World.block_lt_of_cell? _ _ hP
  have hPm : P ≠ mb := by
    rintro rfl
    obtain ⟨es, c, h1, _⟩ := own
    unfold World.cell? at hP
    rw [h1] at hP
    simp at hP
  obtain ⟨n, hn⟩ : ∃ n, n = E.length := ⟨_, rfl⟩
  rw [← hn] at own
  obtain ⟨N, hN⟩ : ∃ N, N = w.heap.size := ⟨_, rfl⟩
  have OW := Lib.hid own
  have HH := Lib.hid (And.intro hrd (And.intro hmb (And.intro hPl (And.intro hPm (And.intro hn (And.intro hN hP))))))
  have HMAX : Maps.size D = n := by rw [hrd.size, hn]
  clear hrd hmb hPl hPm hn own hP
  go_enter Try.func22, Try.ntmps22
  go_wp2_with (first
    | (at_range; refine wpList_range_own _ rfl _ MS rfl KS PR lawS mapTS hS mb n D rfl OW.out ?_; intro w0 hrg0 hg0 hs0)
    | go_in)
  go_frame
  rw [← hN] at hrg0 ⊢
  rw [HMAX] at hrg0
  have T0 : Hid (Tch [mb] w w0) := Tch.ofGrown hg0 (fun g e => by cases e)
  have R0 := Lib.hid hrg0
  clear hrg0 hg0 hs0 hN OW HMAX
  go_loopg [] n (fun g wr => ∃ (left : Lit → Bool) (cnt : Nat) (D' : DataW Value), cnt ≤ g ∧ wr.ranges Try.prog KS hS mb N n D' left cnt ∧ Hid (Rd D' (leftS p left E) ∧ Tch [mb] w wr ∧ ∀ z, left z = true → Maps.has D' z = true))
  case atStart =>
    refine ⟨_, n, D, Nat.le_refl _, R0.out, ?_, T0.out, fun z hz => hz⟩
    obtain ⟨hrd, _⟩ := HH.out
    rw [leftS_all (fun e he => by rw [hrd.has _ (hrd.ok e he), any_some he])]
    exact hrd
  case round =>
    obtain ⟨left, cnt, D', hcnt, hrg, HX⟩ := hrel
    go_wp2_with (first
      | (at_next; refine wpList_next_ranges _ rfl _ rfl KS lawS hS (fun v : Value => v) (fun v : Value => v) (fun key _ _ => ⟨key, rfl⟩) (fun v _ _ => ⟨v, rfl⟩) mb N n D' _ _ rfl hrg ?_ ?_)
      | go_in)
    · intro hc0 hl0
      obtain ⟨hrd, t, _⟩ := HX.out
      rw [leftS_end hl0] at hrd
      have FIN : Hid (MapS wr mb (without p E) ∧ Tch [mb] w wr) := ⟨.of hrg.owns hrd, t⟩
      clear hrd t hrg hl0 HX R0 T0
      go_wp2
      go_end0
      exact ⟨rfl, FIN.out⟩
    · intro x cv klit y yp w1 cnt1 hkey hlx hv hat hrg1 hlt hg1 hs1 hen
      obtain ⟨hrd, t, hsub⟩ := HX.out
      obtain ⟨hrd0, hmb, hPl, hPm, hn, hN, hP⟩ := HH.out
      have hkey' : keyOf Try.prog KS x = some klit := hkey
      obtain ⟨s, hs, rfl, rfl⟩ := ks_inv hkey'
      have hen' : (Instr.entry (.pointer (some ⟨N, 0, none⟩))).run Try.prog w1 = .ok (.tuple #[.agg #[.string s.1, .string s.2], cv]) w1 := hen
      obtain ⟨B, hB⟩ : ∃ B, B = w1.heap.size := ⟨_, rfl⟩
      obtain ⟨wb, hwb⟩ : ∃ x, x = w1.alloc (.cells #[.string s.1, .string s.2] KS) := ⟨_, rfl⟩
      have bb : Below w1.heap.size w1 wb := hwb ▸ (Below.refl _ _).alloc (Nat.le_refl _) _
      have eb : wb.heap[B]? = some (.cells #[.string s.1, .string s.2] KS (0, 0)) := by rw [hwb, hB]; exact heap_alloc_new w1 _
      have t1 : Tch [mb] w w1 := t.trans (Tch.ofGrown (S := [N]) hg1 (fun g e => .inl (by simp at e; simp [e]))) (fun g hg => .inr (by simp at hg; omega))
      have p1 : wb.cell? ⟨P, 0, none⟩ = some (.string p) := by
        have a1 : w1.cell? ⟨P, 0, none⟩ = some (.string p) := (World.cell?_of_block (t1.block P hPl (by simpa using hPm))).trans hP
        exact (bb.cell (p := ⟨P, 0, none⟩) (World.block_lt_of_cell? _ _ a1)).trans a1
      have CC := Lib.hid (of_any wb s p cv P p1)
      have d0 : wb.cell? ⟨B, 0, none⟩ = some (.string s.1) := cell_of_block eb 0
      have d1 : wb.cell? ⟨B, 1, none⟩ = some (.string s.2) := cell_of_block eb 1
      have HWB : Hid (w1.alloc (.cells #[.string s.1, .string s.2] KS) = wb ∧ w1.heap.size = B) := ⟨hwb.symm, hB.symm⟩
      have HK : Hid (keyOf Try.prog KS (.agg #[.string s.1, .string s.2]) = some (ks s)) := ks_at hs
      have HS := Lib.hid hs
      have NB : Hid (∀ w2, Below wb.heap.size wb w2 → w2.ranges Try.prog KS hS mb N n D' (fun z => left z && !z.sameKey (ks s)) cnt1 ∧ Tch [mb] w w2 ∧ w2.cell? ⟨B, 0, none⟩ = some (.string s.1) ∧ w2.cell? ⟨B, 1, none⟩ = some (.string s.2)) := fun w2 b => by
        have b12 : Below w1.heap.size w1 w2 := bb.trans (b.mono bb.size)
        exact ⟨hrg1.kept (row := none) ⟨b12.os, b12.tape, b12.output, b12.size, fun i hi _ => b12.block i hi⟩ (by simp) (by simp), t1.trans (Tch.ofBelow b12 []) (by simp), (b.cell (p := ⟨B, 0, none⟩) (World.block_lt_of_cell? _ _ d0)).trans d0, (b.cell (p := ⟨B, 1, none⟩) (World.block_lt_of_cell? _ _ d1)).trans d1⟩
      have okE : ∀ e ∈ E, OkS e.s := hrd0.ok
      have hlt' : cnt1 < cnt := hlt
      have HX2 := Lib.hid (And.intro hrd (And.intro hsub okE))
      unfold ser at CC
      clear hrd t hsub hrd0 hmb hPl hPm hn hN hkey hkey' hen hwb hB bb eb t1 p1 hg1 hs1 hrg1 hrg hlt HX hat hv hP hs
      go_upto_region 3 with fail
      rw [HWB.out.1, HWB.out.2]
      by_cases hp : s.1 = p
      · rw [decide_eq_true hp] at CC
        have HP := Lib.hid hp
        clear hp
        go_wp2_with fail
        refine CC.out.mono ?_
        rintro r w2 ⟨rfl, b2⟩
        obtain ⟨hrg2, t2, e0, e1⟩ := NB.out w2 b2
        clear b2 d0 d1
        go_wp2_with (first
          | (at_delete; refine wpList_delete_ranges _ rfl _ _ MS KS rfl PR lawS mapTS _ mb N n _ _ _ rfl hrg2 _ _ rfl HK.out ?_; intro w3 cnt3 hrg3 hle hturn; go_frame)
          | go_in)
        rw [Maps.strike_twice] at hrg3
        have NX : Hid (Rd (D'.del (ks s)) (leftS p (fun z => left z && !z.sameKey (ks s)) E) ∧ Tch [mb] w w3 ∧ ∀ z, (left z && !z.sameKey (ks s)) = true → Maps.has (D'.del (ks s)) z = true) := by
          obtain ⟨hrd, hsub, okE⟩ := HX2.out
          refine ⟨?_, t2.trans (turned_tch hturn) (fun g hg => .inl hg), fun z hz => ?_⟩
          · rw [leftS_hit HS.out okE HP.out]
            exact hrd.del (hrg2.owns.tidy lawS) HS.out
          · rw [Bool.and_eq_true] at hz
            have hne : z ≠ ks s := fun e => by
              rw [e, (WideAt.sameKey_iff (isKeyS s)).2 rfl] at hz
              cases hz.2
            rw [Maps.has_del_other hne]
            exact hsub z hz.1
        clear hrg2 t2 e0 e1 hturn
        go_roundg cnt3
        case rel => exact ⟨_, cnt3, _, Nat.le_refl _, hrg3, NX⟩
        case measure => omega
      · rw [decide_eq_false hp] at CC
        have HP : Hid (s.1 ≠ p) := hp
        clear hp
        go_wp2_with fail
        refine CC.out.mono ?_
        rintro r w2 ⟨rfl, b2⟩
        obtain ⟨hrg2, t2, e0, e1⟩ := NB.out w2 b2
        have NX : Hid (Rd D' (leftS p (fun z => left z && !z.sameKey (ks s)) E) ∧ Tch [mb] w w2 ∧ ∀ z, (left z && !z.sameKey (ks s)) = true → Maps.has D' z = true) := by
          obtain ⟨hrd, hsub, okE⟩ := HX2.out
          refine ⟨?_, t2, fun z hz => hsub z ?_⟩
          · rw [leftS_miss HS.out okE HP.out]
            exact hrd
          · rw [Bool.and_eq_true] at hz
            exact hz.1
        clear b2 d0 d1 e0 e1 t2
        go_wp2
        go_roundg cnt1
        case rel => exact ⟨_, cnt1, _, Nat.le_refl _, hrg2, NX⟩
        case measure => omega

theorem flat_sub {α β : Type} (f : α → List β) {l l' : List α} (h : List.Sublist l' l) : List.Sublist (l'.flatMap f) (l.flatMap f) := by
  induction h with
  | slnil => exact List.Sublist.refl _
  | cons a h ih => rw [List.flatMap_cons]; exact ih.trans (List.sublist_append_right _ _)
  | cons_cons a h ih => rw [List.flatMap_cons, List.flatMap_cons]; exact (List.Sublist.refl _).append ih
theorem foot_less {bb mb : Nat} {E E' : List En} (h : List.Sublist E' E) : List.Sublist (foot bb mb E') (foot bb mb E) := by
  unfold foot
  exact List.Sublist.cons_cons _ (List.Sublist.cons_cons _ (flat_sub _ h))
theorem Bk.less {w w' : World} {bb mb n a : Nat} {E : List En} (h : Bk w bb mb n a E) (p : ByteArray) (m : MapS w' mb (without p E)) (t : Tch [mb] w w') : Bk w' bb mb n a (without p E) := by
  have sub : List.Sublist (without p E) E := List.filter_sublist
  have hn := h.blks
  have off : ∀ g, g = bb ∨ (∃ e ∈ E, g = e.rb ∨ g = e.gb) → g ∉ [mb] := fun g hg hm => by
    rw [List.mem_singleton] at hm
    subst hm
    unfold foot at hn
    rw [List.nodup_cons, List.nodup_cons] at hn
    rcases hg with rfl | ⟨e, he, hg⟩
    · exact hn.1 List.mem_cons_self
    · exact hn.2.1 (List.mem_flatMap.2 ⟨e, he, by simpa using hg⟩)
  refine ⟨(t.block bb (h.lt bb (foot_mem.2 (.inl rfl))) (off bb (.inl rfl))).trans h.book, m, h.hn, h.ha, fun e he => ?_, hn.sublist (foot_less sub), Nat.le_trans sub.length_le h.few⟩
  have he' := sub.subset he
  obtain ⟨k1, k2⟩ := h.each e he'
  exact ⟨k1.tch t (off _ (.inr ⟨e, he', .inl rfl⟩)) (off _ (.inr ⟨e, he', .inr rfl⟩)), k2⟩

set_option maxHeartbeats 4000000 in
theorem forget_any (w : World) (bb mb n a : Nat) (E : List En) (h : Bk w bb mb n a E) (p : ByteArray) :
    Calls Try.prog 10 #[.pointer (some ⟨bb, 0, none⟩), .string p] w fun r w' => r = .returned (.int .i64 ((E.length - (without p E).length : Nat) : Int)) ∧ Bk w' bb mb n a (without p E) ∧ Tch [mb] w w' := by
  have mixed : Try.prog.follows .mixedOrders = true := by kernel_rfl
  have hmf : ∀ (fn : Fn) (first cap : Array Value) (w : World), (Instr.makeFunc fn first cap).run Try.prog w = .ok (.func fn first cap) w := fun _ _ _ _ => rfl
  obtain ⟨N, hN⟩ : ∃ N, N = w.heap.size := ⟨_, rfl⟩
  obtain ⟨w1, hw1⟩ : ∃ x, x = w.alloc (.cells #[.string p] 9) := ⟨_, rfl⟩
  have b1 : Below w.heap.size w w1 := hw1 ▸ (Below.refl _ _).alloc (Nat.le_refl _) _
  have k1 : w1.heap[N]? = some (.cells #[.string p] 9 (0, 0)) := by rw [hw1, hN]; exact heap_alloc_new w _
  have h1 := h.gr b1
  have c2 := h1.c2
  have ln : ∀ ty, (Builtin.len_ #[MS] ty #[.map (some mb)]).run Try.prog w1 = .ok (.int .i64 (E.length : Int)) w1 := fun ty => h1.map.len ty
  have CD := Lib.hid (delf_any w1 mb E h1.map p N (cell_of_block k1 0))
  have HW : Hid (w.alloc (.cells #[.string p] 9) = w1 ∧ w.heap.size = N) := ⟨hw1.symm, hN.symm⟩
  obtain ⟨m, hm⟩ : ∃ m, m = E.length := ⟨_, rfl⟩
  have hle : (without p E).length ≤ m := by rw [hm]; exact List.length_filter_le _ _
  have hm512 : m ≤ 512 := by rw [hm]; exact h.few
  obtain ⟨l, hl⟩ : ∃ l, l = (without p E).length := ⟨_, rfl⟩
  rw [← hm] at ln ⊢
  rw [← hl] at hle ⊢
  have WS : IntKind.i64.wrap ((m : Int) - (l : Int)) = ((m - l : Nat) : Int) := by rw [show (m : Int) - (l : Int) = ((m - l : Nat) : Int) by omega]; exact IntWalk.i64_in _ (by omega)
  have HH := Lib.hid (And.intro h1 (And.intro b1 hl))
  clear h h1 b1 k1 hw1 hN hm hl hle hm512
  go_enter Try.func10, Try.ntmps10
  go_upto_region 3 with fail
  rw [HW.out.1, HW.out.2]
  go_wp2_with fail
  refine CD.out.mono ?_
  rintro r w2 ⟨rfl, m2, t2⟩
  obtain ⟨h1, b1, hl⟩ := HH.out
  have h2 := h1.less p m2 t2
  have c22 := h2.c2
  have ln2 : ∀ ty, (Builtin.len_ #[MS] ty #[.map (some mb)]).run Try.prog w2 = .ok (.int .i64 (l : Int)) w2 := fun ty => by rw [hl]; exact h2.map.len ty
  have FIN : Hid (Bk w2 bb mb n a (without p E) ∧ Tch [mb] w w2) := ⟨h2, (Tch.ofBelow b1 [mb]).trans t2 (fun g hg => .inl hg)⟩
  clear h1 b1 hl h2 m2 t2 CD ln c2
  go_wp2
  go_ret
  exact ⟨rfl, FIN.out⟩
end Go.Proofs.Ytlklbhjcohgmhaa
