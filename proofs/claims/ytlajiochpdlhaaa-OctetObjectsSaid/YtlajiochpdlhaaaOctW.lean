/- The writer: size, Put, Int, Text, Bytes. -/
import Derived.Test.YtlajiochpdlhaaaOctM
import Derived.Lib.SliceRun
namespace Go.Proofs.Ytlajiochpdlhaaa
open Go.RowKit Go.Shelf Go.Lib Go.Sort
open Go.Joins (cell_of_block unfrozen_of_block block_setCell)
set_option linter.unusedVariables false

def IsSz (n : Nat) : Prop := n = 1 ∨ n = 2 ∨ n = 4 ∨ n = 8
theorem size_ok (w : World) (n : Nat) (hn : IsSz n) : Calls Try.prog 29 #[.int .i64 (n : Int)] w fun e w' => e = .returned (.bool true) ∧ w = w' := by
  rcases hn with rfl | rfl | rfl | rfl
  all_goals
    go_enter Try.func29, Try.ntmps29
    go_wp2
    go_ret
    exact ⟨rfl, rfl⟩
theorem size_bad (w : World) (n : Int) (h1 : (n == 1) = false) (h2 : (n == 2) = false) (h4 : (n == 4) = false) (h8 : (n == 8) = false) : Calls Try.prog 29 #[.int .i64 n] w fun e w' => e = .returned (.bool false) ∧ w = w' := by
  go_enter Try.func29, Try.ntmps29
  go_wp2
  go_ret
  exact ⟨rfl, rfl⟩

theorem put_bad (w : World) (p : Option Addr) (x n : Int) (h1 : (n == 1) = false) (h2 : (n == 2) = false) (h4 : (n == 4) = false) (h8 : (n == 8) = false) (hp : (p == none) = false) :
    Calls Try.prog 8 #[.pointer p, .int .u64 x, .int .i64 n] w fun e w' => e = .returned (.tuple #[]) ∧ w = w' := by
  obtain ⟨a, rfl⟩ : ∃ a, p = some a := by cases p with
    | none => simp at hp
    | some a => exact ⟨a, rfl⟩
  have C := Lib.hid (size_bad w n h1 h2 h4 h8)
  go_enter Try.func8, Try.ntmps8
  go_wp2_with fail
  refine C.out.mono ?_
  rintro e w1 ⟨rfl, rfl⟩
  go_wp2
  refine bodyPost_ret (results_none rfl _ _ _) rfl ?_
  exact ⟨rfl, rfl⟩

/-- The pointers of a writer. -/
abbrev ptr (A : Nat) : Value := .pointer (some ⟨A, 0, none⟩)

set_option maxHeartbeats 2000000 in
set_option maxRecDepth 20000 in
theorem put_ok (w : World) (N A : Nat) (bs : List UInt8) (x n : Nat) (hn : IsSz n) (hx : x < 18446744073709551616) (h : WrM w N A bs) (hN : N ≤ w.heap.size) (hb : bs.length ≤ 1000000000) :
    Calls Try.prog 8 #[ptr A, .int .u64 (x : Int), .int .i64 (n : Int)] w fun e w' => e = .returned (.tuple #[]) ∧ WrM w' N A (bs ++ le x n) ∧ Mv A A A w w' := by
  have C := Lib.hid (size_ok w n hn)
  have hn8 : n ≤ 8 := by rcases hn with h | h | h | h <;> omega
  have HW := Lib.hid h
  have HA := Lib.hid h.lt
  obtain ⟨i, hi, hz0, hz1, hz2⟩ := info_u8
  have HI := Lib.hid (And.intro hi (And.intro hz0 (And.intro hz1 hz2)))
  clear h hn hi hz0 hz1 hz2
  go_enter Try.func8, Try.ntmps8
  go_wp2_with fail
  refine C.out.mono ?_
  rintro e w1 ⟨rfl, rfl⟩
  clear C
  go_wp2_with fail
  go_loopg [1, 14] n (fun g vx vi wr => ∃ (y i : Nat) (l : List UInt8), i ≤ n ∧ n - i ≤ g ∧ vx = .int .u64 (y : Int) ∧ y < 18446744073709551616 ∧ vi = .int .i64 (i : Int) ∧ l.length ≤ bs.length + i ∧ Hid (l ++ le y (n - i) = bs ++ le x n) ∧ Hid (WrM wr N A l) ∧ Hid (Mv A A A w wr))
  case atStart => exact ⟨x, 0, bs, Nat.zero_le _, by omega, rfl, hx, rfl, by omega, rfl, HW.out, Mv.refl _ _ _ _⟩
  case round =>
    obtain ⟨y, j, l, hj, hg, rfl, hy, rfl, hl, HL, HM, HV⟩ := hrel
    by_cases hlt : j < n
    · obtain ⟨r, hr⟩ : ∃ r, r = y % 256 := ⟨_, rfl⟩
      obtain ⟨z, hz⟩ : ∃ z, z = y / 256 := ⟨_, rfl⟩
      have hr2 : r < 256 := by omega
      have hz2 : z < 18446744073709551616 := by omega
      have e1 : IntKind.u8.wrap (y : Int) = (r : Int) := by rw [IntKind.wrap_u8]; omega
      have e2 : (y : Int) / 256 = (z : Int) := by omega
      have HR := Lib.hid hr
      have HZ := Lib.hid hz
      clear hr hz
      obtain ⟨v, h1, h2, h3, h4⟩ := HM.out
      have hAr : A < wr.heap.size := HM.out.lt
      have c1 : wr.cell? ⟨A, 0, none⟩ = some v := cell_of_block h1 0
      have hown : (wr.alloc (.cells #[.int .u8 (r : Int)] 5)).ownsRow N 5 1 v l.length (cellsU l) :=
        ⟨h3.1, h3.2.imp id (fun ⟨g, cap, cur, e, hb, hg, r⟩ => ⟨g, cap, cur, e, hb, (((Gr.refl wr).alloc _).heap (Array.getElem?_eq_some_iff.1 hg).1).trans hg, r⟩)⟩
      have hvlt : ∀ k, v.ownBlock = some k → k < wr.heap.size := fun k hk => (World.ownsRow.lt h3 k hk).2
      have hnews : ∀ j u, [Value.int .u8 (r : Int)][j]? = some u → (wr.alloc (.cells #[.int .u8 (r : Int)] 5)).cell? ((⟨wr.heap.size, 0, none⟩ : Addr).add j) = some u := cell_one_new _ _ _
      have HB : Hid (N ≤ (wr.alloc (.cells #[.int .u8 (r : Int)] 5)).heap.size) := by
        have := HV.out.size
        show N ≤ _
        simp
        omega
      have H1 := Lib.hid h1
      have H3 := Lib.hid h3
      have HO := Lib.hid hown
      have HNW := Lib.hid hnews
      have HLT := Lib.hid hvlt
      have H24 := Lib.hid (And.intro h2 h4)
      clear h1 h2 h3 h4 hown hnews hvlt
      go_wp2_with (at_builtin; go_loud (refine wpList_append_lies _ rfl _ _ _ rfl N 5 i (.int .u8 0) 1 1 Try.underlying25 HI.out.1 HI.out.2.1 HI.out.2.2.1 HI.out.2.2.2 rfl (by omega) v l.length (cellsU l) rfl HO.out ⟨wr.heap.size, 0, none⟩ 1 1 [.int .u8 (r : Int)] (by rfl) rfl HNW.out (by intro u hu; simp at hu; subst hu; rfl) (by omega) (by unfold maxLen; omega) (by omega) HB.out (wr.heap.size + 1) (by simp) ?_; intro g cap w1 hown1 hgrow1 hat1 hlt1; have d1 : w1.cell? ⟨A, 0, none⟩ = some v := (hgrow1.cell_far ⟨A, 0, none⟩ (by simp; omega) (fun e => H24.out.2 e.symm)).trans (by rw [World.cell?_of_block (a := ⟨A, 0, none⟩) (((Gr.refl wr).alloc _).heap hAr)]; exact c1); have d2 : w1.frozen? ⟨A, 0, none⟩ = false := (hgrow1.frozen_far ⟨A, 0, none⟩ (by simp; omega) (fun e => H24.out.2 e.symm)).trans (by rw [World.frozen?_of_block (a := ⟨A, 0, none⟩) (((Gr.refl wr).alloc _).heap hAr)]; exact unfrozen_of_block H1.out 0)))
      have e5 : cellsU [UInt8.ofNat r] = [.int .u8 (r : Int)] := by
        simp [cellsU]
        omega
      have hown2 : w1.ownsRow N 5 1 (.slice (some ⟨g, 0, none⟩) (l ++ [UInt8.ofNat r]).length cap) (l ++ [UInt8.ofNat r]).length (cellsU l ++ cellsU [UInt8.ofNat r]) := by
        rw [e5, List.length_append, List.length_singleton]
        exact hown1
      obtain ⟨k1, k2⟩ := wr_step (bs := l) (cap := cap) (news := [UInt8.ofNat r]) H1.out H24.out.1 H24.out.2 HLT.out ((Gr.refl wr).alloc (.cells #[.int .u8 (r : Int)] 5)) hown2 hgrow1 (hat1.imp id (by omega))
      go_roundg (n - (j + 1))
      case measure => omega
      case rel =>
        refine ⟨z, j + 1, l ++ [UInt8.ofNat r], hlt, by omega, by go_num, hz2, by go_num, by simp; omega, ?_, (by show WrM _ _ _ _; simpa using k1), HV.out.trans (by simpa using k2)⟩
        show _ = _
        have h := HL.out
        rw [show n - j = (n - (j + 1)) + 1 by omega, le] at h
        rw [HZ.out, HR.out, ofNat_mod]
        simpa using h
    · obtain rfl : j = n := by omega
      have h := HL.out
      rw [Nat.sub_self, le, List.append_nil] at h
      have HM2 := HM
      rw [h] at HM2
      have HK := Lib.hid (And.intro HM2.out HV.out)
      clear HL HM HM2 h
      go_wp2
      go_end0
      exact ⟨rfl, HK.out⟩

theorem wint_ok (w : World) (N A : Nat) (bs : List UInt8) (x : Int) (h : WrM w N A bs) (hN : N ≤ w.heap.size) (hb : bs.length ≤ 1000000000) :
    Calls Try.prog 10 #[ptr A, .int .i64 x] w fun e w' => e = .returned (.tuple #[]) ∧ WrM w' N A (bs ++ num x) ∧ Mv A A A w w' := by
  have C := Lib.hid (put_ok w N A bs (u64 x) 8 (by unfold IsSz; omega) (u64_lt x) h hN hb)
  have cv := wrap_u64' x
  unfold num
  generalize u64 x = u at C cv ⊢
  clear h
  go_enter Try.func10, Try.ntmps10
  go_wp2_with fail
  refine C.out.mono ?_
  rintro e w1 ⟨rfl, b1⟩
  go_wp2
  go_end0
  exact ⟨rfl, b1⟩

theorem _root_.Go.Proofs.Ytlajiochpdlhaaa.WrM.some {w : World} {N A : Nat} {bs : List UInt8} (h : WrM w N A bs) (hn : 0 < bs.length) :
    ∃ g cap, w.heap[A]? = some (.cells #[.slice (some ⟨g, 0, none⟩) bs.length cap] 27 (0, 0)) ∧ N ≤ A ∧ w.ownsRow N 5 1 (.slice (some ⟨g, 0, none⟩) bs.length cap) bs.length (cellsU bs) ∧ g ≠ A := by
  obtain ⟨v, h1, h2, h3, h4⟩ := h
  rcases h3.2 with ⟨_, h⟩ | ⟨g, cap, cur, rfl, r⟩
  · omega
  · exact ⟨g, cap, h1, h2, ⟨h3.1, .inr ⟨g, cap, cur, rfl, r⟩⟩, fun e => h4 (by rw [e]; rfl)⟩

/-- A text's bytes, the first 255 of them. -/
def cut (s : ByteArray) : ByteArray := mk ((by_ s).take 255)
theorem cut_size (s : ByteArray) : (cut s).size = min s.size 255 := by simp [cut, mk_size, by_len]; omega
theorem cut_short {s : ByteArray} (h : s.size ≤ 255) : cut s = s := by
  unfold cut
  rw [List.take_of_length_le (by rw [by_len]; exact h)]
  rfl
theorem cut_extract (s : ByteArray) : s.extract 0 255 = cut s := by
  apply ByteArray.ext
  apply Array.toList_inj.1
  rw [extract_data]
  rfl

set_option maxHeartbeats 2000000 in
set_option maxRecDepth 20000 in
theorem wtext_ok (w : World) (N A : Nat) (bs : List UInt8) (s : ByteArray) (h : WrM w N A bs) (hN : N ≤ w.heap.size) (hb : bs.length ≤ 1000000000) :
    Calls Try.prog 12 #[ptr A, .string s] w fun e w' => e = .returned (.tuple #[]) ∧ WrM w' N A (bs ++ txt (cut s)) ∧ Mv A A A w w' := by
  by_cases hs : s.size ≤ 255
  · have hc := cut_short hs
    rw [hc]
    unfold txt
    have C := Lib.hid (put_ok w N A bs s.size 1 (by unfold IsSz; omega) (by omega) h hN hb)
    have cv := len255 hs
    have hmi : ¬ (255 < s.size) := by omega
    clear h hc
    go_enter Try.func12, Try.ntmps12
    go_wp2_with fail
    refine C.out.mono ?_
    rintro e w1 ⟨rfl, k1, k2⟩
    obtain ⟨bs1, hbs1⟩ : ∃ l, l = bs ++ le s.size 1 := ⟨_, rfl⟩
    rw [← hbs1] at k1
    have hl1 : bs1.length ≤ 1000000001 := by rw [hbs1, List.length_append, le_len]; omega
    obtain ⟨g0, cap0, h1, h2, h3, h4⟩ := k1.some (by rw [hbs1]; simp [le])
    have hA1 : A < w1.heap.size := (Array.getElem?_eq_some_iff.1 h1).1
    have c1 : w1.cell? ⟨A, 0, none⟩ = some (.slice (some ⟨g0, 0, none⟩) bs1.length cap0) := cell_of_block h1 0
    have HN1 : Hid (N ≤ w1.heap.size) := Nat.le_trans hN k2.size
    have H1 := Lib.hid h1
    have HO := Lib.hid h3
    have H24 := Lib.hid (And.intro h2 h4)
    have K2 := Lib.hid k2
    have HB := Lib.hid hbs1
    clear h1 h3 h2 h4 k1 k2 hbs1 C
    go_wp2_with (at_builtin; go_loud (refine wpList_append_text rfl _ _ rfl N g0 cap0 bs1.length (cellsU bs1) rfl HO.out s rfl (by omega) HN1.out ?_; intro g cap w2 hown2 hgrow2 hat2; have d1 : w2.cell? ⟨A, 0, none⟩ = some (.slice (some ⟨g0, 0, none⟩) bs1.length cap0) := (hgrow2.cell_far ⟨A, 0, none⟩ hA1 (fun e => H24.out.2 (by simpa using e.symm))).trans c1; have d2 : w2.frozen? ⟨A, 0, none⟩ = false := (hgrow2.frozen_far ⟨A, 0, none⟩ hA1 (fun e => H24.out.2 (by simpa using e.symm))).trans (unfrozen_of_block H1.out 0)))
    have e5 : (bs1 ++ by_ s).length = bs1.length + s.size := by rw [List.length_append, by_len]
    obtain ⟨q1, q2⟩ := wr_step (wr := w1) (wa := w1) (bs := bs1) (cap := cap) (news := by_ s) H1.out H24.out.1 (fun e => H24.out.2 (by simpa [Value.ownBlock] using e)) (fun k hk => (World.ownsRow.lt HO.out k hk).2) (Gr.refl w1) (by rw [e5]; exact hown2) hgrow2 (by rcases hat2 with h | h; exact .inl (by rw [← h]; rfl); exact .inr h)
    rw [e5] at q1 q2
    go_end0
    refine ⟨rfl, ?_, K2.out.trans q2⟩
    have h := HB.out
    rw [h] at q1 ⊢
    simpa using q1
  · have hc := cut_extract s
    obtain ⟨t, ht⟩ : ∃ t, t = cut s := ⟨_, rfl⟩
    have hz : t.size = 255 := by rw [ht, cut_size]; omega
    rw [← ht] at hc ⊢
    have C := Lib.hid (put_ok w N A bs 255 1 (by unfold IsSz; omega) (by omega) h hN hb)
    have cv := len255 (Nat.le_refl 255)
    unfold txt
    rw [hz]
    have hmi : 255 < s.size := by omega
    have hmn : min 255 s.size = 255 := by omega
    have HT := Lib.hid (And.intro ht hz)
    clear h ht
    go_enter Try.func12, Try.ntmps12
    go_wp2_with fail
    refine C.out.mono ?_
    rintro e w1 ⟨rfl, k1, k2⟩
    obtain ⟨bs1, hbs1⟩ : ∃ l, l = bs ++ le 255 1 := ⟨_, rfl⟩
    rw [← hbs1] at k1
    have hl1 : bs1.length ≤ 1000000001 := by rw [hbs1, List.length_append, le_len]; omega
    obtain ⟨g0, cap0, h1, h2, h3, h4⟩ := k1.some (by rw [hbs1]; simp [le])
    have hA1 : A < w1.heap.size := (Array.getElem?_eq_some_iff.1 h1).1
    have c1 : w1.cell? ⟨A, 0, none⟩ = some (.slice (some ⟨g0, 0, none⟩) bs1.length cap0) := cell_of_block h1 0
    have HN1 : Hid (N ≤ w1.heap.size) := Nat.le_trans hN k2.size
    have H1 := Lib.hid h1
    have HO := Lib.hid h3
    have H24 := Lib.hid (And.intro h2 h4)
    have K2 := Lib.hid k2
    have HB := Lib.hid hbs1
    clear h1 h3 h2 h4 k1 k2 hbs1 C
    go_wp2_with (at_builtin; go_loud (refine wpList_append_text rfl _ _ rfl N g0 cap0 bs1.length (cellsU bs1) rfl HO.out t rfl (by omega) HN1.out ?_; intro g cap w2 hown2 hgrow2 hat2; have d1 : w2.cell? ⟨A, 0, none⟩ = some (.slice (some ⟨g0, 0, none⟩) bs1.length cap0) := (hgrow2.cell_far ⟨A, 0, none⟩ hA1 (fun e => H24.out.2 (by simpa using e.symm))).trans c1; have d2 : w2.frozen? ⟨A, 0, none⟩ = false := (hgrow2.frozen_far ⟨A, 0, none⟩ hA1 (fun e => H24.out.2 (by simpa using e.symm))).trans (unfrozen_of_block H1.out 0)))
    have e5 : (bs1 ++ by_ t).length = bs1.length + t.size := by rw [List.length_append, by_len]
    obtain ⟨q1, q2⟩ := wr_step (wr := w1) (wa := w1) (bs := bs1) (cap := cap) (news := by_ t) H1.out H24.out.1 (fun e => H24.out.2 (by simpa [Value.ownBlock] using e)) (fun k hk => (World.ownsRow.lt HO.out k hk).2) (Gr.refl w1) (by rw [e5]; exact hown2) hgrow2 (by rcases hat2 with h | h; exact .inl (by rw [← h]; rfl); exact .inr h)
    rw [e5, HT.out.2] at q1 q2
    go_end0
    refine ⟨rfl, ?_, K2.out.trans q2⟩
    have h := HB.out
    rw [h] at q1 ⊢
    simpa using q1

set_option maxHeartbeats 2000000 in
set_option maxRecDepth 20000 in
theorem sclone_any (w : World) (q : Option Addr) (c : Nat) (l : List UInt8) (h : RowR 1 encU w q l) (hq : q = none → c = 0 ∧ l = []) (hl : l.length ≤ 1000000000) :
    Calls Try.prog 30 #[.slice q l.length c] w fun e w' => ∃ v, e = .returned v ∧ (v = .slice none 0 0 ↔ q = none) ∧ w'.ownsRow w.heap.size 5 1 v l.length (cellsU l) ∧ Below w.heap.size w w' := by
  cases q with
  | none =>
    obtain ⟨rfl, rfl⟩ := hq rfl
    have en := fun w => run_eql_slice_nil (P := Try.prog) w 25 5 none 0 0 0 0 Try.underlying25
    go_enter Try.func30, Try.ntmps30
    go_wp2
    go_ret
    exact ⟨_, rfl, by simp, World.ownsRow_nil _ _ _ _, Below.refl _ _⟩
  | some ad =>
    obtain ⟨i, hi, hz0, hz1, hz2⟩ := info_u8
    have HI := Lib.hid (And.intro hi (And.intro hz0 (And.intro hz1 hz2)))
    have hown : (w.alloc (.cells #[] 5)).ownsRow w.heap.size 5 1 (.slice (some ⟨w.heap.size, 0, none⟩) 0 0) 0 [] := World.ownsRow_made w #[] 0 (Nat.le_refl _) (by unfold maxLen; omega) rfl
    have hnews : ∀ j u, (cellsU l)[j]? = some u → (w.alloc (.cells #[] 5)).cell? (ad.add j) = some u := by
      intro j u hu
      simp only [cellsU, List.getElem?_map, Option.map_eq_some_iff] at hu
      obtain ⟨x, hx, rfl⟩ := hu
      obtain ⟨b, off, e, hb, hc⟩ := h.u8 j x hx
      injection e with e
      subst e
      have ea : (⟨b, off, none⟩ : Addr).add j = ⟨b, off + j, none⟩ := by unfold Addr.add; split <;> simp_all
      rw [ea]
      exact ((Gr.refl w).alloc _).cell hc
    have en := fun w => run_eql_slice_nil (P := Try.prog) w 25 5 (some ad) l.length c 0 0 Try.underlying25
    have HO := Lib.hid hown
    have HNW := Lib.hid hnews
    clear hi hz0 hz1 hz2 hown hnews h
    go_enter Try.func30, Try.ntmps30
    go_wp2_with (at_builtin; go_loud (refine wpList_append_own_at _ rfl _ _ _ rfl w.heap.size 5 i (.int .u8 0) 1 1 Try.underlying25 HI.out.1 HI.out.2.1 HI.out.2.2.1 HI.out.2.2.2 rfl (by omega) (.slice (some ⟨w.heap.size, 0, none⟩) 0 0) 0 [] rfl HO.out ad l.length c (cellsU l) (by rfl) (by rw [cellsU_len, Nat.mul_one]) HNW.out (cellsU_one l) (by unfold maxLen; omega) (by omega) (by simp) ?_; intro v' w1 hown1 hgrow1 hnil1 hat1))
    go_ret
    refine ⟨_, rfl, ?_, by simpa using hown1, ?_⟩
    · have : v' ≠ .slice none 0 0 := fun e => by have := (hnil1.1 e).1; simp at this
      simpa using this
    · exact ⟨hgrow1.os, hgrow1.tape, hgrow1.output, by have := hgrow1.size; simp at this; omega, fun k hk => (hgrow1.block k (by simp; omega) (by simp [Value.ownBlock]; omega)).trans (((Gr.refl w).alloc _).heap hk)⟩

set_option maxHeartbeats 2000000 in
set_option maxRecDepth 20000 in
theorem bclone_any (w : World) (q : Option Addr) (c : Nat) (l : List UInt8) (h : RowR 1 encU w q l) (hq : q = none → c = 0 ∧ l = []) (hl : l.length ≤ 1000000000) :
    Calls Try.prog 31 #[.slice q l.length c] w fun e w' => ∃ v, e = .returned v ∧ (v = .slice none 0 0 ↔ q = none) ∧ w'.ownsRow w.heap.size 5 1 v l.length (cellsU l) ∧ Below w.heap.size w w' := by
  cases q with
  | none =>
    obtain ⟨rfl, rfl⟩ := hq rfl
    have en := fun w => run_eql_slice_nil (P := Try.prog) w 25 5 none 0 0 0 0 Try.underlying25
    go_enter Try.func31, Try.ntmps31
    go_wp2
    go_ret
    exact ⟨_, rfl, by simp, World.ownsRow_nil _ _ _ _, Below.refl _ _⟩
  | some ad =>
    obtain ⟨i, hi, hz0, hz1, hz2⟩ := info_u8
    have HI := Lib.hid (And.intro hi (And.intro hz0 (And.intro hz1 hz2)))
    have hown : (w.alloc (.cells #[] 5)).ownsRow w.heap.size 5 1 (.slice (some ⟨w.heap.size, 0, none⟩) 0 0) 0 [] := World.ownsRow_made w #[] 0 (Nat.le_refl _) (by unfold maxLen; omega) rfl
    have hnews : ∀ j u, (cellsU l)[j]? = some u → (w.alloc (.cells #[] 5)).cell? (ad.add j) = some u := by
      intro j u hu
      simp only [cellsU, List.getElem?_map, Option.map_eq_some_iff] at hu
      obtain ⟨x, hx, rfl⟩ := hu
      obtain ⟨b, off, e, hb, hc⟩ := h.u8 j x hx
      injection e with e
      subst e
      have ea : (⟨b, off, none⟩ : Addr).add j = ⟨b, off + j, none⟩ := by unfold Addr.add; split <;> simp_all
      rw [ea]
      exact ((Gr.refl w).alloc _).cell hc
    have en := fun w => run_eql_slice_nil (P := Try.prog) w 25 5 (some ad) l.length c 0 0 Try.underlying25
    have HO := Lib.hid hown
    have HNW := Lib.hid hnews
    clear hi hz0 hz1 hz2 hown hnews h
    go_enter Try.func31, Try.ntmps31
    go_wp2_with (at_builtin; go_loud (refine wpList_append_own_at _ rfl _ _ _ rfl w.heap.size 5 i (.int .u8 0) 1 1 Try.underlying25 HI.out.1 HI.out.2.1 HI.out.2.2.1 HI.out.2.2.2 rfl (by omega) (.slice (some ⟨w.heap.size, 0, none⟩) 0 0) 0 [] rfl HO.out ad l.length c (cellsU l) (by rfl) (by rw [cellsU_len, Nat.mul_one]) HNW.out (cellsU_one l) (by unfold maxLen; omega) (by omega) (by simp) ?_; intro v' w1 hown1 hgrow1 hnil1 hat1))
    go_ret
    refine ⟨_, rfl, ?_, by simpa using hown1, ?_⟩
    · have : v' ≠ .slice none 0 0 := fun e => by have := (hnil1.1 e).1; simp at this
      simpa using this
    · exact ⟨hgrow1.os, hgrow1.tape, hgrow1.output, by have := hgrow1.size; simp at this; omega, fun k hk => (hgrow1.block k (by simp; omega) (by simp [Value.ownBlock]; omega)).trans (((Gr.refl w).alloc _).heap hk)⟩

/-- An owned slice of bytes, and how it lies. -/
theorem own_lies {w : World} {N n : Nat} {v : Value} {l : List UInt8} (h : w.ownsRow N 5 1 v n (cellsU l)) :
    ∃ q c, v = .slice q l.length c ∧ n = l.length ∧ l.length ≤ c ∧ c ≤ 9223372036854775807 ∧ RowR 1 encU w q l ∧ (∀ p, q = some p → N ≤ p.block ∧ p.block < w.heap.size) ∧ (q = none → c = 0 ∧ l = []) := by
  obtain ⟨h0, h⟩ := h
  have hn : n = l.length := by rw [cellsU_len] at h0; omega
  subst hn
  rcases h with ⟨rfl, h1⟩ | ⟨g, c, cur, rfl, hb, hg, hc, hm, hsz, htk⟩
  · have : l = [] := List.eq_nil_of_length_eq_zero h1
    subst this
    exact ⟨none, 0, rfl, rfl, Nat.le_refl _, by omega, RowR.nil _ _ _ _, by simp, by simp⟩
  · refine ⟨_, c, rfl, rfl, hc, by unfold maxLen at hm; omega, ?_, ?_, by simp⟩
    · intro j x hj
      refine ⟨g, 0, rfl, (Array.getElem?_eq_some_iff.1 hg).1, fun t v hv => ?_⟩
      match t, hv with
      | 0, hv =>
        simp [encU] at hv
        subst hv
        have hjl : j < l.length := (List.getElem?_eq_some_iff.1 hj).1
        have h2 : (cur.toList.take (l.length * 1))[j]? = some (.int .u8 (x.toNat : Int)) := by
          rw [htk]
          simp [cellsU, hj]
        rw [List.getElem?_take_of_lt (by omega)] at h2
        rw [Nat.zero_add, Nat.mul_one, Nat.add_zero, cell_of_block hg, ← Array.getElem?_toList]
        exact h2
      | t + 1, hv => simp [encU] at hv
    · intro p hp
      simp at hp
      subst hp
      exact ⟨hb, (Array.getElem?_eq_some_iff.1 hg).1⟩

theorem bytes_ok (w : World) (N A : Nat) (bs : List UInt8) (h : WrM w N A bs) (hb : bs.length ≤ 1000000000) :
    Calls Try.prog 14 #[ptr A] w fun e w' => ∃ v, e = .returned v ∧ w'.ownsRow w.heap.size 5 1 v bs.length (cellsU bs) ∧ Below w.heap.size w w' := by
  obtain ⟨v, h1, h2, h3, h4⟩ := h
  obtain ⟨q, c, rfl, _, hc, _, hr, _, hq⟩ := own_lies h3
  have c1 : w.cell? ⟨A, 0, none⟩ = some (.slice q bs.length c) := cell_of_block h1 0
  have C := Lib.hid (sclone_any w q c bs hr hq hb)
  clear h1 h2 h3 h4 hr hq
  go_enter Try.func14, Try.ntmps14
  go_wp2_with fail
  refine C.out.mono ?_
  rintro e w1 ⟨v, rfl, _, k1, k2⟩
  go_wp2
  go_ret
  exact ⟨_, rfl, k1, k2⟩
end Go.Proofs.Ytlajiochpdlhaaa
