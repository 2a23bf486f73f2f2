/- Rows through the course: octet.row at Metric. -/
import Derived.Test.YtlajiochpdlhaaaOctY
import Derived.Deep.RegionLaw
namespace Go.Proofs.Ytlajiochpdlhaaa
open Go.RowKit Go.Shelf Go.Lib Go.Sort
open Go.Joins (cell_of_block unfrozen_of_block block_setCell)
set_option linter.unusedVariables false
set_option linter.unusedSimpArgs false
set_option maxRecDepth 20000

theorem fine_M : Fine metT := by
  refine ⟨?_, ?_, ?_, ?_⟩
  · intro st x
    cases st
    · simp [metT, numT, txtT, truT, St.len, num_len, tru_len, txt_len, cut_size]
      try omega
    · simp [metT, numT, txtT, truT, St.len]
  · intro st x
    cases st <;> rfl
  · intro lg bs x
    rfl
  · intro ro s x
    exact ⟨_, rfl⟩

set_option maxHeartbeats 2000000 in
theorem rowM_wr (w : World) (N A C O i : Nat) (lg : Bool) (bs : List UInt8) (L : Array Value) (T : TypeId) (fz : Nat × Nat) (l : List Met) (q : Option Addr) (c : Nat) (hc : CoreSt N A C (.wr lg bs) w) (ht : Tg A C O L T fz w) (hx : L[i]? = some (.slice q l.length c)) (hr : RowAt A C O 3 encM w q l) (hlm : l.length ≤ 9223372036854775807) (hl : bs.length + 262144 + 2048 ≤ 1000000000) :
    Calls Try.prog 58 #[ptr C, .pointer (some ⟨O, i, none⟩), .func (.func 59) #[] #[]] w fun e w' => e = .returned (.tuple #[]) ∧ Pst N A C O (rowT metT (0, ⟨#[]⟩, 0) (.wr lg bs) l).1 L T fz w w' := by
  have mixed : Try.prog.follows .mixedOrders = true := by kernel_rfl
  have eg : ∀ args w, (callFunc 59 args).run Try.prog w = .ok (.enter 59 args) w := enters_of Try.func59 (by kernel_rfl) rfl
  have o1 : w.cell? ⟨O, i, none⟩ = some (.slice q l.length c) := by rw [cell_of_block ht.1]; exact hx
  have hO := ht.lt
  obtain ⟨B, hB⟩ : ∃ B, B = w.heap.size := ⟨_, rfl⟩
  obtain ⟨wa, hwa⟩ : ∃ wa, wa = w.alloc (.cells #[.int .i64 (l.length : Int)] 3) := ⟨_, rfl⟩
  have G : Gr w wa := hwa ▸ (Gr.refl w).alloc _
  have P0 : Hid (Pst N A C O (.wr lg bs) L T fz w wa) := (Pst.start hc ht).gr1 G
  have ht2 : Tg A C B #[.int .i64 (l.length : Int)] 3 (0, 0) wa := by rw [hB, hwa]; exact tg_new hc _ _
  have HB := Lib.hid (And.intro hwa (And.intro hB (show O ≠ B by omega)))
  have HX := Lib.hid hx
  have HR := Lib.hid hr
  have c2 : wa.cell? ⟨C, 2, none⟩ = some (.bool lg) := cell_of_block P0.out.1.2.2.2.2.2.2.2.1 2
  have f2 : wa.frozen? ⟨C, 2, none⟩ = false := unfrozen_of_block P0.out.1.2.2.2.2.2.2.2.1 2
  have n1 : wa.cell? ⟨B, 0, none⟩ = some (.int .i64 (l.length : Int)) := by rw [cell_of_block ht2.1]; rfl
  by_cases hbig : 255 < l.length
  · have PL : Hid (Pst N A C O (.wr true bs) L T fz w (wa.setCell ⟨C, 2, none⟩ (.bool true))) := P0.out.long
    have e1 : rowT metT (0, ⟨#[]⟩, 0) (.wr lg bs) l = (.wr true bs, l) := if_pos hbig
    rw [e1]
    clear hc ht hx hr G ht2 hB hwa hO e1
    go_enter Try.func58, Try.ntmps58
    go_upto_region 1 with fail
    rw [← HB.out.1, ← HB.out.2.1]
    go_wp2
    refine bodyPost_ret (results_none rfl _ _ _) rfl ?_
    exact ⟨rfl, PL.out⟩
  · have hsm : l.length ≤ 255 := by omega
    have SC := Lib.hid (single_any wa N A C B 0 (.wr lg bs) #[.int .i64 (l.length : Int)] 3 (0, 0) (l.length : Int) P0.out.1 ht2 (fun _ => rfl) rfl (by simp only [St.len]; omega))
    rw [show (oneT (.wr lg bs) (l.length : Int)).2 = (l.length : Int) from rfl, show (oneT (.wr lg bs) (l.length : Int)).1 = .wr lg (bs ++ le l.length 1) by simp only [oneT]; rw [u64_nat (by omega)]] at SC
    have e1 : rowT metT (0, ⟨#[]⟩, 0) (.wr lg bs) l = (foldW metT (.wr lg (bs ++ le l.length 1)) l, l) := if_neg hbig
    rw [e1]
    have hb1 : (bs ++ le l.length 1).length ≤ bs.length + 1 := by rw [List.length_append, le_len]; omega
    obtain ⟨st1, hst1⟩ : ∃ s, s = St.wr lg (bs ++ le l.length 1) := ⟨_, rfl⟩
    have hs1 : st1.len ≤ bs.length + 1 := by rw [hst1]; exact hb1
    have hs2 : st1.isR = false := by rw [hst1]; rfl
    rw [← hst1] at SC ⊢
    clear hc ht hx hr G ht2 hB hwa hO e1 hbig hb1 hst1
    go_enter Try.func58, Try.ntmps58
    go_upto_region 1 with fail
    rw [← HB.out.1, ← HB.out.2.1]
    go_wp2_with fail
    refine SC.out.mono ?_
    rintro e w2 ⟨rfl, k⟩
    have n2 : w2.cell? ⟨B, 0, none⟩ = some (.int .i64 (l.length : Int)) := by rw [cell_of_block k.2.1.1]; rfl
    have P2 : Hid (Pst N A C O st1 L T fz w w2) := P0.out.past k (Nat.le_of_eq HB.out.2.1.symm) HB.out.2.2
    have c0 : w2.cell? ⟨C, 0, none⟩ = some (ptr A) := by
      have h := P2.out.1
      obtain ⟨_, _, _, _, _, _, _, h8⟩ := h
      cases st1 with
      | wr lg1 bs1 => exact cell_of_block h8.1 0
      | rd ro s => cases hs2
    clear k SC c2 f2 n1
    go_wp2_with fail
    clear c0 n2
    go_loopg [26] l.length (fun g vi wr => ∃ (j : Nat) (st' : St), j ≤ l.length ∧ l.length - j ≤ g ∧ vi = .int .i64 (j : Int) ∧ st'.len + 1024 * (l.length - j) ≤ st1.len + 1024 * l.length ∧ st'.isR = false ∧ Hid (foldW metT st' (l.drop j) = foldW metT st1 l) ∧ Hid (Pst N A C O st' L T fz w wr))
    case atStart => exact ⟨0, st1, Nat.zero_le _, by omega, rfl, by omega, hs2, rfl, P2.out⟩
    case round =>
      obtain ⟨j, st', hj, hg, rfl, hlen, hir, HF, HP⟩ := hrel
      by_cases hlt : j < l.length
      · obtain ⟨x, hxj⟩ : ∃ x, l[j]? = some x := ⟨l[j], List.getElem?_eq_getElem hlt⟩
        obtain ⟨b, off, rfl, hb, b1, b2, b3, b4, hcell⟩ := (HR.out.mv HP.out.2.2) j x hxj
        have r1 : wr.cell? ⟨O, i, none⟩ = some (.slice (some ⟨b, off, none⟩) l.length c) := by rw [cell_of_block HP.out.2.1.1]; exact HX.out
        obtain ⟨v0, hv0⟩ : ∃ v, (encM x)[0]? = some v := ⟨_, rfl⟩
        obtain ⟨Lb, Tb, fzb, hbl⟩ := block_of_cell (hcell 0 v0 hv0)
        have hcb : ∀ (t : Nat) (v : Value), (encM x)[t]? = some v → Lb[off + j * 3 + t]? = some v := fun t v hv => by rw [← cell_of_block hbl]; exact hcell t v hv
        have IC := Lib.hid (metric_item wr N A C b (off + j * 3) st' Lb Tb fzb x HP.out.1 ⟨hbl, b1, b2.1, b4⟩ (fun h => by rw [hir] at h; cases h) hcb (by omega))
        have hsame : (metT st' x).2 = x := by
          cases st' with
          | wr lg' bs' => exact fine_M.same lg' bs' x
          | rd ro s => cases hir
        have hfs := foldW_drop (tr := metT) (st := st') hxj
        have hl1 := fine_M.len st' x
        have hi1 := fine_M.isR st' x
        rw [hsame, setAt_same _ _ _ hcb] at IC
        have HH := Lib.hid (And.intro hbl (And.intro (Ne.symm b3) (And.intro hl1 (And.intro (hi1.trans hir) hfs))))
        have HB2 := Lib.hid (And.intro hb (And.intro hlen hir))
        clear hcell hv0 hbl hcb hsame hfs hl1 hi1 b1 b2 b3 b4 hb hlen hir hxj
        go_wp2_with (go_at_fn 59; refine IC.out.mono ?_; rintro e w3 ⟨rfl, k3⟩)
        have hh := HH.out
        have P3 : Hid (Pst N A C O (metT st' x).1 L T fz w w3) := HP.out.item hh.1 k3 hh.2.1
        clear k3 IC
        go_roundg (l.length - (j + 1))
        case measure => omega
        case rel =>
          have q := HB2.out.2.1
          have q2 := hh.2.2.1
          exact ⟨j + 1, _, hlt, Nat.le_refl _, by go_num, by omega, hh.2.2.2.1, by show _ = _; rw [← hh.2.2.2.2]; exact HF.out, P3.out⟩
      · obtain rfl : j = l.length := by omega
        have h := HF.out
        rw [List.drop_length, foldW] at h
        have PF : Hid (Pst N A C O (foldW metT st1 l) L T fz w wr) := by
          show Pst _ _ _ _ _ _ _ _ _ _
          rw [← h]
          exact HP.out
        clear h HF HP
        go_wp2
        refine bodyPost_ret (results_none rfl _ _ _) rfl ?_
        exact ⟨rfl, PF.out⟩

theorem info_M : ∃ i : TypeInfo, Try.prog.info? 89 = some i ∧ i.zero = some (.agg #[.int .i64 0, .string { data := #[] }, .int .i64 0]) ∧ i.size = 3 ∧ i.bytes = 32 := by
  have h : (Try.prog.info? 89).map (fun i => (i.zero, i.size, i.bytes)) = some (some (.agg #[.int .i64 0, .string { data := #[] }, .int .i64 0]), 3, 32) := by kernel_rfl
  cases hi : Try.prog.info? 89 with
  | none => rw [hi] at h; cases h
  | some i =>
    rw [hi] at h
    simp only [Option.map_some, Option.some.injEq, Prod.mk.injEq] at h
    exact ⟨i, rfl, h.1, h.2.1, h.2.2⟩

set_option maxHeartbeats 4000000 in
theorem rowM_rd (w : World) (N A C O i : Nat) (ro : Option Addr) (s : Sr) (L : Array Value) (T : TypeId) (hc : CoreSt N A C (.rd ro s) w) (ht : Tg A C O L T (0, 0) w) (hx : L[i]? = some (.slice none 0 0)) :
    Calls Try.prog 58 #[ptr C, .pointer (some ⟨O, i, none⟩), .func (.func 59) #[] #[]] w fun e w' => e = .returned (.tuple #[]) ∧ ∃ q c, Pst N A C O (rowT metT (0, ⟨#[]⟩, 0) (.rd ro s) []).1 (L.setIfInBounds i (.slice q (rowT metT (0, ⟨#[]⟩, 0) (.rd ro s) []).2.length c)) T (0, 0) w w' ∧ RowAt A C O 3 encM w' q (rowT metT (0, ⟨#[]⟩, 0) (.rd ro s) []).2 := by
  have mixed : Try.prog.follows .mixedOrders = true := by kernel_rfl
  have eg : ∀ args w, (callFunc 59 args).run Try.prog w = .ok (.enter 59 args) w := enters_of Try.func59 (by kernel_rfl) rfl
  have o1 : w.cell? ⟨O, i, none⟩ = some (.slice none 0 0) := by rw [cell_of_block ht.1]; exact hx
  have hO := ht.lt
  obtain ⟨B, hB⟩ : ∃ B, B = w.heap.size := ⟨_, rfl⟩
  obtain ⟨wa, hwa⟩ : ∃ wa, wa = w.alloc (.cells #[.int .i64 0] 3) := ⟨_, rfl⟩
  have G : Gr w wa := hwa ▸ (Gr.refl w).alloc _
  have P0 : Hid (Pst N A C O (.rd ro s) L T (0, 0) w wa) := (Pst.start hc ht).gr1 G
  have ht2 : Tg A C B #[.int .i64 0] 3 (0, 0) wa := by rw [hB, hwa]; exact tg_new hc _ _
  have HB := Lib.hid (And.intro hwa (And.intro hB (show O ≠ B by omega)))
  have HX := Lib.hid hx
  have n1 : wa.cell? ⟨B, 0, none⟩ = some (.int .i64 0) := by rw [cell_of_block ht2.1]; rfl
  have SC := Lib.hid (single_any wa N A C B 0 (.rd ro s) #[.int .i64 0] 3 (0, 0) 0 P0.out.1 ht2 (fun _ => rfl) rfl (by simp only [St.len]; omega))
  rw [show (oneT (.rd ro s) 0).2 = (valU (takeS 1 s) : Int) from rfl, show (oneT (.rd ro s) 0).1 = .rd ro (dropS 1 s) from rfl] at SC
  have e1 : rowT metT (0, ⟨#[]⟩, 0) (.rd ro s) [] = rdRow metT (0, ⟨#[]⟩, 0) (valU (takeS 1 s)) (.rd ro (dropS 1 s)) [] := rfl
  rw [e1]
  have hn := byte_lt s
  generalize valU (takeS 1 s) = n at SC hn ⊢
  generalize dropS 1 s = s1 at SC ⊢
  obtain ⟨R, hR⟩ : ∃ R, R = rdRow metT (0, ⟨#[]⟩, 0) n (.rd ro s1) [] := ⟨_, rfl⟩
  rw [← hR]
  have HR := Lib.hid hR
  have HW : Hid (N ≤ w.heap.size) := hc.leN
  obtain ⟨inf, hi, hz0, hz1, hz2⟩ := info_M
  have HI := Lib.hid (And.intro hi (And.intro hz0 (And.intro hz1 hz2)))
  clear hc ht hx G ht2 hB hwa hO e1 hR hi hz0 hz1 hz2
  go_enter Try.func58, Try.ntmps58
  go_upto_region 1 with fail
  rw [← HB.out.1, ← HB.out.2.1]
  go_wp2_with fail
  refine SC.out.mono ?_
  rintro e w2 ⟨rfl, k⟩
  have n2 : w2.cell? ⟨B, 0, none⟩ = some (.int .i64 (n : Int)) := by rw [cell_of_block k.2.1.1]; rfl
  have P2 : Hid (Pst N A C O (.rd ro s1) L T (0, 0) w w2) := P0.out.past k (Nat.le_of_eq HB.out.2.1.symm) HB.out.2.2
  have c0 : w2.cell? ⟨C, 0, none⟩ = some (.pointer none) := cell_of_block P2.out.1.2.2.2.2.2.2.2.1 0
  clear k SC n1 o1
  go_wp2_with fail
  clear c0 n2
  go_loopg [39] n (fun g vi wr => ∃ (j : Nat) (s' : Sr) (acc : List Met) (v : Value), j ≤ n ∧ n - j ≤ g ∧ vi = .int .i64 (j : Int) ∧ acc.length = j ∧ Hid (rdRow metT (0, ⟨#[]⟩, 0) (n - j) (.rd ro s') acc = R) ∧ Hid (Pst N A C O (.rd ro s') (L.setIfInBounds i v) T (0, 0) w wr) ∧ Hid (wr.ownsRow w.heap.size 89 3 v acc.length (acc.flatMap encM)) ∧ Hid (∀ g, v.ownBlock = some g → w.heap.size ≤ g ∧ g ≠ A ∧ (g ≠ C ∧ g + 2 ≠ C) ∧ g ≠ O ∧ yb wr A ≠ some g))
  case atStart => exact ⟨0, s1, [], .slice none 0 0, Nat.zero_le _, by omega, rfl, rfl, HR.out.symm, (by show Pst _ _ _ _ _ _ _ _ _ _; rw [set_same HX.out]; exact P2.out), World.ownsRow_nil _ _ _ _, fun g h => by simp [Value.ownBlock] at h⟩
  case round =>
    obtain ⟨j, s', acc, v, hj, hg, rfl, ha, HF, HP, HO, HV⟩ := hrel
    by_cases hlt : j < n
    · obtain ⟨X, hX⟩ : ∃ X, X = wr.heap.size := ⟨_, rfl⟩
      obtain ⟨wx, hwx⟩ : ∃ wx, wx = wr.alloc (.cells #[.int .i64 0, .string { data := #[] }, .int .i64 0] 89) := ⟨_, rfl⟩
      have GX : Gr wr wx := hwx ▸ (Gr.refl wr).alloc _
      have PX : Hid (Pst N A C O (.rd ro s') (L.setIfInBounds i v) T (0, 0) w wx) := HP.out.gr1 GX
      have htx : Tg A C X #[.int .i64 0, .string { data := #[] }, .int .i64 0] 89 (0, 0) wx := by rw [hX, hwx]; exact tg_new HP.out.1 _ _
      have hwX : w.heap.size ≤ X := by rw [hX]; exact HP.out.2.2.size
      have hOX : O ≠ X := by have := HP.out.2.1.lt; omega
      have IC := Lib.hid (metric_item wx N A C X 0 (.rd ro s') #[.int .i64 0, .string { data := #[] }, .int .i64 0] 89 (0, 0) (0, ⟨#[]⟩, 0) PX.out.1 htx (fun _ => rfl) (fun t v hv => by simpa [encM] using hv) (by simp only [St.len]; omega))
      have OX : Hid (wx.ownsRow w.heap.size 89 3 v acc.length (acc.flatMap encM)) := ⟨HO.out.1, HO.out.2.imp id (fun ⟨g, cap, cur, e, hb, hg, r⟩ => ⟨g, cap, cur, e, hb, (GX.heap (Array.getElem?_eq_some_iff.1 hg).1).trans hg, r⟩)⟩
      have HVX : Hid (∀ g, v.ownBlock = some g → g < wr.heap.size) := fun g hg => (World.ownsRow.lt HO.out g hg).2
      obtain ⟨s2, hs2⟩ := fine_M.rd ro s' (0, ⟨#[]⟩, 0)
      obtain ⟨x, hx2⟩ : ∃ x, x = (metT (.rd ro s') (0, ⟨#[]⟩, 0)).2 := ⟨_, rfl⟩
      rw [hs2, ← hx2] at IC
      have hstep : rdRow metT (0, ⟨#[]⟩, 0) (n - j) (.rd ro s') acc = if s2.isNone = true then (.rd ro s2, acc) else rdRow metT (0, ⟨#[]⟩, 0) (n - (j + 1)) (.rd ro s2) (acc ++ [x]) := by
        rw [show n - j = (n - (j + 1)) + 1 by omega, rdRow, hs2, ← hx2]
        rfl
      have HX2 := Lib.hid (And.intro hX (And.intro hwx (And.intro hwX hOX)))
      have HST := Lib.hid hstep
      clear hstep htx hwX hOX hs2 hx2 GX hX hwx
      go_upto_region 13 with fail
      rw [← HX2.out.2.1, ← HX2.out.1]
      go_wp2_with (go_at_fn 59; refine IC.out.mono ?_; rintro e w3 ⟨rfl, k3⟩; have c1 : w3.cell? ⟨C, 1, none⟩ = some (.pointer ro) := cell_of_block k3.1.2.2.2.2.2.2.2.1 1)
      have P3 : Hid (Pst N A C O (.rd ro s2) (L.setIfInBounds i v) T (0, 0) w w3) := PX.out.past k3 HX2.out.2.2.1 HX2.out.2.2.2
      have BC := Lib.hid (bad_any w3 N A ro s2 P3.out.1.2.2.2.2.2.2.2.2)
      have hX3 : Hid (w3.heap[X]? = some (.cells (setAt #[.int .i64 0, .string { data := #[] }, .int .i64 0] 0 (encM x)) 89 (0, 0))) := k3.2.1.1
      have mvx : Mv A C O wr w3 := ((Mv.refl A C O wr).alloc HP.out.1.ltA (.cells #[.int .i64 0, .string { data := #[] }, .int .i64 0] 89)).fresh (by rw [← HX2.out.2.1]; exact k3.2.2) (Nat.le_of_eq HX2.out.1.symm)
      have O3 : Hid (w3.ownsRow w.heap.size 89 3 v acc.length (acc.flatMap encM)) := ⟨HO.out.1, HO.out.2.imp id (fun ⟨g, cap, cur, e, hb, hg, r⟩ => ⟨g, cap, cur, e, hb, by
        have q := HV.out g (by rw [e]; rfl)
        exact (mvx.blk g (Array.getElem?_eq_some_iff.1 hg).1 q.2.1 q.2.2.1.1 q.2.2.2.1 q.2.2.2.2).trans hg, r⟩)⟩
      have HV3 : Hid (∀ g, v.ownBlock = some g → w.heap.size ≤ g ∧ g ≠ A ∧ (g ≠ C ∧ g + 2 ≠ C) ∧ g ≠ O ∧ yb w3 A ≠ some g) := fun g hg => by
        have q := HV.out g hg
        exact ⟨q.1, q.2.1, q.2.2.1, q.2.2.2.1, fun e => q.2.2.2.2 (mvx.old (HVX.out g hg) e)⟩
      clear k3 mvx IC
      cases s2 with
      | none =>
        have hfin : R = (.rd ro none, acc) := by rw [← HF.out, HST.out]; rfl
        have FIN : Hid (∃ q c, Pst N A C O R.1 (L.setIfInBounds i (.slice q R.2.length c)) T (0, 0) w w3 ∧ RowAt A C O 3 encM w3 q R.2) := by
          obtain ⟨q, c, rfl, hrow⟩ := own_row (A := A) (C := C) (O := O) (k := 3) (enc := encM) (fun x => rfl) O3.out (fun g hg => (HV3.out g hg).2)
          rw [hfin]
          exact ⟨q, c, P3.out, hrow⟩
        clear hfin HF HP
        refine BC.out.mono ?_
        rintro e w4 ⟨rfl, rfl⟩
        go_wp2
        refine bodyPost_ret (results_none rfl _ _ _) rfl ?_
        exact ⟨rfl, FIN.out⟩
      | some m2 =>
        refine BC.out.mono ?_
        rintro e w4 ⟨rfl, rfl⟩
        go_wp2_with fail
        obtain ⟨x0, x1, x2⟩ := x
        have hXc : w3.heap[X]? = some (.cells #[.int .i64 x0, .string x1, .int .i64 x2] 89 (0, 0)) := hX3.out
        have xf0 : w3.cell? ⟨X, 0, none⟩ = some (.int .i64 x0) := by rw [cell_of_block hXc]; rfl
        have xf1 : w3.cell? ⟨X, 1, none⟩ = some (.string x1) := by rw [cell_of_block hXc]; rfl
        have xf2 : w3.cell? ⟨X, 2, none⟩ = some (.int .i64 x2) := by rw [cell_of_block hXc]; rfl
        have hiL : i < L.size := (Array.getElem?_eq_some_iff.1 HX.out).1
        have r1 : w3.cell? ⟨O, i, none⟩ = some v := by rw [cell_of_block P3.out.2.1.1]; simp [hiL]
        have hOlt : O < w3.heap.size := P3.out.2.1.lt
        have hOne : O ≠ w3.heap.size := by omega
        have hXlt : X < w3.heap.size := (Array.getElem?_eq_some_iff.1 hXc).1
        have hXne : X ≠ w3.heap.size := by omega
        obtain ⟨wb, hwb⟩ : ∃ wb, wb = (w3.alloc (.cells #[.int .i64 x0, .string x1, .int .i64 x2] 89)).drew := ⟨_, rfl⟩
        have GB : Gr w3 wb := hwb ▸ ((Gr.refl w3).alloc _).drew
        have r2 : (w3.alloc (.cells #[.int .i64 x0, .string x1, .int .i64 x2] 89)).cell? ⟨O, i, none⟩ = some v := ((Gr.refl w3).alloc _).cell r1
        have r3 : wb.cell? ⟨O, i, none⟩ = some v := GB.cell r1
        have r4 : wb.frozen? ⟨O, i, none⟩ = false := (World.frozen?_of_block (a := ⟨O, i, none⟩) (GB.heap hOlt)).trans (unfrozen_of_block P3.out.2.1.1 i)
        have PB : Hid (Pst N A C O (.rd ro (some m2)) (L.setIfInBounds i v) T (0, 0) w wb) := P3.out.gr1 GB
        have OB : Hid (wb.ownsRow w.heap.size 89 3 v acc.length (acc.flatMap encM)) := ⟨O3.out.1, O3.out.2.imp id (fun ⟨g, cap, cur, e, hb, hg, r⟩ => ⟨g, cap, cur, e, hb, (GB.heap (Array.getElem?_eq_some_iff.1 hg).1).trans hg, r⟩)⟩
        have HVB : Hid (∀ g, v.ownBlock = some g → w.heap.size ≤ g ∧ g ≠ A ∧ (g ≠ C ∧ g + 2 ≠ C) ∧ g ≠ O ∧ yb wb A ≠ some g) := fun g hg => by
          have q := HV3.out g hg
          exact ⟨q.1, q.2.1, q.2.2.1, q.2.2.2.1, fun e => q.2.2.2.2 (by rw [← yb_block (GB.heap P3.out.1.ltA)]; exact e)⟩
        have NEW : Hid (∀ j u, [Value.int .i64 x0, Value.string x1, Value.int .i64 x2][j]? = some u → wb.cell? ((⟨w3.heap.size, 0, none⟩ : Addr).add j) = some u) := by
          rw [hwb]
          exact World.news_of_block (cs := #[.int .i64 x0, .string x1, .int .i64 x2]) (heap_alloc_new w3 _)
        have HBS : Hid (w.heap.size ≤ wb.heap.size) := PB.out.2.2.size
        have HSZ : Hid (wb.heap.size = w3.heap.size + 1) := by rw [hwb]; exact World.size_alloc _ _
        have fin : Hid (∀ (g cap : Nat) (w4 : World), w4.ownsRow w.heap.size 89 3 (.slice (some ⟨g, 0, none⟩) (acc.length + 1) cap) (acc.length + 1) (acc.flatMap encM ++ [Value.int .i64 x0, Value.string x1, Value.int .i64 x2]) → wb.grownBy w4 v.ownBlock → (v.ownBlock = some g ∨ g = w3.heap.size + 1) →
            w4.cell? ⟨O, i, none⟩ = some v ∧ w4.frozen? ⟨O, i, none⟩ = false ∧
            (∃ (j0 : Nat) (s0 : Sr) (acc0 : List Met) (v0 : Value), j0 ≤ n ∧ n - j0 ≤ n - (j + 1) ∧ Value.int .i64 ((j : Int) + 1) = .int .i64 (j0 : Int) ∧ acc0.length = j0 ∧ Hid (rdRow metT (0, ⟨#[]⟩, 0) (n - j0) (.rd ro s0) acc0 = R) ∧
              Hid (Pst N A C O (.rd ro s0) (L.setIfInBounds i v0) T (0, 0) w (w4.setCell ⟨O, i, none⟩ (.slice (some ⟨g, 0, none⟩) (acc.length + 1) cap))) ∧
              Hid ((w4.setCell ⟨O, i, none⟩ (.slice (some ⟨g, 0, none⟩) (acc.length + 1) cap)).ownsRow w.heap.size 89 3 v0 acc0.length (acc0.flatMap encM)) ∧
              Hid (∀ g', v0.ownBlock = some g' → w.heap.size ≤ g' ∧ g' ≠ A ∧ (g' ≠ C ∧ g' + 2 ≠ C) ∧ g' ≠ O ∧ yb (w4.setCell ⟨O, i, none⟩ (.slice (some ⟨g, 0, none⟩) (acc.length + 1) cap)) A ≠ some g'))) := by
          intro g cap w4 hown4 hgrow4 hat4
          have P4 : Pst N A C O (.rd ro (some m2)) (L.setIfInBounds i v) T (0, 0) w w4 := PB.out.grown hgrow4 (fun b hb => by have q := HVB.out b hb; exact ⟨q.1, q.2.1, q.2.2.1.1, q.2.2.2.1, q.2.2.2.2⟩)
          refine ⟨by rw [cell_of_block P4.2.1.1]; simp [hiL], unfrozen_of_block P4.2.1.1 i, j + 1, some m2, acc ++ [(x0, x1, x2)], .slice (some ⟨g, 0, none⟩) (acc.length + 1) cap, hlt, Nat.le_refl _, by simp, by simp [ha], ?_, ?_, ?_, ?_⟩
          · show _ = _
            rw [← HF.out, HST.out]
            rfl
          · show Pst _ _ _ _ _ _ _ _ _ _
            have h := P4.set (i := i) (.slice (some ⟨g, 0, none⟩) (acc.length + 1) cap)
            rw [Array.setIfInBounds_setIfInBounds] at h
            exact h
          · have hgO : ∀ g', g' = g → (w4.setCell ⟨O, i, none⟩ (.slice (some ⟨g, 0, none⟩) (acc.length + 1) cap)).heap[g']? = w4.heap[g']? := by
              intro g' e
              refine heap_setCell_other _ _ _ _ (fun e2 => ?_)
              rcases hat4 with h | h
              · exact (HVB.out g h).2.2.2.1 (by rw [← e]; exact e2)
              · have := P3.out.2.1.lt
                simp only at e2
                omega
            show World.ownsRow _ _ _ _ _ _ _
            rw [List.length_append, List.length_singleton, List.flatMap_append]
            have hfl : [(x0, x1, x2)].flatMap encM = [Value.int .i64 x0, Value.string x1, Value.int .i64 x2] := rfl
            rw [hfl]
            refine ⟨hown4.1, hown4.2.imp id (fun ⟨g', cap', cur, e, hb, hg, r1, r2, r3, r4⟩ => ⟨g', cap', cur, e, hb, (hgO g' (by simp at e; exact e.1.symm)).trans hg, r1, r2, r3, r4⟩)⟩
          · intro g' e
            simp only [Value.ownBlock, Option.some.injEq] at e
            have hy : yb (w4.setCell ⟨O, i, none⟩ (.slice (some ⟨g, 0, none⟩) (acc.length + 1) cap)) A = yb wb A := by
              rw [yb_block (heap_setCell_other _ _ _ _ (Ne.symm P4.2.1.2.1)), yb_block (hgrow4.block A PB.out.1.ltA (fun e => (HVB.out A e.symm).2.1 rfl))]
            rw [hy, ← e]
            rcases hat4 with h | h
            · exact HVB.out g h
            · have q1 := PB.out.1.ltA
              have q2 := PB.out.1.ltC
              have q3 := P3.out.1.ltA
              have q4 := P3.out.1.ltC
              have q5 := P3.out.2.1.lt
              have q6 := PB.out.2.2.size
              have q7 := HSZ.out
              have q8 := P3.out.2.2.size
              exact ⟨by omega, by omega, ⟨by omega, by omega⟩, by omega, fun e => by have := core_yb PB.out.1 _ e; omega⟩
        have HWB := Lib.hid hwb
        have HGB := Lib.hid GB
        clear hwb GB hXc hXlt hOlt
        go_region_law (first | (rw [← HWB.out]; refine step_append_lies _ rfl _ _ 58 (by rfl) w.heap.size 89 inf (.agg #[.int .i64 0, .string { data := #[] }, .int .i64 0]) 3 32 Try.underlying58 HI.out.1 HI.out.2.1 HI.out.2.2.1 HI.out.2.2.2 rfl (by omega) v acc.length (acc.flatMap encM) (by rfl) OB.out ⟨w3.heap.size, 0, none⟩ 1 1 [Value.int .i64 x0, Value.string x1, Value.int .i64 x2] (by rfl) rfl NEW.out (by intro u hu; simp at hu; rcases hu with rfl | rfl | rfl <;> rfl) (by omega) (by unfold maxLen; omega) (by omega) HBS.out (w3.heap.size + 1) HSZ.out ?_; intro g cap w4 hown4 hgrow4 hat4 hlt4; obtain ⟨u1, u2, hrest⟩ := fin.out g cap w4 hown4 hgrow4 hat4; clear hown4 hgrow4 hat4))
        all_goals
          go_wp2_with fail
          go_roundg (n - (j + 1))
          case measure => omega
          case rel =>
            rw [ha] at hrest
            exact hrest
    · obtain rfl : j = n := by omega
      have h := HF.out
      rw [Nat.sub_self, rdRow] at h
      have FIN : Hid (∃ q c, Pst N A C O R.1 (L.setIfInBounds i (.slice q R.2.length c)) T (0, 0) w wr ∧ RowAt A C O 3 encM wr q R.2) := by
        obtain ⟨q, c, rfl, hrow⟩ := own_row (A := A) (C := C) (O := O) (k := 3) (enc := encM) (fun x => rfl) HO.out (fun g hg => (HV.out g hg).2)
        rw [← h]
        exact ⟨q, c, HP.out, hrow⟩
      clear h HF HP
      go_wp2
      go_end0
      exact ⟨rfl, FIN.out⟩

end Go.Proofs.Ytlajiochpdlhaaa
