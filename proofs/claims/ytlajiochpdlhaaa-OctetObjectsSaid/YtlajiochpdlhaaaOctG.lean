/- The reader: take, Get, Int, Text, Read. -/
import Derived.Test.YtlajiochpdlhaaaOctR
import Derived.Laws.BitsAllLaws
namespace Go.Proofs.Ytlajiochpdlhaaa
open Go.RowKit Go.Shelf Go.Lib Go.Sort
open Go.Joins (cell_of_block unfrozen_of_block block_setCell)
set_option linter.unusedVariables false

theorem slice_to (w : World) (q : Option Addr) (L c n : Nat) (hn : n ≤ L) (hL : L ≤ c) :
    (Instr.slice 25 (.slice q L c) none (some (.int .i64 (n : Int))) none).run Try.prog w = .ok (.slice q n c) w := by
  have h2 : n ≤ c := by omega
  have ha : ∀ x : Addr, x.add 0 = x := fun x => by unfold Addr.add; cases x; split <;> simp_all
  have hz : ∀ w, (Go.sizeOf 5).run Try.prog w = .ok 1 w := fun w => by
    obtain ⟨i, hi, _, hs, _⟩ := info_u8
    simp [sizeOf, typeInfo, hi, hs]
  simp [Instr.slice, run_underlying Try.underlying25, Instr.sliceBounds, Instr.sliceBound, asIntOf, h2, hz, ha]
theorem slice_from (w : World) (q : Option Addr) (L c n : Nat) (hn : n ≤ L) (hL : L ≤ c) :
    (Instr.slice 25 (.slice q L c) (some (.int .i64 (n : Int))) none none).run Try.prog w = .ok (.slice (if c = n then q else q.map (·.add n)) (L - n) (c - n)) w := by
  have hz : ∀ w, (Go.sizeOf 5).run Try.prog w = .ok 1 w := fun w => by
    obtain ⟨i, hi, _, hs, _⟩ := info_u8
    simp [sizeOf, typeInfo, hi, hs]
  simp [Instr.slice, run_underlying Try.underlying25, Instr.sliceBounds, Instr.sliceBound, asIntOf, hz]
  omega

theorem row_take {w : World} {q : Option Addr} {l : List UInt8} (h : RowR 1 encU w q l) (n : Nat) : RowR 1 encU w q (l.take n) := by
  intro j x hx
  refine h j x ?_
  rw [List.getElem?_take] at hx
  split at hx
  · exact hx
  · simp at hx
theorem row_drop {w : World} {q : Option Addr} {l : List UInt8} {c n : Nat} (h : RowR 1 encU w q l) (hc : l.length ≤ c) : RowR 1 encU w (if c = n then q else q.map (·.add n)) (l.drop n) := by
  intro j x hx
  rw [List.getElem?_drop] at hx
  obtain ⟨b, off, rfl, hb, hcell⟩ := h (n + j) x hx
  have hlt := (List.getElem?_eq_some_iff.1 hx).1
  rw [if_neg (by omega)]
  refine ⟨b, off + n, ?_, hb, fun t v hv => ?_⟩
  · show some ((⟨b, off, none⟩ : Addr).add n) = _
    congr 1
    unfold Addr.add
    split <;> simp_all
  · have := hcell t v hv
    rw [show off + n + j * 1 + t = off + (n + j) * 1 + t by omega]
    exact this

set_option maxHeartbeats 1000000 in
theorem take_any (w : World) (N A : Nat) (ro : Option Addr) (s : Sr) (n : Nat) (h : RdM w N A ro s) (hn : n ≤ 255) :
    Calls Try.prog 33 #[.pointer ro, .int .i64 (n : Int)] w fun e w' => ∃ q c, e = .returned (.slice q (takeS n s).length c) ∧ RowR 1 encU w' q (takeS n s) ∧ RdM w' N A ro (dropS n s) ∧ Mv A A A w w' := by
  have C := Lib.hid (bad_any w N A ro s h)
  have D := Lib.hid (spoil_any w N A ro s h)
  rcases rd_cases h with ⟨rfl, rfl⟩ | ⟨rfl, rfl, hA, h1⟩ | ⟨l, q, c, rfl, rfl, hA, h1, hlc, hc, hr, hq, hN⟩
  · clear h
    go_enter Try.func33, Try.ntmps33
    go_wp2_with fail
    refine C.out.mono ?_
    rintro e w1 ⟨rfl, rfl⟩
    go_wp2_with fail
    refine D.out.mono ?_
    rintro e w2 ⟨rfl, k1, k2⟩
    go_wp2
    go_ret
    exact ⟨none, 0, rfl, RowR.nil _ _ _ _, k1, k2⟩
  · have c0 := cell_of_block h1 0
    clear h h1
    go_enter Try.func33, Try.ntmps33
    go_wp2_with fail
    refine C.out.mono ?_
    rintro e w1 ⟨rfl, rfl⟩
    go_wp2_with fail
    refine D.out.mono ?_
    rintro e w2 ⟨rfl, k1, k2⟩
    go_wp2
    go_ret
    exact ⟨none, 0, rfl, RowR.nil _ _ _ _, k1, k2⟩
  · have c0 := cell_of_block h1 0
    by_cases hle : n ≤ l.length
    · have s1 := fun w => slice_to w q l.length c n hle hlc
      have s2 := fun w => slice_from w q l.length c n hle hlc
      have f0 := unfrozen_of_block h1 0
      obtain ⟨q2, hq2⟩ : ∃ q2, q2 = (if c = n then q else q.map (·.add n)) := ⟨_, rfl⟩
      rw [← hq2] at s2
      have hset := block_setCell (i := 0) h1 (.slice q2 (l.length - n) (c - n))
      have hr2 : RowR 1 encU w q2 (l.drop n) := hq2 ▸ row_drop hr hlc
      have hout : ∀ k, k ≠ A → (w.setCell ⟨A, 0, none⟩ (.slice q2 (l.length - n) (c - n))).heap[k]? = w.heap[k]? := fun k hk => heap_setCell_other _ _ _ _ hk
      have hsz : (w.setCell ⟨A, 0, none⟩ (.slice q2 (l.length - n) (c - n))).heap.size = w.heap.size := by simp [World.setCell]
      have hq3 : ∀ p, q2 = some p → N ≤ p.block ∧ p.block ≠ A := by
        intro p hp
        rw [hq2] at hp
        split at hp
        · exact hq p hp
        · cases q with
          | none => simp at hp
          | some p0 =>
            simp at hp
            have h0 := hq p0 rfl
            have : p.block = p0.block := by rw [← hp]; unfold Addr.add; split <;> rfl
            rw [this]
            exact h0
      have keep : ∀ (m : List UInt8) (q' : Option Addr), RowR 1 encU w q' m → (∀ p, q' = some p → p.block ≠ A) → RowR 1 encU (w.setCell ⟨A, 0, none⟩ (.slice q2 (l.length - n) (c - n))) q' m := by
        intro m q' hm hqA j x hx
        obtain ⟨b, off, e, hb, hcell⟩ := hm j x hx
        exact ⟨b, off, e, by rw [hsz]; exact hb, fun t v hv => (World.cell?_of_block (a := ⟨b, off + j * 1 + t, none⟩) (hout b (hqA _ e))).trans (hcell t v hv)⟩
      have F : Hid (RowR 1 encU (w.setCell ⟨A, 0, none⟩ (.slice q2 (l.length - n) (c - n))) q (l.take n) ∧ RdM (w.setCell ⟨A, 0, none⟩ (.slice q2 (l.length - n) (c - n))) N A (some ⟨A, 0, none⟩) (some (l.drop n)) ∧ Mv A A A w (w.setCell ⟨A, 0, none⟩ (.slice q2 (l.length - n) (c - n)))) := by
        refine ⟨keep _ _ (row_take hr n) (fun p hp => (hq p hp).2), .inr ⟨rfl, hN, by rw [hsz]; exact hA, .inr ⟨l.drop n, q2, c - n, rfl, ?_, by simp; omega, by omega, keep _ _ hr2 (fun p hp => (hq3 p hp).2), hq3⟩⟩, rfl, rfl, rfl, by rw [hsz]; exact Nat.le_refl _, fun k hk h1 _ _ _ => hout k h1, fun k e => .inl ?_⟩
        · rw [hset]
          simp
        · rw [yb_of (v := .slice q2 (l.length - n) (c - n)) hset rfl] at e
          rw [yb_of (v := .slice q l.length c) h1 rfl]
          cases q with
          | none => simp [hq2, Value.ownBlock] at e
          | some p0 =>
            rw [hq2] at e
            split at e
            · exact e
            · simp [Value.ownBlock] at e ⊢
              rw [← e]
              unfold Addr.add
              split <;> rfl
      have hts : takeS n (some l) = l.take n := if_pos hle
      have hds : dropS n (some l) = some (l.drop n) := if_pos hle
      rw [hts, hds]
      have htl : (l.take n).length = n := by simp; omega
      rw [htl]
      obtain ⟨L, hL⟩ : ∃ L, L = l.length := ⟨_, rfl⟩
      rw [← hL] at *
      clear h h1 hset hr hr2 hout hsz hq hq2 hq3 keep hts hds htl hL D
      go_enter Try.func33, Try.ntmps33
      go_wp2_with fail
      refine C.out.mono ?_
      rintro e w1 ⟨rfl, rfl⟩
      go_wp2
      go_ret
      exact ⟨q, c, rfl, F.out⟩
    · have hts : takeS n (some l) = [] := if_neg hle
      have hds : dropS n (some l) = none := if_neg hle
      rw [hts, hds]
      have hgt : l.length < n := by omega
      obtain ⟨L, hL⟩ : ∃ L, L = l.length := ⟨_, rfl⟩
      rw [← hL] at *
      clear h h1 hr hq hts hds hL hle
      go_enter Try.func33, Try.ntmps33
      go_wp2_with fail
      refine C.out.mono ?_
      rintro e w1 ⟨rfl, rfl⟩
      go_wp2_with fail
      refine D.out.mono ?_
      rintro e w2 ⟨rfl, k1, k2⟩
      go_wp2
      go_ret
      exact ⟨none, 0, rfl, RowR.nil _ _ _ _, k1, k2⟩

/-- The number that bytes say. -/
def valU : List UInt8 → Nat
  | [] => 0
  | x :: r => x.toNat + 256 * valU r
theorem valU_lt : ∀ l : List UInt8, valU l < 256 ^ l.length
  | [] => by simp [valU]
  | x :: r => by
    have := valU_lt r
    have hx : x.toNat < 256 := by have := x.toNat_lt; omega
    rw [List.length_cons, Nat.pow_succ, valU]
    omega
theorem valU_app : ∀ (l : List UInt8) (x : UInt8), valU (l ++ [x]) = valU l + 256 ^ l.length * x.toNat
  | [], x => by simp [valU]
  | y :: r, x => by
    rw [List.cons_append, valU, valU_app r x, valU, List.length_cons, Nat.pow_succ]
    rw [Nat.mul_add, ← Nat.mul_assoc, Nat.mul_comm 256 (256 ^ r.length), Nat.add_assoc]

theorem or_byte {x y i : Nat} (hx : x < 256 ^ i) (hy : y < 256) (hi : i ≤ 7) : bits .or .u64 (x : Int) (IntKind.u64.wrap ((y : Int) * 2 ^ (8 * i))) = ((x + 256 ^ i * y : Nat) : Int) := by
  have hp : (256 : Nat) ^ i = 2 ^ (8 * i) := by rw [show (256 : Nat) = 2 ^ 8 from rfl, ← Nat.pow_mul]
  rw [hp] at hx ⊢
  have hk : (2 : Nat) ^ (8 * i) ≤ 2 ^ 56 := Nat.pow_le_pow_right (by decide) (by omega)
  have hm : 2 ^ (8 * i) * y ≤ 2 ^ 56 * 255 := Nat.mul_le_mul hk (by omega)
  have e0 : (y : Int) * 2 ^ (8 * i) = ((2 ^ (8 * i) * y : Nat) : Int) := by
    rw [Int.natCast_mul, Int.mul_comm]
    all_goals (first | rfl | simp)
  obtain ⟨z, hz⟩ : ∃ z, z = 2 ^ (8 * i) * y := ⟨_, rfl⟩
  have hz2 : z < 18446744073709551616 := by omega
  have hx2 : x < 18446744073709551616 := by omega
  have ew : IntKind.u64.wrap (z : Int) = (z : Int) := by rw [IntKind.wrap_u64]; omega
  rw [e0, ← hz, ew, u64_or _ _ (by omega) (by omega) (by omega) (by omega)]
  have : (x : Int).toNat ||| (z : Int).toNat = x + z := by
    show x ||| z = _
    rw [hz, Nat.or_comm, ← Nat.two_pow_add_eq_or_of_lt hx, Nat.add_comm]
  rw [this]

set_option maxHeartbeats 1000000 in
set_option maxRecDepth 20000 in
theorem get_ok (w : World) (N A : Nat) (ro : Option Addr) (s : Sr) (n : Nat) (h : RdM w N A ro s) (hn : IsSz n) :
    Calls Try.prog 16 #[.pointer ro, .int .i64 (n : Int)] w fun e w' => e = .returned (.int .u64 (valU (takeS n s) : Int)) ∧ RdM w' N A ro (dropS n s) ∧ Mv A A A w w' := by
  have C := Lib.hid (size_ok w n hn)
  have D := Lib.hid (take_any w N A ro s n h (by unfold IsSz at hn; omega))
  have hl8 : (takeS n s).length ≤ 8 := by
    unfold IsSz at hn
    cases s with
    | none => simp [takeS]
    | some l =>
      unfold takeS
      dsimp only
      split
      · simp; omega
      · simp
  obtain ⟨t, ht⟩ : ∃ t, t = takeS n s := ⟨_, rfl⟩
  rw [← ht] at D hl8 ⊢
  clear h hn ht
  go_enter Try.func16, Try.ntmps16
  go_wp2_with fail
  refine C.out.mono ?_
  rintro e w1 ⟨rfl, rfl⟩
  go_wp2_with fail
  refine D.out.mono ?_
  rintro e w1 ⟨q, c, rfl, hr, k1, k2⟩
  have HR := Lib.hid hr
  have HK := Lib.hid (And.intro k1 k2)
  clear C D hr k1 k2
  go_wp2_with fail
  go_loopg [5, 17] t.length (fun g vx vi wr => ∃ (x i : Nat), i ≤ t.length ∧ t.length - i ≤ g ∧ vx = .int .u64 (x : Int) ∧ vi = .int .i64 (i : Int) ∧ Hid (x = valU (t.take i)) ∧ wr = w1)
  case atStart => exact ⟨0, 0, Nat.zero_le _, by omega, rfl, rfl, rfl, rfl⟩
  case round =>
    obtain ⟨x, i, hi, hg, rfl, rfl, HX, rfl⟩ := hrel
    by_cases hlt : i < t.length
    · obtain ⟨b, hb⟩ : ∃ b, t[i]? = some b := ⟨t[i], List.getElem?_eq_getElem hlt⟩
      obtain ⟨blk, off, rfl, hblk, hc⟩ := HR.out.u8 i b hb
      obtain ⟨y, hy⟩ : ∃ y, y = b.toNat := ⟨_, rfl⟩
      have hy2 : y < 256 := by have := b.toNat_lt; omega
      rw [← hy] at hc
      have e1 : IntKind.u64.wrap (y : Int) = (y : Int) := by rw [IntKind.wrap_u64]; omega
      have hxl : x < 256 ^ i := by
        have := valU_lt (t.take i)
        rw [← HX.out] at this
        simpa [Nat.min_eq_left hi] using this
      have e2 := or_byte hxl hy2 (by omega)
      have hz : valU (t.take (i + 1)) = x + 256 ^ i * y := by
        rw [List.take_add_one, hb, Option.toList_some, valU_app, ← HX.out, hy]
        simp [Nat.min_eq_left hi]
      obtain ⟨z, hzz⟩ : ∃ z, z = x + 256 ^ i * y := ⟨_, rfl⟩
      rw [← hzz] at e2 hz
      have HB := Lib.hid (And.intro hb (And.intro hy hz))
      clear hb hy hz hzz hxl
      go_wp2_with fail
      go_roundg (t.length - (i + 1))
      case measure => omega
      case rel => exact ⟨z, i + 1, hlt, Nat.le_refl _, rfl, by go_num, HB.out.2.2.symm, rfl⟩
    · obtain rfl : i = t.length := by omega
      have h := HX.out
      rw [List.take_length] at h
      have HE := Lib.hid h
      clear h HX
      go_wp2
      go_ret
      exact ⟨by rw [← HE.out]; rfl, HK.out⟩

theorem get_bad (w : World) (N A : Nat) (ro : Option Addr) (s : Sr) (n : Int) (h : RdM w N A ro s) (h1 : (n == 1) = false) (h2 : (n == 2) = false) (h4 : (n == 4) = false) (h8 : (n == 8) = false) :
    Calls Try.prog 16 #[.pointer ro, .int .i64 n] w fun e w' => e = .returned (.int .u64 0) ∧ RdM w' N A ro none ∧ Mv A A A w w' := by
  have C := Lib.hid (size_bad w n h1 h2 h4 h8)
  have D := Lib.hid (spoil_any w N A ro s h)
  clear h h1 h2 h4 h8
  go_enter Try.func16, Try.ntmps16
  go_wp2_with fail
  refine C.out.mono ?_
  rintro e w1 ⟨rfl, rfl⟩
  go_wp2_with fail
  refine D.out.mono ?_
  rintro e w2 ⟨rfl, k⟩
  go_wp2
  go_ret
  exact ⟨rfl, k⟩

/-- A number of 64 bits as a signed one. -/
def toI (n : Nat) : Int := if n < 9223372036854775808 then (n : Int) else (n : Int) - 18446744073709551616
theorem wrap_toI {n : Nat} (h : n < 18446744073709551616) : IntKind.i64.wrap (n : Int) = toI n := by
  rw [IntKind.wrap_i64]
  unfold toI
  split <;> omega
theorem u64_toI {n : Nat} (h : n < 18446744073709551616) : u64 (toI n) = n := by
  unfold u64 toI
  split <;> omega
theorem toI_u64 {x : Int} (h1 : -9223372036854775808 ≤ x) (h2 : x < 9223372036854775808) : toI (u64 x) = x := by
  unfold u64 toI
  split <;> omega
theorem take_len8 (s : Sr) : (takeS 8 s).length ≤ 8 := by
  cases s with
  | none => simp [takeS]
  | some l =>
    unfold takeS
    dsimp only
    split
    · simp; omega
    · simp
theorem valU_lt8 (s : Sr) : valU (takeS 8 s) < 18446744073709551616 := by
  have h := valU_lt (takeS 8 s)
  have := Nat.pow_le_pow_right (n := 256) (by decide) (take_len8 s)
  omega
def intS (s : Sr) : Int := toI (valU (takeS 8 s))
theorem rint_ok (w : World) (N A : Nat) (ro : Option Addr) (s : Sr) (h : RdM w N A ro s) :
    Calls Try.prog 17 #[.pointer ro] w fun e w' => e = .returned (.int .i64 (intS s)) ∧ RdM w' N A ro (dropS 8 s) ∧ Mv A A A w w' := by
  have C := Lib.hid (get_ok w N A ro s 8 h (by unfold IsSz; omega))
  have cv := wrap_toI (valU_lt8 s)
  unfold intS
  generalize valU (takeS 8 s) = u at C cv ⊢
  generalize toI u = t at cv ⊢
  clear h
  go_enter Try.func17, Try.ntmps17
  go_wp2_with fail
  refine C.out.mono ?_
  rintro e w1 ⟨rfl, k⟩
  go_wp2
  go_ret
  exact ⟨rfl, k⟩

theorem run_str (w : World) (q : Option Addr) (c : Nat) (l : List UInt8) (h : RowR 1 encU w q l) : (convert 25 9 (.slice q l.length c)).run Try.prog w = .ok (.string (mk l)) w := by
  cases l with
  | nil =>
    have h := run_convert_bytes_string (P := Try.prog) w 25 9 5 q 0 c Try.underlying25 Try.underlying5 Try.underlying9
    show (convert 25 9 (.slice q 0 c)).run Try.prog w = _
    rw [h]
    cases q <;> simp [Conv.bytesToString, loadCells, loadCellsFrom] <;> rfl
  | cons x r =>
    obtain ⟨b, off, rfl, hb, _⟩ := h.u8 0 x rfl
    obtain ⟨L, hL⟩ : ∃ L, L = x :: r := ⟨_, rfl⟩
    rw [← hL] at h ⊢
    have hh := run_convert_bytes_arg (P := Try.prog) w 25 5 Try.underlying25 Try.underlying5 b off L.length c (L.map fun y => (y.toNat : Int)) (by simp) (fun i hi => by
      obtain ⟨b', off', e, _, hc⟩ := h.u8 i L[i] (List.getElem?_eq_getElem hi)
      simp only [Option.some.injEq, Addr.mk.injEq, and_true] at e
      obtain ⟨rfl, rfl⟩ := e
      rw [hc]
      simp [List.getD, hi]) 9 Try.underlying9
    have hs : strOfNums (L.map fun y => (y.toNat : Int)) = mk L := by
      apply ByteArray.ext
      apply Array.toList_inj.1
      rw [strOfNums_data]
      show _ = L
      rw [List.map_map]
      conv => rhs; rw [← List.map_id L]
      apply List.map_congr_left
      intro y _
      simp
    rw [hh, hs]

/-- What a text is, and what is left. -/
def lenS (s : Sr) : Nat := valU (takeS 1 s)
def textS (s : Sr) : List UInt8 := takeS (lenS s) (dropS 1 s)
def textD (s : Sr) : Sr := dropS (lenS s) (dropS 1 s)
theorem lenS_lt (s : Sr) : lenS s < 256 := by
  have h := valU_lt (takeS 1 s)
  have h1 : (takeS 1 s).length ≤ 1 := by
    cases s with
    | none => simp [takeS]
    | some l =>
      unfold takeS
      dsimp only
      split
      · simp; omega
      · simp
  have := Nat.pow_le_pow_right (n := 256) (by decide) h1
  unfold lenS
  omega
theorem rtext_ok (w : World) (N A : Nat) (ro : Option Addr) (s : Sr) (h : RdM w N A ro s) :
    Calls Try.prog 18 #[.pointer ro] w fun e w' => e = .returned (.string (mk (textS s))) ∧ RdM w' N A ro (textD s) ∧ Mv A A A w w' := by
  have C := Lib.hid (get_ok w N A ro s 1 h (by unfold IsSz; omega))
  have hl := lenS_lt s
  unfold textS textD
  have hs : valU (takeS 1 s) = lenS s := rfl
  rw [hs] at C
  generalize lenS s = u at C hl ⊢
  have cv : IntKind.i64.wrap (u : Int) = (u : Int) := by rw [IntKind.wrap_i64]; omega
  clear h hs
  go_enter Try.func18, Try.ntmps18
  go_wp2_with fail
  refine C.out.mono ?_
  rintro e w1 ⟨rfl, k1, k2⟩
  have D := Lib.hid (take_any w1 N A ro (dropS 1 s) u k1 (by omega))
  have K2 := Lib.hid k2
  clear C k1 k2
  obtain ⟨t, ht⟩ : ∃ t, t = takeS u (dropS 1 s) := ⟨_, rfl⟩
  rw [← ht] at D
  have HT := Lib.hid ht
  clear ht
  go_wp2_with fail
  refine D.out.mono ?_
  rintro e w2 ⟨q, c, rfl, hr, k3, k4⟩
  have rs := run_str w2 q c t hr
  have HK := Lib.hid (And.intro k3 (K2.out.trans k4))
  clear hr k3 k4 D
  go_wp2
  go_ret
  exact ⟨by rw [← HT.out]; rfl, HK.out⟩

theorem read_any (w : World) (q : Option Addr) (c : Nat) (l : List UInt8) (h : RowR 1 encU w q l) (hq : q = none → c = 0 ∧ l = []) (hl : l.length ≤ 1000000000) :
    Calls Try.prog 15 #[.slice q l.length c] w fun e w' => ∃ A, e = .returned (ptr A) ∧ w.heap.size ≤ A ∧ RdM w' w.heap.size A (some ⟨A, 0, none⟩) (some l) ∧ (∀ b, yb w' A = some b → w.heap.size ≤ b ∧ b < w'.heap.size) ∧ Below w.heap.size w w' := by
  have C := Lib.hid (bclone_any w q c l h hq hl)
  clear h hq
  go_enter Try.func15, Try.ntmps15
  go_wp2_with fail
  refine C.out.mono ?_
  rintro e w1 ⟨v, rfl, _, k1, k2⟩
  obtain ⟨q', c', rfl, _, hc, hm, hr, hp, _⟩ := own_lies k1
  have G : Gr w1 (w1.alloc (.cells #[.slice q' l.length c', .bool false] 79)) := (Gr.refl w1).alloc _
  have F : Hid (w.heap.size ≤ w1.heap.size ∧ RdM (w1.alloc (.cells #[.slice q' l.length c', .bool false] 79)) w.heap.size w1.heap.size (some ⟨w1.heap.size, 0, none⟩) (some l) ∧ (∀ b, yb (w1.alloc (.cells #[.slice q' l.length c', .bool false] 79)) w1.heap.size = some b → w.heap.size ≤ b ∧ b < (w1.alloc (.cells #[.slice q' l.length c', .bool false] 79)).heap.size) ∧ Below w.heap.size w (w1.alloc (.cells #[.slice q' l.length c', .bool false] 79))) :=
    ⟨k2.size, .inr ⟨rfl, k2.size, by simp, .inr ⟨l, q', c', rfl, heap_alloc_new _ _, hc, hm, hr.gr G, fun p hp' => ⟨(hp p hp').1, by have := (hp p hp').2; omega⟩⟩⟩, fun b hb => by
      rw [yb_of (v := .slice q' l.length c') (heap_alloc_new w1 _) rfl] at hb
      cases q' with
      | none => simp [Value.ownBlock] at hb
      | some p =>
        simp only [Value.ownBlock, Option.some.injEq] at hb
        have := hp p rfl
        simp
        omega, k2.trans (G.below.mono k2.size)⟩
  clear k1 k2 hc hm hr hp G C
  go_wp2
  go_ret
  exact ⟨_, rfl, F.out⟩
end Go.Proofs.Ytlajiochpdlhaaa
