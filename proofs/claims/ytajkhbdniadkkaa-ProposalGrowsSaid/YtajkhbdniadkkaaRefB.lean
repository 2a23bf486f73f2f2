/- What 'Add' and 'sub' answer: sums and differences of numbers as digits. -/
import Derived.Test.YtajkhbdniadkkaaRefA
namespace Go.Proofs.Ytajkhbdniadkkaa
open Go.RowKit
set_option linter.unusedVariables false

def AddRel (w : World) (a b k c : Nat) (v : Value) (wr : World) (l : List Nat) : Prop :=
  c ≤ 1 ∧ Bin l ∧ Hid (val l + c * 2 ^ l.length = a % 2 ^ l.length + b % 2 ^ l.length) ∧ l.length ≤ k + 1 ∧ (k < l.length → c = 0) ∧ Own wr w.heap.size v l ∧ Below w.heap.size w wr
theorem add_rel_round {w wr w1 : World} {a b k c : Nat} {v v' : Value} {l : List Nat} {o : Obj} (ha : a < 2 ^ k) (hb : b < 2 ^ k) (h : AddRel w a b k c v wr l) (hgo : l.length < k ∨ c = 1)
    (hO : Own w1 w.heap.size v' (l ++ [(bit a l.length + bit b l.length + c) % 2])) (hg : (wr.alloc o).grownBy w1 v.ownBlock) :
    AddRel w a b k ((bit a l.length + bit b l.length + c) / 2) v' w1 (l ++ [(bit a l.length + bit b l.length + c) % 2]) ∧
    2 * (k - (l.length + 1)) + (bit a l.length + bit b l.length + c) / 2 < 2 * (k - l.length) + c := by
  obtain ⟨h1, h2, h3, h4, h5, h6, h7⟩ := h
  have ba := bit_le a l.length
  have bb := bit_le b l.length
  have hk : l.length ≤ k := by
    rcases hgo with g | g
    · omega
    · rcases Nat.lt_or_ge k l.length with g' | g'
      · have := h5 g'; omega
      · exact g'
  have hz : l.length = k → bit a l.length = 0 ∧ bit b l.length = 0 := fun e => ⟨bit_zero ha (by omega), bit_zero hb (by omega)⟩
  refine ⟨⟨by omega, h2.append (Bin.one (Nat.mod_lt _ (by decide))), ?_, ?_, ?_, hO, ?_⟩, ?_⟩
  · show val _ + _ = _
    rw [val_snoc, List.length_append, List.length_singleton]
    exact add_round a b l.length _ c h3.out
  · rw [List.length_append, List.length_singleton]; omega
  · rw [List.length_append, List.length_singleton]
    intro hlt
    have := hz (by omega)
    omega
  · refine (h7.alloc h7.size o).grown hg ?_ ?_
    · have := h7.size; simp; omega
    · intro k hk
      exact (h6.lt k hk).1
  · rcases Nat.lt_or_ge l.length k with g | g
    · omega
    · have := hz (by omega)
      omega
theorem add_rel_end {w wr : World} {a b k n m : Nat} {v : Value} {l : List Nat} (h : AddRel w a b k 0 v wr l) (ha : a < 2 ^ n) (hb : b < 2 ^ m) (h1 : n ≤ l.length) (h2 : m ≤ l.length) : val l = a + b := by
  obtain ⟨_, _, h3, _⟩ := h
  exact add_done a b l.length _ (Nat.lt_of_lt_of_le ha (Nat.pow_le_pow_right (by decide) h1)) (Nat.lt_of_lt_of_le hb (Nat.pow_le_pow_right (by decide) h2)) h3.out

set_option maxHeartbeats 1000000 in
theorem add_any {w : World} {b1 b2 : Nat} {v1 v2 : Value} {a b : Nat} (k : Nat) (h1 : Num w b1 v1 a) (h2 : Num w b2 v2 b) (ha : a < 2 ^ k) (hb : b < 2 ^ k) (hk : k ≤ 1000000) :
    Calls Try.prog 53 #[v1, v2] w (RetNum w (a + b)) := by
  obtain ⟨la, hra, bina, tia, rfl⟩ := h1
  obtain ⟨lb, hrb, binb, tib, rfl⟩ := h2
  have hla := tia.len_le ha
  have hlb := tib.len_le hb
  have va := val_lt la bina
  have vb := val_lt lb binb
  have HA := Lib.hid ha
  have HB := Lib.hid hb
  have VA := Lib.hid va
  have VB := Lib.hid vb
  clear ha hb va vb tia tib
  obtain ⟨ada, ca, rfl, hca, ha1, ha2, hcells⟩ := id hra
  obtain ⟨adb, cb, rfl, hcb, hb1, hb2, hcellsb⟩ := id hrb
  clear hcells hcellsb
  go_enter Try.func53, Try.ntmps53
  go_wp2
  go_loopw [5, 6, 7] (fun v c i wr => ∃ (C : Nat) (l : List Nat), c = .int .u8 (C : Int) ∧ i = .int .i64 (l.length : Int) ∧ AddRel w (val la) (val lb) k C v wr l) (fun _ c i _ => 2 * (k - (intOf i).toNat) + (intOf c).toNat)
  case atStart =>
    exact ⟨0, [], rfl, rfl, Nat.zero_le _, Bin.nil, by show val [] + _ = _; simp [val, Nat.mod_one], by simp, by simp, Own.empty w (Nat.le_refl _), (Below.refl _ _).alloc (Nat.le_refl _) _⟩
  case round =>
    obtain ⟨C, l, rfl, rfl, hrel⟩ := hrel
    have hC := hrel.1
    have hlk := hrel.2.2.2.1
    have hown := hrel.2.2.2.2.2.1
    have hbel := hrel.2.2.2.2.2.2
    have hsz := hbel.size
    have xa := bit_le (val la) l.length
    have xb := bit_le (val lb) l.length
    by_cases hend : la.length ≤ l.length ∧ lb.length ≤ l.length ∧ C = 0
    · obtain ⟨e1, e2, rfl⟩ := hend
      have hv := Lib.hid (add_rel_end hrel VA.out VB.out e1 e2)
      go_wp2_with fail
      refine (trim_row (Row.of_own hown) hrel.2.1 (by omega)).mono ?_
      rintro e w' ⟨⟨v', rfl, hnum⟩, rfl⟩
      go_wp2
      go_ret
      exact ⟨v', rfl, hv.out ▸ hnum, hbel⟩
    · have hgo : l.length < k ∨ C = 1 := by omega
      have HG := Lib.hid hgo
      have hcase : l.length < la.length ∨ (la.length ≤ l.length ∧ l.length < lb.length) ∨ (la.length ≤ l.length ∧ lb.length ≤ l.length ∧ 0 < C) := by omega
      clear hend hgo
      rcases hcase with g1 | ⟨g1, g2⟩ | ⟨g1, g2, g3⟩
      all_goals
        go_wp2_with fail
        refine (at_num (hra.below hbel) bina (by omega) (l.length : Int) (by omega)).mono ?_
        rintro e w' ⟨rfl, rfl⟩
        go_wp2_with fail
        refine (at_num (hrb.below hbel) binb (by omega) (l.length : Int) (by omega)).mono ?_
        rintro e w' ⟨rfl, rfl⟩
        simp only [Int.toNat_natCast]
        go_wp2_with (at_builtin; refine wpList_append_row rfl (.tmp 35) (.tmp 38) rfl w.heap.size _ l rfl (hown.alloc _) wr.heap.size _ [(bit (val la) l.length + bit (val lb) l.length + C) % 2] rfl (Row.one wr _ _ (by omega)) (by simp; omega) (by simp; omega) ?_; intro v1 w1 hO hg _)
        obtain ⟨hnew, hmeas⟩ := add_rel_round HA.out HB.out hrel HG.out hO hg
        go_roundw
        case rel => exact ⟨_, _, by go_num, by simp, hnew⟩
        case measure => simp [intOf]; omega


/-! ### 'sub' -/
def SubRel (w : World) (a b c : Nat) (v : Value) (wr : World) (l : List Nat) : Prop :=
  c ≤ 1 ∧ Bin l ∧ Hid (val l + b % 2 ^ l.length = a % 2 ^ l.length + c * 2 ^ l.length) ∧ Own wr w.heap.size v l ∧ Below w.heap.size w wr
theorem sub_rel_round {w wr w1 : World} {a b c : Nat} {v v' : Value} {l : List Nat} {o : Obj} (h : SubRel w a b c v wr l)
    (hO : Own w1 w.heap.size v' (l ++ [(2 + bit a l.length - bit b l.length - c) % 2])) (hg : (wr.alloc o).grownBy w1 v.ownBlock) :
    SubRel w a b (1 - (2 + bit a l.length - bit b l.length - c) / 2) v' w1 (l ++ [(2 + bit a l.length - bit b l.length - c) % 2]) := by
  obtain ⟨h1, h2, h3, h6, h7⟩ := h
  refine ⟨by omega, h2.append (Bin.one (Nat.mod_lt _ (by decide))), ?_, hO, ?_⟩
  · show val _ + _ = _
    rw [val_snoc, List.length_append, List.length_singleton]
    exact sub_round a b l.length _ c h1 h3.out
  · refine (h7.alloc h7.size o).grown hg ?_ ?_
    · have := h7.size; simp; omega
    · intro k hk
      exact (h6.lt k hk).1
theorem sub_rel_end {w wr : World} {a b c : Nat} {v : Value} {l : List Nat} (h : SubRel w a b c v wr l) (ha : a < 2 ^ l.length) (hba : b ≤ a) : val l = a - b := by
  obtain ⟨h1, h2, h3, _⟩ := h
  exact sub_done a b l.length _ c h1 ha hba (val_lt l h2) h3.out

set_option maxHeartbeats 1000000 in
theorem sub_any {w : World} {b1 b2 : Nat} {v1 v2 : Value} {a b : Nat} (k : Nat) (h1 : Num w b1 v1 a) (h2 : Num w b2 v2 b) (ha : a < 2 ^ k) (hba : b ≤ a) (hk : k ≤ 1000000) :
    Calls Try.prog 72 #[v1, v2] w (RetNum w (a - b)) := by
  obtain ⟨la, hra, bina, tia, rfl⟩ := h1
  obtain ⟨lb, hrb, binb, tib, rfl⟩ := h2
  have hla := tia.len_le ha
  have hlb := tib.len_le (Nat.lt_of_le_of_lt hba ha)
  have VA := Lib.hid (val_lt la bina)
  have HBA := Lib.hid hba
  clear ha hba tia tib
  obtain ⟨ada, ca, rfl, hca, ha1, ha2, hcells⟩ := id hra
  obtain ⟨adb, cb, rfl, hcb, hb1, hb2, hcellsb⟩ := id hrb
  clear hcells hcellsb
  go_enter Try.func72, Try.ntmps72
  go_wp2
  go_loopw [5, 6, 12] (fun v c i wr => ∃ (C : Nat) (l : List Nat), c = .int .u8 (C : Int) ∧ i = .int .i64 (l.length : Int) ∧ l.length ≤ la.length ∧ SubRel w (val la) (val lb) C v wr l) (fun _ _ i _ => la.length - (intOf i).toNat)
  case atStart =>
    exact ⟨0, [], rfl, rfl, Nat.zero_le _, Nat.zero_le _, Bin.nil, by show val [] + _ = _; simp [val, Nat.mod_one], Own.empty w (Nat.le_refl _), (Below.refl _ _).alloc (Nat.le_refl _) _⟩
  case round =>
    obtain ⟨C, l, rfl, rfl, hle, hrel⟩ := hrel
    have hC := hrel.1
    have hown := hrel.2.2.2.1
    have hbel := hrel.2.2.2.2
    have hsz := hbel.size
    have xa := bit_le (val la) l.length
    have xb := bit_le (val lb) l.length
    by_cases hlt : l.length < la.length
    · go_wp2_with fail
      refine (at_num (hra.below hbel) bina (by omega) (l.length : Int) (by omega)).mono ?_
      rintro e w' ⟨rfl, rfl⟩
      go_wp2_with fail
      refine (at_num (hrb.below hbel) binb (by omega) (l.length : Int) (by omega)).mono ?_
      rintro e w' ⟨rfl, rfl⟩
      simp only [Int.toNat_natCast]
      go_wp2_with (at_builtin; refine wpList_append_row rfl (.tmp 25) (.tmp 28) rfl w.heap.size _ l rfl (hown.alloc _) wr.heap.size _ [(2 + bit (val la) l.length - bit (val lb) l.length - C) % 2] rfl (Row.one wr _ _ (by omega)) (by simp; omega) (by simp; omega) ?_; intro v1 w1 hO hg _)
      have hnew := sub_rel_round hrel hO hg
      go_roundw
      case rel => exact ⟨_, _, by go_num, by simp, by simp; omega, hnew⟩
      case measure => simp [intOf]; omega
    · have hv := Lib.hid (sub_rel_end hrel (by have := VA.out; rwa [show l.length = la.length by omega]) HBA.out)
      go_wp2_with fail
      refine (trim_row (Row.of_own hown) hrel.2.1 (by omega)).mono ?_
      rintro e w' ⟨⟨v', rfl, hnum⟩, rfl⟩
      go_wp2
      go_ret
      exact ⟨v', rfl, hv.out ▸ hnum, hbel⟩
end Go.Proofs.Ytajkhbdniadkkaa
