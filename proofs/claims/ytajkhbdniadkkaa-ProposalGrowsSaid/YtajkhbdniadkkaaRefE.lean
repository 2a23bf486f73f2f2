/- What 'Div' answers: quotient and rest as digits. -/
import Derived.Test.YtajkhbdniadkkaaRefD
namespace Go.Proofs.Ytajkhbdniadkkaa
open Go.RowKit
set_option linter.unusedVariables false

theorem made_zeros (n : Nat) : (madeCells (Value.int .u8 0).cells (n * 1)).toList = digs (List.replicate n 0) := by
  have e : (Value.int .u8 0).cells = #[.int .u8 0] := rfl
  rw [e, Nat.mul_one]
  apply List.ext_getElem
  · simp [madeCells, digs]
  · intro i h1 h2
    simp [madeCells, digs, Nat.mod_one]

def DivRet (w : World) (a d : Nat) (e : Ending) (w' : World) : Prop :=
  ∃ q r, e = .returned (.tuple #[q, r]) ∧ Num w' w.heap.size q (a / d) ∧ Num w' w.heap.size r (a % d) ∧ Below w.heap.size w w'
def DivRel (w : World) (n a d j : Nat) (v : Value) (wr : World) : Prop :=
  ∃ qs, (List.replicate j 0 ++ qs).length = n ∧ Bin qs ∧ val qs = a / 2 ^ j / d ∧
    wr.ownsRow w.heap.size 5 1 (.slice (some ⟨w.heap.size, 0, none⟩) n n) n (digs (List.replicate j 0 ++ qs)) ∧ Num wr (w.heap.size + 1) v (a / 2 ^ j % d) ∧ Below w.heap.size w wr ∧ w.heap.size < wr.heap.size

theorem replicate_snoc (j : Nat) (l : List Nat) : List.replicate (j + 1) 0 ++ l = List.replicate j 0 ++ (0 :: l) := by
  rw [List.replicate_succ', List.append_assoc]; rfl
theorem set_zero (j b : Nat) (l : List Nat) : (digs (List.replicate j 0 ++ (0 :: l))).set j (.int .u8 (b : Int)) = digs (List.replicate j 0 ++ (b :: l)) := by
  simp [digs]

theorem Row.setCell {w : World} {base : Nat} {v : Value} {l : List Nat} (h : Row w base v l) {p : Addr} (hp : p.block < base) (u : Value) : Row (w.setCell p u) base v l := by
  obtain ⟨ad, c, rfl, hc, h1, h2, h3⟩ := h
  refine ⟨ad, c, rfl, hc, h1, by simpa [World.setCell] using h2, h3.keep fun q hq => World.cell?_setCell_other w p q u (fun e => by subst e; omega)⟩
theorem Num.setCell {w : World} {base : Nat} {v : Value} {n : Nat} (h : Num w base v n) {p : Addr} (hp : p.block < base) (u : Value) : Num (w.setCell p u) base v n := by
  obtain ⟨l, h1, h2⟩ := h
  exact ⟨l, h1.setCell hp u, h2⟩

theorem ownsRow_below {w w' : World} {base e n : Nat} {v : Value} {xs : List Value} (h : w.ownsRow base e 1 v n xs) (hb : Below w.heap.size w w') : w'.ownsRow base e 1 v n xs :=
  h.kept (row := none) ⟨hb.os, hb.tape, hb.output, hb.size, fun i hi _ => hb.block i hi⟩ (by cases hv : v.ownBlock <;> simp)

/-- A round in which the rest stays below the divisor. -/
theorem div_keep {w wr w1 : World} {n a d j : Nat} {v v1 : Value} (hd : 0 < d) (h : DivRel w n a d (j + 1) v wr) (hb : Below wr.heap.size wr w1) (h1 : Num w1 wr.heap.size v1 (bit a j + 2 * (a / 2 ^ (j + 1) % d)))
    (hlt : bit a j + 2 * (a / 2 ^ (j + 1) % d) < d) : DivRel w n a d j v1 w1 := by
  obtain ⟨qs, h2, h3, h4, h5, h6, h7, h8⟩ := h
  obtain ⟨e1, e2⟩ := div_round_lt (k := j) hd (by omega : 2 * (a / 2 ^ (j + 1) % d) + bit a j < d)
  refine ⟨0 :: qs, by rw [← replicate_snoc]; exact h2, h3.cons (by decide), by rw [val_cons, h4, e1]; omega, by rw [← replicate_snoc]; exact ownsRow_below h5 hb, ?_, h7.trans (hb.mono (by omega)), by have := hb.size; omega⟩
  rw [e2, Nat.add_comm (2 * _) (bit a j)]
  exact h1.more (base' := w.heap.size + 1) (by omega)
/-- A round in which the divisor goes into it once. -/
theorem div_take {w wr w2 : World} {n a d j : Nat} {v v2 : Value} (hd : 0 < d) (h : DivRel w n a d (j + 1) v wr) (hb : Below wr.heap.size wr w2) (h2 : Num w2 wr.heap.size v2 (bit a j + 2 * (a / 2 ^ (j + 1) % d) - d))
    (hge : d ≤ bit a j + 2 * (a / 2 ^ (j + 1) % d)) : DivRel w n a d j v2 (w2.setCell ⟨w.heap.size, j, none⟩ (.int .u8 1)) := by
  obtain ⟨qs, h2', h3, h4, h5, h6, h7, h8⟩ := h
  obtain ⟨e1, e2⟩ := div_round_ge (k := j) hd (by omega : d ≤ 2 * (a / 2 ^ (j + 1) % d) + bit a j)
  have hown := ownsRow_below h5 hb
  rw [replicate_snoc] at hown h2'
  have hst := (hown.stored j (.int .u8 1)).1
  have e := set_zero j 1 qs
  rw [show (Value.int .u8 1 : Value) = .int .u8 ((1 : Nat) : Int) from rfl, e] at hst
  refine ⟨1 :: qs, by simpa using h2', h3.cons (by decide), by rw [val_cons, h4, e1]; omega, hst, ?_, (h7.trans (hb.mono (by omega))).setCell (Nat.le_refl _) _, by have := hb.size; simp [World.setCell]; omega⟩
  rw [e2, show 2 * (a / 2 ^ (j + 1) % d) + bit a j - d = bit a j + 2 * (a / 2 ^ (j + 1) % d) - d by omega]
  exact (h2.more (base' := w.heap.size + 1) (by omega)).setCell (Nat.lt_succ_self w.heap.size) _

set_option maxHeartbeats 2000000 in
theorem div_any {w : World} {b1 b2 : Nat} {v1 v2 : Value} {a d : Nat} (k : Nat) (h1 : Num w b1 v1 a) (h2 : Num w b2 v2 d) (ha : a < 2 ^ k) (hd : d < 2 ^ k) (hd0 : 0 < d) (hk : k + 1 ≤ 1000000) :
    Calls Try.prog 52 #[v1, v2] w (DivRet w a d) := by
  obtain ⟨la, hra, bina, tia, rfl⟩ := h1
  have hla := tia.len_le ha
  have VA := Lib.hid (val_lt la bina)
  have HD := Lib.hid hd
  have HR := Lib.hid (fun j : Nat => Nat.mod_lt (val la / 2 ^ j) hd0)
  clear ha hd tia
  obtain ⟨ada, ca, rfl, hca, ha1, ha2, hcells⟩ := id hra
  have HC := Lib.hid hcells
  have H2 := Lib.hid h2
  clear hcells h2
  obtain ⟨i0, hi0, hz0, hz1, hz2⟩ := info_parts info_byte
  have HI := Lib.hid (And.intro hi0 (And.intro hz0 (And.intro hz1 hz2)))
  clear hi0 hz0 hz1 hz2
  go_enter Try.func52, Try.ntmps52
  go_wp2_with (at_make; refine wpList_make_full w rfl (.tmp 10) (.tmp 10) _ rfl w.heap.size 5 i0 _ 1 Try.underlying119 HI.out.1 HI.out.2.1 HI.out.2.2.1 .i64 .i64 la.length la.length la.length rfl rfl rfl rfl (by rw [HI.out.2.2.2]; omega) (by unfold maxLen; omega) (Nat.le_refl _) ?_; intro w1 hq hg1)
  rw [made_zeros] at hq
  have hlt1 := (hq.lt w.heap.size rfl).2
  have hb1 : Below w.heap.size w w1 := (Below.refl _ _).grown hg1 (Nat.le_refl _) (by simp)
  go_loopw [7, 8] (fun v i wr => ∃ (j : Nat) (z : Int), i = .int .i64 z ∧ z + 1 = (j : Int) ∧ j ≤ la.length ∧ DivRel w la.length (val la) d j v wr) (fun _ i _ => (intOf i + 1).toNat)
  case atStart =>
    refine ⟨la.length, _, rfl, by omega, Nat.le_refl _, [], by simp, Bin.nil, ?_, ?_, ?_, hb1.alloc (by omega) _, by simp; omega⟩
    · rw [Nat.div_eq_of_lt VA.out, Nat.zero_div]; rfl
    · rw [List.append_nil]
      exact World.ownsRow.alloc hq _
    · rw [Nat.div_eq_of_lt VA.out, Nat.zero_mod]
      exact Num.mk (Row.of_own (Own.empty w1 hlt1)) Bin.nil tight_nil rfl
  case round =>
    obtain ⟨j, z, rfl, hz, hj, hrel⟩ := hrel
    rcases j with _ | j
    · obtain rfl : z = -1 := by omega
      obtain ⟨qs, h2, h3, h4, h5, h6, h7, h8⟩ := hrel
      have e0 : List.replicate 0 0 ++ qs = qs := rfl
      rw [e0] at h2 h5
      have hqrow : Row wr w.heap.size (.slice (some ⟨w.heap.size, 0, none⟩) la.length la.length) qs := by
        have := Row.of_own (⟨by rw [h2]; exact h5, by simp⟩ : Own wr w.heap.size (.slice (some ⟨w.heap.size, 0, none⟩) la.length la.length) qs)
        exact this
      have H4 := Lib.hid h4
      have H2' := Lib.hid h2
      clear h4 h2
      go_wp2_with fail
      refine (trim_row hqrow h3 (by rw [H2'.out]; omega)).mono ?_
      rintro e w' ⟨⟨q', rfl, hnq⟩, rfl⟩
      go_wp2
      go_ret2
      refine ⟨_, _, rfl, ?_, ?_, h7⟩
      · have := H4.out
        simp at this
        rw [this] at hnq
        exact hnq
      · have := h6.more (base' := w.heap.size) (by omega)
        simpa using this
    · obtain rfl : z = (j : Int) := by omega
      have hr0 := HR.out (j + 1)
      have hd2 := HD.out
      obtain ⟨lr, hlr, binr, tir, hvr⟩ := hrel.choose_spec.2.2.2.2.1
      have hbel := hrel.choose_spec.2.2.2.2.2.1
      have hszr := hrel.choose_spec.2.2.2.2.2.2
      have hlen := tir.len_le (k := k) (by rw [hvr]; omega)
      have hcell : wr.cell? (ada.add j) = some (.int .u8 ((bit (val la) j : Nat) : Int)) := by
        rw [hbel.cell (p := ada.add j) (by rw [add_block]; exact ha2), ← get_bit la bina]
        exact Cells.at_ HC.out hj
      have HX := Lib.hid (show val ([bit (val la) j] ++ lr) = bit (val la) j + 2 * (val la / 2 ^ (j + 1) % d) by rw [← hvr]; rfl)
      have hb1' := bit_le (val la) j
      have hx : bit (val la) j + 2 * (val la / 2 ^ (j + 1) % d) < 2 ^ (k + 1) := by rw [show 2 ^ (k + 1) = 2 ^ k * 2 from Nat.pow_succ 2 k]; omega
      have hd3 : d < 2 ^ (k + 1) := by rw [show 2 ^ (k + 1) = 2 ^ k * 2 from Nat.pow_succ 2 k]; omega
      have H1 := Lib.hid hx
      have H3 := Lib.hid hd3
      have HL := Lib.hid hlr
      clear hvr hx hd3 hd2 hr0 hlr
      go_wp2_with (at_builtin; refine wpList_append_row rfl (.tmp 24) (.tmp 25) rfl wr.heap.size _ [bit (val la) j] rfl (Own.one wr (Nat.le_refl _) _ _ rfl) (w.heap.size + 1) _ lr rfl (HL.out.below ((Below.refl _ _).alloc (Nat.le_refl _) _)) (by simp; omega) (by simp) ?_; intro v3 w3 hO hg _)
      have hw3 : Below wr.heap.size wr w3 := ((Below.refl _ _).alloc (Nat.le_refl _) _).grown hg (by simp) (fun k hk => ((Own.one wr (Nat.le_refl _) _ (bit (val la) j) rfl).lt k hk).1)
      have hs3 := hw3.size
      have hb3 := hbel.trans (hw3.mono (by omega : w.heap.size ≤ wr.heap.size))
      refine (trim_row (Row.of_own hO) ((Bin.one (bit_lt _ _)).append binr) (by simp; omega)).mono ?_
      rintro e w' ⟨⟨v4, rfl, hn4⟩, rfl⟩
      rw [HX.out] at hn4
      go_wp2_with fail
      refine (cmp_num (k + 1) hn4 (H2.out.below hb3) H1.out H3.out hk).mono ?_
      rintro e w' ⟨rfl, rfl⟩
      rcases Nat.lt_or_ge (bit (val la) j + 2 * (val la / 2 ^ (j + 1) % d)) d with hc | hc
      · have hneg : sgn (bit (val la) j + 2 * (val la / 2 ^ (j + 1) % d)) d < 0 := by rw [sgn_lt hc]; decide
        have hnew := div_keep hd0 hrel hw3 hn4 hc
        go_wp2_with fail
        go_roundw
        case rel => exact ⟨j, _, rfl, by omega, by omega, hnew⟩
        case measure => simp [intOf]
      · have hpos : 0 ≤ sgn (bit (val la) j + 2 * (val la / 2 ^ (j + 1) % d)) d := by
          rcases Nat.lt_or_eq_of_le hc with h | h
          · rw [sgn_gt h]; decide
          · rw [sgn_eq h.symm]; decide
        go_wp2_with fail
        refine (sub_any (k + 1) hn4 (H2.out.below hb3) H1.out hc hk).mono ?_
        rintro e w5 ⟨v5, rfl, hn5, hw5⟩
        have hs5 := hw5.size
        have hw35 : Below wr.heap.size wr w5 := hw3.trans (hw5.mono hs3)
        have hown5 := ownsRow_below hrel.choose_spec.2.2.2.1 hw35
        have hcell5 : w5.cell? ⟨w.heap.size, j, none⟩ = some (.int .u8 0) := by
          rw [hown5.cellAt j (by omega), replicate_snoc]
          simp [digs]
        have hfr5 : w5.frozen? ⟨w.heap.size, j, none⟩ = false := hown5.frozenAt j
        have hnew := div_take hd0 hrel hw35 (hn5.more (by omega)) hc
        go_wp2_with fail
        go_roundw
        case rel => exact ⟨j, _, rfl, by omega, by omega, hnew⟩
        case measure => simp [intOf]


end Go.Proofs.Ytajkhbdniadkkaa
