/- What 'Number', 'Two' and 'Join' answer. -/
import Derived.Test.YtmfilgagdilmbaaRefC
namespace Go.Proofs.Ytmfilgagdilmbaa
open Go.RowKit
set_option linter.unusedVariables false

/-- The 64 lowest digits of a number. -/
def low (n : Nat) : Nat := n % 18446744073709551616
theorem low_lt (n : Nat) : low n < 18446744073709551616 := Nat.mod_lt _ (by decide)
theorem low_of {n : Nat} (h : n < 18446744073709551616) : low n = n := Nat.mod_eq_of_lt h
theorem low_step (a j : Nat) : low (a / 2 ^ j) = (low (a / 2 ^ (j + 1)) * 2 + bit a j) % 18446744073709551616 := by
  rw [div_step a j]; unfold low; omega
theorem wrap_step (X b : Nat) : IntKind.u64.wrap (IntKind.u64.wrap ((X : Int) * 2) + (b : Int)) = (((X * 2 + b) % 18446744073709551616 : Nat) : Int) := by
  rw [IntKind.wrap_u64, IntKind.wrap_u64]; omega
theorem ret_num {a b : Nat} {p q : Bool} (h : a = b) (g : p = q) : Ending.returned (.tuple #[.int .u64 (a : Int), .bool p]) = .returned (.tuple #[.int .u64 (b : Int), .bool q]) := by rw [h, g]
set_option maxHeartbeats 1000000 in
theorem number_any {w : World} {base : Nat} {v : Value} {l : List Nat} (hr : Row w base v l) (hb : Bin l) (hl : l.length ≤ 1000000) :
    Calls Try.prog 19 #[v] w fun e w' => e = .returned (.tuple #[.int .u64 ((low (val l) : Nat) : Int), .bool (decide (l.length ≤ 64))]) ∧ w = w' := by
  have VL := Lib.hid (val_lt l hb)
  obtain ⟨ad, c, rfl, hc, ha1, ha2, hcells⟩ := id hr
  have HC := Lib.hid hcells
  clear hcells
  go_enter Try.func19, Try.ntmps19
  go_wp2
  go_loop [4, 5] (fun x i => ∃ (X j : Nat) (z : Int), x = .int .u64 (X : Int) ∧ X < 18446744073709551616 ∧ i = .int .i64 z ∧ z + 1 = (j : Int) ∧ j ≤ l.length ∧ Hid (X = low (val l / 2 ^ j))) (fun _ i => (intOf i + 1).toNat)
  case atStart => exact ⟨0, l.length, _, rfl, by omega, rfl, by omega, Nat.le_refl _, by show _ = _; rw [Nat.div_eq_of_lt VL.out]; rfl⟩
  case round =>
    obtain ⟨X, j, z, rfl, hX, rfl, hz, hj, hrel⟩ := hrel
    rcases j with _ | j
    · obtain rfl : z = -1 := by omega
      go_wp2
      go_ret2
      exact ⟨ret_num (by rw [hrel.out]; simp) (by rw [decide_eq_decide]; omega), rfl⟩
    · obtain rfl : z = (j : Int) := by omega
      have hcell : w.cell? (ad.add j) = some (.int .u8 ((bit (val l) j : Nat) : Int)) := by rw [← get_bit l hb]; exact Cells.at_ HC.out hj
      have hb1 := bit_le (val l) j
      go_wp2
      go_round
      case rel =>
        refine ⟨(X * 2 + bit (val l) j) % 18446744073709551616, j, _, ?_, Nat.mod_lt _ (by decide), rfl, by omega, by omega, ?_⟩
        · rw [wrap_step]
        · show _ = _
          rw [low_step, ← hrel.out]
      case measure => simp [intOf]
theorem number_num {w : World} {base : Nat} {v : Value} {n : Nat} (h : Num w base v n) (k : Nat) (hn : n < 2 ^ k) (hk : k ≤ 1000000) :
    Calls Try.prog 19 #[v] w fun e w' => e = .returned (.tuple #[.int .u64 ((low n : Nat) : Int), .bool (decide (n < 18446744073709551616))]) ∧ w = w' := by
  obtain ⟨l, hr, hb, ht, rfl⟩ := h
  refine (number_any hr hb (Nat.le_trans (ht.len_le hn) hk)).mono ?_
  rintro e w' ⟨rfl, rfl⟩
  refine ⟨ret_num rfl ?_, rfl⟩
  rw [decide_eq_decide]
  have := ht.lt_iff hb 64
  have e : (2 : Nat) ^ 64 = 18446744073709551616 := by decide
  omega

/-! ### 'Two' -/
theorem Row.pre {w : World} {base c : Nat} {ad : Addr} {l : List Nat} (h : Row w base (.slice (some ad) l.length c) l) {k : Nat} (hk : k ≤ l.length) : Row w base (.slice (some ad) k c) (l.take k) := by
  obtain ⟨ad', c', e, hc, h1, h2, hcells⟩ := h
  injection e with e1 e2 e3
  injection e1 with e1
  subst e1 e3
  have hl : (l.take k).length = k := by rw [List.length_take]; omega
  exact ⟨ad, c, by rw [hl], by rw [hl]; omega, h1, h2, hcells.take k⟩
theorem Row.none_ {w : World} {base c : Nat} {ad : Addr} {l : List Nat} (h : Row w base (.slice (some ad) l.length c) l) (x : Nat) : Row w base (.slice (some ad) 0 x) [] := by
  obtain ⟨ad', c', e, hc, h1, h2, hcells⟩ := h
  injection e with e1 e2 e3
  injection e1 with e1
  subst e1
  exact ⟨ad, x, rfl, Nat.zero_le _, h1, h2, fun j b hj => by cases hj⟩
theorem Row.mid {w : World} {base c : Nat} {ad : Addr} {l : List Nat} (h : Row w base (.slice (some ad) l.length c) l) {i k : Nat} (h0 : 0 < i) (hk : k ≤ l.length) (hi : i ≤ k) (n m : Nat) (hn : n + i = k) (hm : m + i = c) :
    Row w base (.slice (some ⟨ad.block, ad.off + i, none⟩) n m) ((l.take k).drop i) := by
  obtain ⟨ad', c', e, hc, h1, h2, hcells⟩ := h
  injection e with e1 e2 e3
  injection e1 with e1
  subst e1 e3
  have hl : ((l.take k).drop i).length = n := by rw [List.length_drop, List.length_take]; omega
  have ha : ad.add i = ⟨ad.block, ad.off + i, none⟩ := by unfold Addr.add; rw [if_neg (by omega)]
  rw [← ha]
  exact ⟨ad.add i, m, by rw [hl], by rw [hl]; omega, by rw [add_block]; exact h1, by rw [add_block]; exact h2, (hcells.take k).drop i⟩
theorem low_take (l : List Nat) (hb : Bin l) : low (val (l.take 64)) = low (val l) := by
  rw [(val_split l hb 64).1]; unfold low; omega
theorem low_mid (l : List Nat) (hb : Bin l) : low (val ((l.take 128).drop 64)) = low (val l / 2 ^ 64) := by
  rw [(val_split _ (hb.take 128) 64).2, (val_split l hb 128).1, show (2 : Nat) ^ 128 = 2 ^ 64 * 2 ^ 64 by decide, Nat.mod_mul_right_div_self]
  unfold low; omega
theorem ret_two {a b c d : Nat} (h : a = b) (g : c = d) : Ending.returned (.tuple #[.int .u64 (a : Int), .int .u64 (c : Int)]) = .returned (.tuple #[.int .u64 (b : Int), .int .u64 (d : Int)]) := by rw [h, g]
set_option maxHeartbeats 2000000 in
set_option maxRecDepth 100000 in
theorem two_any {w : World} {base : Nat} {v : Value} {l : List Nat} (hr : Row w base v l) (hb : Bin l) (hl : l.length ≤ 1000000) :
    Calls Try.prog 11 #[v] w fun e w' => e = .returned (.tuple #[.int .u64 ((low (val l / 2 ^ 64) : Nat) : Int), .int .u64 ((low (val l) : Nat) : Int)]) ∧ Below w.heap.size w w' := by
  obtain ⟨ad, c, rfl, hc, ha1, ha2, hcells⟩ := id hr
  clear hcells
  have hcase : (l.length < 64 ∧ c = l.length) ∨ (l.length < 64 ∧ l.length < c) ∨ (l.length = 64 ∧ c = 64) ∨ (64 ≤ l.length ∧ l.length < 128 ∧ 64 < c) ∨ 128 ≤ l.length := by omega
  rcases hcase with ⟨hm, rfl⟩ | ⟨hm, hm2⟩ | ⟨hm, rfl⟩ | ⟨hm, hm2, hm3⟩ | hm
  · go_enter Try.func11, Try.ntmps11
    go_wp2_with (at_builtin; refine wpList_append_row rfl (.tmp 9) (.tmp 14) rfl w.heap.size _ [] rfl (Own.empty w (Nat.le_refl _)) base _ (l.take l.length) rfl ((hr.pre (k := l.length) (by omega)).below ((Below.refl _ _).alloc (Nat.le_refl _) _)) (by simp; omega) (by simp) ?_; intro v1 w1 hO hg _)
    have hb1 : Below w.heap.size w w1 := ((Below.refl _ _).alloc (Nat.le_refl _) _).grown hg (by simp) (fun k hk => ((Own.empty w (Nat.le_refl _)).lt k hk).1)
    have hs1 := hb1.size
    refine (trim_row (Row.of_own hO) (Bin.nil.append (hb.take _)) (by simp; omega)).mono ?_
    rintro e w' ⟨⟨v1', rfl, hn1⟩, rfl⟩
    go_wp2_with fail
    refine (number_num hn1 ([] ++ l.take l.length).length (val_lt _ (Bin.nil.append (hb.take _))) (by simp; omega)).mono ?_
    rintro e w' ⟨rfl, rfl⟩
    have hb2 : Below w.heap.size w (w1.alloc (.cells #[] 5)) := hb1.alloc hs1 _
    have HL := Lib.hid (low_take l hb)
    have HM := Lib.hid (low_mid l hb)
    go_wp2_with fail
    refine (trim_row (Row.of_own (Own.empty w1 hs1)) Bin.nil (by simp)).mono ?_
    rintro e w' ⟨⟨v2', rfl, hn2⟩, rfl⟩
    go_wp2_with fail
    refine (number_num hn2 0 (by simp [val]) (by omega)).mono ?_
    rintro e w' ⟨rfl, rfl⟩
    go_wp2
    go_ret2
    exact ⟨ret_two (by rw [← HM.out, List.drop_eq_nil_of_le (by rw [List.length_take]; omega)]) (by simp), hb2⟩
  · go_enter Try.func11, Try.ntmps11
    go_wp2_with (at_builtin; refine wpList_append_row rfl (.tmp 9) (.tmp 14) rfl w.heap.size _ [] rfl (Own.empty w (Nat.le_refl _)) base _ (l.take l.length) rfl ((hr.pre (k := l.length) (by omega)).below ((Below.refl _ _).alloc (Nat.le_refl _) _)) (by simp; omega) (by simp) ?_; intro v1 w1 hO hg _)
    have hb1 : Below w.heap.size w w1 := ((Below.refl _ _).alloc (Nat.le_refl _) _).grown hg (by simp) (fun k hk => ((Own.empty w (Nat.le_refl _)).lt k hk).1)
    have hs1 := hb1.size
    refine (trim_row (Row.of_own hO) (Bin.nil.append (hb.take _)) (by simp; omega)).mono ?_
    rintro e w' ⟨⟨v1', rfl, hn1⟩, rfl⟩
    go_wp2_with fail
    refine (number_num hn1 ([] ++ l.take l.length).length (val_lt _ (Bin.nil.append (hb.take _))) (by simp; omega)).mono ?_
    rintro e w' ⟨rfl, rfl⟩
    have hb2 : Below w.heap.size w (w1.alloc (.cells #[] 5)) := hb1.alloc hs1 _
    have HL := Lib.hid (low_take l hb)
    have HM := Lib.hid (low_mid l hb)
    go_wp2_with fail
    refine (trim_row (Row.of_own (Own.empty w1 hs1)) Bin.nil (by simp)).mono ?_
    rintro e w' ⟨⟨v2', rfl, hn2⟩, rfl⟩
    go_wp2_with fail
    refine (number_num hn2 0 (by simp [val]) (by omega)).mono ?_
    rintro e w' ⟨rfl, rfl⟩
    go_wp2
    go_ret2
    exact ⟨ret_two (by rw [← HM.out, List.drop_eq_nil_of_le (by rw [List.length_take]; omega)]) (by simp), hb2⟩
  · have hm1 : 64 ≤ l.length := by omega
    have hm2 : l.length ≤ 64 := by omega
    clear hm
    go_enter Try.func11, Try.ntmps11
    go_wp2_with (at_builtin; refine wpList_append_row rfl (.tmp 9) (.tmp 14) rfl w.heap.size _ [] rfl (Own.empty w (Nat.le_refl _)) base _ (l.take 64) rfl ((hr.pre (k := 64) (by omega)).below ((Below.refl _ _).alloc (Nat.le_refl _) _)) (by simp; omega) (by simp) ?_; intro v1 w1 hO hg _)
    have hb1 : Below w.heap.size w w1 := ((Below.refl _ _).alloc (Nat.le_refl _) _).grown hg (by simp) (fun k hk => ((Own.empty w (Nat.le_refl _)).lt k hk).1)
    have hs1 := hb1.size
    refine (trim_row (Row.of_own hO) (Bin.nil.append (hb.take _)) (by simp; omega)).mono ?_
    rintro e w' ⟨⟨v1', rfl, hn1⟩, rfl⟩
    go_wp2_with fail
    refine (number_num hn1 ([] ++ l.take 64).length (val_lt _ (Bin.nil.append (hb.take _))) (by simp; omega)).mono ?_
    rintro e w' ⟨rfl, rfl⟩
    have hb2 : Below w.heap.size w (w1.alloc (.cells #[] 5)) := hb1.alloc hs1 _
    have HL := Lib.hid (low_take l hb)
    have HM := Lib.hid (low_mid l hb)
    go_wp2_with (at_builtin; refine wpList_append_row rfl (.tmp 21) (.tmp 29) rfl w.heap.size _ [] rfl (Own.empty w1 hs1) base _ [] rfl ((hr.none_ _).below hb2) (by simp) (by simp; omega) ?_; intro v2 w2 hO2 hg2 _)
    have hbin2 : Bin ([] ++ []) := Bin.nil.append Bin.nil
    refine (trim_row (Row.of_own hO2) hbin2 (by simp)).mono ?_
    rintro e w' ⟨⟨v2', rfl, hn2⟩, rfl⟩
    have hb3 : Below w.heap.size w w2 := hb2.grown hg2 (by simp; omega) (fun k hk => ((Own.empty w1 hs1).lt k hk).1)
    go_wp2_with fail
    refine (number_num hn2 ([] ++ []).length (val_lt _ hbin2) (by simp)).mono ?_
    rintro e w' ⟨rfl, rfl⟩
    go_wp2
    go_ret2
    exact ⟨ret_two (by rw [← HM.out, List.drop_eq_nil_of_le (by rw [List.length_take]; omega)]) HL.out, hb3⟩
  · go_enter Try.func11, Try.ntmps11
    go_wp2_with (at_builtin; refine wpList_append_row rfl (.tmp 9) (.tmp 14) rfl w.heap.size _ [] rfl (Own.empty w (Nat.le_refl _)) base _ (l.take 64) rfl ((hr.pre (k := 64) (by omega)).below ((Below.refl _ _).alloc (Nat.le_refl _) _)) (by simp; omega) (by simp) ?_; intro v1 w1 hO hg _)
    have hb1 : Below w.heap.size w w1 := ((Below.refl _ _).alloc (Nat.le_refl _) _).grown hg (by simp) (fun k hk => ((Own.empty w (Nat.le_refl _)).lt k hk).1)
    have hs1 := hb1.size
    refine (trim_row (Row.of_own hO) (Bin.nil.append (hb.take _)) (by simp; omega)).mono ?_
    rintro e w' ⟨⟨v1', rfl, hn1⟩, rfl⟩
    go_wp2_with fail
    refine (number_num hn1 ([] ++ l.take 64).length (val_lt _ (Bin.nil.append (hb.take _))) (by simp; omega)).mono ?_
    rintro e w' ⟨rfl, rfl⟩
    have hb2 : Below w.heap.size w (w1.alloc (.cells #[] 5)) := hb1.alloc hs1 _
    have HL := Lib.hid (low_take l hb)
    have HM := Lib.hid (low_mid l hb)
    go_wp2_with (at_builtin; refine wpList_append_row rfl (.tmp 21) (.tmp 29) rfl w.heap.size _ [] rfl (Own.empty w1 hs1) base _ ((l.take l.length).drop 64) rfl ((hr.mid (i := 64) (k := l.length) (by decide) (Nat.le_refl _) hm _ _ (by omega) (by omega)).below hb2) (by simp; omega) (by simp; omega) ?_; intro v2 w2 hO2 hg2 _)
    have hbin2 : Bin ([] ++ (l.take l.length).drop 64) := Bin.nil.append ((hb.take _).drop _)
    refine (trim_row (Row.of_own hO2) hbin2 (by simp; omega)).mono ?_
    rintro e w' ⟨⟨v2', rfl, hn2⟩, rfl⟩
    have hb3 : Below w.heap.size w w2 := hb2.grown hg2 (by simp; omega) (fun k hk => ((Own.empty w1 hs1).lt k hk).1)
    go_wp2_with fail
    refine (number_num hn2 ([] ++ (l.take l.length).drop 64).length (val_lt _ hbin2) (by simp; omega)).mono ?_
    rintro e w' ⟨rfl, rfl⟩
    go_wp2
    go_ret2
    exact ⟨ret_two (by rw [← HM.out, List.take_of_length_le (i := 128) (by omega)]) HL.out, hb3⟩
  · go_enter Try.func11, Try.ntmps11
    go_wp2_with (at_builtin; refine wpList_append_row rfl (.tmp 9) (.tmp 14) rfl w.heap.size _ [] rfl (Own.empty w (Nat.le_refl _)) base _ (l.take 64) rfl ((hr.pre (k := 64) (by omega)).below ((Below.refl _ _).alloc (Nat.le_refl _) _)) (by simp; omega) (by simp) ?_; intro v1 w1 hO hg _)
    have hb1 : Below w.heap.size w w1 := ((Below.refl _ _).alloc (Nat.le_refl _) _).grown hg (by simp) (fun k hk => ((Own.empty w (Nat.le_refl _)).lt k hk).1)
    have hs1 := hb1.size
    refine (trim_row (Row.of_own hO) (Bin.nil.append (hb.take _)) (by simp; omega)).mono ?_
    rintro e w' ⟨⟨v1', rfl, hn1⟩, rfl⟩
    go_wp2_with fail
    refine (number_num hn1 ([] ++ l.take 64).length (val_lt _ (Bin.nil.append (hb.take _))) (by simp; omega)).mono ?_
    rintro e w' ⟨rfl, rfl⟩
    have hb2 : Below w.heap.size w (w1.alloc (.cells #[] 5)) := hb1.alloc hs1 _
    have HL := Lib.hid (low_take l hb)
    have HM := Lib.hid (low_mid l hb)
    go_wp2_with (at_builtin; refine wpList_append_row rfl (.tmp 21) (.tmp 29) rfl w.heap.size _ [] rfl (Own.empty w1 hs1) base _ ((l.take 128).drop 64) rfl ((hr.mid (i := 64) (k := 128) (by decide) hm (by decide) _ _ (by omega) (by omega)).below hb2) (by simp; omega) (by simp; omega) ?_; intro v2 w2 hO2 hg2 _)
    have hbin2 : Bin ([] ++ (l.take 128).drop 64) := Bin.nil.append ((hb.take _).drop _)
    refine (trim_row (Row.of_own hO2) hbin2 (by simp; omega)).mono ?_
    rintro e w' ⟨⟨v2', rfl, hn2⟩, rfl⟩
    have hb3 : Below w.heap.size w w2 := hb2.grown hg2 (by simp; omega) (fun k hk => ((Own.empty w1 hs1).lt k hk).1)
    go_wp2_with fail
    refine (number_num hn2 ([] ++ (l.take 128).drop 64).length (val_lt _ hbin2) (by simp; omega)).mono ?_
    rintro e w' ⟨rfl, rfl⟩
    go_wp2
    go_ret2
    exact ⟨ret_two (by rw [← HM.out]) HL.out, hb3⟩

/-! ### 'Join' -/
def JoinRel (w : World) (x : Nat) (v : Value) (wr : World) (l : List Nat) : Prop :=
  Bin l ∧ Hid (val l = x) ∧ l.length ≤ 64 ∧ Own wr w.heap.size v l ∧ Below w.heap.size w wr
def sliceLen : Value → Nat
  | .slice _ n _ => n
  | _ => 0
theorem join_round {w wr w1 : World} {x : Nat} {v v' : Value} {l : List Nat} {o : Obj} (h : JoinRel w x v wr l) (hlt : l.length < 64) (hO : Own w1 w.heap.size v' (l ++ [0])) (hg : (wr.alloc o).grownBy w1 v.ownBlock) :
    JoinRel w x v' w1 (l ++ [0]) := by
  obtain ⟨h1, h2, h3, h5, h6⟩ := h
  refine ⟨h1.append (Bin.one (by decide)), ?_, by rw [List.length_append, List.length_singleton]; omega, hO, ?_⟩
  · show val _ = x
    rw [val_snoc, h2.out]; omega
  · refine (h6.alloc h6.size o).grown hg ?_ ?_
    · have := h6.size; simp; omega
    · intro k hk
      exact (h5.lt k hk).1
theorem own_len {w : World} {base : Nat} {v : Value} {l : List Nat} (h : Own w base v l) : sliceLen v = l.length := by
  obtain ⟨ad, c, rfl⟩ := h.len
  rfl
set_option maxHeartbeats 1000000 in
theorem join_any (w : World) (x y : Nat) (hx : x < 18446744073709551616) (hy : y < 18446744073709551616) :
    Calls Try.prog 18 #[.int .u64 (x : Int), .int .u64 (y : Int)] w (RetNum w (x * 2 ^ 64 + y)) := by
  go_enter Try.func18, Try.ntmps18
  go_wp2_with fail
  refine (of_own w y hy).mono ?_
  rintro e w0 ⟨v0, l0, rfl, hO0, hB0, hT0, hV0, hW0⟩
  have hV := Lib.hid hV0
  have hl0 : l0.length ≤ 64 := by
    refine hT0.len_le (k := 64) ?_
    rw [hV0]; exact hy
  clear hV0 hT0
  go_wp2
  go_loopw [5] (fun v wr => ∃ l, JoinRel w y v wr l) (fun v _ => 64 - sliceLen v)
  case atStart => exact ⟨l0, hB0, hV, hl0, hO0, hW0⟩
  case round =>
    obtain ⟨l, hrel⟩ := hrel
    have hown := hrel.2.2.2.1
    have hsz := hrel.2.2.2.2.size
    have hle := hrel.2.2.1
    obtain ⟨ad, c, rfl⟩ := hown.len
    by_cases hlt : l.length < 64
    · go_wp2_with (at_builtin; refine wpList_append_row rfl (.tmp 11) (.tmp 12) rfl w.heap.size _ l rfl (hown.alloc _) wr.heap.size _ [0] rfl (Row.one wr _ _ (by rfl)) (by simp; omega) (by simp; omega) ?_; intro v1 w1 hO hg _)
      have hnew := join_round hrel hlt hO hg
      have hm := own_len hO
      go_roundw
      case rel => exact ⟨_, hnew⟩
      case measure => simp [sliceLen] at hm ⊢; omega
    · go_wp2_with fail
      refine (of_any wr x hx).mono ?_
      rintro e w1 ⟨v1, rfl, ⟨m, hR1, hB1, hT1, hV1⟩, hW1⟩
      have HV1 := Lib.hid hV1
      have hm1 : m.length ≤ 64 := by
        refine hT1.len_le (k := 64) ?_
        rw [hV1]; exact hx
      clear hV1 hT1
      have hs1 := hW1.size
      have hown1 := hown.below hW1
      go_wp2_with (at_builtin; refine wpList_append_row rfl (.tmp 14) (.tmp 16) rfl w.heap.size _ l rfl hown1 wr.heap.size _ m rfl hR1 (by omega) (by omega) ?_; intro v2 w2 hO hg _)
      refine (trim_row (Row.of_own hO) (hrel.1.append hB1) (by simp; omega)).mono ?_
      rintro e w' ⟨⟨v', rfl, hnum⟩, rfl⟩
      go_wp2
      go_ret
      refine ⟨v', rfl, ?_, ((hrel.2.2.2.2.trans (hW1.mono hsz)).grown hg (by omega) (fun k hk => (hown1.lt k hk).1))⟩
      have e : val (l ++ m) = x * 2 ^ 64 + y := by
        rw [val_append, hrel.2.1.out, HV1.out, show l.length = 64 by omega, Nat.mul_comm]; omega
      rw [← e]
      exact hnum

end Go.Proofs.Ytmfilgagdilmbaa
