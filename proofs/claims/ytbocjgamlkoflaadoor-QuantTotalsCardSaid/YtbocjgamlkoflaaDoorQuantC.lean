/- What 'Parse' and 'Text' of package quant answer. -/
import Derived.Test.YtbocjgamlkoflaaDoorDec
import Derived.Test.YtbocjgamlkoflaaDoorShelfQ
import Derived.Lib.IndexBytes
import Derived.Lib.AtoiErrMem
namespace Go.Proofs.YtbocjgamlkoflaaDoor
open Go.RowKit
set_option linter.unusedVariables false

/-- What package quant asks of the library's variables: the table of powers of ten, and an error in strconv.ErrRange. -/
def Laid (w : World) : Prop := Lib.TabIs Tryd.prog w "internal/strconv.uint64pow10" .u64 Lib.pow10Tab ∧ ∃ tp p, w.var? Tryd.prog "strconv.ErrRange" = some #[.iface tp p]
theorem var_below {w w' : World} {n : String} {cs : Array Value} (h : w.var? Tryd.prog n = some cs) (hb : Below w.heap.size w w') : w'.var? Tryd.prog n = some cs := by
  unfold World.var? at h ⊢
  cases hg : Tryd.prog.globalNamed n with
  | none => simp [hg] at h
  | some g =>
    simp only [hg, Option.bind_some] at h ⊢
    have hlt : g < w.heap.size := by
      rcases Nat.lt_or_ge g w.heap.size with h' | h'
      · exact h'
      · simp [Array.getElem?_eq_none h'] at h
    rw [hb.block g hlt]
    exact h
theorem Laid.below {w w' : World} (h : Laid w) (hb : Below w.heap.size w w') : Laid w' := by
  obtain ⟨h1, tp, p, h2⟩ := h
  exact ⟨var_below h1 hb, tp, p, var_below h2 hb⟩

/-- The text is none of a quantity. -/
def badForm (l : List UInt8) : Prop := lead l = 0 ∨ (1 < lead l ∧ l.head? = some 48) ∨ unitOf (l.drop (lead l)) = 0

theorem tail_list (s : ByteArray) (n : Nat) : (s.extract n s.size).toList = s.data.toList.drop n := by
  rw [Lib.toList_data, Lib.extract_to_end]
theorem pre_list (s : ByteArray) (n : Nat) : (s.extract 0 n).data.toList = s.data.toList.take n := by
  rw [Lib.extract_data]; simp
theorem head_at (s : ByteArray) (h : 0 < s.size) : s.data.toList.head? = some s[0] := by
  have hl : 0 < s.data.toList.length := by rw [← Lib.size_eq]; exact h
  rw [List.head?_eq_getElem?, List.getElem?_eq_getElem hl]
  rfl

theorem parse_form (s : ByteArray) (w : World) (hs : s.size ≤ 281474976710656) (h : badForm s.data.toList) :
    Calls Tryd.prog 12 #[.string s] w fun e w' => e = .returned (.tuple #[.int .i64 0, .int .i64 2]) ∧ w = w' := by
  obtain ⟨n, hn⟩ : ∃ n, n = lead s.data.toList := ⟨_, rfl⟩
  have hle : n ≤ s.size := by have := lead_le s.data.toList; rw [← Lib.size_eq] at this; omega
  have D := Lib.hid (fun W : World => digits_any s W (by unfold maxLen; omega))
  have U := Lib.hid (fun W : World => unit_any (s.extract n s.size) W)
  obtain ⟨u, hu⟩ : ∃ u, u = unitOf (s.extract n s.size).toList := ⟨_, rfl⟩
  rw [← hu] at U
  rw [tail_list] at hu
  unfold badForm at h
  rw [← hn] at h D
  rw [← hu] at h
  clear hn hu
  rcases Nat.eq_zero_or_pos n with h0 | h0
  · have t1 : ((n : Int) == 0) = true := by simp [h0]
    clear h h0
    go_enter Tryd.func12, Tryd.ntmps12
    go_wp2_with fail
    refine (D.out _).mono ?_
    rintro e w' ⟨rfl, rfl⟩
    go_wp2_with fail
    refine (U.out _).mono ?_
    rintro e w' ⟨rfl, rfl⟩
    go_wp2
    go_ret2
    exact ⟨rfl, rfl⟩
  · have t1 : ((n : Int) == 0) = false := by simp; omega
    have hsz : 0 < s.size := by omega
    have hhd := head_at s hsz
    by_cases h1 : 1 < n
    · by_cases h2 : s[0].toNat = 48
      · have t3 : (s[0].toNat : Int) = 48 := by omega
        have t2 : (1 : Int) < (n : Int) := by omega
        clear h h2 hhd
        go_enter Tryd.func12, Tryd.ntmps12
        go_wp2_with fail
        refine (D.out _).mono ?_
        rintro e w' ⟨rfl, rfl⟩
        go_wp2_with fail
        refine (U.out _).mono ?_
        rintro e w' ⟨rfl, rfl⟩
        go_wp2
        go_ret2
        exact ⟨rfl, rfl⟩
      · have t3 : ¬ (s[0].toNat : Int) = 48 := by omega
        have t2 : (1 : Int) < (n : Int) := by omega
        obtain rfl : u = 0 := (h.resolve_left (by omega)).resolve_left (fun e => h2 (by rw [hhd] at e; rw [Option.some.inj e.2]; rfl))
        clear h h2 hhd
        go_enter Tryd.func12, Tryd.ntmps12
        go_wp2_with fail
        refine (D.out _).mono ?_
        rintro e w' ⟨rfl, rfl⟩
        go_wp2_with fail
        refine (U.out _).mono ?_
        rintro e w' ⟨rfl, rfl⟩
        go_wp2
        go_ret2
        exact ⟨rfl, rfl⟩
    · have t2 : ¬ (1 : Int) < (n : Int) := by omega
      obtain rfl : u = 0 := (h.resolve_left (by omega)).resolve_left (fun e => h1 e.1)
      clear h hhd
      go_enter Tryd.func12, Tryd.ntmps12
      go_wp2_with fail
      refine (D.out _).mono ?_
      rintro e w' ⟨rfl, rfl⟩
      go_wp2_with fail
      refine (U.out _).mono ?_
      rintro e w' ⟨rfl, rfl⟩
      go_wp2
      go_ret2
      exact ⟨rfl, rfl⟩

/-- A quantity's text: so many digits, and a unit. -/
structure Good (l : List UInt8) (n d u : Nat) : Prop where
  n_eq : n = lead l
  pos : 0 < n
  head : ¬ (1 < n ∧ l.head? = some 48)
  u_eq : u = unitOf (l.drop n)
  u_pos : 0 < u
  d_eq : d = dec 0 (l.take n)
theorem Good.of {l : List UInt8} (h : ¬ badForm l) : Good l (lead l) (dec 0 (l.take (lead l))) (unitOf (l.drop (lead l))) := by
  unfold badForm at h
  exact ⟨rfl, by omega, fun e => h (.inr (.inl e)), rfl, Nat.pos_of_ne_zero fun e => h (.inr (.inr e)), rfl⟩
theorem Good.digs {l : List UInt8} {n d u : Nat} (h : Good l n d u) : AllDig (l.take n) := by rw [h.n_eq]; exact lead_take l
theorem Good.ne {l : List UInt8} {n d u : Nat} (h : Good l n d u) : l.take n ≠ [] := by
  have h1 := lead_le l
  have h2 := h.n_eq
  have h3 := h.pos
  intro e
  have := congrArg List.length e
  rw [List.length_take, List.length_nil] at this
  omega
theorem Good.le {s : ByteArray} {n d u : Nat} (h : Good s.data.toList n d u) : n ≤ s.size := by
  have := lead_le s.data.toList
  rw [← Lib.size_eq] at this
  rw [h.n_eq]
  exact this
theorem Good.first {s : ByteArray} {n d u : Nat} (h : Good s.data.toList n d u) (h1 : 1 < n) (hs : 0 < s.size) : ¬ (s[0].toNat : Int) = 48 := by
  intro e
  refine h.head ⟨h1, ?_⟩
  rw [head_at s hs]
  exact congrArg some (UInt8.toNat_inj.1 (by show s[0].toNat = 48; omega))

theorem parse_ok (s : ByteArray) (w : World) (hs : s.size ≤ 281474976710656) {n d u : Nat} (h : Good s.data.toList n d u) (hd : d * u ≤ 9007199254740992) :
    Calls Tryd.prog 12 #[.string s] w fun e w' => e = .returned (.tuple #[.int .i64 ((d * u : Nat) : Int), .int .i64 0]) ∧ Below w.heap.size w w' := by
  have hle := h.le
  have D := Lib.hid (fun W : World => digits_any s W (by unfold maxLen; omega))
  rw [← h.n_eq] at D
  have U := Lib.hid (fun W : World => unit_any (s.extract n s.size) W)
  rw [tail_list, ← h.u_eq] at U
  have hu := unit_lt (s.data.toList.drop n)
  rw [← h.u_eq] at hu
  have hup := h.u_pos
  have hd2 : d ≤ d * u := Nat.le_mul_of_pos_right d hup
  have P := Lib.hid (fun W : World => sh_strconv_ParseUint_10_at64_ok (s.extract 0 n) (by rw [ByteArray.size_extract]; omega) d (by rw [pre_list, h.d_eq]; exact parseU_ok h.ne h.digs (by rw [← h.d_eq]; omega)) W)
  have Q := Lib.hid (fun W : World => product_within d u W (by omega) (by omega) hd)
  have hsz : 0 < s.size := by have := h.pos; omega
  have t0 : (unitOf (s.data.toList.drop n) != 0) = true := by rw [← h.u_eq]; simp; omega
  rw [← h.u_eq] at t0
  have T0 := Lib.hid t0
  have t1 : ((n : Int) == 0) = false := by have := h.pos; simp; omega
  have hf := h.first
  generalize d * u = m at hd Q hd2 ⊢
  by_cases h1 : 1 < n
  · have t2 : (1 : Int) < (n : Int) := by omega
    have t3 := hf h1 hsz
    clear h hf h1 hd hd2 hu hup t0
    go_enter Tryd.func12, Tryd.ntmps12
    go_wp2_with fail
    refine (D.out _).mono ?_
    rintro e w' ⟨rfl, rfl⟩
    go_wp2_with fail
    refine (U.out _).mono ?_
    rintro e w' ⟨rfl, rfl⟩
    have t4 := T0.out
    go_wp2_with fail
    refine (P.out _).mono ?_
    rintro e w1 ⟨rfl, hw1⟩
    have hb1 : Below w.heap.size w w1 := by
      rcases hw1 with rfl | rfl
      · exact Below.refl _ _
      · exact Lib.bytesWorld_below _ _ _
    clear hw1
    go_wp2_with fail
    refine (Q.out _).mono ?_
    rintro e w2 ⟨rfl, hb2⟩
    go_wp2
    go_ret2
    exact ⟨rfl, hb1.trans (hb2.mono hb1.size)⟩
  · have t2 : ¬ (1 : Int) < (n : Int) := by omega
    clear h hf h1 hd hd2 hu hup t0
    go_enter Tryd.func12, Tryd.ntmps12
    go_wp2_with fail
    refine (D.out _).mono ?_
    rintro e w' ⟨rfl, rfl⟩
    go_wp2_with fail
    refine (U.out _).mono ?_
    rintro e w' ⟨rfl, rfl⟩
    have t4 := T0.out
    go_wp2_with fail
    refine (P.out _).mono ?_
    rintro e w1 ⟨rfl, hw1⟩
    have hb1 : Below w.heap.size w w1 := by
      rcases hw1 with rfl | rfl
      · exact Below.refl _ _
      · exact Lib.bytesWorld_below _ _ _
    clear hw1
    go_wp2_with fail
    refine (Q.out _).mono ?_
    rintro e w2 ⟨rfl, hb2⟩
    go_wp2
    go_ret2
    exact ⟨rfl, hb1.trans (hb2.mono hb1.size)⟩

theorem parse_long (s : ByteArray) (w : World) (hs : s.size ≤ 281474976710656) {n d u : Nat} (h : Good s.data.toList n d u) (hd : 18446744073709551615 < d) (hL : Laid w) :
    Calls Tryd.prog 12 #[.string s] w fun e w' => e = .returned (.tuple #[.int .i64 0, .int .i64 3]) ∧ Below w.heap.size w w' := by
  have hle := h.le
  have D := Lib.hid (fun W : World => digits_any s W (by unfold maxLen; omega))
  rw [← h.n_eq] at D
  have U := Lib.hid (fun W : World => unit_any (s.extract n s.size) W)
  rw [tail_list, ← h.u_eq] at U
  have hup := h.u_pos
  obtain ⟨-, tp, p, hvar⟩ := hL
  have P := Lib.hid (sh_strconv_ParseUint_10_at64_range_var (s.extract 0 n) (by rw [ByteArray.size_extract]; omega) (by rw [pre_list]; exact parseU_range h.ne h.digs (by rw [← h.d_eq]; exact hd)) tp p w hvar)
  have hsz : 0 < s.size := by have := h.pos; omega
  have t0 : (unitOf (s.data.toList.drop n) != 0) = true := by rw [← h.u_eq]; simp; omega
  rw [← h.u_eq] at t0
  have T0 := Lib.hid t0
  have t1 : ((n : Int) == 0) = false := by have := h.pos; simp; omega
  have hf := h.first
  clear hd hvar
  by_cases h1 : 1 < n
  · have t2 : (1 : Int) < (n : Int) := by omega
    have t3 := hf h1 hsz
    clear h hf h1 hup t0
    go_enter Tryd.func12, Tryd.ntmps12
    go_wp2_with fail
    refine (D.out _).mono ?_
    rintro e w' ⟨rfl, rfl⟩
    go_wp2_with fail
    refine (U.out _).mono ?_
    rintro e w' ⟨rfl, rfl⟩
    have t4 := T0.out
    go_wp2_with fail
    refine P.out.mono ?_
    rintro e w1 ⟨N, rfl, hN, hblk, hb1⟩
    clear hblk
    go_wp2
    go_ret2
    exact ⟨rfl, hb1⟩
  · have t2 : ¬ (1 : Int) < (n : Int) := by omega
    clear h hf h1 hup t0
    go_enter Tryd.func12, Tryd.ntmps12
    go_wp2_with fail
    refine (D.out _).mono ?_
    rintro e w' ⟨rfl, rfl⟩
    go_wp2_with fail
    refine (U.out _).mono ?_
    rintro e w' ⟨rfl, rfl⟩
    have t4 := T0.out
    go_wp2_with fail
    refine P.out.mono ?_
    rintro e w1 ⟨N, rfl, hN, hblk, hb1⟩
    clear hblk
    go_wp2
    go_ret2
    exact ⟨rfl, hb1⟩

theorem parse_much (s : ByteArray) (w : World) (hs : s.size ≤ 281474976710656) {n d u : Nat} (h : Good s.data.toList n d u) (hd1 : d ≤ 18446744073709551615) (hd : 9007199254740992 < d * u) :
    Calls Tryd.prog 12 #[.string s] w fun e w' => e = .returned (.tuple #[.int .i64 0, .int .i64 3]) ∧ Below w.heap.size w w' := by
  have hle := h.le
  have D := Lib.hid (fun W : World => digits_any s W (by unfold maxLen; omega))
  rw [← h.n_eq] at D
  have U := Lib.hid (fun W : World => unit_any (s.extract n s.size) W)
  rw [tail_list, ← h.u_eq] at U
  have hu := unit_lt (s.data.toList.drop n)
  rw [← h.u_eq] at hu
  have hup := h.u_pos
  have P := Lib.hid (fun W : World => sh_strconv_ParseUint_10_at64_ok (s.extract 0 n) (by rw [ByteArray.size_extract]; omega) d (by rw [pre_list, h.d_eq]; exact parseU_ok h.ne h.digs (by rw [← h.d_eq]; exact hd1)) W)
  have Q := Lib.hid (fun W : World => product_over d u W (by omega) (by omega) hd)
  have hsz : 0 < s.size := by have := h.pos; omega
  have t0 : (unitOf (s.data.toList.drop n) != 0) = true := by rw [← h.u_eq]; simp; omega
  rw [← h.u_eq] at t0
  have T0 := Lib.hid t0
  have t1 : ((n : Int) == 0) = false := by have := h.pos; simp; omega
  have hf := h.first
  by_cases h1 : 1 < n
  · have t2 : (1 : Int) < (n : Int) := by omega
    have t3 := hf h1 hsz
    clear h hf h1 hd hd1 hu hup t0
    go_enter Tryd.func12, Tryd.ntmps12
    go_wp2_with fail
    refine (D.out _).mono ?_
    rintro e w' ⟨rfl, rfl⟩
    go_wp2_with fail
    refine (U.out _).mono ?_
    rintro e w' ⟨rfl, rfl⟩
    have t4 := T0.out
    go_wp2_with fail
    refine (P.out _).mono ?_
    rintro e w1 ⟨rfl, hw1⟩
    have hb1 : Below w.heap.size w w1 := by
      rcases hw1 with rfl | rfl
      · exact Below.refl _ _
      · exact Lib.bytesWorld_below _ _ _
    clear hw1
    go_wp2_with fail
    refine (Q.out _).mono ?_
    rintro e w2 ⟨rfl, hb2⟩
    go_wp2
    go_ret2
    exact ⟨rfl, hb1.trans (hb2.mono hb1.size)⟩
  · have t2 : ¬ (1 : Int) < (n : Int) := by omega
    clear h hf h1 hd hd1 hu hup t0
    go_enter Tryd.func12, Tryd.ntmps12
    go_wp2_with fail
    refine (D.out _).mono ?_
    rintro e w' ⟨rfl, rfl⟩
    go_wp2_with fail
    refine (U.out _).mono ?_
    rintro e w' ⟨rfl, rfl⟩
    have t4 := T0.out
    go_wp2_with fail
    refine (P.out _).mono ?_
    rintro e w1 ⟨rfl, hw1⟩
    have hb1 : Below w.heap.size w w1 := by
      rcases hw1 with rfl | rfl
      · exact Below.refl _ _
      · exact Lib.bytesWorld_below _ _ _
    clear hw1
    go_wp2_with fail
    refine (Q.out _).mono ?_
    rintro e w2 ⟨rfl, hb2⟩
    go_wp2
    go_ret2
    exact ⟨rfl, hb1.trans (hb2.mono hb1.size)⟩

theorem parse_range (s : ByteArray) (w : World) (hs : s.size ≤ 281474976710656) {n d u : Nat} (h : Good s.data.toList n d u) (hd : 9007199254740992 < d * u) (hL : Laid w) :
    Calls Tryd.prog 12 #[.string s] w fun e w' => e = .returned (.tuple #[.int .i64 0, .int .i64 3]) ∧ Below w.heap.size w w' := by
  rcases Nat.lt_or_ge 18446744073709551615 d with h1 | h1
  · exact parse_long s w hs h h1 hL
  · exact parse_much s w hs h h1 hd

end Go.Proofs.YtbocjgamlkoflaaDoor
