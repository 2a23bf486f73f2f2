/- Layer 20: the small functions of package proposal: whether a metric and numbers can be; whether a use can; nearness; a goal; what a load needs. -/
import Derived.Test.YtajkhbdniadkkaaRatioB
import Derived.Test.YtajkhbdniadkkaaQuantA
import Derived.Test.YtajkhbdniadkkaaObSub
namespace Go.Proofs.Ytajkhbdniadkkaa.Pp
open Go.RowKit Go.Shelf Go.Lib Go.Sort Go.Deep
open Go.Joins (cell_of_block unfrozen_of_block block_setCell)
open Go.Proofs.Ytajkhbdniadkkaa.Ow
set_option linter.unusedVariables false
set_option linter.unusedSimpArgs false
set_option maxRecDepth 20000

abbrev MT : TypeId := 24
abbrev LT : TypeId := 74
abbrev UT : TypeId := 52

/-- What a pod uses. -/
structure Ut where
  pod : ByteArray
  rd : Bool
  hs : Bool
  ask : Int
  use : Int
def utA (x : Ut) : Array Value := #[.string x.pod, .bool x.rd, .bool x.hs, .int .i64 x.ask, .int .i64 x.use]
def encT (x : Ut) : List Value := (utA x).toList
/-- A metric's cells; a load's. -/
def metC (k : Int) (s : ByteArray) (t : Int) : Array Value := #[.int .i64 k, .string s, .int .i64 t]
def loadC (u g n : Int) : Array Value := #[.int .i64 u, .int .i64 g, .int .i64 n]

def okQ (m : Int) : Bool := decide (0 ≤ m ∧ m ≤ 9007199254740992)
theorem qright_any (m : Int) (w : World) : Calls Try.prog 19 #[.int .i64 m] w fun e w' => e = .returned (.bool (okQ m)) ∧ w = w' := by
  unfold okQ
  by_cases h : 0 ≤ m ∧ m ≤ 9007199254740992
  · rw [decide_eq_true h]; exact right_yes m w h.1 h.2
  · rw [decide_eq_false h]; exact right_no m w (by omega)

/-- May a metric of this Target, so many replicas and this tolerance be? -/
def rightB (t r x : Int) : Bool := decide (0 ≤ r) && (decide (r ≤ 1000000) && (decide (0 ≤ x) && (decide (x ≤ 1000) && (okQ t && !(t == 0)))))
set_option maxHeartbeats 2000000 in
theorem pp_right (w : World) (k : Int) (s : ByteArray) (t r x : Int) :
    Calls Try.prog 18 #[.agg (metC k s t), .int .i64 r, .int .i64 x] w fun e w' => e = .returned (.bool (rightB t r x)) ∧ Below w.heap.size w w' := by
  have G := Lib.hid ((Gr.refl w).alloc (.cells #[.int .i64 k, .string s, .int .i64 t] MT)).below
  have HO : Hid (rightB t r x = (decide (0 ≤ r) && (decide (r ≤ 1000000) && (decide (0 ≤ x) && (decide (x ≤ 1000) && (okQ t && !(t == 0))))))) := rfl
  have C := Lib.hid (fun W => qright_any t W)
  generalize hq : okQ t = q at HO C
  clear hq
  show Calls Try.prog 18 #[.agg #[.int .i64 k, .string s, .int .i64 t], .int .i64 r, .int .i64 x] w _
  cases t1 : decide (0 ≤ r) with
  | false =>
    rw [t1] at HO
    go_enter Try.func18, Try.ntmps18
    go_wp2
    go_ret
    exact ⟨by rw [HO.out]; rfl, G.out⟩
  | true =>
  cases t2 : decide (r ≤ 1000000) with
  | false =>
    rw [t1, t2] at HO
    go_enter Try.func18, Try.ntmps18
    go_wp2
    go_ret
    exact ⟨by rw [HO.out]; rfl, G.out⟩
  | true =>
  cases t3 : decide (0 ≤ x) with
  | false =>
    rw [t1, t2, t3] at HO
    go_enter Try.func18, Try.ntmps18
    go_wp2
    go_ret
    exact ⟨by rw [HO.out]; rfl, G.out⟩
  | true =>
  cases t4 : decide (x ≤ 1000) with
  | false =>
    rw [t1, t2, t3, t4] at HO
    go_enter Try.func18, Try.ntmps18
    go_wp2
    go_ret
    exact ⟨by rw [HO.out]; rfl, G.out⟩
  | true =>
  rw [t1, t2, t3, t4] at HO
  cases q with
  | false =>
    go_enter Try.func18, Try.ntmps18
    go_wp2_with fail
    refine (C.out _).mono ?_
    rintro e w1 ⟨rfl, rfl⟩
    go_wp2
    go_ret
    exact ⟨by rw [HO.out]; rfl, G.out⟩
  | true =>
    cases t5 : (t == 0) with
    | false =>
      rw [t5] at HO
      have t6 : (t != 0) = !false := by rw [bne, t5]
      have t6 : (t != 0) = true := t6
      go_enter Try.func18, Try.ntmps18
      go_wp2_with fail
      refine (C.out _).mono ?_
      rintro e w1 ⟨rfl, rfl⟩
      go_wp2
      go_ret
      exact ⟨by rw [HO.out]; rfl, G.out⟩
    | true =>
      rw [t5] at HO
      have t6 : (t != 0) = !true := by rw [bne, t5]
      have t6 : (t != 0) = false := t6
      go_enter Try.func18, Try.ntmps18
      go_wp2_with fail
      refine (C.out _).mono ?_
      rintro e w1 ⟨rfl, rfl⟩
      go_wp2
      go_ret
      exact ⟨by rw [HO.out]; rfl, G.out⟩
theorem rightB_iff {t r x : Int} : rightB t r x = true ↔ (0 ≤ r ∧ r ≤ 1000000) ∧ (0 ≤ x ∧ x ≤ 1000) ∧ (0 < t ∧ t ≤ 9007199254740992) := by
  unfold rightB okQ
  simp only [Bool.and_eq_true, decide_eq_true_eq, Bool.not_eq_true', beq_eq_false_iff_ne]
  omega

/-- Is a use none that can be? -/
def offB (a u : Int) : Bool := !okQ a || !okQ u
set_option maxHeartbeats 2000000 in
theorem pp_off (w : World) (s : ByteArray) (p h : Bool) (a u : Int) :
    Calls Try.prog 32 #[.agg #[.string s, .bool p, .bool h, .int .i64 a, .int .i64 u]] w fun e w' => e = .returned (.bool (offB a u)) ∧ Gr w w' := by
  have G := Lib.hid ((Gr.refl w).alloc (.cells #[.string s, .bool p, .bool h, .int .i64 a, .int .i64 u] UT))
  have HO : Hid (offB a u = (!okQ a || !okQ u)) := rfl
  have C := Lib.hid (fun W => qright_any a W)
  have D := Lib.hid (fun W => qright_any u W)
  generalize okQ a = b0 at HO C
  generalize okQ u = b1 at HO D
  cases b0 with
  | false =>
    go_enter Try.func32, Try.ntmps32
    go_wp2_with fail
    refine (C.out _).mono ?_
    rintro e w1 ⟨rfl, rfl⟩
    go_wp2
    go_ret
    exact ⟨by rw [HO.out]; rfl, G.out⟩
  | true =>
    go_enter Try.func32, Try.ntmps32
    go_wp2_with fail
    refine (C.out _).mono ?_
    rintro e w1 ⟨rfl, rfl⟩
    go_wp2_with fail
    refine (D.out _).mono ?_
    rintro e w1 ⟨rfl, rfl⟩
    cases b1 <;>
    · go_wp2
      go_ret
      exact ⟨by rw [HO.out]; rfl, G.out⟩

/-- Is a use near a goal? None is near a goal of 0. -/
def nearB (u g x : Nat) : Bool := decide (0 < g) && decide (apart u g * 1000 ≤ g * x)
theorem ret_b {p q : Bool} (h : p = q) : Ending.returned (.bool p) = .returned (.bool q) := by rw [h]
set_option maxHeartbeats 2000000 in
theorem pp_near (u g x : Nat) (w : World) (hu : u ≤ 9007199254740992) (hg : g ≤ 9007199254740992) (hx : x ≤ 1000) :
    Calls Try.prog 20 #[.int .i64 (u : Int), .int .i64 (g : Int), .int .i64 (x : Int)] w fun e w' => e = .returned (.bool (nearB u g x)) ∧ Below w.heap.size w w' := by
  rcases Nat.eq_zero_or_pos g with h0 | h0
  · have HO : Hid (nearB u g x = false) := by show _ = _; unfold nearB; rw [h0]; rfl
    have C : Hid (∀ W, Calls Try.prog 44 #[.int .i64 (u : Int), .int .i64 (g : Int), .int .i64 (x : Int)] W fun e w' => e = .returned (.tuple #[.bool false, .int .i64 5]) ∧ W = w') := fun W => by
      rw [h0]
      exact near_zero (u : Int) (x : Int) W (by omega) (by omega) ⟨by omega, by omega⟩
    clear h0 hu hg hx
    go_enter Try.func20, Try.ntmps20
    go_wp2_with fail
    refine (C.out _).mono ?_
    rintro e w1 ⟨rfl, rfl⟩
    go_wp2
    go_ret
    exact ⟨by rw [HO.out]; rfl, Below.refl _ _⟩
  · have HO : Hid (nearB u g x = decide (apart u g * 1000 ≤ g * x)) := by show _ = _; unfold nearB; rw [decide_eq_true h0]; rfl
    have C := Lib.hid (fun W => near_ok u g x W hu hg h0 hx)
    generalize decide (apart u g * 1000 ≤ g * x) = b at HO C
    clear h0 hu hg hx
    go_enter Try.func20, Try.ntmps20
    go_wp2_with fail
    refine (C.out _).mono ?_
    rintro e w1 ⟨rfl, b1⟩
    have B1 := Lib.hid b1
    clear b1
    cases b <;>
    · go_wp2
      go_ret
      exact ⟨by rw [HO.out]; rfl, B1.out⟩

/-- The goal of a pod that asks for so much. -/
def goalN (k : Int) (t a : Nat) : Nat := if k = 0 then a * t / 1000 else t
/-- A number of thousandths as it is told: none that is too great. -/
def capV (n : Nat) : Int := if n ≤ 9007199254740992 then (n : Int) else 0
def capE (n : Nat) : Int := if n ≤ 9007199254740992 then 0 else 3
theorem capV_in {n : Nat} (h : n ≤ 9007199254740992) : capV n = (n : Int) ∧ capE n = 0 := ⟨if_pos h, if_pos h⟩
theorem capV_over {n : Nat} (h : 9007199254740992 < n) : capV n = 0 ∧ capE n = 3 := ⟨if_neg (by omega), if_neg (by omega)⟩
set_option maxHeartbeats 2000000 in
theorem pp_goal (w : World) (k : Int) (s : ByteArray) (t a : Nat) (ht : t ≤ 9007199254740992) (ha : a ≤ 9007199254740992) :
    Calls Try.prog 79 #[.agg (metC k s (t : Int)), .int .i64 (a : Int)] w fun e w' => e = .returned (.tuple #[.int .i64 (capV (goalN k t a)), .int .i64 (capE (goalN k t a))]) ∧ Below w.heap.size w w' := by
  show Calls Try.prog 79 #[.agg #[.int .i64 k, .string s, .int .i64 (t : Int)], .int .i64 (a : Int)] w _
  have G := Lib.hid ((Gr.refl w).alloc (.cells #[.int .i64 k, .string s, .int .i64 (t : Int)] MT))
  by_cases hk : k = 0
  · have tk : (k == 0) = true := by rw [hk]; rfl
    have tk2 : (k != 0) = false := by rw [hk]; rfl
    obtain ⟨n, hn⟩ : ∃ n, n = a * t / 1000 := ⟨_, rfl⟩
    have eg : goalN k t a = n := by rw [hn]; exact if_pos hk
    rw [eg]
    have m := fun W : World => muldiv_any a t 1000 false W (by omega) (by omega) (by decide)
    have hw : mdWant a t 1000 false = n := by rw [mdWant_down, hn]
    have c1 : IntKind.u64.wrap (t : Int) = (t : Int) := by rw [IntKind.wrap_u64]; omega
    have c2 : IntKind.u64.wrap (a : Int) = (a : Int) := by rw [IntKind.wrap_u64]; omega
    rcases Nat.lt_or_ge n 18446744073709551616 with h | h
    · obtain ⟨k1, k2⟩ := muldiv_ok (up := false) (by decide) hw h
      rw [k1, k2] at m
      have M := Lib.hid m
      clear m k1 k2 hw hn eg ht ha hk
      rcases Nat.lt_or_ge 9007199254740992 n with g | g
      · rw [(capV_over g).1, (capV_over g).2]
        have t1 : decide ((9007199254740992 : Int) < (n : Int)) = true := by simp; omega
        clear g h
        go_enter Try.func79, Try.ntmps79
        go_wp2_with fail
        refine (M.out _).mono ?_
        rintro e w1 ⟨rfl, h1⟩
        go_wp2
        go_ret2
        exact ⟨rfl, G.out.below.trans (h1.mono G.out.size)⟩
      · rw [(capV_in g).1, (capV_in g).2]
        have t1 : decide ((9007199254740992 : Int) < (n : Int)) = false := by simp; omega
        have c3 : IntKind.i64.wrap (n : Int) = (n : Int) := by rw [IntKind.wrap_i64]; omega
        clear g h
        go_enter Try.func79, Try.ntmps79
        go_wp2_with fail
        refine (M.out _).mono ?_
        rintro e w1 ⟨rfl, h1⟩
        go_wp2
        go_ret2
        exact ⟨rfl, G.out.below.trans (h1.mono G.out.size)⟩
    · obtain ⟨k1, k2⟩ := muldiv_over (a := a) (b := t) (up := false) (y := 1000) (by decide) (by rw [hw]; exact h)
      rw [k1, k2] at m
      have M := Lib.hid m
      have g : 9007199254740992 < n := by omega
      rw [(capV_over g).1, (capV_over g).2]
      clear m k1 k2 hw hn eg ht ha hk g h
      go_enter Try.func79, Try.ntmps79
      go_wp2_with fail
      refine (M.out _).mono ?_
      rintro e w1 ⟨rfl, h1⟩
      go_wp2
      go_ret2
      exact ⟨rfl, G.out.below.trans (h1.mono G.out.size)⟩
  · have tk : (k == 0) = false := by simpa using hk
    have tk2 : (k != 0) = true := by simpa using hk
    have eg : goalN k t a = t := if_neg hk
    rw [eg, (capV_in ht).1, (capV_in ht).2]
    clear eg ht ha
    go_enter Try.func79, Try.ntmps79
    go_wp2
    go_ret2
    exact ⟨rfl, G.out.below⟩

/-- What a load needs. -/
def needN (n u g : Nat) : Nat := min (upDiv n u g) 1000000
set_option maxHeartbeats 2000000 in
theorem pp_need (w : World) (n u g : Nat) (hn : n ≤ 9007199254740992) (hu : u ≤ 9007199254740992) (hg : g ≤ 9007199254740992) (h0 : 0 < g) :
    Calls Try.prog 36 #[.agg (loadC (u : Int) (g : Int) (n : Int))] w fun e w' => e = .returned (.int .i64 (needN n u g : Int)) ∧ Below w.heap.size w w' := by
  show Calls Try.prog 36 #[.agg #[.int .i64 (u : Int), .int .i64 (g : Int), .int .i64 (n : Int)]] w _
  have G := Lib.hid ((Gr.refl w).alloc (.cells #[.int .i64 (u : Int), .int .i64 (g : Int), .int .i64 (n : Int)] LT))
  unfold needN
  obtain ⟨d, hd⟩ : ∃ d, d = upDiv n u g := ⟨_, rfl⟩
  rw [← hd]
  have m := fun W : World => muldiv_any n u g true W (by omega) (by omega) (by omega)
  have hw : mdWant n u g true = d := by rw [mdWant_up, hd]
  have c1 : IntKind.u64.wrap (n : Int) = (n : Int) := by rw [IntKind.wrap_u64]; omega
  have c2 : IntKind.u64.wrap (u : Int) = (u : Int) := by rw [IntKind.wrap_u64]; omega
  have c3 : IntKind.u64.wrap (g : Int) = (g : Int) := by rw [IntKind.wrap_u64]; omega
  rcases Nat.lt_or_ge d 18446744073709551616 with h | h
  · obtain ⟨k1, k2⟩ := muldiv_ok (up := true) h0 hw h
    rw [k1, k2] at m
    have M := Lib.hid m
    clear m k1 k2 hw hd hn hu hg h0
    rcases Nat.lt_or_ge 1000000 d with g' | g'
    · rw [Nat.min_eq_right (by omega)]
      have t1 : decide ((1000000 : Int) < (d : Int)) = true := by simp; omega
      clear g' h
      go_enter Try.func36, Try.ntmps36
      go_wp2_with fail
      refine (M.out _).mono ?_
      rintro e w1 ⟨rfl, h1⟩
      go_wp2
      go_ret
      exact ⟨rfl, G.out.below.trans (h1.mono G.out.size)⟩
    · rw [Nat.min_eq_left g']
      have t1 : decide ((1000000 : Int) < (d : Int)) = false := by simp; omega
      have c4 : IntKind.i64.wrap (d : Int) = (d : Int) := by rw [IntKind.wrap_i64]; omega
      clear g' h
      go_enter Try.func36, Try.ntmps36
      go_wp2_with fail
      refine (M.out _).mono ?_
      rintro e w1 ⟨rfl, h1⟩
      go_wp2
      go_ret
      exact ⟨rfl, G.out.below.trans (h1.mono G.out.size)⟩
  · obtain ⟨k1, k2⟩ := muldiv_over (a := n) (b := u) (up := true) h0 (by rw [hw]; exact h)
    rw [k1, k2] at m
    have M := Lib.hid m
    rw [Nat.min_eq_right (by omega)]
    clear m k1 k2 hw hd hn hu hg h0 h
    go_enter Try.func36, Try.ntmps36
    go_wp2_with fail
    refine (M.out _).mono ?_
    rintro e w1 ⟨rfl, h1⟩
    go_wp2
    go_ret
    exact ⟨rfl, G.out.below.trans (h1.mono G.out.size)⟩
end Go.Proofs.Ytajkhbdniadkkaa.Pp
