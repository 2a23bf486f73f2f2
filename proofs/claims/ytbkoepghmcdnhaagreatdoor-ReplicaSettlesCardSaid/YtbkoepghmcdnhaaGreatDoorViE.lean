/- Layer 15 (victim): which of two pods goes first (Before). -/
import Derived.Test.YtbkoepghmcdnhaaGreatDoorViC
import Derived.Lib.Bytealg
import Derived.Sort.Walk0
import Derived.Sort.Grow
namespace Go.Proofs.YtbkoepghmcdnhaaGreatDoor.Vi
open Go.RowKit Go.Shelf Go.Lib Go.Sort Go.Deep
open Go.Joins (cell_of_block unfrozen_of_block block_setCell)
open Go.Proofs.YtbkoepghmcdnhaaGreatDoor.Ow
set_option linter.unusedVariables false
set_option linter.unusedSimpArgs false
set_option maxRecDepth 20000

/-! ### texts compared -/
theorem compare_neg : ∀ a b : List UInt8, compareBytes a b < 0 ↔ a < b
  | [], [] => by simp [compareBytes]
  | [], _ :: _ => by simp [compareBytes]
  | _ :: _, [] => by simp [compareBytes]
  | a :: r, b :: t => by
    rw [compareBytes, List.cons_lt_cons_iff]
    by_cases h1 : a < b
    · simp [h1]
    · by_cases h2 : b < a
      · have : a ≠ b := by intro e; subst e; exact h1 h2
        simp [h1, h2, this]
      · have e : a = b := UInt8.le_antisymm (UInt8.not_lt.1 h2) (UInt8.not_lt.1 h1)
        subst e
        simp [compare_neg r t]
theorem run_cmp (a b : ByteArray) (w : World) : (callFunc 80 #[.string a, .string b]).run Tryz.prog w = .ok (.value (.int .i64 (compareBytes a.toList b.toList))) w := by
  rw [run_callFunc_extern Tryz.func80 (by kernel_rfl) (by kernel_rfl) (by kernel_rfl) (e := Extern.BytealgCompare.compare) (by kernel_rfl), Lib.run_compareString, Lib.toList_data, Lib.toList_data]
  rfl
theorem bytes_any (a b : ByteArray) (w : World) : Calls Tryz.prog 53 #[.string a, .string b] w fun e w' => e = .returned (.int .i64 (compareBytes a.toList b.toList)) ∧ w = w' := by
  have h := run_cmp a b
  go_enter Tryz.func53, Tryz.ntmps53
  go_wp2
  go_ret
  exact ⟨rfl, rfl⟩
theorem text_any (a b : ByteArray) (w : World) : Calls Tryz.prog 34 #[.string a, .string b] w fun e w' => e = .returned (.int .i64 (compareBytes a.toList b.toList)) ∧ w = w' := by
  have C := Lib.hid (bytes_any a b)
  go_enter Tryz.func34, Tryz.ntmps34
  go_wp2_with fail
  refine (C.out _).mono ?_
  rintro e w1 ⟨rfl, rfl⟩
  go_wp2
  go_ret
  exact ⟨rfl, rfl⟩
/-! ### numbers compared -/
def sgI (a b : Int) : Int := if a < b then -1 else if b < a then 1 else 0
theorem nan_int (a : Int) (w : World) : Calls Tryz.prog 133 #[.int .i64 a] w fun e w' => e = .returned (.bool false) ∧ w = w' := by
  have h : (a != a) = false := by simp
  go_enter Tryz.func133, Tryz.ntmps133
  go_wp2
  go_ret
  exact ⟨by first | rfl | (simp; done), rfl⟩
theorem nan_int64 (a : Int) (w : World) : Calls Tryz.prog 134 #[.int .i64 a] w fun e w' => e = .returned (.bool false) ∧ w = w' := by
  have h : (a != a) = false := by simp
  go_enter Tryz.func134, Tryz.ntmps134
  go_wp2
  go_ret
  exact ⟨by first | rfl | (simp; done), rfl⟩
set_option maxHeartbeats 2000000 in
theorem int_any (a b : Int) (w : World) : Calls Tryz.prog 108 #[.int .i64 a, .int .i64 b] w fun e w' => e = .returned (.int .i64 (sgI a b)) ∧ w = w' := by
  have C := Lib.hid (nan_int a)
  have D := Lib.hid (nan_int b)
  unfold sgI
  rcases Int.lt_trichotomy a b with h | h | h
  · rw [if_pos h]
    have d : decide (a < b) = true := decide_eq_true h
    clear h
    go_enter Tryz.func108, Tryz.ntmps108
    go_wp2_with fail
    refine (C.out _).mono ?_
    rintro e w1 ⟨rfl, rfl⟩
    go_wp2_with fail
    refine (D.out _).mono ?_
    rintro e w1 ⟨rfl, rfl⟩
    go_wp2
    go_ret
    exact ⟨rfl, rfl⟩
  · subst h
    rw [if_neg (by omega), if_neg (by omega)]
    have d : decide (a < a) = false := decide_eq_false (by omega)
    have d2 : decide (a > a) = false := decide_eq_false (by omega)
    go_enter Tryz.func108, Tryz.ntmps108
    go_wp2_with fail
    refine (C.out _).mono ?_
    rintro e w1 ⟨rfl, rfl⟩
    go_wp2_with fail
    refine (D.out _).mono ?_
    rintro e w1 ⟨rfl, rfl⟩
    go_wp2
    go_ret
    exact ⟨rfl, rfl⟩
  · rw [if_neg (by omega), if_pos h]
    have d : decide (a < b) = false := decide_eq_false (by omega)
    have d2 : decide (a > b) = true := decide_eq_true (by omega)
    clear h
    go_enter Tryz.func108, Tryz.ntmps108
    go_wp2_with fail
    refine (C.out _).mono ?_
    rintro e w1 ⟨rfl, rfl⟩
    go_wp2_with fail
    refine (D.out _).mono ?_
    rintro e w1 ⟨rfl, rfl⟩
    go_wp2
    go_ret
    exact ⟨rfl, rfl⟩
set_option maxHeartbeats 2000000 in
theorem int64_any (a b : Int) (w : World) : Calls Tryz.prog 110 #[.int .i64 a, .int .i64 b] w fun e w' => e = .returned (.int .i64 (sgI a b)) ∧ w = w' := by
  have C := Lib.hid (nan_int64 a)
  have D := Lib.hid (nan_int64 b)
  unfold sgI
  rcases Int.lt_trichotomy a b with h | h | h
  · rw [if_pos h]
    have d : decide (a < b) = true := decide_eq_true h
    clear h
    go_enter Tryz.func110, Tryz.ntmps110
    go_wp2_with fail
    refine (C.out _).mono ?_
    rintro e w1 ⟨rfl, rfl⟩
    go_wp2_with fail
    refine (D.out _).mono ?_
    rintro e w1 ⟨rfl, rfl⟩
    go_wp2
    go_ret
    exact ⟨rfl, rfl⟩
  · subst h
    rw [if_neg (by omega), if_neg (by omega)]
    have d : decide (a < a) = false := decide_eq_false (by omega)
    have d2 : decide (a > a) = false := decide_eq_false (by omega)
    go_enter Tryz.func110, Tryz.ntmps110
    go_wp2_with fail
    refine (C.out _).mono ?_
    rintro e w1 ⟨rfl, rfl⟩
    go_wp2_with fail
    refine (D.out _).mono ?_
    rintro e w1 ⟨rfl, rfl⟩
    go_wp2
    go_ret
    exact ⟨rfl, rfl⟩
  · rw [if_neg (by omega), if_pos h]
    have d : decide (a < b) = false := decide_eq_false (by omega)
    have d2 : decide (a > b) = true := decide_eq_true (by omega)
    clear h
    go_enter Tryz.func110, Tryz.ntmps110
    go_wp2_with fail
    refine (C.out _).mono ?_
    rintro e w1 ⟨rfl, rfl⟩
    go_wp2_with fail
    refine (D.out _).mono ?_
    rintro e w1 ⟨rfl, rfl⟩
    go_wp2
    go_ret
    exact ⟨rfl, rfl⟩
/-! ### places -/
def place (ph : Int) : Int := if ph = 3 then 1 else if ph = 0 then 2 else if ph = 1 then 3 else if ph = 2 then 4 else 0
set_option maxHeartbeats 2000000 in
theorem place_any (ph : Int) (w : World) : Calls Tryz.prog 109 #[.int .i64 ph] w fun e w' => e = .returned (.int .i64 (place ph)) ∧ w = w' := by
  unfold place
  by_cases h3 : ph = 3
  · subst h3
    go_enter Tryz.func109, Tryz.ntmps109
    go_wp2
    go_ret
    exact ⟨rfl, rfl⟩
  by_cases h0 : ph = 0
  · subst h0
    go_enter Tryz.func109, Tryz.ntmps109
    go_wp2
    go_ret
    exact ⟨rfl, rfl⟩
  by_cases h1 : ph = 1
  · subst h1
    go_enter Tryz.func109, Tryz.ntmps109
    go_wp2
    go_ret
    exact ⟨rfl, rfl⟩
  by_cases h2 : ph = 2
  · subst h2
    go_enter Tryz.func109, Tryz.ntmps109
    go_wp2
    go_ret
    exact ⟨rfl, rfl⟩
  rw [if_neg h3, if_neg h0, if_neg h1, if_neg h2]
  have e3 : (ph == 3) = false := by simp [h3]
  have e0 : (ph == 0) = false := by simp [h0]
  have e1 : (ph == 1) = false := by simp [h1]
  have e2 : (ph == 2) = false := by simp [h2]
  clear h0 h1 h2 h3
  go_enter Tryz.func109, Tryz.ntmps109
  go_wp2
  go_ret
  exact ⟨rfl, rfl⟩
def or3 (a b c : Int) : Int := if a = 0 then (if b = 0 then c else b) else a
set_option maxHeartbeats 2000000 in
theorem or_any (a b c : Int) (g : Nat) (w : World) (h0 : w.cell? ⟨g, 0, none⟩ = some (.int .i64 a)) (h1 : w.cell? ⟨g, 1, none⟩ = some (.int .i64 b)) (h2 : w.cell? ⟨g, 2, none⟩ = some (.int .i64 c)) :
    Calls Tryz.prog 107 #[.slice (some ⟨g, 0, none⟩) 3 3] w fun e w' => e = .returned (.int .i64 (or3 a b c)) ∧ w = w' := by
  unfold or3
  by_cases ha : a = 0
  · subst ha
    rw [if_pos rfl]
    by_cases hb : b = 0
    · subst hb
      rw [if_pos rfl]
      by_cases hc : c = 0
      · subst hc
        go_enter Tryz.func107, Tryz.ntmps107
        go_wp2_with fail
        refine wp_loop_rounds 4 ?_
        rw [rounds_succ]
        go_wp2
        rw [rounds_succ]
        go_wp2
        rw [rounds_succ]
        go_wp2
        rw [rounds_succ]
        go_wp2
        go_ret
        exact ⟨rfl, rfl⟩
      · have hc' : (c == 0) = false := by rw [beq_eq_false_iff_ne]; exact hc
        have hc2 : (c != 0) = true := by simp [bne, hc']
        clear hc
        go_enter Tryz.func107, Tryz.ntmps107
        go_wp2_with fail
        refine wp_loop_rounds 3 ?_
        rw [rounds_succ]
        go_wp2
        rw [rounds_succ]
        go_wp2
        rw [rounds_succ]
        go_wp2
        go_ret
        exact ⟨rfl, rfl⟩
    · rw [if_neg hb]
      have hb' : (b == 0) = false := by rw [beq_eq_false_iff_ne]; exact hb
      have hb2 : (b != 0) = true := by simp [bne, hb']
      clear hb
      go_enter Tryz.func107, Tryz.ntmps107
      go_wp2_with fail
      refine wp_loop_rounds 2 ?_
      rw [rounds_succ]
      go_wp2
      rw [rounds_succ]
      go_wp2
      go_ret
      exact ⟨rfl, rfl⟩
  · rw [if_neg ha]
    have ha' : (a == 0) = false := by rw [beq_eq_false_iff_ne]; exact ha
    have ha2 : (a != 0) = true := by simp [bne, ha']
    clear ha
    go_enter Tryz.func107, Tryz.ntmps107
    go_wp2_with fail
    refine wp_loop_rounds 1 ?_
    rw [rounds_succ]
    go_wp2
    go_ret
    exact ⟨rfl, rfl⟩
set_option maxHeartbeats 2000000 in
theorem pod_is (w : World) (X : Array Value) (h0 : X[0]? = some (.int .i64 1)) :
    Calls Tryz.prog 65 #[.agg X] w fun e w' => e = .returned (.bool true) ∧ Gr w w' := by
  obtain ⟨B, hB⟩ : ∃ B, B = w.heap.size := ⟨_, rfl⟩
  obtain ⟨w1, hw1⟩ : ∃ W, W = w.alloc (.cells X OT) := ⟨_, rfl⟩
  have G1 : Gr w w1 := hw1 ▸ (Gr.refl w).alloc _
  have b1 : w1.heap[B]? = some (.cells X OT (0, 0)) := by rw [hw1, hB]; exact heap_alloc_new w _
  have d0 : w1.cell? ⟨B, 0, none⟩ = some (.int .i64 1) := (cell_of_block b1 0).trans h0
  have HW : Hid (w.alloc (.cells X OT) = w1 ∧ w.heap.size = B) := ⟨hw1.symm, hB.symm⟩
  have HG := Lib.hid G1
  clear h0 hB hw1 G1 b1
  go_enter Tryz.func65, Tryz.ntmps65
  go_upto_region 1 with fail
  rw [HW.out.1, HW.out.2]
  go_wp2
  go_ret
  exact ⟨rfl, HG.out⟩

/-! ### a pod of a row that is sorted -/
def Fd (x : Obv) : Prop := x.1.1[0]? = some (.int .i64 1) ∧ x.1.1[1]? = some (.string x.2.name) ∧ x.1.1[12]? = some (.int .i64 x.2.p.ph) ∧ x.1.1[13]? = some (.int .i64 x.2.p.since)
abbrev El := { x : Obv // Fd x }
def enA (x : El) : Array Value := x.1.1.1
theorem enA_size (x : El) : (enA x).size = 47 := x.1.1.2.1
theorem enA_one (x : El) : (enA x).all (·.oneCell') = true := x.1.1.2.2
instance : Inhabited El := ⟨⟨(⟨zerC.setIfInBounds 0 (.int .i64 1), by kernel_rfl, by kernel_rfl⟩, zerO), by kernel_rfl, by kernel_rfl, by kernel_rfl, by kernel_rfl⟩⟩
def cf (x y : El) : Int := or3 (sgI (place x.1.2.p.ph) (place y.1.2.p.ph)) (sgI y.1.2.p.since x.1.2.p.since) (compareBytes y.1.2.name.toList x.1.2.name.toList)
def lt (x y : El) : Prop := cf x y < 0
theorem lt_iff {x y : El} : lt x y ↔ place x.1.2.p.ph < place y.1.2.p.ph ∨ (place x.1.2.p.ph = place y.1.2.p.ph ∧ (y.1.2.p.since < x.1.2.p.since ∨ (y.1.2.p.since = x.1.2.p.since ∧ y.1.2.name.toList < x.1.2.name.toList))) := by
  unfold lt cf or3 sgI
  generalize place x.1.2.p.ph = a
  generalize place y.1.2.p.ph = b
  generalize x.1.2.p.since = s
  generalize y.1.2.p.since = t
  rcases Int.lt_trichotomy a b with h | h | h
  · rw [if_pos h]; simp [h]
  · subst h
    rcases Int.lt_trichotomy t s with g | g | g
    · simp [g]
    · subst g
      simp [compare_neg]
    · have g1 : ¬ t < s := by omega
      have g2 : t ≠ s := by omega
      simp [g, g1, g2]
  · have h1 : ¬ a < b := by omega
    have h2 : a ≠ b := by omega
    simp [h, h1, h2]
theorem tx_tri (a b : List UInt8) : a < b ∨ a = b ∨ b < a := by
  by_cases h1 : a < b
  · exact .inl h1
  by_cases h2 : b < a
  · exact .inr (.inr h2)
  exact .inr (.inl (List.le_antisymm (List.not_lt.1 h2) (List.not_lt.1 h1)))
theorem lt_asy {a b : El} (h : lt a b) : ¬ lt b a := by
  rw [lt_iff] at h ⊢
  intro k
  rcases h with h | ⟨h, h2 | ⟨h2, h3⟩⟩ <;> rcases k with k | ⟨k, k2 | ⟨k2, k3⟩⟩
  all_goals first | omega | exact List.lt_irrefl _ (List.lt_trans h3 k3)
theorem nlt_tr {a b c : El} (h : ¬ lt b a) (k : ¬ lt c b) : ¬ lt c a := by
  rw [lt_iff] at h k ⊢
  intro e
  rcases Int.lt_trichotomy (place a.1.2.p.ph) (place b.1.2.p.ph) with p | p | p
  · rcases Int.lt_trichotomy (place b.1.2.p.ph) (place c.1.2.p.ph) with q | q | q
    · rcases e with e | ⟨e, _⟩ <;> omega
    · rcases e with e | ⟨e, _⟩ <;> omega
    · exact k (.inl q)
  · rcases Int.lt_trichotomy (place b.1.2.p.ph) (place c.1.2.p.ph) with q | q | q
    · rcases e with e | ⟨e, _⟩ <;> omega
    · have h' : ¬ (a.1.2.p.since < b.1.2.p.since ∨ (a.1.2.p.since = b.1.2.p.since ∧ a.1.2.name.toList < b.1.2.name.toList)) := fun z => h (.inr ⟨p.symm, z⟩)
      have k' : ¬ (b.1.2.p.since < c.1.2.p.since ∨ (b.1.2.p.since = c.1.2.p.since ∧ b.1.2.name.toList < c.1.2.name.toList)) := fun z => k (.inr ⟨q.symm, z⟩)
      have e' : a.1.2.p.since < c.1.2.p.since ∨ (a.1.2.p.since = c.1.2.p.since ∧ a.1.2.name.toList < c.1.2.name.toList) := by
        rcases e with e | ⟨_, e⟩
        · omega
        · exact e
      rw [not_or, not_and] at h' k'
      rcases e' with e' | ⟨e', e2⟩
      · omega
      · have s1 : a.1.2.p.since = b.1.2.p.since := by omega
        have s2 : b.1.2.p.since = c.1.2.p.since := by omega
        have n1 := h'.2 s1
        have n2 := k'.2 s2
        rcases tx_tri b.1.2.name.toList c.1.2.name.toList with g | g | g
        · exact n2 g
        · rw [← g] at e2; exact n1 e2
        · exact n1 (List.lt_trans e2 g)
    · exact k (.inl q)
  · exact h (.inl p)
theorem enters_cmp : ∀ args w, (callFunc 69 args).run Tryz.prog w = .ok (.enter 69 args) w := enters_of Tryz.func69 (by kernel_rfl) rfl

set_option maxHeartbeats 4000000 in
theorem closure_cmp (x y : El) (w : World) : Calls Tryz.prog 69 #[.agg (enA x), .agg (enA y)] w fun e w' => e = .returned (.int .i64 (cf x y)) ∧ ∃ q os', w' = grow (w.drewN q) os' := by
  have mixed : Tryz.prog.follows .mixedOrders = true := by kernel_rfl
  obtain ⟨X, hX⟩ : ∃ X, X = enA x := ⟨_, rfl⟩
  obtain ⟨Y, hY⟩ : ∃ Y, Y = enA y := ⟨_, rfl⟩
  have fx : Fd x.1 := x.2
  have fy : Fd y.1 := y.2
  obtain ⟨x0, x1, x12, x13⟩ := fx
  obtain ⟨y0, y1, y12, y13⟩ := fy
  rw [show x.1.1.1 = X from hX.symm] at x0 x1 x12 x13
  rw [show y.1.1.1 = Y from hY.symm] at y0 y1 y12 y13
  have sX : X.size = 47 := by rw [hX]; exact enA_size x
  have sY : Y.size = 47 := by rw [hY]; exact enA_size y
  rw [← hX, ← hY]
  have E : cf x y = or3 (sgI (place x.1.2.p.ph) (place y.1.2.p.ph)) (sgI y.1.2.p.since x.1.2.p.since) (compareBytes y.1.2.name.toList x.1.2.name.toList) := rfl
  have P1 := Lib.hid (place_any x.1.2.p.ph)
  have P2 := Lib.hid (place_any y.1.2.p.ph)
  have C1 := Lib.hid (int_any (place x.1.2.p.ph) (place y.1.2.p.ph))
  have C2 := Lib.hid (int64_any y.1.2.p.since x.1.2.p.since)
  have C3 := Lib.hid (text_any y.1.2.name x.1.2.name)
  generalize cf x y = r at E ⊢
  generalize place x.1.2.p.ph = px at E P1 C1
  generalize place y.1.2.p.ph = py at E P2 C1
  generalize sgI px py = p at E C1
  generalize sgI y.1.2.p.since x.1.2.p.since = q at E C2
  generalize compareBytes y.1.2.name.toList x.1.2.name.toList = s at E C3
  generalize x.1.2.p.ph = phx at x12 P1
  generalize y.1.2.p.ph = phy at y12 P2
  generalize x.1.2.p.since = sx at x13 C2
  generalize y.1.2.p.since = sy at y13 C2
  generalize x.1.2.name = nx at x1 C3
  generalize y.1.2.name = ny at y1 C3
  have HE := Lib.hid E
  clear E hX hY x y
  obtain ⟨B, hB⟩ : ∃ B, B = w.heap.size := ⟨_, rfl⟩
  obtain ⟨w1, hw1⟩ : ∃ w1, w1 = w.alloc (.cells X OT) := ⟨_, rfl⟩
  obtain ⟨w2, hw2⟩ : ∃ w2, w2 = w1.alloc (.cells Y OT) := ⟨_, rfl⟩
  have z1 : w1.heap.size = B + 1 := by rw [hw1, hB]; simp
  have b1 : w1.heap[B]? = some (.cells X OT (0, 0)) := by rw [hw1, hB]; exact heap_alloc_new w _
  have b2 : w2.heap[B + 1]? = some (.cells Y OT (0, 0)) := by rw [hw2, ← z1]; exact heap_alloc_new w1 _
  have b1' : w2.heap[B]? = some (.cells X OT (0, 0)) := by rw [hw2]; exact (Below.heap_alloc w1 _ _ (by omega)).trans b1
  have G2 : Gr w w2 := by rw [hw2, hw1]; exact ((Gr.refl w).alloc _).alloc _
  have LX := Lib.hid (load_ob b1' sX)
  have PX := Lib.hid (pod_is w2 X x0)
  have HW : Hid (w.alloc (.cells X OT) = w1 ∧ w1.alloc (.cells Y OT) = w2 ∧ w.heap.size = B ∧ w1.heap.size = B + 1) := ⟨hw1.symm, hw2.symm, hB.symm, z1⟩
  have HB2 := Lib.hid (And.intro b1' (And.intro b2 (And.intro G2 (And.intro sY y0))))
  have HX := Lib.hid (And.intro x1 (And.intro x12 (And.intro x13 (And.intro y1 (And.intro y12 y13)))))
  clear hw1 hw2 hB z1 b1 b2 b1' G2 sX sY x0 y0 x1 x12 x13 y1 y12 y13
  go_enter Tryz.func69, Tryz.ntmps69
  go_upto_region 1 with fail
  rw [HW.out.1, HW.out.2.1, HW.out.2.2.1]
  go_wp2_with (refine wpList_load_by (by kernel_rfl) OT _ rfl (.pointer (some ⟨B, 0, none⟩)) (.agg X) (by kernel_rfl) LX.out ?_)
  refine PX.out.mono ?_
  rintro e w3 ⟨rfl, g3⟩
  have b3 : w3.heap[B]? = some (.cells X OT (0, 0)) := (g3.heap (Array.getElem?_eq_some_iff.1 HB2.out.1).1).trans HB2.out.1
  have b3' : w3.heap[B + 1]? = some (.cells Y OT (0, 0)) := (g3.heap (Array.getElem?_eq_some_iff.1 HB2.out.2.1).1).trans HB2.out.2.1
  have LY := Lib.hid (load_ob b3' HB2.out.2.2.2.1)
  have PY := Lib.hid (pod_is w3 Y HB2.out.2.2.2.2)
  have H3 := Lib.hid (And.intro b3 (And.intro b3' (HB2.out.2.2.1.trans g3)))
  clear b3 b3' g3 LX PX HB2
  go_wp2_with (refine wpList_load_by (by kernel_rfl) OT _ rfl (.pointer (some ⟨B + 1, 0, none⟩)) (.agg Y) (by kernel_rfl) LY.out ?_)
  refine PY.out.mono ?_
  rintro e w4 ⟨rfl, g4⟩
  have b4 : w4.heap[B]? = some (.cells X OT (0, 0)) := (g4.heap (Array.getElem?_eq_some_iff.1 H3.out.1).1).trans H3.out.1
  have b4' : w4.heap[B + 1]? = some (.cells Y OT (0, 0)) := (g4.heap (Array.getElem?_eq_some_iff.1 H3.out.2.1).1).trans H3.out.2.1
  have G4 : Gr w w4 := H3.out.2.2.trans g4
  obtain ⟨f1, f2, f3, f4, f5, f6⟩ := HX.out
  have c1 : w4.cell? ⟨B, 1, none⟩ = some (.string nx) := (cell_of_block b4 1).trans f1
  have c12 : w4.cell? ⟨B, 12, none⟩ = some (.int .i64 phx) := (cell_of_block b4 12).trans f2
  have c13 : w4.cell? ⟨B, 13, none⟩ = some (.int .i64 sx) := (cell_of_block b4 13).trans f3
  have d1 : w4.cell? ⟨B + 1, 1, none⟩ = some (.string ny) := (cell_of_block b4' 1).trans f4
  have d12 : w4.cell? ⟨B + 1, 12, none⟩ = some (.int .i64 phy) := (cell_of_block b4' 12).trans f5
  have d13 : w4.cell? ⟨B + 1, 13, none⟩ = some (.int .i64 sy) := (cell_of_block b4' 13).trans f6
  obtain ⟨G, hG⟩ : ∃ G, G = w4.heap.size := ⟨_, rfl⟩
  obtain ⟨w5, hw5⟩ : ∃ w5, w5 = w4.drew.alloc (.cells #[.int .i64 p, .int .i64 q, .int .i64 s] 3) := ⟨_, rfl⟩
  have b5 : w5.heap[G]? = some (.cells #[.int .i64 p, .int .i64 q, .int .i64 s] 3 (0, 0)) := by
    have e : w4.drew.heap.size = G := hG.symm
    rw [hw5, ← e]
    exact heap_alloc_new w4.drew _
  have CO := Lib.hid (or_any p q s G w5 (cell_of_block b5 0) (cell_of_block b5 1) (cell_of_block b5 2))
  rw [← HE.out] at CO
  have FIN : Hid (Gr w w5) := by show Gr _ _; rw [hw5]; exact (G4.drewN 1).alloc _
  have HW5 : Hid ((w4.alloc (.cells #[.int .i64 p, .int .i64 q, .int .i64 s] 3)).drew = w5 ∧ w4.heap.size = G) := ⟨hw5.symm, hG.symm⟩
  have S0 : Hid (∀ ws : World, (ws.cell? ⟨B, 1, none⟩ = some (.string nx) ∧ ws.cell? ⟨B, 12, none⟩ = some (.int .i64 phx) ∧ ws.cell? ⟨B, 13, none⟩ = some (.int .i64 sx) ∧ ws.cell? ⟨B + 1, 1, none⟩ = some (.string ny) ∧ ws.cell? ⟨B + 1, 12, none⟩ = some (.int .i64 phy) ∧ ws.cell? ⟨B + 1, 13, none⟩ = some (.int .i64 sy)) → ws.cell? ⟨B, 1, none⟩ = some (.string nx) ∧ ws.cell? ⟨B, 12, none⟩ = some (.int .i64 phx) ∧ ws.cell? ⟨B, 13, none⟩ = some (.int .i64 sx) ∧ ws.cell? ⟨B + 1, 1, none⟩ = some (.string ny) ∧ ws.cell? ⟨B + 1, 12, none⟩ = some (.int .i64 phy) ∧ ws.cell? ⟨B + 1, 13, none⟩ = some (.int .i64 sy)) := fun ws h => h
  have S2 : Hid (w4.drew.cell? ⟨B, 1, none⟩ = some (.string nx) ∧ w4.drew.cell? ⟨B, 12, none⟩ = some (.int .i64 phx) ∧ w4.drew.cell? ⟨B, 13, none⟩ = some (.int .i64 sx) ∧ w4.drew.cell? ⟨B + 1, 1, none⟩ = some (.string ny) ∧ w4.drew.cell? ⟨B + 1, 12, none⟩ = some (.int .i64 phy) ∧ w4.drew.cell? ⟨B + 1, 13, none⟩ = some (.int .i64 sy)) := ⟨c1, c12, c13, d1, d12, d13⟩
  have S4 : Hid (w5.cell? ⟨B, 1, none⟩ = some (.string nx) ∧ w5.cell? ⟨B, 12, none⟩ = some (.int .i64 phx) ∧ w5.cell? ⟨B, 13, none⟩ = some (.int .i64 sx) ∧ w5.cell? ⟨B + 1, 1, none⟩ = some (.string ny) ∧ w5.cell? ⟨B + 1, 12, none⟩ = some (.int .i64 phy) ∧ w5.cell? ⟨B + 1, 13, none⟩ = some (.int .i64 sy)) := by
    have bw : Below w4.heap.size w4 w5 := by rw [hw5]; exact ((Below.refl _ w4).drew).alloc (Nat.le_refl _) _
    exact ⟨(bw.cell (World.block_lt_of_cell? _ _ c1)).trans c1, (bw.cell (World.block_lt_of_cell? _ _ c12)).trans c12, (bw.cell (World.block_lt_of_cell? _ _ c13)).trans c13, (bw.cell (World.block_lt_of_cell? _ _ d1)).trans d1, (bw.cell (World.block_lt_of_cell? _ _ d12)).trans d12, (bw.cell (World.block_lt_of_cell? _ _ d13)).trans d13⟩
  clear hw5 b4 b4' G4 g4 b5 hG c1 c12 c13 d1 d12 d13 f1 f2 f3 f4 f5 f6 HE H3 HX LY PY
  go_wp2_with fail
  refine wp_region_held_drew (S := fun ws => ws.cell? ⟨B, 1, none⟩ = some (.string nx) ∧ ws.cell? ⟨B, 12, none⟩ = some (.int .i64 phx) ∧ ws.cell? ⟨B, 13, none⟩ = some (.int .i64 sx) ∧ ws.cell? ⟨B + 1, 1, none⟩ = some (.string ny) ∧ ws.cell? ⟨B + 1, 12, none⟩ = some (.int .i64 phy) ∧ ws.cell? ⟨B + 1, 13, none⟩ = some (.int .i64 sy)) mixed S2.out (fun hS => ?_)
  refine wpAnyH_takeD (i := 0) (d := 13) (v := .pointer (some ⟨B, 10, none⟩)) _ rfl rfl (by kernel_rfl) (by kernel_rfl) (by kernel_rfl) (fun _ _ _ h => h) (Or.inl ⟨by kernel_rfl, fun ws hSw => by first | (go_simp; done) | (go_simp; with_reducible rfl) | (go_simp; rfl)⟩) hS ?_
  simp only [Act.put, List.setIfInBounds_toArray, List.set_cons_zero, List.set_cons_succ]
  refine wpAnyH_takeD (i := 1) (d := 14) (v := .pointer (some ⟨B, 12, none⟩)) _ rfl rfl (by kernel_rfl) (by kernel_rfl) (by kernel_rfl) (fun _ _ _ h => h) (Or.inl ⟨by kernel_rfl, fun ws hSw => by first | (go_simp; done) | (go_simp; with_reducible rfl) | (go_simp; rfl)⟩) hS ?_
  simp only [Act.put, List.setIfInBounds_toArray, List.set_cons_zero, List.set_cons_succ]
  refine wpAnyH_takeD (i := 2) (d := 15) (v := .int .i64 phx) _ rfl rfl (by kernel_rfl) (by kernel_rfl) (by kernel_rfl) (fun _ _ _ h => h) (Or.inl ⟨by kernel_rfl, fun ws hSw => by have q := S0.out ws hSw; first | (go_simp; done) | (go_simp; with_reducible rfl) | (go_simp; rfl)⟩) hS ?_
  simp only [Act.put, List.setIfInBounds_toArray, List.set_cons_zero, List.set_cons_succ]
  refine wpAnyH_takeD (i := 4) (d := 17) (v := .pointer (some ⟨B + 1, 10, none⟩)) _ rfl rfl (by kernel_rfl) (by kernel_rfl) (by kernel_rfl) (fun _ _ _ h => h) (Or.inl ⟨by kernel_rfl, fun ws hSw => by first | (go_simp; done) | (go_simp; with_reducible rfl) | (go_simp; rfl)⟩) hS ?_
  simp only [Act.put, List.setIfInBounds_toArray, List.set_cons_zero, List.set_cons_succ]
  refine wpAnyH_takeD (i := 5) (d := 18) (v := .pointer (some ⟨B + 1, 12, none⟩)) _ rfl rfl (by kernel_rfl) (by kernel_rfl) (by kernel_rfl) (fun _ _ _ h => h) (Or.inl ⟨by kernel_rfl, fun ws hSw => by first | (go_simp; done) | (go_simp; with_reducible rfl) | (go_simp; rfl)⟩) hS ?_
  simp only [Act.put, List.setIfInBounds_toArray, List.set_cons_zero, List.set_cons_succ]
  refine wpAnyH_takeD (i := 6) (d := 19) (v := .int .i64 phy) _ rfl rfl (by kernel_rfl) (by kernel_rfl) (by kernel_rfl) (fun _ _ _ h => h) (Or.inl ⟨by kernel_rfl, fun ws hSw => by have q := S0.out ws hSw; first | (go_simp; done) | (go_simp; with_reducible rfl) | (go_simp; rfl)⟩) hS ?_
  simp only [Act.put, List.setIfInBounds_toArray, List.set_cons_zero, List.set_cons_succ]
  refine wpAnyH_takeD (i := 9) (d := 22) (v := .pointer (some ⟨B + 1, 10, none⟩)) _ rfl rfl (by kernel_rfl) (by kernel_rfl) (by kernel_rfl) (fun _ _ _ h => h) (Or.inl ⟨by kernel_rfl, fun ws hSw => by first | (go_simp; done) | (go_simp; with_reducible rfl) | (go_simp; rfl)⟩) hS ?_
  simp only [Act.put, List.setIfInBounds_toArray, List.set_cons_zero, List.set_cons_succ]
  refine wpAnyH_takeD (i := 10) (d := 23) (v := .pointer (some ⟨B + 1, 13, none⟩)) _ rfl rfl (by kernel_rfl) (by kernel_rfl) (by kernel_rfl) (fun _ _ _ h => h) (Or.inl ⟨by kernel_rfl, fun ws hSw => by first | (go_simp; done) | (go_simp; with_reducible rfl) | (go_simp; rfl)⟩) hS ?_
  simp only [Act.put, List.setIfInBounds_toArray, List.set_cons_zero, List.set_cons_succ]
  refine wpAnyH_takeD (i := 11) (d := 24) (v := .int .i64 sy) _ rfl rfl (by kernel_rfl) (by kernel_rfl) (by kernel_rfl) (fun _ _ _ h => h) (Or.inl ⟨by kernel_rfl, fun ws hSw => by have q := S0.out ws hSw; first | (go_simp; done) | (go_simp; with_reducible rfl) | (go_simp; rfl)⟩) hS ?_
  simp only [Act.put, List.setIfInBounds_toArray, List.set_cons_zero, List.set_cons_succ]
  refine wpAnyH_takeD (i := 12) (d := 25) (v := .pointer (some ⟨B, 10, none⟩)) _ rfl rfl (by kernel_rfl) (by kernel_rfl) (by kernel_rfl) (fun _ _ _ h => h) (Or.inl ⟨by kernel_rfl, fun ws hSw => by first | (go_simp; done) | (go_simp; with_reducible rfl) | (go_simp; rfl)⟩) hS ?_
  simp only [Act.put, List.setIfInBounds_toArray, List.set_cons_zero, List.set_cons_succ]
  refine wpAnyH_takeD (i := 13) (d := 26) (v := .pointer (some ⟨B, 13, none⟩)) _ rfl rfl (by kernel_rfl) (by kernel_rfl) (by kernel_rfl) (fun _ _ _ h => h) (Or.inl ⟨by kernel_rfl, fun ws hSw => by first | (go_simp; done) | (go_simp; with_reducible rfl) | (go_simp; rfl)⟩) hS ?_
  simp only [Act.put, List.setIfInBounds_toArray, List.set_cons_zero, List.set_cons_succ]
  refine wpAnyH_takeD (i := 14) (d := 27) (v := .int .i64 sx) _ rfl rfl (by kernel_rfl) (by kernel_rfl) (by kernel_rfl) (fun _ _ _ h => h) (Or.inl ⟨by kernel_rfl, fun ws hSw => by have q := S0.out ws hSw; first | (go_simp; done) | (go_simp; with_reducible rfl) | (go_simp; rfl)⟩) hS ?_
  simp only [Act.put, List.setIfInBounds_toArray, List.set_cons_zero, List.set_cons_succ]
  refine wpAnyH_takeD (i := 16) (d := 29) (v := .pointer (some ⟨B + 1, 1, none⟩)) _ rfl rfl (by kernel_rfl) (by kernel_rfl) (by kernel_rfl) (fun _ _ _ h => h) (Or.inl ⟨by kernel_rfl, fun ws hSw => by first | (go_simp; done) | (go_simp; with_reducible rfl) | (go_simp; rfl)⟩) hS ?_
  simp only [Act.put, List.setIfInBounds_toArray, List.set_cons_zero, List.set_cons_succ]
  refine wpAnyH_takeD (i := 17) (d := 30) (v := .string ny) _ rfl rfl (by kernel_rfl) (by kernel_rfl) (by kernel_rfl) (fun _ _ _ h => h) (Or.inl ⟨by kernel_rfl, fun ws hSw => by have q := S0.out ws hSw; first | (go_simp; done) | (go_simp; with_reducible rfl) | (go_simp; rfl)⟩) hS ?_
  simp only [Act.put, List.setIfInBounds_toArray, List.set_cons_zero, List.set_cons_succ]
  refine wpAnyH_takeD (i := 18) (d := 31) (v := .pointer (some ⟨B, 1, none⟩)) _ rfl rfl (by kernel_rfl) (by kernel_rfl) (by kernel_rfl) (fun _ _ _ h => h) (Or.inl ⟨by kernel_rfl, fun ws hSw => by first | (go_simp; done) | (go_simp; with_reducible rfl) | (go_simp; rfl)⟩) hS ?_
  simp only [Act.put, List.setIfInBounds_toArray, List.set_cons_zero, List.set_cons_succ]
  refine wpAnyH_takeD (i := 19) (d := 32) (v := .string nx) _ rfl rfl (by kernel_rfl) (by kernel_rfl) (by kernel_rfl) (fun _ _ _ h => h) (Or.inl ⟨by kernel_rfl, fun ws hSw => by have q := S0.out ws hSw; first | (go_simp; done) | (go_simp; with_reducible rfl) | (go_simp; rfl)⟩) hS ?_
  simp only [Act.put, List.setIfInBounds_toArray, List.set_cons_zero, List.set_cons_succ]
  refine wpAnyH_ready (rs := [3]) (by kernel_rfl) (by simp) ?_
  refine AllReadyH.cons rfl (fun K hK => ?_) AllReadyH.nil
  go_simp
  refine (P1.out _).mono ?_
  rintro e w' ⟨rfl, rfl⟩
  refine hK _ _ hS (fun hS => ?_)
  try simp only [Act.put, List.setIfInBounds_toArray, List.set_cons_zero, List.set_cons_succ]
  refine wpAnyH_ready (rs := [7]) (by kernel_rfl) (by simp) ?_
  refine AllReadyH.cons rfl (fun K hK => ?_) AllReadyH.nil
  go_simp
  refine (P2.out _).mono ?_
  rintro e w' ⟨rfl, rfl⟩
  refine hK _ _ hS (fun hS => ?_)
  try simp only [Act.put, List.setIfInBounds_toArray, List.set_cons_zero, List.set_cons_succ]
  refine wpAnyH_ready (rs := [8]) (by kernel_rfl) (by simp) ?_
  refine AllReadyH.cons rfl (fun K hK => ?_) AllReadyH.nil
  go_simp
  refine (C1.out _).mono ?_
  rintro e w' ⟨rfl, rfl⟩
  refine hK _ _ hS (fun hS => ?_)
  try simp only [Act.put, List.setIfInBounds_toArray, List.set_cons_zero, List.set_cons_succ]
  refine wpAnyH_ready (rs := [15]) (by kernel_rfl) (by simp) ?_
  refine AllReadyH.cons rfl (fun K hK => ?_) AllReadyH.nil
  go_simp
  refine (C2.out _).mono ?_
  rintro e w' ⟨rfl, rfl⟩
  refine hK _ _ hS (fun hS => ?_)
  try simp only [Act.put, List.setIfInBounds_toArray, List.set_cons_zero, List.set_cons_succ]
  refine wpAnyH_ready (rs := [20]) (by kernel_rfl) (by simp) ?_
  refine AllReadyH.cons rfl (fun K hK => ?_) AllReadyH.nil
  go_simp
  refine (C3.out _).mono ?_
  rintro e w' ⟨rfl, rfl⟩
  refine hK _ _ hS (fun hS => ?_)
  try simp only [Act.put, List.setIfInBounds_toArray, List.set_cons_zero, List.set_cons_succ]
  refine wpAnyH_ready (rs := [21]) (by kernel_rfl) (by simp) ?_
  refine AllReadyH.cons rfl (fun K hK => ?_) AllReadyH.nil
  go_simp
  rw [HW5.out.1, HW5.out.2]
  refine hK _ _ S4.out (fun hS => ?_)
  try simp only [Act.put, List.setIfInBounds_toArray, List.set_cons_zero, List.set_cons_succ]
  refine wpAnyH_ready (rs := [22]) (by kernel_rfl) (by simp) ?_
  refine AllReadyH.cons rfl (fun K hK => ?_) AllReadyH.nil
  go_simp
  refine CO.out.mono ?_
  rintro e w' ⟨rfl, h⟩
  have h' := h.symm
  subst h'
  refine hK _ _ S4.out (fun hS => ?_)
  try simp only [Act.put, List.setIfInBounds_toArray, List.set_cons_zero, List.set_cons_succ]
  refine wpAnyH_takeD (i := 23) (d := 4) (v := .int .i64 r) _ rfl rfl (by kernel_rfl) (by kernel_rfl) (by kernel_rfl) (fun _ _ _ h => h) (Or.inl ⟨by kernel_rfl, fun ws hSw => by first | (go_simp; done) | (go_simp; with_reducible rfl) | (go_simp; rfl)⟩) hS ?_
  simp only [Act.put, List.setIfInBounds_toArray, List.set_cons_zero, List.set_cons_succ]
  refine wpAnyH_done (by kernel_rfl) ?_ _
  go_wp2
  go_ret
  exact ⟨rfl, FIN.out⟩
end Go.Proofs.YtbkoepghmcdnhaaGreatDoor.Vi
