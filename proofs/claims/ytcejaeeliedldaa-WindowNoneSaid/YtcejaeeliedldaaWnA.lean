/- Layer 21 (window): ticks at which something was proposed; how two are compared; what goes; a row of ticks copied. -/
import Derived.Test.YtcejaeeliedldaaObSet
import Derived.Test.YtcejaeeliedldaaHeldF
import Derived.Test.YtcejaeeliedldaaRgA
import Derived.Laws.OwnMore
namespace Go.Proofs.Ytcejaeeliedldaa.Wn
open Go.RowKit Go.Shelf Go.Lib Go.Sort Go.Deep
open Go.Joins (cell_of_block unfrozen_of_block block_setCell)
open Go.Proofs.Ytcejaeeliedldaa.Ow
set_option linter.unusedVariables false
set_option linter.unusedSimpArgs false
set_option maxRecDepth 20000

abbrev TT : TypeId := 47
abbrev MT : TypeId := 44
abbrev AT : TypeId := 2
abbrev SlT : TypeId := 42
/-- What was proposed at a tick. -/
structure Tk where
  tm : Int
  lo : Int
  hi : Int
instance : Inhabited Tk := ⟨⟨0, 0, 0⟩⟩
def encA (x : Tk) : Array Value := #[.int .i64 x.tm, .int .i64 x.lo, .int .i64 x.hi]
def encS (x : Tk) : List Value := [.int .i64 x.tm, .int .i64 x.lo, .int .i64 x.hi]
theorem encA_list (x : Tk) : (encA x).toList = encS x := rfl
theorem lenS (x : Tk) : (encS x).length = 3 := rfl
theorem oneS (x : Tk) : ∀ u ∈ encS x, u.oneCell' = true := by
  intro u hu
  simp [encS] at hu
  rcases hu with rfl | rfl | rfl <;> rfl
abbrev zerS : Array Value := #[.int .i64 0, .int .i64 0, .int .i64 0]
theorem info_TT : ∃ i : TypeInfo, Try.prog.info? TT = some i ∧ i.zero = some (.agg zerS) ∧ i.size = 3 ∧ i.bytes = 24 := by
  have hinf : (Try.prog.info? TT).map (fun i => (i.zero, i.size, i.bytes)) = some (some (.agg zerS), 3, 24) := by kernel_rfl
  cases hi : Try.prog.info? TT with
  | none => rw [hi] at hinf; cases hinf
  | some i =>
    rw [hi] at hinf
    simp only [Option.map_some, Option.some.injEq, Prod.mk.injEq] at hinf
    exact ⟨i, rfl, hinf.1, hinf.2.1, hinf.2.2⟩
theorem sizeA (x : Tk) : (encA x).size = 3 := rfl
theorem infoS3 (x : Tk) : (Try.prog.info? TT).map (·.size) = some (encA x).size := by rw [sizeA]; kernel_rfl
theorem oneA (x : Tk) : (encA x).all (·.oneCell') = true := by simp [encA, Value.oneCell']
theorem load_tk {w : World} {g o : Nat} {x : Tk} (h : w.rangeAt g o (encA x).toList) : (Instr.loadAt TT (.pointer (some ⟨g, o, none⟩))).run Try.prog w = .ok (.agg (encA x)) w := by
  have := run_loadAt_mid (P := Try.prog) w g o TT (encA x).toList _ h Try.underlying47 rfl (by rw [Array.length_toList]; exact infoS3 x)
  rwa [Array.toArray_toList] at this
/-- The call owns the slice v, which reads as l. -/
def OwnK (N : Nat) (w : World) (v : Value) (l : List Tk) : Prop := w.ownsRow N TT 3 v l.length (flat encS l)
theorem own_block {base n k : Nat} {w w' : World} {E : TypeId} {v : Value} {xs : List Value} (h : w.ownsRow base E k v n xs) (he : ∀ g, v.ownBlock = some g → w'.heap[g]? = w.heap[g]?) : w'.ownsRow base E k v n xs := by
  obtain ⟨h0, h⟩ := h
  refine ⟨h0, ?_⟩
  rcases h with h | ⟨g, cap, cur, rfl, hb, hg, r⟩
  · exact .inl h
  · exact .inr ⟨g, cap, cur, rfl, hb, (he g rfl).trans hg, r⟩
theorem own_ne {w : World} {N : Nat} {E T : TypeId} {k n sp : Nat} {v : Value} {xs : List Value} {cs : Array Value} {fz : Nat × Nat} (h : w.ownsRow N E k v n xs) (hs : w.heap[sp]? = some (.cells cs T fz)) (hne : T ≠ E) : v.ownBlock ≠ some sp := by
  rcases h.2 with ⟨rfl, rfl⟩ | ⟨g, cap, cur, rfl, _, hg, _⟩
  · intro e; cases e
  · intro e
    simp [Value.ownBlock] at e
    subst e
    rw [hs] at hg
    simp only [Option.some.injEq, Obj.cells.injEq] at hg
    exact hne hg.2.1
theorem tch_setCells {S : List Nat} {a b : World} (h : Tch S a b) {g : Nat} (hg : g ∈ S ∨ a.heap.size ≤ g) : ∀ (o : Nat) (vs : List Value), Tch S a (b.setCells g o vs)
  | o, [] => h
  | o, v :: vs => tch_setCells (h.setCell o v hg) hg (o + 1) vs

/-! ### Two compared -/
def sgI (a b : Int) : Int := if a < b then -1 else if b < a then 1 else 0
theorem nan_int (a : Int) (w : World) : Calls Try.prog 30 #[.int .i64 a] w fun e w' => e = .returned (.bool false) ∧ w = w' := by
  have h : (a != a) = false := by simp
  go_enter Try.func30, Try.ntmps30
  go_wp2
  go_ret
  exact ⟨by first | rfl | (simp; done), rfl⟩
set_option maxHeartbeats 2000000 in
theorem int_any (a b : Int) (w : World) : Calls Try.prog 22 #[.int .i64 a, .int .i64 b] w fun e w' => e = .returned (.int .i64 (sgI a b)) ∧ w = w' := by
  have C := Lib.hid (nan_int a)
  have D := Lib.hid (nan_int b)
  unfold sgI
  rcases Int.lt_trichotomy a b with h | h | h
  · rw [if_pos h]
    have d : decide (a < b) = true := decide_eq_true h
    clear h
    go_enter Try.func22, Try.ntmps22
    go_wp2_with fail
    refine (C.out _).mono ?_
    rintro e w1 ⟨rfl, rfl⟩
    go_wp2_with fail
    refine (D.out _).mono ?_
    rintro e w1 ⟨rfl, rfl⟩
    go_wp2
    go_ret
    exact ⟨rfl, rfl⟩
  · subst h
    rw [if_neg (by omega), if_neg (by omega)]
    have d : decide (a < a) = false := decide_eq_false (by omega)
    have d2 : decide (a > a) = false := decide_eq_false (by omega)
    go_enter Try.func22, Try.ntmps22
    go_wp2_with fail
    refine (C.out _).mono ?_
    rintro e w1 ⟨rfl, rfl⟩
    go_wp2_with fail
    refine (D.out _).mono ?_
    rintro e w1 ⟨rfl, rfl⟩
    go_wp2
    go_ret
    exact ⟨rfl, rfl⟩
  · rw [if_neg (by omega), if_pos h]
    have d : decide (a < b) = false := decide_eq_false (by omega)
    have d2 : decide (a > b) = true := decide_eq_true (by omega)
    clear h
    go_enter Try.func22, Try.ntmps22
    go_wp2_with fail
    refine (C.out _).mono ?_
    rintro e w1 ⟨rfl, rfl⟩
    go_wp2_with fail
    refine (D.out _).mono ?_
    rintro e w1 ⟨rfl, rfl⟩
    go_wp2
    go_ret
    exact ⟨rfl, rfl⟩
set_option maxHeartbeats 4000000 in
theorem least_any (x y : Tk) (w : World) : Calls Try.prog 21 #[.agg (encA x), .agg (encA y)] w fun e w' => e = .returned (.int .i64 (sgI x.lo y.lo)) ∧ Gr w w' := by
  obtain ⟨X, hX⟩ : ∃ X, X = encA x := ⟨_, rfl⟩
  obtain ⟨Y, hY⟩ : ∃ Y, Y = encA y := ⟨_, rfl⟩
  have x1 : X[1]? = some (.int .i64 x.lo) := by rw [hX]; rfl
  have y1 : Y[1]? = some (.int .i64 y.lo) := by rw [hY]; rfl
  rw [← hX, ← hY]
  have C1 := Lib.hid (int_any x.lo y.lo)
  generalize sgI x.lo y.lo = p at C1 ⊢
  generalize x.lo = sx at x1 C1
  generalize y.lo = sy at y1 C1
  clear hX hY x y
  obtain ⟨B, hB⟩ : ∃ B, B = w.heap.size := ⟨_, rfl⟩
  obtain ⟨w1, hw1⟩ : ∃ w1, w1 = w.alloc (.cells X TT) := ⟨_, rfl⟩
  obtain ⟨w2, hw2⟩ : ∃ w2, w2 = w1.alloc (.cells Y TT) := ⟨_, rfl⟩
  have z1 : w1.heap.size = B + 1 := by rw [hw1, hB]; simp
  have b1 : w1.heap[B]? = some (.cells X TT (0, 0)) := by rw [hw1, hB]; exact heap_alloc_new w _
  have b2 : w2.heap[B + 1]? = some (.cells Y TT (0, 0)) := by rw [hw2, ← z1]; exact heap_alloc_new w1 _
  have b1' : w2.heap[B]? = some (.cells X TT (0, 0)) := by rw [hw2]; exact (Below.heap_alloc w1 _ _ (by omega)).trans b1
  have G2 : Hid (Gr w w2) := by show Gr _ _; rw [hw2, hw1]; exact ((Gr.refl w).alloc _).alloc _
  have HW : Hid (w.alloc (.cells X TT) = w1 ∧ w1.alloc (.cells Y TT) = w2 ∧ w.heap.size = B ∧ w1.heap.size = B + 1) := ⟨hw1.symm, hw2.symm, hB.symm, z1⟩
  have c1 : w2.cell? ⟨B, 1, none⟩ = some (.int .i64 sx) := (cell_of_block b1' 1).trans x1
  have d1 : w2.cell? ⟨B + 1, 1, none⟩ = some (.int .i64 sy) := (cell_of_block b2 1).trans y1
  clear hw1 hw2 hB z1 b1 b2 b1' x1 y1
  go_enter Try.func21, Try.ntmps21
  go_upto_region 1 with fail
  rw [HW.out.1, HW.out.2.1, HW.out.2.2.1]
  go_wp2_with fail
  refine (C1.out _).mono ?_
  rintro e w' ⟨rfl, rfl⟩
  go_wp2
  go_ret
  exact ⟨rfl, G2.out⟩
set_option maxHeartbeats 4000000 in
theorem greatest_any (x y : Tk) (w : World) : Calls Try.prog 24 #[.agg (encA x), .agg (encA y)] w fun e w' => e = .returned (.int .i64 (sgI x.hi y.hi)) ∧ Gr w w' := by
  obtain ⟨X, hX⟩ : ∃ X, X = encA x := ⟨_, rfl⟩
  obtain ⟨Y, hY⟩ : ∃ Y, Y = encA y := ⟨_, rfl⟩
  have x1 : X[2]? = some (.int .i64 x.hi) := by rw [hX]; rfl
  have y1 : Y[2]? = some (.int .i64 y.hi) := by rw [hY]; rfl
  rw [← hX, ← hY]
  have C1 := Lib.hid (int_any x.hi y.hi)
  generalize sgI x.hi y.hi = p at C1 ⊢
  generalize x.hi = sx at x1 C1
  generalize y.hi = sy at y1 C1
  clear hX hY x y
  obtain ⟨B, hB⟩ : ∃ B, B = w.heap.size := ⟨_, rfl⟩
  obtain ⟨w1, hw1⟩ : ∃ w1, w1 = w.alloc (.cells X TT) := ⟨_, rfl⟩
  obtain ⟨w2, hw2⟩ : ∃ w2, w2 = w1.alloc (.cells Y TT) := ⟨_, rfl⟩
  have z1 : w1.heap.size = B + 1 := by rw [hw1, hB]; simp
  have b1 : w1.heap[B]? = some (.cells X TT (0, 0)) := by rw [hw1, hB]; exact heap_alloc_new w _
  have b2 : w2.heap[B + 1]? = some (.cells Y TT (0, 0)) := by rw [hw2, ← z1]; exact heap_alloc_new w1 _
  have b1' : w2.heap[B]? = some (.cells X TT (0, 0)) := by rw [hw2]; exact (Below.heap_alloc w1 _ _ (by omega)).trans b1
  have G2 : Hid (Gr w w2) := by show Gr _ _; rw [hw2, hw1]; exact ((Gr.refl w).alloc _).alloc _
  have HW : Hid (w.alloc (.cells X TT) = w1 ∧ w1.alloc (.cells Y TT) = w2 ∧ w.heap.size = B ∧ w1.heap.size = B + 1) := ⟨hw1.symm, hw2.symm, hB.symm, z1⟩
  have c1 : w2.cell? ⟨B, 2, none⟩ = some (.int .i64 sx) := (cell_of_block b1' 2).trans x1
  have d1 : w2.cell? ⟨B + 1, 2, none⟩ = some (.int .i64 sy) := (cell_of_block b2 2).trans y1
  clear hw1 hw2 hB z1 b1 b2 b1' x1 y1
  go_enter Try.func24, Try.ntmps24
  go_upto_region 1 with fail
  rw [HW.out.1, HW.out.2.1, HW.out.2.2.1]
  go_wp2_with fail
  refine (C1.out _).mono ?_
  rintro e w' ⟨rfl, rfl⟩
  go_wp2
  go_ret
  exact ⟨rfl, G2.out⟩

/-! ### What goes -/
/-- Does it stay, where the last tick is a? -/
def kp (a : Int) (x : Tk) : Bool := decide (a - x.tm ≤ 1800)
/-- A tick that may stand ahead of a. -/
def TkOk (a : Int) (x : Tk) : Prop := 0 ≤ x.tm ∧ x.tm ≤ a ∧ a ≤ 4611686018427387904
set_option maxHeartbeats 4000000 in
theorem gone_any (w : World) (g : Nat) (a : Int) (x : Tk) (hg : w.heap[g]? = some (.cells #[.int .i64 a] AT (0, 0))) (hx : TkOk a x) :
    Calls Try.prog 26 #[.agg (encA x), .pointer (some ⟨g, 0, none⟩)] w fun e w' => e = .returned (.bool (!kp a x)) ∧ Gr w w' := by
  obtain ⟨X, hX⟩ : ∃ X, X = encA x := ⟨_, rfl⟩
  have x1 : X[0]? = some (.int .i64 x.tm) := by rw [hX]; rfl
  rw [← hX]
  obtain ⟨d, hd⟩ : ∃ d, d = a - x.tm := ⟨_, rfl⟩
  obtain ⟨k1, k2, k3⟩ := hx
  have wd : IntKind.i64.wrap (a - x.tm) = d := by rw [IntKind.wrap_i64]; omega
  obtain ⟨r, hr⟩ : ∃ r, r = !kp a x := ⟨_, rfl⟩
  rw [← hr]
  have td : decide (d > 1800) = r := by
    rw [hr]
    unfold kp
    rw [← hd]
    by_cases h : d ≤ 1800
    · rw [decide_eq_true h, decide_eq_false (by omega)]; rfl
    · rw [decide_eq_false h, decide_eq_true (by omega)]; rfl
  generalize x.tm = t at x1 wd
  obtain ⟨B, hB⟩ : ∃ B, B = w.heap.size := ⟨_, rfl⟩
  obtain ⟨w1, hw1⟩ : ∃ w1, w1 = w.alloc (.cells X TT) := ⟨_, rfl⟩
  have b1 : w1.heap[B]? = some (.cells X TT (0, 0)) := by rw [hw1, hB]; exact heap_alloc_new w _
  have G1 : Gr w w1 := by rw [hw1]; exact (Gr.refl w).alloc _
  have g1 : w1.heap[g]? = some (.cells #[.int .i64 a] AT (0, 0)) := (G1.heap (Array.getElem?_eq_some_iff.1 hg).1).trans hg
  have HW : Hid (w.alloc (.cells X TT) = w1 ∧ w.heap.size = B) := ⟨hw1.symm, hB.symm⟩
  have c1 : w1.cell? ⟨B, 0, none⟩ = some (.int .i64 t) := (cell_of_block b1 0).trans x1
  have c2 : w1.cell? ⟨g, 0, none⟩ = some (.int .i64 a) := cell_of_block g1 0
  have GG := Lib.hid G1
  clear hw1 hB b1 x1 hX hg g1 G1 hr hd k1 k2 k3
  go_enter Try.func26, Try.ntmps26
  go_upto_region 1 with fail
  rw [HW.out.1, HW.out.2]
  go_wp2
  go_ret
  exact ⟨rfl, GG.out⟩

/-! ### Copied -/
theorem news_row {α : Type} {k : Nat} {enc : α → List Value} (hk : ∀ x, (enc x).length = k) (h0 : 0 < k) {w w1 : World} {ad : Addr} {l : List α} (h : RowR k enc w (some ad) l) (g : Below w.heap.size w w1) :
    ∀ j u, (flat enc l)[j]? = some u → w1.cell? (ad.add j) = some u := by
  intro j u hu
  obtain ⟨i, t, x, hx, ht, hv, rfl⟩ := flat_get hk h0 hu
  obtain ⟨b, off, e, hb, hc⟩ := h i x hx
  injection e with e
  subst e
  rw [add_none', ← Nat.add_assoc, World.cell?_of_block (a := ⟨b, off + i * k + t, none⟩) (g.block b hb)]
  exact hc t u hv
theorem own_slc {w : World} {N : Nat} {E : TypeId} {k n : Nat} {v : Value} {xs : List Value} (h : w.ownsRow N E k v n xs) : ∃ q c, v = .slice q n c := by
  rcases h.2 with ⟨rfl, rfl⟩ | ⟨g, cap, cur, rfl, _⟩
  · exact ⟨_, _, rfl⟩
  · exact ⟨_, _, rfl⟩

set_option maxHeartbeats 4000000 in
theorem clone_K (w : World) (q : Option Addr) (c : Nat) (l : List Tk) (hr : RowR 3 encS w q l) (hq : q = none → c = 0) (hn : l.length * 24 ≤ 140737488351232) :
    Calls Try.prog 16 #[.slice q l.length c] w fun e w' => (∃ q' c', e = .returned (.slice q' l.length c') ∧ w'.ownsRow w.heap.size 47 3 (.slice q' l.length c') l.length (flat encS l)) ∧ Below w.heap.size w w' := by
  cases q with
  | none =>
    obtain rfl := hq rfl
    have e0 : l = [] := by
      cases l with
      | nil => rfl
      | cons x r => obtain ⟨b, off, e, _⟩ := hr 0 x rfl; cases e
    subst e0
    have en := fun w => run_eql_slice_nil (P := Try.prog) w 42 47 none 0 0 0 0 Try.underlying42
    go_enter Try.func16, Try.ntmps16
    go_wp2
    go_ret
    exact ⟨⟨none, 0, rfl, World.ownsRow_nil _ _ _ _⟩, Below.refl _ _⟩
  | some ad =>
    have hinf : (Try.prog.info? 47).map (fun i => (i.zero, i.size, i.bytes)) = some (some (.agg zerS), 3, 24) := by kernel_rfl
    obtain ⟨ti, hi, hz0, hz1, hz2⟩ : ∃ i : TypeInfo, Try.prog.info? 47 = some i ∧ i.zero = some (.agg zerS) ∧ i.size = 3 ∧ i.bytes = 24 := by
      cases hi : Try.prog.info? 47 with
      | none => rw [hi] at hinf; cases hinf
      | some i =>
        rw [hi] at hinf
        simp only [Option.map_some, Option.some.injEq, Prod.mk.injEq] at hinf
        exact ⟨i, rfl, hinf.1, hinf.2.1, hinf.2.2⟩
    have HI := Lib.hid (And.intro hi (And.intro hz0 (And.intro hz1 hz2)))
    obtain ⟨E, hE⟩ : ∃ E, E = w.heap.size := ⟨_, rfl⟩
    obtain ⟨w1, hw1⟩ : ∃ x, x = w.alloc (.cells #[] 47) := ⟨_, rfl⟩
    have G1 : Below E w w1 := by rw [hw1, hE]; exact ((Gr.refl w).alloc _).below
    have e1 : w1.heap[E]? = some (.cells #[] 47 (0, 0)) := by rw [hw1, hE]; exact heap_alloc_new w _
    have o1 : w1.ownsRow E 47 3 (.slice (some ⟨E, 0, none⟩) 0 0) 0 [] := ⟨by simp, .inr ⟨E, 0, #[], rfl, Nat.le_refl _, e1, Nat.le_refl _, Nat.zero_le _, rfl, rfl⟩⟩
    have news : Hid (∀ j u, (flat encS l)[j]? = some u → w1.cell? (ad.add j) = some u) := news_row lenS (by decide) hr (hE ▸ G1)
    have hl : (flat encS l).length = l.length * 3 := flat_length lenS l
    have one : ∀ u ∈ flat encS l, u.oneCell' = true := flat_one oneS l
    obtain ⟨xs, hxs⟩ : ∃ xs, xs = flat encS l := ⟨_, rfl⟩
    obtain ⟨n, hk⟩ : ∃ n, n = l.length := ⟨_, rfl⟩
    rw [← hxs] at news hl one ⊢
    rw [← hk] at hl hn ⊢
    have z1 : E ≤ w1.heap.size := by rw [hE]; exact (hE ▸ G1).size
    have HW : Hid (w.alloc (.cells #[] 47) = w1 ∧ w.heap.size = E) := ⟨hw1.symm, hE.symm⟩
    have O1 := Lib.hid o1
    have HL := Lib.hid (And.intro hl (And.intro one G1))
    have en := fun w => run_eql_slice_nil (P := Try.prog) w 42 47 (some ad) n c 0 0 Try.underlying42
    clear hk hE hw1 G1 e1 o1 hxs hinf hi hz0 hz1 hz2 hl one hr hq
    go_enter Try.func16, Try.ntmps16
    go_upto_region 3 with fail
    go_wp2_with (first
      | (at_builtin; rw [HW.out.1, HW.out.2]; refine wpList_append_own_at w1 rfl _ _ 42 rfl E 47 ti _ 3 24 Try.underlying42 HI.out.1 HI.out.2.1 HI.out.2.2.1 HI.out.2.2.2 rfl (by decide) (.slice (some ⟨E, 0, none⟩) 0 0) 0 [] (by rfl) O1.out ad n c xs (by rfl) HL.out.1 news.out HL.out.2.1 (by unfold maxLen; omega) (by omega) z1 ?_; intro v5 w5 ho5 hg5 hn5 ha5; obtain ⟨q5, c5, rfl⟩ := own_slc ho5))
    have FIN : Hid (w5.ownsRow E 47 3 (.slice q5 (0 + n) c5) (0 + n) xs ∧ Below E w w5) := by
      refine ⟨by simpa using ho5, ?_⟩
      exact HL.out.2.2.trans ((Below.refl E w1).grown hg5 z1 (fun k e => by simp [Value.ownBlock] at e; omega))
    rw [Nat.zero_add] at FIN
    clear ho5 hg5 hn5 ha5 news O1 HL
    go_wp2
    go_ret
    exact ⟨⟨_, _, by first | rfl | (simp; done), by rw [HW.out.2]; exact FIN.out.1⟩, by rw [HW.out.2]; exact FIN.out.2⟩

end Go.Proofs.Ytcejaeeliedldaa.Wn
