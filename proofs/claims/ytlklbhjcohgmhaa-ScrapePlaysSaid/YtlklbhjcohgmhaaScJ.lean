/- How series stand; a row of series is sorted. -/
import Derived.Test.YtlklbhjcohgmhaaScC
import Derived.Lib.Bytealg
import Derived.Sort.Statements
import Derived.Deep.Quiet
import Derived.Deep.RegionHeld
import Derived.Shelf.SlSortCmp.QuietGrown
import Derived.WalkKit
import Derived.Ground.SlsfProg
import Derived.Shelf.SlLaysF0
import Derived.Shelf.SlSortCmp.WholeK
import Derived.Deep.RegionWith
namespace Go.Proofs.Ytlklbhjcohgmhaa
open Go.RowKit Go.Shelf Go.Lib Go.Sort
open Go.Joins (cell_of_block unfrozen_of_block block_setCell)
set_option linter.unusedVariables false
set_option linter.unusedSimpArgs false
set_option maxRecDepth 20000

theorem cb_swapS : ∀ a b : List UInt8, compareBytes b a = - compareBytes a b
  | [], [] => rfl
  | [], _ :: _ => rfl
  | _ :: _, [] => rfl
  | a :: r, b :: bs => by
    simp only [compareBytes, UInt8.lt_iff_toNat_lt]
    by_cases x : a.toNat < b.toNat
    · have y : ¬ b.toNat < a.toNat := by omega
      simp [x, y]
    · by_cases y : b.toNat < a.toNat
      · simp [x, y]
      · simp only [x, y, if_false]
        exact cb_swapS r bs
theorem cb_zeroS : ∀ {a b : List UInt8}, compareBytes a b = 0 → a = b
  | [], [], _ => rfl
  | [], _ :: _, h => by simp [compareBytes] at h
  | _ :: _, [], h => by simp [compareBytes] at h
  | a :: r, b :: bs, h => by
    simp only [compareBytes, UInt8.lt_iff_toNat_lt] at h
    by_cases x : a.toNat < b.toNat
    · simp [x] at h
    · by_cases y : b.toNat < a.toNat
      · simp [x, y] at h
      · simp only [x, y, if_false] at h
        have e : a = b := UInt8.toNat_inj.1 (by omega)
        rw [e, cb_zeroS h]
theorem cb_selfS (a : List UInt8) : compareBytes a a = 0 := by have := cb_swapS a a; omega
theorem cb_transS : ∀ {a b c : List UInt8}, compareBytes a b < 0 → compareBytes b c < 0 → compareBytes a c < 0
  | [], [], _, h, _ => by simp [compareBytes] at h
  | [], _ :: _, [], _, h => by simp [compareBytes] at h
  | [], _ :: _, _ :: _, _, _ => by simp [compareBytes]
  | _ :: _, [], _, h, _ => by simp [compareBytes] at h
  | _ :: _, _ :: _, [], _, h => by simp [compareBytes] at h
  | a :: r, b :: bs, c :: cs, h, k => by
    simp only [compareBytes, UInt8.lt_iff_toNat_lt] at h k ⊢
    by_cases x1 : a.toNat < b.toNat
    · by_cases y1 : b.toNat < c.toNat
      · simp [show a.toNat < c.toNat by omega]
      · by_cases y2 : c.toNat < b.toNat
        · simp [y1, y2] at k
        · simp [show a.toNat < c.toNat by omega]
    · by_cases x2 : b.toNat < a.toNat
      · simp [x1, x2] at h
      · simp only [x1, x2, if_false] at h
        by_cases y1 : b.toNat < c.toNat
        · simp [show a.toNat < c.toNat by omega]
        · by_cases y2 : c.toNat < b.toNat
          · simp [y1, y2] at k
          · simp only [y1, y2, if_false] at k
            simp only [show ¬ a.toNat < c.toNat by omega, show ¬ c.toNat < a.toNat by omega, if_false]
            exact cb_transS h k
theorem cb_lessS : ∀ a b : List UInt8, Op.bytesLess a b = decide (compareBytes a b < 0)
  | [], [] => rfl
  | [], _ :: _ => rfl
  | _ :: _, [] => rfl
  | a :: r, b :: bs => by
    simp only [Op.bytesLess, compareBytes]
    rw [cb_lessS r bs]
    simp only [UInt8.lt_iff_toNat_lt]
    by_cases x : a.toNat < b.toNat
    · simp [x]
    · by_cases y : b.toNat < a.toNat
      · have hn : (a == b) = false := beq_false_of_ne (fun e => by rw [e] at y; omega)
        simp [x, y, hn]
      · have e : a = b := UInt8.toNat_inj.1 (by omega)
        simp [e]
theorem cb_leqS (a b : List UInt8) : (Op.bytesLess a b || a == b) = decide (compareBytes a b ≤ 0) := by
  rw [cb_lessS]
  by_cases h : compareBytes a b < 0
  · have h2 : compareBytes a b ≤ 0 := by omega
    simp [h, h2]
  · by_cases e : compareBytes a b = 0
    · have := cb_zeroS e
      subst this
      simp [cb_selfS]
    · have hn : (a == b) = false := beq_false_of_ne (fun h => e (by rw [h]; exact cb_selfS b))
      have h2 : ¬ compareBytes a b ≤ 0 := by omega
      simp [h, h2, hn]

theorem cb_ntransS {a b c : List UInt8} (h : 0 ≤ compareBytes a b) (k : 0 ≤ compareBytes b c) : 0 ≤ compareBytes a c := by
  rcases Int.lt_or_le (compareBytes a c) 0 with x | x
  · rcases Int.lt_or_eq_of_le h with h1 | h1
    · have hb : compareBytes b a < 0 := by have := cb_swapS a b; omega
      have := cb_transS hb x
      omega
    · have := cb_zeroS h1.symm
      subst this
      omega
  · exact x

/-- How two series stand. -/
def cfS (x y : Sr) : Int := if compareBytes x.1.data.toList y.1.data.toList = 0 then compareBytes x.2.data.toList y.2.data.toList else compareBytes x.1.data.toList y.1.data.toList
theorem bytes_eq {a b : ByteArray} (h : a.data.toList = b.data.toList) : a = b := by
  obtain ⟨⟨x⟩⟩ := a
  obtain ⟨⟨y⟩⟩ := b
  have : x = y := h
  rw [this]
theorem cf_swapS (x y : Sr) : cfS y x = - cfS x y := by
  unfold cfS
  have h1 := cb_swapS x.1.data.toList y.1.data.toList
  have h2 := cb_swapS x.2.data.toList y.2.data.toList
  by_cases e : compareBytes x.1.data.toList y.1.data.toList = 0
  · rw [if_pos e, if_pos (by omega)]
    exact h2
  · rw [if_neg e, if_neg (by omega)]
    exact h1
theorem cf_selfS (x : Sr) : cfS x x = 0 := by have := cf_swapS x x; omega
theorem cf_zeroS {x y : Sr} (h : cfS x y = 0) : x = y := by
  unfold cfS at h
  by_cases e : compareBytes x.1.data.toList y.1.data.toList = 0
  · rw [if_pos e] at h
    exact Prod.ext (bytes_eq (cb_zeroS e)) (bytes_eq (cb_zeroS h))
  · rw [if_neg e] at h
    exact absurd h e
theorem cf_transS {x y z : Sr} (h : cfS x y < 0) (k : cfS y z < 0) : cfS x z < 0 := by
  unfold cfS at h k ⊢
  by_cases e1 : compareBytes x.1.data.toList y.1.data.toList = 0
  · rw [if_pos e1] at h
    rw [cb_zeroS e1]
    by_cases e2 : compareBytes y.1.data.toList z.1.data.toList = 0
    · rw [if_pos e2] at k ⊢
      exact cb_transS h k
    · rw [if_neg e2] at k ⊢
      exact k
  · rw [if_neg e1] at h
    by_cases e2 : compareBytes y.1.data.toList z.1.data.toList = 0
    · rw [← cb_zeroS e2, if_neg e1]
      exact h
    · rw [if_neg e2] at k
      have := cb_transS h k
      rw [if_neg (by omega)]
      exact this
theorem cf_ntransS {x y z : Sr} (h : 0 ≤ cfS x y) (k : 0 ≤ cfS y z) : 0 ≤ cfS x z := by
  rcases Int.lt_or_le (cfS x z) 0 with q | q
  · rcases Int.lt_or_eq_of_le h with h1 | h1
    · have hb : cfS y x < 0 := by have := cf_swapS x y; omega
      have := cf_transS hb q
      omega
    · have := cf_zeroS h1.symm
      subst this
      omega
  · exact q
def risesS (a b : Sr) : Bool := decide (cfS a b < 0)
theorem risesS_iff {a b : Sr} : risesS a b = true ↔ cfS a b < 0 := by unfold risesS; exact decide_eq_true_iff
theorem risesS_not {a b : Sr} : risesS a b = false ↔ 0 ≤ cfS a b := by
  unfold risesS
  rw [decide_eq_false_iff_not]
  omega
def sh_sortS_ren : Go.Shelf.Ren := ⟨fun | 6 => 41 | 15 => 52 | 14 => 51 | 28 => 67 | 29 => 68 | 20 => 59 | 21 => 60 | 22 => 61 | 23 => 62 | 24 => 63 | 25 => 64 | 26 => 65 | 27 => 66 | 46 => 72 | 47 => 73 | 48 => 74 | 49 => 75 | 50 => 76 | 57 => 78 | n => n, fun | 22 => 47 | 24 => 33 | 25 => 77 | 3 => 3 | 39 => 109 | 0 => 0 | 53 => 122 | 55 => 34 | 4 => 4 | 46 => 115 | 45 => 114 | 50 => 119 | 5 => 5 | 9 => 9 | 66 => 125 | 70 => 129 | 76 => 132 | 77 => 133 | n => n, fun | n => n⟩
theorem sh_sortS : Go.Proofs.SlLaysF0.n6 Try.prog sh_sortS_ren := {
  mixed := by kernel_rfl
  f6 := ⟨Try.f41.name, by decide, Try.func41.trans (congrArg some (by kernel_rfl))⟩
  f14 := ⟨Try.f51.name, by decide, Try.func51.trans (congrArg some (by kernel_rfl))⟩
  f15 := Try.func52.trans (congrArg some (by kernel_rfl))
  f20 := ⟨Try.f59.name, by decide, Try.func59.trans (congrArg some (by kernel_rfl))⟩
  f21 := ⟨Try.f60.name, by decide, Try.func60.trans (congrArg some (by kernel_rfl))⟩
  f22 := ⟨Try.f61.name, by decide, Try.func61.trans (congrArg some (by kernel_rfl))⟩
  f23 := ⟨Try.f62.name, by decide, Try.func62.trans (congrArg some (by kernel_rfl))⟩
  f24 := ⟨Try.f63.name, by decide, Try.func63.trans (congrArg some (by kernel_rfl))⟩
  f25 := ⟨Try.f64.name, by decide, Try.func64.trans (congrArg some (by kernel_rfl))⟩
  f26 := ⟨Try.f65.name, by decide, Try.func65.trans (congrArg some (by kernel_rfl))⟩
  f27 := ⟨Try.f66.name, by decide, Try.func66.trans (congrArg some (by kernel_rfl))⟩
  f28 := Try.func67.trans (congrArg some (by kernel_rfl))
  f29 := Try.func68.trans (congrArg some (by kernel_rfl))
  f46 := ⟨Try.f72.name, by decide, Try.func72.trans (congrArg some (by kernel_rfl))⟩
  f47 := Try.func73.trans (congrArg some (by kernel_rfl))
  f48 := Try.func74.trans (congrArg some (by kernel_rfl))
  f49 := ⟨Try.f75.name, by decide, Try.func75.trans (congrArg some (by kernel_rfl))⟩
  f50 := ⟨Try.f76.name, by decide, Try.func76.trans (congrArg some (by kernel_rfl))⟩
  f57 := ⟨Try.f78.name, by decide, Try.func78.trans (congrArg some (by kernel_rfl))⟩
  t0 := Try.underlying0
  a0 := Try.isAgg0
  z0 := Try.sizeOf0
  v0 := Try.zeroValue0
  t3 := Try.underlying3
  a3 := Try.isAgg3
  z3 := Try.sizeOf3
  v3 := Try.zeroValue3
  t4 := Try.underlying4
  a4 := Try.isAgg4
  z4 := Try.sizeOf4
  v4 := Try.zeroValue4
  t5 := Try.underlying5
  a5 := Try.isAgg5
  z5 := Try.sizeOf5
  v5 := Try.zeroValue5
  t9 := Try.underlying9
  a9 := Try.isAgg9
  z9 := Try.sizeOf9
  v9 := Try.zeroValue9
  t22 := Try.underlying47
  a22 := Try.isAgg47
  z22 := Try.sizeOf47
  v22 := Try.zeroValue47
  t25 := Try.underlying77
  a25 := Try.isAgg77
  z25 := Try.sizeOf77
  v25 := Try.zeroValue77
  t39 := Try.underlying109
  a39 := Try.isAgg109
  z39 := Try.sizeOf109
  v39 := Try.zeroValue109
  t45 := Try.underlying114
  a45 := Try.isAgg114
  z45 := Try.sizeOf114
  v45 := Try.zeroValue114
  t46 := Try.underlying115
  a46 := Try.isAgg115
  z46 := Try.sizeOf115
  v46 := Try.zeroValue115
  t50 := Try.underlying119
  a50 := Try.isAgg119
  z50 := Try.sizeOf119
  v50 := Try.zeroValue119
  t53 := Try.underlying122
  a53 := Try.isAgg122
  z53 := Try.sizeOf122
  v53 := Try.zeroValue122
  t55 := Try.underlying34
  a55 := Try.isAgg34
  z55 := Try.sizeOf34
  v55 := Try.zeroValue34
  t66 := Try.underlying125
  a66 := Try.isAgg125
  z66 := Try.sizeOf125
  v66 := Try.zeroValue125
  t70 := Try.underlying129
  a70 := Try.isAgg129
  z70 := Try.sizeOf129
  v70 := Try.zeroValue129
  t76 := Try.underlying132
  a76 := Try.isAgg132
  z76 := Try.sizeOf132
  v76 := Try.zeroValue132
  t77 := Try.underlying133
  a77 := Try.isAgg133
  z77 := Try.sizeOf133
  v77 := Try.zeroValue133 }

abbrev SlS : TypeId := 47
def enSr (x : Sr) : List Value := [.string x.1, .string x.2]
theorem lnSr (x : Sr) : (enSr x).length = 2 := rfl
theorem onSr (x : Sr) : ∀ v ∈ enSr x, v.oneCell' = true := by intro u hu; simp [enSr] at hu; rcases hu with rfl | rfl <;> rfl
def flS (l : List Sr) : List Value := l.flatMap enSr
theorem fl_snocS (l : List Sr) (x : Sr) : flS (l ++ [x]) = flS l ++ [.string x.1, .string x.2] := by unfold flS; rw [List.flatMap_append]; rfl
theorem fl_lenS : ∀ l : List Sr, (flS l).length = l.length * 2
  | [] => rfl
  | x :: l => by
    have := fl_lenS l
    unfold flS at this ⊢
    rw [List.flatMap_cons, List.length_append, this, lnSr]
    simp only [List.length_cons]
    omega
theorem fl_atS : ∀ (l : List Sr) (i : Nat) (x : Sr), l[i]? = some x → (flS l)[i * 2]? = some (.string x.1) ∧ (flS l)[i * 2 + 1]? = some (.string x.2)
  | [], i, x, h => by simp at h
  | y :: l, 0, x, h => by
    simp at h
    subst h
    exact ⟨rfl, rfl⟩
  | y :: l, i + 1, x, h => by
    have := fl_atS l i x (by simpa using h)
    have e : (i + 1) * 2 = i * 2 + 1 + 1 := by omega
    rw [e]
    exact this
theorem infoS : ∃ i : TypeInfo, Try.prog.info? KS = some i ∧ i.zero = some (.agg #[.string { data := #[] }, .string { data := #[] }]) ∧ i.size = 2 ∧ i.bytes = 32 := by
  have hinf : (Try.prog.info? KS).map (fun i => (i.zero, i.size, i.bytes)) = some (some (.agg #[.string { data := #[] }, .string { data := #[] }]), 2, 32) := by kernel_rfl
  cases hi : Try.prog.info? KS with
  | none => rw [hi] at hinf; cases hinf
  | some i =>
    rw [hi] at hinf
    simp only [Option.map_some, Option.some.injEq, Prod.mk.injEq] at hinf
    exact ⟨i, rfl, hinf.1, hinf.2.1, hinf.2.2⟩
theorem swoS : SWO (ltOf cfS) := ⟨fun x => risesS_not.2 (by rw [cf_selfS]; exact Int.le_refl _), fun x y z h k => risesS_iff.2 (cf_transS (risesS_iff.1 h) (risesS_iff.1 k)), fun x y z h k => risesS_not.2 (cf_ntransS (risesS_not.1 h) (risesS_not.1 k))⟩
theorem run_cmpS (a b : ByteArray) (w : World) : (callFunc 53 #[.string a, .string b]).run Try.prog w = .ok (.value (.int .i64 (compareBytes a.data.toList b.data.toList))) w := by
  rw [run_callFunc_extern Try.func53 (by kernel_rfl) (by kernel_rfl) (by kernel_rfl) (e := Extern.BytealgCompare.compare) (by kernel_rfl), Lib.run_compareString]
  rfl
theorem cmpS_any (a b : ByteArray) (w : World) : Calls Try.prog 43 #[.string a, .string b] w fun e w' => e = .returned (.int .i64 (compareBytes a.data.toList b.data.toList)) ∧ w = w' := by
  have h := run_cmpS a b
  go_enter Try.func43, Try.ntmps43
  go_wp2
  go_ret
  exact ⟨rfl, rfl⟩
theorem compareS (a b : ByteArray) (w : World) : Calls Try.prog 29 #[.string a, .string b] w fun e w' => e = .returned (.int .i64 (compareBytes a.data.toList b.data.toList)) ∧ w = w' := by
  have C := Lib.hid (cmpS_any a b)
  go_enter Try.func29, Try.ntmps29
  go_wp2_with fail
  refine (C.out _).mono ?_
  rintro e w1 ⟨rfl, rfl⟩
  go_wp2
  go_ret
  exact ⟨rfl, rfl⟩
/-- cmp.Or of two. -/
theorem or_any (a b : Int) (g : Nat) (w : World) (h0 : w.cell? ⟨g, 0, none⟩ = some (.int .i64 a)) (h1 : w.cell? ⟨g, 1, none⟩ = some (.int .i64 b)) :
    Calls Try.prog 28 #[.slice (some ⟨g, 0, none⟩) 2 2] w fun e w' => e = .returned (.int .i64 (if a = 0 then b else a)) ∧ w = w' := by
  by_cases ha : a = 0
  · subst ha
    rw [if_pos rfl]
    by_cases hb : b = 0
    · subst hb
      go_enter Try.func28, Try.ntmps28
      go_wp2_with fail
      refine wp_loop_rounds 3 ?_
      rw [rounds_succ]
      go_wp2
      rw [rounds_succ]
      go_wp2
      rw [rounds_succ]
      go_wp2
      go_ret
      exact ⟨rfl, rfl⟩
    · have hb' : (b == 0) = false := by rw [beq_eq_false_iff_ne]; exact hb
      have hb2 : (b != 0) = true := by simp [bne, hb']
      clear hb
      go_enter Try.func28, Try.ntmps28
      go_wp2_with fail
      refine wp_loop_rounds 2 ?_
      rw [rounds_succ]
      go_wp2
      rw [rounds_succ]
      go_wp2
      go_ret
      exact ⟨rfl, rfl⟩
  · rw [if_neg ha]
    have ha' : (a == 0) = false := by rw [beq_eq_false_iff_ne]; exact ha
    have ha2 : (a != 0) = true := by simp [bne, ha']
    clear ha
    go_enter Try.func28, Try.ntmps28
    go_wp2_with fail
    refine wp_loop_rounds 1 ?_
    rw [rounds_succ]
    go_wp2
    go_ret
    exact ⟨rfl, rfl⟩
end Go.Proofs.Ytlklbhjcohgmhaa
