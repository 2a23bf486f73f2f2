/- What 'Sort' of package gauge answers. -/
import Derived.Test.YtalhajnekpbkoaaGaugeM
import Derived.Test.YtalhajnekpbkoaaShelfS
import Derived.Lib.SortBridge
namespace Go.Proofs.Ytalhajnekpbkoaa
open Go.RowKit Go.Lib Go.Sort
set_option linter.unusedVariables false

/-- A word that is a number which isn't below 0: as one or the other nought, or as a positive one. -/
def Known (x : Nat) : Prop := x < 9218868437227405312 ∨ x = 9223372036854775808
def nv (x : Nat) : Nat := if x = 9223372036854775808 then 0 else x
def keyOrd (x : Nat) : Nat := if x = 9223372036854775808 then 0 else x + 1
theorem known_of {x : Nat} (hx : x < 18446744073709551616) (h : rdE x = 0) : Known x := by
  unfold rdE at h
  unfold Known
  split at h
  · cases h
  · split at h
    · omega
    · split at h
      · cases h
      · omega
theorem known_lt {x : Nat} (h : Known x) : x < 18446744073709551616 := by rcases h with h | h <;> omega

theorem order_nought (i : Int) (d : Ieee.Datum) : (Ieee.Datum.number true 0 i).order d = (Ieee.Datum.number false 0 i).order d := by
  cases d <;> simp [Ieee.Datum.order, Ieee.signed]
theorem order_nought' (i : Int) (d : Ieee.Datum) : d.order (Ieee.Datum.number true 0 i) = d.order (Ieee.Datum.number false 0 i) := by
  cases d <;> simp [Ieee.Datum.order, Ieee.signed]
theorem read_m0 : Ieee.double.read 9223372036854775808 = .number true 0 (-1074) := by decide +kernel
theorem order_known {x y : Nat} (hx : Known x) (hy : Known y) : Ieee.double.order x y = some (compare (nv x) (nv y)) := by
  have key : ∀ z, Known z → nv z < 9218868437227405312 ∧ (∀ d, (Ieee.double.read z).order d = (Ieee.double.read (nv z)).order d) ∧ (∀ d : Ieee.Datum, d.order (Ieee.double.read z) = d.order (Ieee.double.read (nv z))) := by
    intro z hz
    unfold nv
    rcases hz with h | h
    · rw [if_neg (by omega)]
      exact ⟨h, fun _ => rfl, fun _ => rfl⟩
    · rw [if_pos h, h, read_m0, read_0]
      exact ⟨by decide, fun d => order_nought _ d, fun d => order_nought' _ d⟩
  obtain ⟨a1, a2, _⟩ := key x hx
  obtain ⟨b1, _, b3⟩ := key y hy
  have h := order_pos a1 b1
  unfold Ieee.Format.order at h ⊢
  rw [a2, b3]
  exact h

theorem fnan_any (x : Nat) (w : World) (h : Known x) : Calls Try.prog 41 #[.float .f64 x] w fun e w' => e = .returned (.bool false) ∧ w = w' := by
  have hc : (FloatKind.f64.format.order x x != some .eq) = false := by
    rw [dbl_format, order_known h h, Nat.compare_eq_eq.2 rfl]; rfl
  go_enter Try.func41, Try.ntmps41
  go_wp2
  go_ret
  exact ⟨rfl, rfl⟩
theorem fcompare_any (x y : Nat) (w : World) (hx : Known x) (hy : Known y) : Calls Try.prog 31 #[.float .f64 x, .float .f64 y] w fun e w' => e = .returned (.int .i64 (sgn (nv x) (nv y))) ∧ w = w' := by
  have i1 := Lib.hid (fun W : World => fnan_any x W hx)
  have i2 := Lib.hid (fun W : World => fnan_any y W hy)
  have ho := order_known hx hy
  have hcase : ((FloatKind.f64.format.order x y == some .lt) = true ∧ sgn (nv x) (nv y) = -1) ∨ ((FloatKind.f64.format.order x y == some .lt) = false ∧ (FloatKind.f64.format.order x y == some .gt) = true ∧ sgn (nv x) (nv y) = 1) ∨
      ((FloatKind.f64.format.order x y == some .lt) = false ∧ (FloatKind.f64.format.order x y == some .gt) = false ∧ sgn (nv x) (nv y) = 0) := by
    rw [dbl_format, ho]
    rcases Nat.lt_trichotomy (nv x) (nv y) with h | h | h
    · exact .inl ⟨by rw [Nat.compare_eq_lt.2 h]; rfl, sgn_lt h⟩
    · exact .inr (.inr ⟨by rw [Nat.compare_eq_eq.2 h]; rfl, by rw [Nat.compare_eq_eq.2 h]; rfl, sgn_eq h⟩)
    · exact .inr (.inl ⟨by rw [Nat.compare_eq_gt.2 h]; rfl, by rw [Nat.compare_eq_gt.2 h]; rfl, sgn_gt h⟩)
  clear ho hx hy
  rcases hcase with ⟨c1, s⟩ | ⟨c1, c2, s⟩ | ⟨c1, c2, s⟩
  all_goals
    rw [s]
    clear s
    go_enter Try.func31, Try.ntmps31
    go_wp2_with fail
    refine (i1.out _).mono ?_
    rintro e w1 ⟨rfl, rfl⟩
    go_wp2_with fail
    refine (i2.out _).mono ?_
    rintro e w1 ⟨rfl, rfl⟩
    go_wp2
    go_ret
    exact ⟨rfl, rfl⟩
theorem closure_any (x y : Nat) (w : World) (hx : Known x) (hy : Known y) : Calls Try.prog 30 #[.int .u64 (x : Int), .int .u64 (y : Int)] w fun e w' => e = .returned (.int .i64 (sgn (keyOrd x) (keyOrd y))) ∧ w = w' := by
  have b1 := run_from x
  have b2 := run_from y
  have ho := order_known hx hy
  by_cases h : nv x = nv y
  · have hs : sgn (keyOrd x) (keyOrd y) = sgn y x := by
      unfold nv at h
      unfold keyOrd sgn
      split at h <;> split at h <;> simp_all <;> omega
    have c1 : (FloatKind.f64.format.order x y != some .eq) = false := by rw [dbl_format, ho, Nat.compare_eq_eq.2 h]; rfl
    rw [hs]
    have i1 := Lib.hid (fun W : World => compare_any y x W)
    clear hs ho hx hy h
    go_enter Try.func30, Try.ntmps30
    go_wp2_with fail
    refine (i1.out _).mono ?_
    rintro e w1 ⟨rfl, rfl⟩
    go_wp2
    go_ret
    exact ⟨rfl, rfl⟩
  · have hs : sgn (keyOrd x) (keyOrd y) = sgn (nv x) (nv y) := by
      unfold nv at h
      unfold nv keyOrd sgn
      split at h <;> split at h <;> simp_all <;> omega
    have c1 : (FloatKind.f64.format.order x y != some .eq) = true := by
      rw [dbl_format, ho]
      rcases Nat.lt_trichotomy (nv x) (nv y) with g | g | g
      · rw [Nat.compare_eq_lt.2 g]; rfl
      · exact absurd g h
      · rw [Nat.compare_eq_gt.2 g]; rfl
    rw [hs]
    have i1 := Lib.hid (fun W : World => fcompare_any x y W hx hy)
    clear hs ho hx hy h
    go_enter Try.func30, Try.ntmps30
    go_wp2_with fail
    refine (i1.out _).mono ?_
    rintro e w1 ⟨rfl, rfl⟩
    go_wp2
    go_ret
    exact ⟨rfl, rfl⟩

/-! ### the library's sort, at these samples -/
abbrev Smp : Type := { x : Nat // Known x }
instance : Inhabited Smp := ⟨⟨0, .inl (by decide)⟩⟩
def encS (x : Smp) : Value := .int .u64 (x.1 : Int)
def cfS (x y : Smp) : Int := sgn (keyOrd x.1) (keyOrd y.1)
theorem ltS (x y : Smp) : ltOf cfS x y = decide (keyOrd x.1 < keyOrd y.1) := by
  unfold ltOf cfS
  rcases Nat.lt_trichotomy (keyOrd x.1) (keyOrd y.1) with h | h | h
  · rw [sgn_lt h, decide_eq_true h]; rfl
  · rw [sgn_eq h, decide_eq_false (by omega : ¬ keyOrd x.1 < keyOrd y.1)]; rfl
  · rw [sgn_gt h, decide_eq_false (by omega : ¬ keyOrd x.1 < keyOrd y.1)]; rfl
theorem swoS : SWO (ltOf cfS) where
  irrefl x := by rw [ltS]; simp
  trans x y z h1 h2 := by rw [ltS] at *; simp at *; omega
  ntrans x y z h1 h2 := by rw [ltS] at *; simp at *; omega
theorem totS (x y : Smp) (h1 : ltOf cfS x y = false) (h2 : ltOf cfS y x = false) : x = y := by
  rw [ltS] at h1 h2
  have e : keyOrd x.1 = keyOrd y.1 := by
    simp at h1 h2
    omega
  apply Subtype.ext
  unfold keyOrd at e
  split at e <;> split at e <;> omega
theorem cmpS (blk off size : Nat) (w : World) : CmpReads Try.prog 30 #[] encS cfS blk off size w := fun m os dk _ x y => by
  refine (closure_any x.1 y.1 _ x.2 y.2).mono ?_
  rintro e w' ⟨rfl, rfl⟩
  exact ⟨rfl, 0, rfl⟩

def u64s (l : List Nat) : List Value := l.map fun (x : Nat) => Value.int .u64 (x : Int)
theorem u64s_len (l : List Nat) : (u64s l).length = l.length := by simp [u64s]

theorem below_sorted {w : World} {B g n : Nat} {os : Array Obj} (d : Array Smp) (hB : B ≤ g) (hw : B ≤ w.heap.size) : Below B w (grow (putRow encS (Sort.ahead w n) g 0 d) os) := by
  refine ⟨rfl, rfl, rfl, by simp, fun k hk => ?_⟩
  rw [heap_grow_old _ _ (by simp; omega)]
  have : g ≠ k := by omega
  simp [putRow, mapBlock, Sort.ahead, Array.getElem?_modify, this]

/-- Known samples, as a list of such. -/
theorem smp_of (l : List Nat) (h : ∀ x ∈ l, Known x) : ∃ d : List Smp, d.map (·.1) = l := by
  induction l with
  | nil => exact ⟨[], rfl⟩
  | cons x l ih =>
    obtain ⟨d, hd⟩ := ih (fun y hy => h y (List.mem_cons_of_mem _ hy))
    exact ⟨⟨x, h x List.mem_cons_self⟩ :: d, by rw [List.map_cons, hd]⟩

def Sorts (w : World) (l : List Nat) (e : Ending) (w' : World) : Prop :=
  ∃ q cap s, e = .returned (.slice q s.length cap) ∧ Samp w' q s ∧ s.Perm l ∧ s.Pairwise (fun x y => keyOrd x ≤ keyOrd y) ∧ Below w.heap.size w w'

theorem sorted_row {w : World} {base : Nat} (l : List Nat) (v : Value) (hbase : base ≤ w.heap.size) (hown : w.ownsRow base 22 1 v l.length (u64s l)) (hk : ∀ x ∈ l, Known x) (hl : l.length ≤ 50) :
    Calls Try.prog 29 #[v, .func (.func 30) #[] #[]] w fun e w' => e = .returned (.tuple #[]) ∧ ∃ q cap s, v = .slice q s.length cap ∧ Samp w' q s ∧ s.Perm l ∧ s.Pairwise (fun x y => keyOrd x ≤ keyOrd y) ∧ Below base w w' := by
  rcases hown.2 with ⟨rfl, h0⟩ | ⟨g, cap, cur, rfl, hb, hg, hc, hc2, hsz, htake⟩
  · have hl0 : l = [] := List.eq_nil_of_length_eq_zero h0
    subst hl0
    refine (sh_slices_SortFunc_none (α := Smp) none 0 (.func (.func 30) #[] #[]) w).mono ?_
    rintro e w' ⟨rfl, rfl⟩
    exact ⟨rfl, none, 0, [], rfl, (fun j x hj => by simp at hj), List.Perm.refl _, List.Pairwise.nil, Below.refl _ _⟩
  · obtain ⟨d, hd⟩ := smp_of l hk
    have hdl : d.length = l.length := by rw [← hd, List.length_map]
    have hgs : g < w.heap.size := (Array.getElem?_eq_some_iff.1 hg).1
    have hH : Holds encS w g 0 d.toArray := by
      intro j hj
      have hj' : j < d.length := by simpa using hj
      refine ⟨?_, by simp [World.frozen?, hg]⟩
      rw [Nat.zero_add, hown.cellAt j (by omega)]
      rw [← hd]
      simp [u64s, encS, hj']
    have eg : ∀ args w, (callFunc 30 args).run Try.prog w = .ok (.enter 30 args) w := enters_of Try.func30 (by kernel_rfl) rfl
    have hS := sh_slices_SortFunc_total encS (fun _ => rfl) cfS swoS 30 #[] g 0 cap d.toArray w eg (cmpS g 0 d.toArray.size w).lays hH hgs (by simp; omega) totS
    rw [List.size_toArray, hdl] at hS
    refine hS.mono ?_
    rintro e w' ⟨rfl, n, os, rfl⟩
    unfold sortWorld
    obtain ⟨ts, hts⟩ : ∃ ts, ts = d.mergeSort fun x y => !(ltOf cfS) y x := ⟨_, rfl⟩
    have hperm : ts.Perm d := by rw [hts]; exact List.mergeSort_perm _ _
    have hpw : ts.Pairwise (fun x y => (!(ltOf cfS) y x) = true) := by
      rw [hts]
      refine List.pairwise_mergeSort ?_ ?_ d
      · intro a b c h1 h2
        rw [ltS] at *
        simp at *
        omega
      · intro a b
        rw [ltS, ltS]
        simp
        omega
    have htl : ts.length = l.length := by rw [hperm.length_eq, hdl]
    refine ⟨rfl, some ⟨g, 0, none⟩, cap, ts.map (·.1), by rw [List.length_map, htl], ?_, ?_, ?_, ?_⟩
    · intro j x hj
      rw [List.getElem?_map, Option.map_eq_some_iff] at hj
      obtain ⟨s, hs, rfl⟩ := hj
      have hj2 : j < ts.length := (List.getElem?_eq_some_iff.1 hs).1
      refine ⟨known_lt s.2, ⟨g, 0, none⟩, rfl, by simp; omega, ?_⟩
      have had : (⟨g, 0, none⟩ : Addr).add j = ⟨g, 0 + j, none⟩ := by unfold Addr.add; split <;> simp_all
      rw [had, ← hts, cell?_grow _ _ _ (by simpa using hgs), cell?_putRow encS (Sort.ahead w n) g 0 d.toArray ts.toArray hH (by simp [htl, hdl]) j (by simpa using hj2)]
      have : ts.toArray[j]! = s := by
        rw [getElem!_pos _ _ (by simpa using hj2)]
        simpa using (List.getElem?_eq_some_iff.1 hs).2
      rw [this]
      rfl
    · rw [← hd]; exact hperm.map _
    · rw [List.pairwise_map]
      refine hpw.imp ?_
      intro a b h
      rw [ltS] at h
      simpa using h
    · exact below_sorted _ hb hbase

end Go.Proofs.Ytalhajnekpbkoaa
