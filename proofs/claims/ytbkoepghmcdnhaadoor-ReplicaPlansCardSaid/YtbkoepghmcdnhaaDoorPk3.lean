/- Layer 16 (replica): rows of texts sorted (slices.Sort), and put together (slices.Concat). -/
import Derived.Test.YtbkoepghmcdnhaaDoorPk2
import Derived.Test.YtbkoepghmcdnhaaDoorPk1
import Derived.Shelf.Slices.In.SortNone
import Derived.Lib.AppendZeros
import Derived.Test.YtbkoepghmcdnhaaDoorObRow
import Derived.Test.YtbkoepghmcdnhaaDoorLoads
import Derived.Test.YtbkoepghmcdnhaaDoorObN
namespace Go.Proofs.YtbkoepghmcdnhaaDoor.Rp
open Go.RowKit Go.Shelf Go.Lib Go.Sort
open Go.Joins (cell_of_block unfrozen_of_block block_setCell)
set_option linter.unusedVariables false
set_option linter.unusedSimpArgs false
set_option maxRecDepth 20000

abbrev Nmb := List UInt8
def bys (l : List ByteArray) : List Nmb := l.map (·.data.toList)
def txs (l : List Nmb) : List ByteArray := l.map fun b => ⟨b.toArray⟩
theorem txs_bys (l : List ByteArray) : txs (bys l) = l := by
  unfold txs bys
  rw [List.map_map]
  conv => rhs; rw [← List.map_id l]
  refine List.map_congr_left fun x _ => ?_
  simp
theorem bys_txs (l : List Nmb) : bys (txs l) = l := by
  unfold txs bys
  rw [List.map_map]
  conv => rhs; rw [← List.map_id l]
  refine List.map_congr_left fun x _ => ?_
  simp
theorem bys_inj {a b : ByteArray} (h : a.data.toList = b.data.toList) : a = b := by
  cases a
  cases b
  simp only at h
  congr 1
  exact Array.ext' h
/-- Texts, sorted. -/
def sortS (l : List ByteArray) : List ByteArray := txs ((bys l).mergeSort fun x y => decide (x ≤ y))
theorem bys_sort (l : List ByteArray) : bys (sortS l) = (bys l).mergeSort fun x y => decide (x ≤ y) := bys_txs _
theorem sortS_perm (l : List ByteArray) : (sortS l).Perm l := by
  have h := (List.mergeSort_perm (bys l) fun x y => decide (x ≤ y)).map (fun b : Nmb => (⟨b.toArray⟩ : ByteArray))
  have e : (bys l).map (fun b : Nmb => (⟨b.toArray⟩ : ByteArray)) = l := txs_bys l
  rw [e] at h
  exact h
theorem sortS_len (l : List ByteArray) : (sortS l).length = l.length := (sortS_perm l).length_eq
theorem sortS_sorted (l : List ByteArray) : (bys (sortS l)).Pairwise (· ≤ ·) := by
  rw [bys_sort]
  have := List.pairwise_mergeSort (le := fun x y : Nmb => decide (x ≤ y)) (fun a b c h1 h2 => by
    rw [decide_eq_true_eq] at *
    exact List.le_trans h1 h2) (fun a b => by
    rw [Bool.or_eq_true, decide_eq_true_eq, decide_eq_true_eq]
    exact List.le_total a b) (bys l)
  exact this.imp (fun h => of_decide_eq_true h)
theorem sort_none_strs (c : Nat) (w : World) : Calls Tryd.prog 31 #[.slice none 0 c] w fun e w' => e = .returned (.tuple #[]) ∧ w' = w := Any.slices_Sort_string_none sh_lays190 none c w
theorem sort_strs (N : Nat) (w : World) (v : Value) (l : List ByteArray) (h : OwnS N w v l) (hl : l.length < 1000000) :
    Calls Tryd.prog 31 #[v] w fun e w' => e = .returned (.tuple #[]) ∧ OwnS N w' v (sortS l) ∧ w.grownBy w' v.ownBlock := by
  obtain ⟨h0, h⟩ := h
  rcases h with ⟨rfl, h1⟩ | ⟨g, c, cur, rfl, hb, hg, hc, hm, hsz, htk⟩
  · obtain rfl := List.eq_nil_of_length_eq_zero h1
    refine (sort_none_strs 0 w).mono ?_
    rintro e w' ⟨rfl, rfl⟩
    refine ⟨rfl, ?_, ⟨rfl, rfl, rfl, Nat.le_refl _, fun _ _ _ => rfl⟩⟩
    have : sortS [] = [] := List.eq_nil_of_length_eq_zero (sortS_len [])
    rw [this]
    exact OwnS.nil _ _
  · have hlt : g < w.heap.size := (Array.getElem?_eq_some_iff.1 hg).1
    have hbl : (bys l).length = l.length := List.length_map ..
    have hcell : ∀ j (hj : j < l.length), cur[j]? = some (.string l[j]) := fun j hj => by
      have h2 : (cur.toList.take (l.length * 1))[j]? = some (.string l[j]) := by rw [htk]; exact strs_at (List.getElem?_eq_getElem hj)
      rw [List.getElem?_take_of_lt (by omega), Array.getElem?_toList] at h2
      exact h2
    have hH : Holds encStr w g 0 (bys l).toArray := by
      intro j hj
      have hj' : j < l.length := by simpa [hbl] using hj
      refine ⟨?_, by simp [World.frozen?, hg]⟩
      rw [Nat.zero_add, cell_of_block hg, hcell j hj']
      have e1 : (bys l).toArray[j]! = (l[j]).data.toList := by
        rw [getElem!_pos _ _ (by simpa [hbl] using hj')]
        simp [bys]
      rw [e1]
    have C := sh_slices_Sort_string g 0 c (bys l) w hH hlt (by rw [hbl]; omega)
    rw [hbl] at C
    refine C.mono ?_
    rintro e w' ⟨rfl, n, os, rfl⟩
    rw [← bys_sort]
    have hsl : (bys (sortS l)).length = l.length := by unfold bys; rw [List.length_map, sortS_len]
    refine ⟨rfl, ⟨by rw [strs_len, sortS_len, Nat.mul_one], .inr ⟨g, c, putCells encStr 0 (bys (sortS l)).toArray cur, by rw [sortS_len], hb, ?_, by rw [sortS_len]; exact hc, hm, by simp [putCells, hsz], ?_⟩⟩, ?_⟩
    · rw [heap_grow_old _ _ (by simp [putRow, mapBlock, Sort.ahead]; omega)]
      simp [putRow, mapBlock, Sort.ahead, Array.getElem?_modify, hg, onCells]
    · have hc1 : l.length ≤ cur.size := by rw [hsz, Nat.mul_one]; exact hc
      apply List.ext_getElem?
      intro j
      rw [sortS_len, Nat.mul_one]
      by_cases hj : j < l.length
      · rw [List.getElem?_take_of_lt hj, Array.getElem?_toList]
        have hj2 : j < (sortS l).length := by rw [sortS_len]; exact hj
        have e1 : (strs (sortS l))[j]? = some (.string (sortS l)[j]) := strs_at (List.getElem?_eq_getElem hj2)
        rw [e1]
        have hb2 : j < (bys (sortS l)).length := by omega
        have e2 : (bys (sortS l)).toArray[j]! = ((sortS l)[j]).data.toList := by
          rw [getElem!_pos _ _ (by simpa using hb2)]
          simp [bys]
        have e3 : (putCells encStr 0 (bys (sortS l)).toArray cur)[j]? = some (encStr (bys (sortS l)).toArray[j]!) := by
          unfold putCells
          rw [Array.getElem?_mapIdx, Array.getElem?_eq_getElem (by omega), Option.map_some, if_pos ⟨Nat.zero_le _, by simpa using hb2⟩, Nat.sub_zero]
        rw [e3, e2]
      · rw [List.getElem?_take_eq_none (by omega), List.getElem?_eq_none (by rw [strs_len, sortS_len]; omega)]
    · refine ⟨rfl, rfl, rfl, by simp [grow, putRow, mapBlock, Sort.ahead], fun k hk hne => ?_⟩
      rw [heap_grow_old _ _ (by simp [putRow, mapBlock, Sort.ahead]; omega)]
      have : g ≠ k := fun e => hne (by rw [e]; rfl)
      simp [putRow, mapBlock, Sort.ahead, Array.getElem?_modify, this]

/-! ### Concat -/
abbrev SRw := Option Addr × Nat × List ByteArray
def SRows (w : World) (B o : Nat) (R : List SRw) : Prop :=
  B < w.heap.size ∧ ∀ (j : Nat) (r : SRw), R[j]? = some r → w.cell? ⟨B, o + j, none⟩ = some (.slice r.1 r.2.2.length r.2.1) ∧ SRow w r.1 r.2.2 ∧ (r.1 = none → r.2.1 = 0 ∧ r.2.2 = [])
def catS : List SRw → List ByteArray
  | [] => []
  | r :: R => r.2.2 ++ catS R
theorem catS_app : ∀ R S : List SRw, catS (R ++ S) = catS R ++ catS S
  | [], S => rfl
  | r :: R, S => by simp [catS, catS_app R S]
theorem catS_take {R : List SRw} {k : Nat} {r : SRw} (h : R[k]? = some r) : catS (R.take (k + 1)) = catS (R.take k) ++ r.2.2 := by
  rw [List.take_add_one, h, catS_app]
  simp [catS]
theorem catS_le (R : List SRw) (k : Nat) : (catS (R.take k)).length ≤ (catS R).length := by
  have : catS R = catS (R.take k) ++ catS (R.drop k) := by rw [← catS_app, List.take_append_drop]
  rw [this, List.length_append]
  omega
theorem SRows.below {w w' : World} {B o : Nat} {R : List SRw} (h : SRows w B o R) (hb : Below w.heap.size w w') : SRows w' B o R := by
  refine ⟨Nat.lt_of_lt_of_le h.1 hb.size, fun j r hj => ?_⟩
  obtain ⟨h1, h2, h3⟩ := h.2 j r hj
  exact ⟨(hb.cell (p := ⟨B, o + j, none⟩) h.1).trans h1, h2.below hb, h3⟩
theorem grow_strs (w : World) (n : Nat) (hn : n ≤ 1000000) : Calls Tryd.prog 30 #[.slice none 0 0, .int .i64 (n : Int)] w fun e w' => ∃ v, e = .returned v ∧ OwnS w.heap.size w' v [] ∧ Below w.heap.size w w' := by
  by_cases h0 : n = 0
  · subst h0
    go_enter Tryd.func30, Tryd.ntmps30
    go_wp2
    go_ret
    exact ⟨_, rfl, OwnS.nil _ _, Below.refl _ _⟩
  · obtain ⟨i, hi, hz0, hz1, hz2⟩ := info_str
    have hn0 : 0 < n := by omega
    have hr : ∀ ty, (Builtin.append_ #[SlS, 3] ty #[.slice none 0 0, .int .i64 (n : Int)]).run Tryd.prog w = .ok (.slice (some ⟨w.heap.size, 0, none⟩) n (grownCap w n 0 StT)) (w.drew.alloc (.cells (Builtin.zeroCells (Value.string ⟨#[]⟩).cells n ++ Builtin.zeroCells (Value.string ⟨#[]⟩).cells (grownCap w n 0 StT - n)) StT)) :=
      fun ty => run_append_nil_zeros w SlS 3 ty StT i _ .i64 .i64 Tryd.underlying51 Tryd.underlying3 hi hz0 n hn0 (by omega) (by omega) (by rw [hz2]; omega)
    have hge := grownCap_ge w n 0 StT
    have hcm := grownCap_le_maxLen w n 0 StT (by unfold maxLen; omega)
    have hO : Hid (OwnS w.heap.size (w.drew.alloc (.cells (Builtin.zeroCells (Value.string ⟨#[]⟩).cells n ++ Builtin.zeroCells (Value.string ⟨#[]⟩).cells (grownCap w n 0 StT - n)) StT)) (.slice (some ⟨w.heap.size, 0, none⟩) 0 (grownCap w n 0 StT)) []) := by
      refine ⟨rfl, .inr ⟨w.heap.size, _, _, rfl, Nat.le_refl _, heap_alloc_new w.drew _, Nat.zero_le _, hcm, ?_, rfl⟩⟩
      simp only [Array.size_append, size_zeroCells, ← Nat.add_mul]
      show (n + (grownCap w n 0 StT - n)) * 1 = _
      congr 1
      omega
    have hB : Hid (Below w.heap.size w (w.drew.alloc (.cells (Builtin.zeroCells (Value.string ⟨#[]⟩).cells n ++ Builtin.zeroCells (Value.string ⟨#[]⟩).cells (grownCap w n 0 StT - n)) StT))) :=
      ((Below.refl _ w).drew).alloc (Nat.le_refl _) _
    have HR := Lib.hid hr
    have hcz : grownCap w n 0 StT ≤ maxLen := hcm
    generalize w.drew.alloc (.cells (Builtin.zeroCells (Value.string ⟨#[]⟩).cells n ++ Builtin.zeroCells (Value.string ⟨#[]⟩).cells (grownCap w n 0 StT - n)) StT) = w1 at HR hO hB
    generalize grownCap w n 0 StT = cap at HR hO hge hcz
    unfold maxLen at hcz
    have hpos : (0 : Int) < (n : Int) := by omega
    clear hr hi hz0 hz1 hz2 hcm
    go_enter Tryd.func30, Tryd.ntmps30
    go_wp2_with (at_builtin; refine Lib.wpList_append_run _ rfl _ _ _ _ rfl _ _ rfl rfl _ _ (HR.out _) ?_)
    go_ret
    exact ⟨_, rfl, hO.out, hB.out⟩
set_option maxHeartbeats 1000000 in
theorem concat_strs (w : World) (B o : Nat) (R : List SRw) (h : SRows w B o R) (hl : (catS R).length ≤ 100000) (hR : R.length ≤ 1000) :
    Calls Tryd.prog 19 #[.slice (some ⟨B, o, none⟩) R.length R.length] w fun e w' => ∃ v, e = .returned v ∧ OwnS w.heap.size w' v (catS R) ∧ Below w.heap.size w w' := by
  have HR := Lib.hid h
  clear h
  go_enter Tryd.func19, Tryd.ntmps19
  go_wp2_with fail
  go_loopg [3, 5, 11] R.length (fun g vs _ vk wr => ∃ (k s : Nat), vs = .int .i64 (s : Int) ∧ vk = .int .i64 (k : Int) ∧ k ≤ R.length ∧ s ≤ 100000 ∧ R.length - k ≤ g ∧ Hid (s = (catS (R.take k)).length) ∧ w = wr)
  case atStart => exact ⟨0, 0, rfl, rfl, Nat.zero_le _, by omega, Nat.le_refl _, rfl, rfl⟩
  case round =>
    obtain ⟨k, s, rfl, rfl, hk, hs, hg, HS, rfl⟩ := hrel
    by_cases hlt : k < R.length
    · obtain ⟨r, hr⟩ : ∃ r, R[k]? = some r := ⟨R[k], List.getElem?_eq_getElem hlt⟩
      have hc := (HR.out.2 k r hr).1
      obtain ⟨s2, hs2⟩ : ∃ s2, s2 = s + r.2.2.length := ⟨_, rfl⟩
      have e1 : (s : Int) + (r.2.2.length : Int) = (s2 : Int) := by omega
      have HS2 : Hid (s2 = (catS (R.take (k + 1))).length) := by show _ = _; rw [catS_take hr, List.length_append, ← HS.out, hs2]
      have hs3 : s2 ≤ 100000 := by have := catS_le R (k + 1); have := HS2.out; omega
      have w1 : IntKind.i64.wrap (s2 : Int) = (s2 : Int) := by rw [IntKind.wrap_i64]; omega
      have hneg : decide ((s2 : Int) < 0) = false := decide_eq_false (by omega)
      clear hr hs2
      go_wp2_with fail
      go_roundg (R.length - (k + 1))
      case measure => omega
      case rel => exact ⟨k + 1, s2, rfl, by go_num, hlt, hs3, Nat.le_refl _, HS2, rfl⟩
    · obtain rfl : k = R.length := by omega
      have GR := Lib.hid (grow_strs w s (by omega))
      go_wp2_with fail
      refine GR.out.mono ?_
      rintro e w1 ⟨v, rfl, hO, hB⟩
      have HO := Lib.hid hO
      have HB := Lib.hid hB
      clear hO hB GR HS
      go_wp2_with fail
      go_loopg [6, 8, 27] R.length (fun g vn _ vk wq => ∃ (k : Nat), vk = .int .i64 (k : Int) ∧ k ≤ R.length ∧ R.length - k ≤ g ∧ Hid (OwnS w.heap.size wq vn (catS (R.take k))) ∧ Hid (Below w.heap.size w wq))
      case atStart => exact ⟨0, rfl, Nat.zero_le _, by omega, HO.out, HB.out⟩
      case round =>
        clear HO HB
        obtain ⟨k, rfl, hk2, hg2, HO, HB⟩ := hrel
        by_cases hlt2 : k < R.length
        · obtain ⟨r, hr⟩ : ∃ r, R[k]? = some r := ⟨R[k], List.getElem?_eq_getElem hlt2⟩
          obtain ⟨hc0, hL, hq⟩ := (HR.out.below HB.out).2 k r hr
          have HT : Hid (catS (R.take (k + 1)) = catS (R.take k) ++ r.2.2) := catS_take hr
          have hlen : (catS (R.take k)).length + r.2.2.length ≤ 1000000 := by
            have := catS_le R (k + 1)
            rw [catS_take hr, List.length_append] at this
            omega
          have hsz := HB.out.size
          have HQ := Lib.hid hq
          have HL := Lib.hid hL
          clear hr hq hL
          obtain ⟨q, c, l⟩ := r
          dsimp only at hc0 HQ HL HT hlen
          go_wp2_with (at_builtin; refine wpList_append_strs rfl _ _ rfl w.heap.size u6 (catS (R.take k)) rfl HO.out q l.length c l rfl rfl HL.out HQ.out hlen hsz ?_; intro v2 w2 hO2 hg2 ha2)
          have HO2 := Lib.hid hO2
          have HB2 := Lib.hid (HB.out.grown hg2 hsz (fun k e => (HO.out.lt k e).1))
          clear hO2 hg2 ha2
          go_wp2_with fail
          go_roundg (R.length - (k + 1))
          case measure => omega
          case rel => exact ⟨k + 1, by go_num, hlt2, Nat.le_refl _, by show OwnS _ _ _ _; rw [HT.out]; exact HO2.out, HB2.out⟩
        · obtain rfl : k = R.length := by omega
          go_wp2
          go_ret
          exact ⟨_, rfl, by have := HO.out; rwa [List.take_length] at this, HB.out⟩
end Go.Proofs.YtbkoepghmcdnhaaDoor.Rp
/- Layer 16 (replica): what objects are called, rising (replica.rising). -/
namespace Go.Proofs.YtbkoepghmcdnhaaDoor.Rp
open Go.RowKit Go.Shelf Go.Lib Go.Sort Go.Deep
open Go.Joins (cell_of_block unfrozen_of_block block_setCell)
open Go.Proofs.YtbkoepghmcdnhaaDoor.Ow
set_option linter.unusedVariables false
set_option linter.unusedSimpArgs false
set_option maxRecDepth 20000

theorem one_new (w : World) (nm : ByteArray) : SRow (w.alloc (.cells #[.string nm] StT)) (some ⟨w.heap.size, 0, none⟩) [nm] := by
  intro j s hs
  have hj : j = 0 := by
    have := (List.getElem?_eq_some_iff.1 hs).1
    simp at this
    exact this
  subst hj
  simp at hs
  subst hs
  exact ⟨_, 0, rfl, by simp, by simp⟩
abbrev OT : TypeId := 44
/-- An object of a row, stored where the call has made room. -/
structure ElAt (w3 wr : World) (O : Nat) (X : Array Value) : Prop where
  blk : w3.heap[O]? = some (.cells X OT (0, 0))
  low : Below wr.heap.size wr w3
  at_ : O = wr.heap.size
theorem el_new (wr : World) (X : Array Value) (hX : X.size = 47) : (wr.alloc (.cells zerC OT)).there wr.heap.size 0 X.size ∧ (Tryd.prog.info? OT).map (·.size) = some X.size ∧ ElAt ((wr.alloc (.cells zerC OT)).setCells wr.heap.size 0 X.toList) wr wr.heap.size X := by
  have z0 : (wr.alloc (.cells zerC OT)).heap[wr.heap.size]? = some (.cells zerC OT (0, 0)) := heap_alloc_new wr _
  exact ⟨Ld.there_block z0 (n := X.size) (by rw [hX]; rfl), by rw [hX]; exact info_ob47, Ld.laid z0 (by rw [hX]; rfl), Ld.below_setCells _ _ _ (Nat.le_refl _) (((Gr.refl wr).alloc _).below), rfl⟩
set_option maxHeartbeats 4000000 in
theorem rising_any (w : World) (q : Option Addr) (n c : Nat) (l : List Obv) (hn : n = l.length) (hr : RowR 47 encOb w q l) (hok : ∀ x ∈ l, ObjV w x.1.1 x.2) (hlen : n < 1000000) :
    Calls Tryd.prog 20 #[.slice q n c] w fun e w' => (∃ v, e = .returned v ∧ Hid (OwnS w.heap.size w' v (sortS (l.map (·.2.name))))) ∧ Below w.heap.size w w' := by
  have HH := Lib.hid (And.intro hr (And.intro hok hn))
  clear hr hok hn
  go_enter Tryd.func20, Tryd.ntmps20
  go_wp2_with fail
  go_loopg [3, 8] n (fun g1 v5 vi wr => ∃ j : Nat, vi = .int .i64 (j : Int) ∧ j ≤ n ∧ n - j ≤ g1 ∧ Hid (OwnS w.heap.size wr v5 ((l.take j).map (·.2.name))) ∧ Hid (Below w.heap.size w wr))
  case atStart => exact ⟨0, rfl, Nat.zero_le _, by omega, OwnS.nil _ _, Below.refl _ _⟩
  case round =>
    obtain ⟨j, rfl, h1, h2, HO, HB⟩ := hrel
    by_cases hlt : j < n
    · obtain ⟨hr, hok, hn⟩ := HH.out
      obtain ⟨x, hx⟩ : ∃ x, l[j]? = some x := ⟨l[j]'(by omega), List.getElem?_eq_getElem (by omega)⟩
      obtain ⟨b, off, rfl, _, _⟩ := hr j x hx
      obtain ⟨hbl, hra⟩ := rangeAt_obs hr hx
      have LD := Lib.hid (load_at (x := x) (rangeAt_below hra HB.out hbl))
      have okv := hok x (List.mem_of_getElem? hx)
      obtain ⟨X, hX⟩ : ∃ X, X = x.1.1 := ⟨_, rfl⟩
      rw [← hX] at LD okv
      have hX1 := okv.2.1.2.1
      have ON := Lib.hid (objV_one okv)
      obtain ⟨th, inn, el⟩ := el_new wr X okv.1
      have TH := Lib.hid th
      have IN := Lib.hid inn
      obtain ⟨w3, hw3⟩ : ∃ W', W' = (wr.alloc (.cells zerC OT)).setCells wr.heap.size 0 X.toList := ⟨_, rfl⟩
      obtain ⟨O, hO⟩ : ∃ A, A = wr.heap.size := ⟨_, rfl⟩
      have HW3 : Hid ((wr.alloc (.cells zerC OT)).setCells wr.heap.size 0 X.toList = w3 ∧ wr.heap.size = O) := ⟨hw3.symm, hO.symm⟩
      rw [← hw3, ← hO] at el
      obtain ⟨nm, hnm⟩ : ∃ s, s = x.2.name := ⟨_, rfl⟩
      rw [← hnm] at hX1
      have d1 : w3.cell? ⟨O, 1, none⟩ = some (.string nm) := (cell_of_block el.blk 1).trans hX1
      obtain ⟨w4, hw4⟩ : ∃ w4, w4 = w3.alloc (.cells #[.string nm] StT) := ⟨_, rfl⟩
      obtain ⟨M, hM⟩ : ∃ M, M = w3.heap.size := ⟨_, rfl⟩
      have HW4 : Hid (w3.alloc (.cells #[.string nm] StT) = w4 ∧ w3.heap.size = M) := ⟨hw4.symm, hM.symm⟩
      have low4 : Below wr.heap.size wr w4 := by
        have b4 : Below w3.heap.size w3 w4 := by rw [hw4]; exact ((Gr.refl w3).alloc _).below
        exact el.low.trans (b4.mono el.low.size)
      have NEW : Hid (SRow w4 (some ⟨M, 0, none⟩) [nm]) := by rw [hw4, hM]; exact one_new w3 nm
      have OW : Hid (OwnS w.heap.size w4 u3 ((l.take j).map (·.2.name))) := HO.out.below low4
      have hB4 := HB.out.trans (low4.mono HB.out.size)
      have BS : Hid (w.heap.size ≤ w4.heap.size) := hB4.size
      have HB4 := Lib.hid hB4
      have HX : Hid (l[j]? = some x ∧ nm = x.2.name) := ⟨hx, hnm⟩
      have LE : Hid (((l.take j).map (·.2.name)).length + [nm].length ≤ 1000000) := by
        show _ ≤ _
        rw [List.length_map, List.length_take, List.length_singleton]
        omega
      clear hr hok hn hx hbl hra okv hX hX1 th inn el hw3 hO hnm hw4 hM low4 hB4 HB HO
      go_upto_region 5 with (first | (refine wpList_load_by (by kernel_rfl) OT _ rfl (.pointer (some ⟨b, off + j * 47, none⟩)) (.agg X) (by first | rfl | (simp; done)) LD.out ?_) | (refine wpList_store_mid rfl _ _ _ rfl wr.heap.size 0 X (by rfl) (by rfl) TH.out IN.out ON.out ?_; rw [HW3.out.1, HW3.out.2]))
      clear TH IN ON HW3 LD
      go_wp2_with (at_builtin; rw [HW4.out.1, HW4.out.2]; refine wpList_append_strs rfl _ _ rfl w.heap.size u3 ((l.take j).map (·.2.name)) rfl OW.out (some ⟨M, 0, none⟩) 1 1 [nm] (by rfl) rfl NEW.out (fun e => by cases e) LE.out BS.out ?_; intro v7 w7 ho7 hg7 ha7)
      have FIN : Hid (OwnS w.heap.size w7 v7 ((l.take (j + 1)).map (·.2.name))) ∧ Hid (Below w.heap.size w w7) := by
        refine ⟨?_, HB4.out.grown hg7 BS.out (fun k e => (OW.out.lt k e).1)⟩
        show OwnS _ _ _ _
        rw [List.take_add_one, HX.out.1, List.map_append]
        show OwnS _ _ _ (_ ++ [x.2.name])
        rw [← HX.out.2]
        exact ho7
      obtain ⟨F1, F2⟩ := FIN
      clear ho7 hg7 ha7 HB4 HX OW NEW d1 HW4 BS LE
      go_wp2_with fail
      go_roundg (n - (j + 1))
      case measure => omega
      case rel => exact ⟨j + 1, by push_cast; rfl, by omega, by omega, F1, F2⟩
    · have hO := HO.out
      rw [List.take_of_length_le (by have := HH.out.2.2; omega)] at hO
      have C := Lib.hid (sort_strs w.heap.size wr u3 (l.map (·.2.name)) hO (by rw [List.length_map]; have := HH.out.2.2; omega))
      have HO2 := Lib.hid hO
      clear hO HO HH
      go_wp2_with fail
      refine C.out.mono ?_
      rintro e w2 ⟨rfl, ho, hg⟩
      have F1 := Lib.hid ho
      have F2 := Lib.hid (HB.out.grown hg HB.out.size (fun k e => (HO2.out.lt k e).1))
      clear ho hg HB HO2 C
      go_wp2
      go_ret
      exact ⟨⟨_, rfl, F1.out⟩, F2.out⟩
end Go.Proofs.YtbkoepghmcdnhaaDoor.Rp
/- Layer 16 (replica): which of two pods the law lets go first (its 'sooner'). -/
namespace Go.Proofs.YtbkoepghmcdnhaaDoor.Rp
open Go.RowKit Go.Shelf Go.Lib Go.Sort Go.Deep
open Go.Joins (cell_of_block unfrozen_of_block block_setCell)
open Go.Proofs.YtbkoepghmcdnhaaDoor.Ow Go.Proofs.YtbkoepghmcdnhaaDoor.Vi
set_option linter.unusedVariables false
set_option linter.unusedSimpArgs false
set_option maxRecDepth 20000

/-- Does a pod go ahead of another one? -/
def ltO (a b : Ob) : Prop := place a.p.ph < place b.p.ph ∨ (place a.p.ph = place b.p.ph ∧ (b.p.since < a.p.since ∨ (b.p.since = a.p.since ∧ b.name.toList < a.name.toList)))
theorem lt_ltO {x y : El} : lt x y ↔ ltO x.1.2 y.1.2 := lt_iff
theorem ltO_irr (a : Ob) : ¬ ltO a a := by
  rintro (h | ⟨_, h | ⟨_, h⟩⟩)
  · omega
  · omega
  · exact List.lt_irrefl _ h
theorem ltO_tr (a b c : Ob) (h : ltO a b) (k : ltO b c) : ltO a c := by
  unfold ltO at *
  rcases h with h | ⟨h, h2 | ⟨h2, h3⟩⟩ <;> rcases k with k | ⟨k, k2 | ⟨k2, k3⟩⟩
  all_goals first
    | (refine .inl ?_; omega)
    | (refine .inr ⟨by omega, .inl ?_⟩; omega)
    | exact .inr ⟨by omega, .inr ⟨by omega, List.lt_trans k3 h3⟩⟩
theorem ltO_total {a b : Ob} (h : ¬ ltO b a) (hn : a.name ≠ b.name) : ltO a b := by
  unfold ltO at *
  rcases Int.lt_trichotomy (place a.p.ph) (place b.p.ph) with h1 | h1 | h1
  · exact .inl h1
  · refine .inr ⟨h1, ?_⟩
    rcases Int.lt_trichotomy b.p.since a.p.since with h2 | h2 | h2
    · exact .inl h2
    · refine .inr ⟨h2, ?_⟩
      have h3 : ¬ a.name.toList < b.name.toList := fun e => h (.inr ⟨h1.symm, .inr ⟨h2.symm, e⟩⟩)
      have h4 : a.name.toList ≠ b.name.toList := fun e => hn (by
        rw [ByteArray.toList_eq, ByteArray.toList_eq] at e
        exact bys_inj e)
      rcases List.le_total b.name.toList a.name.toList with h5 | h5
      · exact Decidable.byContradiction fun h6 => h4 (List.le_antisymm (List.not_lt.1 h6) h5)
      · exact absurd (List.le_antisymm h5 (List.not_lt.1 h3)) h4
    · exact absurd (.inr ⟨h1.symm, .inl h2⟩) h
  · exact absurd (.inl h1) h
def rk (ph : Int) : Int := if ph = 0 then 1 else if ph = 1 then 2 else if ph = 2 then 3 else 0
theorem rk_place {p : Int} (h : 0 ≤ p ∧ p ≤ 3) : rk p = place p - 1 := by
  have : p = 0 ∨ p = 1 ∨ p = 2 ∨ p = 3 := by omega
  rcases this with rfl | rfl | rfl | rfl <;> rfl
set_option maxHeartbeats 2000000 in
theorem rank_any (w : World) (X : Array Value) (o : Ob) (r : Int) (hv : ObjV w X o) (hp : 0 ≤ o.p.ph ∧ o.p.ph ≤ 3) (hr : r = rk o.p.ph) :
    Calls Tryd.prog 33 #[.agg X] w fun e w' => e = .returned (.int .i64 r) ∧ Gr w w' := by
  obtain ⟨B, hB⟩ : ∃ B, B = w.heap.size := ⟨_, rfl⟩
  obtain ⟨w1, hw1⟩ : ∃ W, W = w.alloc (.cells X OT) := ⟨_, rfl⟩
  have G1 : Gr w w1 := hw1 ▸ (Gr.refl w).alloc _
  have b1 : w1.heap[B]? = some (.cells X OT (0, 0)) := by rw [hw1, hB]; exact heap_alloc_new w _
  obtain ⟨ph, hph⟩ : ∃ a, a = o.p.ph := ⟨_, rfl⟩
  have d12 : w1.cell? ⟨B, 12, none⟩ = some (.int .i64 ph) := by rw [hph]; exact (cell_of_block b1 12).trans hv.2.2.2.1.2.2.1
  have e12 : (w1.alloc (.cells #[.int .i64 1, .int .i64 2, .int .i64 3, .int .i64 0] 3)).cell? ⟨B, 12, none⟩ = some (.int .i64 ph) := (((Gr.refl w1).alloc _).below.cell (World.block_lt_of_cell? _ _ d12)).trans d12
  have HW : Hid (w.alloc (.cells X OT) = w1 ∧ w.heap.size = B) := ⟨hw1.symm, hB.symm⟩
  have HG : Hid (Gr w (w1.alloc (.cells #[.int .i64 1, .int .i64 2, .int .i64 3, .int .i64 0] 3))) := G1.alloc _
  rw [← hph] at hp hr
  have h4 : (ph = 0 ∧ r = 1) ∨ (ph = 1 ∧ r = 2) ∨ (ph = 2 ∧ r = 3) ∨ (ph = 3 ∧ r = 0) := by
    have : ph = 0 ∨ ph = 1 ∨ ph = 2 ∨ ph = 3 := by omega
    rcases this with h | h | h | h <;> rw [h] at hr <;> simp [rk] at hr <;> simp [h, hr]
  clear hv hp hr hB hw1 G1 b1 hph d12
  rcases h4 with ⟨rfl, rfl⟩ | ⟨rfl, rfl⟩ | ⟨rfl, rfl⟩ | ⟨rfl, rfl⟩
  all_goals
    go_enter Tryd.func33, Tryd.ntmps33
    go_upto_region 1 with fail
    rw [HW.out.1, HW.out.2]
    go_wp2
    go_ret
    exact ⟨rfl, HG.out⟩

set_option maxHeartbeats 4000000 in
theorem sooner_any (w : World) (X Y : Array Value) (a b : Ob) (r : Bool) (hx : ObjV w X a) (hy : ObjV w Y b) (pa : 0 ≤ a.p.ph ∧ a.p.ph ≤ 3) (pb : 0 ≤ b.p.ph ∧ b.p.ph ≤ 3) (hr : r = true ↔ ltO a b) :
    Calls Tryd.prog 23 #[.agg X, .agg Y] w fun e w' => e = .returned (.bool r) ∧ Gr w w' := by
  have mixed : Tryd.prog.follows .mixedOrders = true := by kernel_rfl
  obtain ⟨B, hB⟩ : ∃ B, B = w.heap.size := ⟨_, rfl⟩
  obtain ⟨w1, hw1⟩ : ∃ w1, w1 = w.alloc (.cells X OT) := ⟨_, rfl⟩
  obtain ⟨w2, hw2⟩ : ∃ w2, w2 = w1.alloc (.cells Y OT) := ⟨_, rfl⟩
  have z1 : w1.heap.size = B + 1 := by rw [hw1, hB]; simp
  have b1 : w1.heap[B]? = some (.cells X OT (0, 0)) := by rw [hw1, hB]; exact heap_alloc_new w _
  have b2 : w2.heap[B + 1]? = some (.cells Y OT (0, 0)) := by rw [hw2, ← z1]; exact heap_alloc_new w1 _
  have b1' : w2.heap[B]? = some (.cells X OT (0, 0)) := by rw [hw2]; exact (Below.heap_alloc w1 _ _ (by omega)).trans b1
  have G2 : Gr w w2 := by rw [hw2, hw1]; exact ((Gr.refl w).alloc _).alloc _
  have HW : Hid (w.alloc (.cells X OT) = w1 ∧ w1.alloc (.cells Y OT) = w2 ∧ w.heap.size = B ∧ w1.heap.size = B + 1) := ⟨hw1.symm, hw2.symm, hB.symm, z1⟩
  obtain ⟨ra, hra⟩ : ∃ q, q = rk a.p.ph := ⟨_, rfl⟩
  obtain ⟨rb, hrb⟩ : ∃ q, q = rk b.p.ph := ⟨_, rfl⟩
  obtain ⟨sa, hsa⟩ : ∃ q, q = a.p.since := ⟨_, rfl⟩
  obtain ⟨sb, hsb⟩ : ∃ q, q = b.p.since := ⟨_, rfl⟩
  obtain ⟨na, hna⟩ : ∃ q, q = a.name := ⟨_, rfl⟩
  obtain ⟨nb, hnb⟩ : ∃ q, q = b.name := ⟨_, rfl⟩
  have RA := Lib.hid (fun ws (g : Gr w ws) => rank_any ws X a ra (hx.below g.below) pa hra)
  have RB := Lib.hid (fun ws (g : Gr w ws) => rank_any ws Y b rb (hy.below g.below) pb hrb)
  have HR : Hid (r = true ↔ (ra < rb ∨ (ra = rb ∧ (sb < sa ∨ (sb = sa ∧ nb.toList < na.toList))))) := by
    show _ ↔ _
    rw [hr]
    unfold ltO
    rw [hra, hrb, rk_place pa, rk_place pb, hsa, hsb, hna, hnb]
    constructor
    · rintro (h | ⟨h, h2⟩)
      · exact .inl (by omega)
      · exact .inr ⟨by omega, h2⟩
    · rintro (h | ⟨h, h2⟩)
      · exact .inl (by omega)
      · exact .inr ⟨by omega, h2⟩
  have KX : Hid (∀ ws : World, (Gr w ws ∧ ws.heap[B]? = some (.cells X OT (0, 0)) ∧ ws.heap[B + 1]? = some (.cells Y OT (0, 0))) → ws.rangeAt B 0 X.toList) := fun ws h => rangeAt_block h.2.1
  have KY : Hid (∀ ws : World, (Gr w ws ∧ ws.heap[B]? = some (.cells X OT (0, 0)) ∧ ws.heap[B + 1]? = some (.cells Y OT (0, 0))) → ws.rangeAt (B + 1) 0 Y.toList) := fun ws h => rangeAt_block h.2.2
  have GO : Hid (∀ (u u' : World), (Gr w u ∧ u.heap[B]? = some (.cells X OT (0, 0)) ∧ u.heap[B + 1]? = some (.cells Y OT (0, 0))) → Gr u u' → (Gr w u' ∧ u'.heap[B]? = some (.cells X OT (0, 0)) ∧ u'.heap[B + 1]? = some (.cells Y OT (0, 0)))) := fun u u' h g => ⟨h.1.trans g, (g.heap (Array.getElem?_eq_some_iff.1 h.2.1).1).trans h.2.1, (g.heap (Array.getElem?_eq_some_iff.1 h.2.2).1).trans h.2.2⟩
  have CELLS : Hid (∀ u : World, (Gr w u ∧ u.heap[B]? = some (.cells X OT (0, 0)) ∧ u.heap[B + 1]? = some (.cells Y OT (0, 0))) → u.cell? ⟨B, 1, none⟩ = some (.string na) ∧ u.cell? ⟨B + 1, 1, none⟩ = some (.string nb) ∧ u.cell? ⟨B, 13, none⟩ = some (.int .i64 sa) ∧ u.cell? ⟨B + 1, 13, none⟩ = some (.int .i64 sb)) := fun u h => by
    rw [hna, hnb, hsa, hsb]
    exact ⟨(cell_of_block h.2.1 1).trans hx.2.1.2.1, (cell_of_block h.2.2 1).trans hy.2.1.2.1, (cell_of_block h.2.1 13).trans hx.2.2.2.1.2.2.2.1, (cell_of_block h.2.2 13).trans hy.2.2.2.1.2.2.2.1⟩
  have hiX : (Tryd.prog.info? OT).map (·.size) = some X.toList.length := by rw [Array.length_toList, hx.1]; exact info_ob47
  have hiY : (Tryd.prog.info? OT).map (·.size) = some Y.toList.length := by rw [Array.length_toList, hy.1]; exact info_ob47
  have hu := Tryd.underlying44
  have S0 : Hid (Gr w w2.drew ∧ w2.drew.heap[B]? = some (.cells X OT (0, 0)) ∧ w2.drew.heap[B + 1]? = some (.cells Y OT (0, 0))) := ⟨G2.drewN 1, b1', b2⟩
  clear hx hy pa pb hr hB hw1 hw2 z1 b1 b2 b1' G2 hra hrb hsa hsb hna hnb
  go_enter Tryd.func23, Tryd.ntmps23
  go_upto_region 2 with fail
  rw [HW.out.1, HW.out.2.1, HW.out.2.2.1]
  refine wp_region_held_drew (S := fun ws => (Gr w ws ∧ ws.heap[B]? = some (.cells X OT (0, 0)) ∧ ws.heap[B + 1]? = some (.cells Y OT (0, 0)))) mixed S0.out (fun hS => ?_)
  refine wpAnyH_takeD (i := 0) (d := 6) (v := .func (.func 33) #[] #[]) _ rfl rfl (by kernel_rfl) (by kernel_rfl) (by kernel_rfl) (fun _ _ _ h => h) (Or.inl ⟨by kernel_rfl, fun ws hSw => by first | (go_simp; done) | (go_simp; with_reducible rfl) | (go_simp; rfl)⟩) hS ?_
  simp only [Act.put, List.setIfInBounds_toArray, List.set_cons_zero, List.set_cons_succ]
  refine wpAnyH_takeD (i := 1) (d := 7) (v := .agg X.toList.toArray) _ rfl rfl (by kernel_rfl) (by kernel_rfl) (by kernel_rfl) (fun _ _ _ h => h) (yieldsIf_load_mid (by kernel_rfl) _ _ rfl B 0 (by kernel_rfl) X.toList _ (fun ws hSw => KX.out ws hSw) hu rfl hiX) hS ?_
  simp only [Act.put, List.setIfInBounds_toArray, List.set_cons_zero, List.set_cons_succ]
  refine wpAnyH_takeD (i := 3) (d := 9) (v := .func (.func 33) #[] #[]) _ rfl rfl (by kernel_rfl) (by kernel_rfl) (by kernel_rfl) (fun _ _ _ h => h) (Or.inl ⟨by kernel_rfl, fun ws hSw => by first | (go_simp; done) | (go_simp; with_reducible rfl) | (go_simp; rfl)⟩) hS ?_
  simp only [Act.put, List.setIfInBounds_toArray, List.set_cons_zero, List.set_cons_succ]
  refine wpAnyH_takeD (i := 4) (d := 10) (v := .agg Y.toList.toArray) _ rfl rfl (by kernel_rfl) (by kernel_rfl) (by kernel_rfl) (fun _ _ _ h => h) (yieldsIf_load_mid (by kernel_rfl) _ _ rfl (B+1) 0 (by kernel_rfl) Y.toList _ (fun ws hSw => KY.out ws hSw) hu rfl hiY) hS ?_
  simp only [Act.put, List.setIfInBounds_toArray, List.set_cons_zero, List.set_cons_succ]
  refine wpAnyH_ready (rs := [2]) (by kernel_rfl) (by simp) ?_
  refine AllReadyH.cons rfl (fun K hK => ?_) AllReadyH.nil
  go_simp
  refine (RA.out _ hS.1).mono ?_
  rintro e w3 ⟨rfl, g3⟩
  refine hK _ _ (GO.out _ _ hS g3) (fun hS => ?_)
  clear g3
  try simp only [Act.put, List.setIfInBounds_toArray, List.set_cons_zero, List.set_cons_succ]
  refine wpAnyH_ready (rs := [5]) (by kernel_rfl) (by simp) ?_
  refine AllReadyH.cons rfl (fun K hK => ?_) AllReadyH.nil
  go_simp
  refine (RB.out _ hS.1).mono ?_
  rintro e w4 ⟨rfl, g4⟩
  refine hK _ _ (GO.out _ _ hS g4) (fun hS => ?_)
  clear g4
  try simp only [Act.put, List.setIfInBounds_toArray, List.set_cons_zero, List.set_cons_succ]
  refine wpAnyH_takeD (i := 6) (d := 12) (v := .bool (ra != rb)) _ rfl rfl (by kernel_rfl) (by kernel_rfl) (by kernel_rfl) (fun _ _ _ h => h) (Or.inl ⟨by kernel_rfl, fun ws hSw => by first | (go_simp; done) | (go_simp; with_reducible rfl) | (go_simp; rfl)⟩) hS ?_
  simp only [Act.put, List.setIfInBounds_toArray, List.set_cons_zero, List.set_cons_succ]
  refine wpAnyH_done (by kernel_rfl) ?_ _
  have HS4 := Lib.hid hS
  clear hS S0
  by_cases hab : ra = rb
  · have t1 : (ra != rb) = false := by simp [hab]
    obtain ⟨c1, c2, c3, c4⟩ := CELLS.out _ HS4.out
    have G := Lib.hid HS4.out.1
    by_cases hs : sa = sb
    · have t2 : (sa != sb) = false := by simp [hs]
      have HRR : Hid (r = (!Op.bytesLess na.toList nb.toList && !na.toList == nb.toList)) := by
        show _ = _
        have e : (!Op.bytesLess na.toList nb.toList && !na.toList == nb.toList) = decide (nb.toList < na.toList) := by
          rw [bytesLess_eq, Bool.eq_iff_iff, Bool.and_eq_true, Bool.not_eq_true', Bool.not_eq_true', decide_eq_false_iff_not, decide_eq_true_eq, beq_eq_false_iff_ne]
          constructor
          · rintro ⟨h1, h2⟩
            rcases List.le_total nb.toList na.toList with h5 | h5
            · exact Decidable.byContradiction fun h6 => h2 (List.le_antisymm (List.not_lt.1 h6) h5)
            · exact absurd (List.le_antisymm h5 (List.not_lt.1 h1)) h2
          · exact fun h => ⟨fun h2 => List.lt_irrefl _ (List.lt_trans h h2), fun h2 => List.lt_irrefl _ (h2 ▸ h)⟩
        rw [e, Bool.eq_iff_iff, HR.out, decide_eq_true_eq]
        constructor
        · rintro (h | ⟨_, h | ⟨_, h⟩⟩)
          · omega
          · omega
          · exact h
        · exact fun h => .inr ⟨hab, .inr ⟨hs.symm, h⟩⟩
      clear hab hs HR
      go_wp2
      go_ret
      exact ⟨by rw [HRR.out]; first | rfl | (simp; done), G.out⟩
    · have t2 : (sa != sb) = true := by simp [hs]
      have HRR : Hid (r = decide (sa > sb)) := by
        show _ = _
        rw [Bool.eq_iff_iff, HR.out, decide_eq_true_eq]
        constructor
        · rintro (h | ⟨_, h | ⟨h, _⟩⟩)
          · omega
          · exact h
          · exact absurd h.symm hs
        · exact fun h => .inr ⟨hab, .inl h⟩
      clear hab hs HR
      go_wp2
      go_ret
      exact ⟨by rw [HRR.out]; first | rfl | (simp; done), G.out⟩
  · have t1 : (ra != rb) = true := by simp [hab]
    have HRR : Hid (r = decide (ra < rb)) := by
      show _ = _
      rw [Bool.eq_iff_iff, HR.out, decide_eq_true_eq]
      constructor
      · rintro (h | ⟨h, _⟩)
        · exact h
        · exact absurd h hab
      · exact fun h => .inl h
    clear hab HR
    go_upto_region 3 with fail
    have S5 : Hid (Gr w w4.drew ∧ w4.drew.heap[B]? = some (.cells X OT (0, 0)) ∧ w4.drew.heap[B + 1]? = some (.cells Y OT (0, 0))) := ⟨HS4.out.1.drewN 1, HS4.out.2⟩
    refine wp_region_held_drew (S := fun ws => (Gr w ws ∧ ws.heap[B]? = some (.cells X OT (0, 0)) ∧ ws.heap[B + 1]? = some (.cells Y OT (0, 0)))) mixed S5.out (fun hS => ?_)
    refine wpAnyH_takeD (i := 0) (d := 13) (v := .func (.func 33) #[] #[]) _ rfl rfl (by kernel_rfl) (by kernel_rfl) (by kernel_rfl) (fun _ _ _ h => h) (Or.inl ⟨by kernel_rfl, fun ws hSw => by first | (go_simp; done) | (go_simp; with_reducible rfl) | (go_simp; rfl)⟩) hS ?_
    simp only [Act.put, List.setIfInBounds_toArray, List.set_cons_zero, List.set_cons_succ]
    refine wpAnyH_takeD (i := 1) (d := 14) (v := .agg X.toList.toArray) _ rfl rfl (by kernel_rfl) (by kernel_rfl) (by kernel_rfl) (fun _ _ _ h => h) (yieldsIf_load_mid (by kernel_rfl) _ _ rfl B 0 (by kernel_rfl) X.toList _ (fun ws hSw => KX.out ws hSw) hu rfl hiX) hS ?_
    simp only [Act.put, List.setIfInBounds_toArray, List.set_cons_zero, List.set_cons_succ]
    refine wpAnyH_takeD (i := 3) (d := 16) (v := .func (.func 33) #[] #[]) _ rfl rfl (by kernel_rfl) (by kernel_rfl) (by kernel_rfl) (fun _ _ _ h => h) (Or.inl ⟨by kernel_rfl, fun ws hSw => by first | (go_simp; done) | (go_simp; with_reducible rfl) | (go_simp; rfl)⟩) hS ?_
    simp only [Act.put, List.setIfInBounds_toArray, List.set_cons_zero, List.set_cons_succ]
    refine wpAnyH_takeD (i := 4) (d := 17) (v := .agg Y.toList.toArray) _ rfl rfl (by kernel_rfl) (by kernel_rfl) (by kernel_rfl) (fun _ _ _ h => h) (yieldsIf_load_mid (by kernel_rfl) _ _ rfl (B+1) 0 (by kernel_rfl) Y.toList _ (fun ws hSw => KY.out ws hSw) hu rfl hiY) hS ?_
    simp only [Act.put, List.setIfInBounds_toArray, List.set_cons_zero, List.set_cons_succ]
    refine wpAnyH_ready (rs := [2]) (by kernel_rfl) (by simp) ?_
    refine AllReadyH.cons rfl (fun K hK => ?_) AllReadyH.nil
    go_simp
    refine (RA.out _ hS.1).mono ?_
    rintro e w5 ⟨rfl, g5⟩
    refine hK _ _ (GO.out _ _ hS g5) (fun hS => ?_)
    clear g5
    try simp only [Act.put, List.setIfInBounds_toArray, List.set_cons_zero, List.set_cons_succ]
    refine wpAnyH_ready (rs := [5]) (by kernel_rfl) (by simp) ?_
    refine AllReadyH.cons rfl (fun K hK => ?_) AllReadyH.nil
    go_simp
    refine (RB.out _ hS.1).mono ?_
    rintro e w6 ⟨rfl, g6⟩
    refine hK _ _ (GO.out _ _ hS g6) (fun hS => ?_)
    clear g6
    try simp only [Act.put, List.setIfInBounds_toArray, List.set_cons_zero, List.set_cons_succ]
    refine wpAnyH_takeD (i := 6) (d := 19) (v := .bool (decide (ra < rb))) _ rfl rfl (by kernel_rfl) (by kernel_rfl) (by kernel_rfl) (fun _ _ _ h => h) (Or.inl ⟨by kernel_rfl, fun ws hSw => by first | (go_simp; done) | (go_simp; with_reducible rfl) | (go_simp; rfl)⟩) hS ?_
    simp only [Act.put, List.setIfInBounds_toArray, List.set_cons_zero, List.set_cons_succ]
    refine wpAnyH_takeD (i := 7) (d := 4) (v := .bool (decide (ra < rb))) _ rfl rfl (by kernel_rfl) (by kernel_rfl) (by kernel_rfl) (fun _ _ _ h => h) (Or.inl ⟨by kernel_rfl, fun ws hSw => by first | (go_simp; done) | (go_simp; with_reducible rfl) | (go_simp; rfl)⟩) hS ?_
    simp only [Act.put, List.setIfInBounds_toArray, List.set_cons_zero, List.set_cons_succ]
    refine wpAnyH_done (by kernel_rfl) ?_ _
    have HS7 := Lib.hid hS.1
    clear hS
    go_wp2
    go_ret
    exact ⟨by rw [HRR.out]; first | rfl | (simp; done), HS7.out⟩
end Go.Proofs.YtbkoepghmcdnhaaDoor.Rp
/- Layer 16 (replica): what a pass over a workload comes to; choosing the first of what is left; names that are free. Rows alone, no program. -/
namespace Go.Proofs.YtbkoepghmcdnhaaDoor.Rp
open Go.RowKit Go.Lib
set_option linter.unusedVariables false
set_option linter.unusedSimpArgs false

/-- The first of what is left, of a row that another one sorts. -/
theorem least_left {α : Type} {r : α → α → Prop} {N s : List α} (irr : ∀ x, ¬ r x x) (hp : N.Perm s) (hs : s.Pairwise r) {t : Nat} {y : α} (ht : s[t]? = some y) {b : α} (hb : b ∈ N) (hnb : b ∉ s.take t) (hmin : ∀ z ∈ N, z ∉ s.take t → ¬ r z b) : b = y := by
  have hbs : b ∈ s := hp.mem_iff.1 hb
  obtain ⟨i, hi, rfl⟩ := List.getElem_of_mem hbs
  obtain ⟨htl, rfl⟩ := List.getElem?_eq_some_iff.1 ht
  rcases Nat.lt_trichotomy i t with h | h | h
  · exact absurd (List.mem_take_iff_getElem.2 ⟨i, by omega, rfl⟩) hnb
  · subst h; rfl
  · have h1 : r s[t] s[i] := List.pairwise_iff_getElem.1 hs t i htl hi h
    have h2 : s[t] ∉ s.take t := by
      intro hm
      obtain ⟨k, hk, e⟩ := List.mem_take_iff_getElem.1 hm
      have := List.pairwise_iff_getElem.1 hs k t (by omega) htl (by omega)
      rw [e] at this
      exact irr _ this
    exact absurd h1 (hmin _ (hp.mem_iff.2 (List.getElem_mem htl)) h2)
/-- What was not yet taken, of a row sorted. -/
theorem left_some {α : Type} {r : α → α → Prop} {s : List α} (irr : ∀ x, ¬ r x x) (hs : s.Pairwise r) {t : Nat} {y : α} (ht : s[t]? = some y) : y ∉ s.take t := by
  obtain ⟨htl, rfl⟩ := List.getElem?_eq_some_iff.1 ht
  intro hm
  obtain ⟨k, hk, e⟩ := List.mem_take_iff_getElem.1 hm
  have := List.pairwise_iff_getElem.1 hs k t (by omega) htl (by omega)
  rw [e] at this
  exact irr _ this

/-! ### the least name that is left -/
abbrev Nm := List UInt8
/-- The best so far: none, or the least of those looked at that were not taken. -/
def Best (rem : List Nm) (seen : List Nm) (b : Nm) : Prop := (b = [] ∧ ∀ x ∈ seen, x ∈ rem) ∨ (b ∈ seen ∧ b ∉ rem ∧ ∀ x ∈ seen, x ∉ rem → ¬ x < b)
def bestStep (rem : List Nm) (b x : Nm) : Nm := if x ∉ rem ∧ (b = [] ∨ x < b) then x else b
theorem Best.start (rem : List Nm) : Best rem [] [] := .inl ⟨rfl, by simp⟩
theorem Best.step {rem seen : List Nm} {b x : Nm} (h : Best rem seen b) (hx : x ≠ []) (hne : ∀ y ∈ seen, y ≠ []) : Best rem (seen ++ [x]) (bestStep rem b x) := by
  unfold bestStep
  by_cases hr : x ∈ rem
  · rw [if_neg (by intro e; exact e.1 hr)]
    rcases h with ⟨rfl, h⟩ | ⟨h1, h2, h3⟩
    · refine .inl ⟨rfl, fun y hy => ?_⟩
      rw [List.mem_append, List.mem_singleton] at hy
      rcases hy with hy | rfl
      · exact h y hy
      · exact hr
    · refine .inr ⟨List.mem_append_left _ h1, h2, fun y hy hn => ?_⟩
      rw [List.mem_append, List.mem_singleton] at hy
      rcases hy with hy | rfl
      · exact h3 y hy hn
      · exact absurd hr hn
  · rcases h with ⟨rfl, h⟩ | ⟨h1, h2, h3⟩
    · rw [if_pos ⟨hr, .inl rfl⟩]
      refine .inr ⟨by simp, hr, fun y hy hn => ?_⟩
      rw [List.mem_append, List.mem_singleton] at hy
      rcases hy with hy | rfl
      · exact absurd (h y hy) hn
      · exact List.lt_irrefl _
    · by_cases hlt : x < b
      · rw [if_pos ⟨hr, .inr hlt⟩]
        refine .inr ⟨by simp, hr, fun y hy hn => ?_⟩
        rw [List.mem_append, List.mem_singleton] at hy
        rcases hy with hy | rfl
        · exact fun e => h3 y hy hn (List.lt_trans e hlt)
        · exact List.lt_irrefl _
      · have hb : b ≠ [] := hne b h1
        rw [if_neg (by rintro ⟨_, e | e⟩; exact hb e; exact hlt e)]
        refine .inr ⟨List.mem_append_left _ h1, h2, fun y hy hn => ?_⟩
        rw [List.mem_append, List.mem_singleton] at hy
        rcases hy with hy | rfl
        · exact h3 y hy hn
        · exact hlt
theorem Best.done {N s : List Nm} (hp : N.Perm s) (hs : s.Pairwise (· < ·)) {t : Nat} {y : Nm} (ht : s[t]? = some y) {b : Nm} (h : Best (s.take t) N b) : b = y := by
  have irr : ∀ x : Nm, ¬ x < x := List.lt_irrefl
  have hy : y ∉ s.take t := left_some (r := (· < ·)) irr hs ht
  have hyN : y ∈ N := hp.mem_iff.2 (List.mem_of_getElem? ht)
  rcases h with ⟨_, h⟩ | ⟨h1, h2, h3⟩
  · exact absurd (h y hyN) hy
  · exact least_left (r := (· < ·)) irr hp hs ht h1 h2 h3

/-! ### the first pod that is left -/
/-- The place of the best so far: none, or one that goes ahead of all others that were not taken. -/
def BestAt {α : Type} (r : α → α → Prop) (gone : α → Prop) (N : List α) (i : Nat) (b : Int) : Prop :=
  (b = -1 ∧ ∀ x ∈ N.take i, gone x) ∨ (∃ k : Nat, b = (k : Int) ∧ k < i ∧ ∃ y, N[k]? = some y ∧ ¬ gone y ∧ ∀ x ∈ N.take i, ¬ gone x → ¬ r x y)
theorem BestAt.start {α : Type} (r : α → α → Prop) (gone : α → Prop) (N : List α) : BestAt r gone N 0 (-1) := .inl ⟨rfl, by simp⟩
theorem BestAt.skip {α : Type} {r : α → α → Prop} {gone : α → Prop} {N : List α} {i : Nat} {b : Int} {x : α} (h : BestAt r gone N i b) (hx : N[i]? = some x) (hg : gone x ∨ ∃ k y, b = ((k : Nat) : Int) ∧ N[k]? = some y ∧ ¬ r x y) : BestAt r gone N (i + 1) b := by
  have ht : N.take (i + 1) = N.take i ++ [x] := by rw [List.take_add_one, hx]; rfl
  rcases h with ⟨rfl, h⟩ | ⟨k, rfl, hk, y, hy, hn, h3⟩
  · rcases hg with hg | ⟨k, y, e, _⟩
    · refine .inl ⟨rfl, fun z hz => ?_⟩
      rw [ht, List.mem_append, List.mem_singleton] at hz
      rcases hz with hz | rfl
      · exact h z hz
      · exact hg
    · omega
  · refine .inr ⟨k, rfl, by omega, y, hy, hn, fun z hz hnz => ?_⟩
    rw [ht, List.mem_append, List.mem_singleton] at hz
    rcases hz with hz | rfl
    · exact h3 z hz hnz
    · rcases hg with hg | ⟨k', y', e, hy', hr⟩
      · exact absurd hg hnz
      · obtain rfl : k = k' := by omega
        rw [hy] at hy'
        cases hy'
        exact hr
theorem BestAt.take {α : Type} {r : α → α → Prop} {gone : α → Prop} {N : List α} {i : Nat} {b : Int} {x : α} (irr : ∀ x, ¬ r x x) (tr : ∀ x y z, r x y → r y z → r x z) (h : BestAt r gone N i b) (hx : N[i]? = some x) (hg : ¬ gone x) (hb : b = -1 ∨ ∃ k y, b = ((k : Nat) : Int) ∧ N[k]? = some y ∧ r x y) : BestAt r gone N (i + 1) (i : Int) := by
  have ht : N.take (i + 1) = N.take i ++ [x] := by rw [List.take_add_one, hx]; rfl
  refine .inr ⟨i, rfl, by omega, x, hx, hg, fun z hz hnz => ?_⟩
  rw [ht, List.mem_append, List.mem_singleton] at hz
  rcases hz with hz | rfl
  · rcases h with ⟨rfl, h⟩ | ⟨k, rfl, hk, y, hy, hn, h3⟩
    · exact absurd (h z hz) hnz
    · rcases hb with e | ⟨k', y', e, hy', hr⟩
      · omega
      · obtain rfl : k = k' := by omega
        rw [hy] at hy'
        cases hy'
        exact fun e => h3 z hz hnz (tr _ _ _ e hr)
  · exact irr _
theorem BestAt.done {α : Type} {r : α → α → Prop} {N s : List α} (irr : ∀ x, ¬ r x x) (hp : N.Perm s) (hs : s.Pairwise r) {t : Nat} {y : α} (ht : s[t]? = some y) {b : Int} (h : BestAt r (· ∈ s.take t) N N.length b) : ∃ k : Nat, b = (k : Int) ∧ N[k]? = some y := by
  have hy : y ∉ s.take t := left_some irr hs ht
  have hyN : y ∈ N := hp.mem_iff.2 (List.mem_of_getElem? ht)
  rw [BestAt, List.take_length] at h
  rcases h with ⟨_, h⟩ | ⟨k, rfl, hk, z, hz, hn, h3⟩
  · exact absurd (h y hyN) hy
  · refine ⟨k, rfl, ?_⟩
    rw [hz, least_left irr hp hs ht (List.mem_of_getElem? hz) hn h3]

/-! ### the least numbers that are free -/
theorem filter_cut {p : Nat → Bool} {n k m : Nat} (hk : k ≤ n) (hc : ((List.range k).filter p).length ≤ m) (h : k = n ∨ ((List.range k).filter p).length = m) : ((List.range n).filter p).take m = (List.range k).filter p := by
  obtain ⟨d, rfl⟩ : ∃ d, n = k + d := ⟨n - k, by omega⟩
  rw [List.range_add, List.filter_append]
  rcases h with h | h
  · obtain rfl : d = 0 := by omega
    simp only [List.range_zero, List.map_nil, List.filter_nil, List.append_nil]
    exact List.take_of_length_le hc
  · rw [List.take_append_of_le_length (by omega), List.take_of_length_le (by omega)]
theorem filter_next {p : Nat → Bool} {k : Nat} : (List.range (k + 1)).filter p = (List.range k).filter p ++ (if p k = true then [k] else []) := by
  rw [List.range_succ, List.filter_append]
  congr 1
  by_cases h : p k = true
  · simp [h]
  · simp [h]
end Go.Proofs.YtbkoepghmcdnhaaDoor.Rp
