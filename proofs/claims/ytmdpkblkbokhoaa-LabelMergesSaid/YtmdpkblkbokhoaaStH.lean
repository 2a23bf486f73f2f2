/- The library's CompactFunc on a sorted row of labels: of each key the first one. -/
import Derived.Test.YtmdpkblkbokhoaaLabM
import Derived.Test.YtmdpkblkbokhoaaStQ
namespace Go.Proofs.Ytmdpkblkbokhoaa
open Go.Shelf Go.RowKit Go.Lib Go.Sort
set_option linter.unusedVariables false

def Strict (l : List Lab) : Prop := l.Pairwise fun x y => kl x < kl y

theorem setMany_set (d : Array Lab) (i : Nat) (hi : i < d.size) (y : Lab) : setMany (flatK encL 2 d) (i * 2) (encL y) = flatK encL 2 (d.setIfInBounds i y) := by
  refine ext_get! (by simp) fun t ht => ?_
  have ht' : t < d.size * 2 := by simpa using ht
  rw [get_setMany _ _ _ t (by simpa using ht'), get_flatK _ _ _ t ht', get_flatK _ _ _ t (by simpa using ht'), encL_len]
  by_cases h : t / 2 = i
  · have e : (d.setIfInBounds i y)[t / 2]! = y := by subst h; rw [getElem!_pos _ _ (by simpa using hi)]; simp
    rw [if_pos (by omega), e, show t - i * 2 = t % 2 by omega]
  · have e : (d.setIfInBounds i y)[t / 2]! = d[t / 2]! := by
      have h1 : t / 2 < d.size := by omega
      rw [getElem!_pos (d.setIfInBounds i y) (t / 2) (by simpa using h1), getElem!_pos d (t / 2) h1, Array.getElem_setIfInBounds, if_neg (Ne.symm h)]
    rw [if_neg (by omega), e]
/-- A label is stored. -/
theorem SWK.set1 {w0 W : World} {blk off : Nat} {dk : Array Lab} (h : SWK encL 2 w0 blk off dk W) (hblk : blk < w0.heap.size) (i : Nat) (hi : i < dk.size) (y : Lab) :
    SWK encL 2 w0 blk off (dk.setIfInBounds i y) ((W.setCell ⟨blk, off + i * 2, none⟩ (.string y.1)).setCell ⟨blk, off + i * 2 + 1, none⟩ (.string y.2)) := by
  obtain ⟨n, os, rfl⟩ := h
  refine ⟨n, os, ?_⟩
  show (sortWorldK encL 2 w0 blk off n dk os).setCells blk (off + i * 2) (encL y) = _
  unfold sortWorldK
  rw [setCells_grow os blk _ _ _ (by rw [size_putRowK]; exact hblk)]
  congr 1
  unfold putRowK
  rw [setCells_putRow _ _ _ _ _ _ (by rw [encL_len, size_flatK]; omega), setMany_set dk i hi y]

/-- Is the key the same? -/
def sameK (x y : Lab) : Bool := kl x == kl y
theorem closure_same (x y : Lab) (w : World) : Calls Try.prog 25 #[.agg #[.string x.1, .string x.2], .agg #[.string y.1, .string y.2]] w fun e w' => e = .returned (.bool (sameK x y)) ∧ ∃ q os', w' = grow (w.drewN q) os' := by
  have E : (x.1.toList == y.1.toList) = sameK x y := rfl
  generalize sameK x y = r at E ⊢
  go_enter Try.func25, Try.ntmps25
  go_wp2
  go_ret
  exact ⟨rfl, 0, _, by rw [alloc_eq_grow, alloc_eq_grow, grow_grow]; rfl⟩
abbrev fvS : Value := .func (.func 25) #[] #[]
theorem enters_same : ∀ args w, (callFunc 25 args).run Try.prog w = .ok (.enter 25 args) w := enters_of Try.func25 (by kernel_rfl) rfl

theorem zero_label (w : World) : (zeroValue 33).run Try.prog w = .ok (.agg #[.string ByteArray.empty, .string ByteArray.empty]) w := by kernel_rfl
theorem run_clear_labs (w : World) (ty : TypeId) (b o n c : Nat) (hn : 0 < n) (hc : ∀ j, j < n * 2 → (w.cell? ⟨b, o + j, none⟩).isSome = true) (hf : ∀ j, j < n * 2 → w.frozen? ⟨b, o + j, none⟩ = false) :
    (Builtin.clear_ #[22] ty #[.slice (some ⟨b, o, none⟩) n c]).run Try.prog w = .ok (.tuple #[]) (w.setCells b o (List.replicate (n * 2) (.string ByteArray.empty))) := by
  have hzc : (Builtin.zeroCells (Value.agg #[.string ByteArray.empty, .string ByteArray.empty]).cells n).toList = List.replicate (n * 2) (.string ByteArray.empty) := by
    apply List.ext_getElem
    · simp [Builtin.zeroCells, Value.cells]
    · intro i h1 h2
      have h3 : i % 2 = 0 ∨ i % 2 = 1 := by omega
      simp [Builtin.zeroCells, Value.cells]
      rcases h3 with h | h <;> simp [h]
  have hst := run_storeCells_cells (P := Try.prog) b o (List.replicate (n * 2) (.string ByteArray.empty)) 0 w (by simpa using hc) (by simpa using hf) (by intro v hv'; rw [List.eq_of_mem_replicate hv']; rfl)
  simp only [Nat.add_zero] at hst
  obtain ⟨m, rfl⟩ : ∃ m, n = m + 1 := ⟨n - 1, by omega⟩
  have hv := zero_label w
  simp [Builtin.clear_, run_underlying Try.underlying22, hv, hzc, hst]

/-! ### what is gathered -/
/-- 'out' has the first one of each key of 'C', rising; its last one has the key of the last one of 'C'. -/
def Gath (C out : List Lab) : Prop := Strict out ∧ Same1 C out ∧ ∃ z y, out.getLast? = some z ∧ C.getLast? = some y ∧ kl z = kl y
theorem Gath.skip {C out : List Lab} {x y : Lab} (h : Gath C out) (hy : C.getLast? = some y) (e : kl x = kl y) : Gath (C ++ [x]) out := by
  obtain ⟨h1, h2, z, y', hz, hy', e'⟩ := h
  rw [hy] at hy'
  injection hy' with hy'
  subst hy'
  refine ⟨h1, ?_, z, x, hz, by simp, by rw [e', e]⟩
  intro k
  rw [List.find?_append]
  cases hk : C.find? (hit k) with
  | some w => rw [Option.some_or, ← hk]; exact h2 k
  | none =>
    rw [Option.none_or]
    have hx : hit k x = false := by
      cases hh : hit k x with
      | false => rfl
      | true =>
        have := List.find?_eq_none.1 hk y (List.mem_of_getLast? hy)
        exact absurd (hit_iff.2 ((e ▸ hit_iff.1 hh))) this
    rw [List.find?_cons, hx, ← h2 k, hk]
    rfl
theorem Gath.keep {C out : List Lab} {x y : Lab} (h : Gath C out) (hy : C.getLast? = some y) (lt : kl y < kl x) : Gath (C ++ [x]) (out ++ [x]) := by
  obtain ⟨h1, h2, z, y', hz, hy', e'⟩ := h
  rw [hy] at hy'
  injection hy' with hy'
  subst hy'
  refine ⟨?_, Same1.app h2 (Same1.refl _), x, x, by simp, by simp, rfl⟩
  refine List.pairwise_append.2 ⟨h1, List.pairwise_singleton _ _, ?_⟩
  intro a ha b hb
  simp at hb
  subst hb
  obtain ⟨ys, rfl⟩ := List.getLast?_eq_some_iff.1 hz
  rw [List.mem_append] at ha
  rcases ha with ha | ha
  · have := (List.pairwise_append.1 h1).2.2 a ha z (by simp)
    exact lt_tr this (by rw [e']; exact lt)
  · simp at ha; subst ha; rw [e']; exact lt
theorem Gath.start {C : List Lab} {y : Lab} (h : Strict C) (hy : C.getLast? = some y) : Gath C C := ⟨h, Same1.refl _, y, y, hy, hy, rfl⟩
theorem take_last {l : List Lab} {k : Nat} {y : Lab} (h : l[k]? = some y) : (l.take (k + 1)).getLast? = some y := by
  rw [List.take_add_one, h]
  simp
theorem take_snoc {l : List Lab} {k : Nat} {y : Lab} (h : l[k]? = some y) : l.take (k + 1) = l.take k ++ [y] := by
  rw [List.take_add_one, h]
  rfl
theorem lt_of_next {l : List Lab} (hs : Sorted l) {k : Nat} {x y : Lab} (hx : l[k + 1]? = some x) (hy : l[k]? = some y) (hne : sameK x y = false) : kl y < kl x := by
  obtain ⟨h1, e1⟩ := List.getElem?_eq_some_iff.1 hx
  obtain ⟨h2, e2⟩ := List.getElem?_eq_some_iff.1 hy
  have := hs.get (i := k) (j := k + 1) (by omega) h1
  rw [e1, e2] at this
  rcases lt_tri (kl y) (kl x) with h | h | h
  · exact h
  · simp [sameK, h] at hne
  · exact absurd h this
theorem same_of {x y : Lab} (h : sameK x y = true) : kl x = kl y := by simpa [sameK] using h

theorem set_mid {A B : List Lab} {z x : Lab} {i : Nat} (hi : i = A.length) : (A ++ z :: B).toArray.setIfInBounds i x = (A ++ x :: B).toArray := by
  subst hi
  apply Array.toList_inj.1
  simp only [Array.toList_setIfInBounds]
  rw [List.set_append_right _ _ (Nat.le_refl _), Nat.sub_self, List.set_cons_zero]

/-- What the gathering answers. -/
def Compacts (w : World) (g off : Nat) (l : List Lab) (e : Ending) (w' : World) : Prop :=
  ∃ out c', e = .returned (.slice (some ⟨g, off, none⟩) out.length c') ∧ Strict out ∧ Same1 l out ∧ Labs w' (some ⟨g, off, none⟩) out ∧ Below g w w'

/-- A store of a label: what it may write, and where it ends. -/
theorem set_facts {w0 W : World} {blk off : Nat} {d0 dk : Array Lab} (h : SWK encL 2 w0 blk off dk W) (R : RowK encL 2 w0 blk off d0) (hs : dk.size = d0.size) (i : Nat) (hi : i < dk.size) (y : Lab) :
    (∃ v, W.cell? ⟨blk, off + i * 2, none⟩ = some v) ∧ (∃ v, (W.setCell ⟨blk, off + i * 2, none⟩ (.string y.1)).cell? ⟨blk, off + i * 2 + 1, none⟩ = some v) ∧ W.frozen? ⟨blk, off + i * 2, none⟩ = false ∧ W.frozen? ⟨blk, off + i * 2 + 1, none⟩ = false ∧
    Hid (SWK encL 2 w0 blk off (dk.setIfInBounds i y) ((W.setCell ⟨blk, off + i * 2, none⟩ (.string y.1)).setCell ⟨blk, off + i * 2 + 1, none⟩ (.string y.2))) := by
  have H := h.holds R.hblk R.hH hs
  have a0 := HoldsK.cell H hi (c := 0) (by decide)
  have a1 := HoldsK.cell H hi (c := 1) (by decide)
  exact ⟨⟨_, a0.1⟩, cell?_setCell_some (w := W) (p := ⟨blk, off + i * 2, none⟩) (x := .string y.1) (q := ⟨blk, off + i * 2 + 1, none⟩) a1.1, a0.2, a1.2, SWK.set1 h R.hblk i hi y⟩
theorem SWK.cells1 {w0 W : World} {blk off : Nat} {d0 dk : Array Lab} (h : SWK encL 2 w0 blk off dk W) (R : RowK encL 2 w0 blk off d0) (hs : dk.size = d0.size) (i : Nat) (hi : i < dk.size) (x : Lab) (hx : dk[i]! = x) :
    W.cell? ⟨blk, off + i * 2, none⟩ = some (.string x.1) ∧ W.cell? ⟨blk, off + i * 2 + 1, none⟩ = some (.string x.2) := by
  have H := h.holds R.hblk R.hH hs
  rw [← hx]
  exact ⟨(HoldsK.cell H hi (c := 0) (by decide)).1, (HoldsK.cell H hi (c := 1) (by decide)).1⟩
theorem below_setCells {B b : Nat} (hb : B ≤ b) : ∀ (vs : List Value) (o : Nat) (w w' : World), Below B w w' → Below B w (w'.setCells b o vs)
  | [], _, _, _, h => h
  | v :: r, o, w, w', h => below_setCells hb r (o + 1) w _ (h.setCell (p := ⟨b, o, none⟩) hb v)
theorem arr_at {l : List Lab} {i : Nat} {x : Lab} (h : l[i]? = some x) : l.toArray[i]! = x := by
  have := List.getElem?_eq_some_iff.1 h
  rw [getElem!_pos _ _ (by simpa using this.1)]
  simpa using this.2

set_option maxHeartbeats 4000000 in
set_option maxRecDepth 1000000 in
theorem compact_any (w : World) (g off c : Nat) (l : List Lab) (hs : Sorted l) (hH : HoldsK encL 2 w g off l.toArray) (hg : g < w.heap.size) (hl : l.length ≤ 1000000) (hc : l.length ≤ c) (hL : Labs w (some ⟨g, off, none⟩) l) :
    Calls Try.prog 24 #[.slice (some ⟨g, off, none⟩) l.length c, fvS] w (Compacts w g off l) := by
  have mixed : Try.prog.follows .mixedOrders = true := by kernel_rfl
  have eg := enters_same
  have RR : Hid (RowL w g off l) := ⟨encL_len, encL_one, hH, hg⟩
  have S0 : Hid (St w g off l w) := SWK.start hH
  have HS := Lib.hid hs
  have HH := Lib.hid hH
  have HLL := Lib.hid hL
  have HG := Lib.hid hg
  clear hs hH hL hg
  obtain ⟨N, hN⟩ : ∃ N, N = l.length := ⟨_, rfl⟩
  rw [← hN] at hl hc ⊢
  have HN := Lib.hid hN
  clear hN
  by_cases h2 : N < 2
  · go_enter Try.func24, Try.ntmps24
    go_wp2
    go_ret
    refine ⟨l, c, by rw [HN.out]; rfl, ?_, Same1.refl _, HLL.out, Below.refl _ _⟩
    have := HN.out
    match l, this with
    | [], _ => exact List.Pairwise.nil
    | [x], _ => exact List.pairwise_singleton _ _
    | x :: y :: r, h => simp at h; omega
  · have h2' : 2 ≤ N := by omega
    have h2d : decide ((N : Int) < 2) = false := by simp; omega
    go_enter Try.func24, Try.ntmps24
    go_wp2_with fail
    go_loopg [5] N (fun gg vk wr => ∃ k : Nat, vk = .int .i64 (k : Int) ∧ 1 ≤ k ∧ k ≤ N ∧ N - k ≤ gg ∧ Hid (Strict (l.take k)) ∧ Hid (St w g off l wr))
    case atStart => exact ⟨1, rfl, Nat.le_refl _, by omega, by omega, by
      show Strict _
      have := HN.out
      match l, this with
      | [], h => simp at h; omega
      | x :: r, _ => exact List.pairwise_singleton _ _, S0.out⟩
    case round =>
      clear S0
      obtain ⟨k, rfl, hk1, hkN, hgg, HT, S1⟩ := hrel
      by_cases hlt : k < N
      · obtain ⟨kp, rfl⟩ : ∃ kp, k = kp + 1 := ⟨k - 1, by omega⟩
        obtain ⟨x, hx⟩ : ∃ x, l[kp + 1]? = some x := ⟨l[kp + 1]'(by have := HN.out; omega), List.getElem?_eq_getElem _⟩
        obtain ⟨y, hy⟩ : ∃ y, l[kp]? = some y := ⟨l[kp]'(by have := HN.out; omega), List.getElem?_eq_getElem _⟩
        have hz : l.toArray.size = l.toArray.size := rfl
        have hsz : l.toArray.size = N := by simpa using HN.out.symm
        have hxd : l.toArray[kp + 1]! = x := by have := List.getElem?_eq_some_iff.1 hx; rw [getElem!_pos _ _ (by simpa using this.1)]; simpa using this.2
        have hyd : l.toArray[kp]! = y := by have := List.getElem?_eq_some_iff.1 hy; rw [getElem!_pos _ _ (by simpa using this.1)]; simpa using this.2
        have lj := fun n os => (SWK.cells2 S1.out RR.out rfl (kp + 1) (by omega) x hxd n os).1
        have lj' := fun n os => (SWK.cells2 S1.out RR.out rfl (kp + 1) (by omega) x hxd n os).2
        have lp := fun n os => (SWK.cells2 S1.out RR.out rfl kp (by omega) y hyd n os).1
        have lp' := fun n os => (SWK.cells2 S1.out RR.out rfl kp (by omega) y hyd n os).2
        have HX := Lib.hid hx
        have HY := Lib.hid hy
        have wp : IntKind.i64.wrap (kp : Int) = (kp : Int) := by rw [IntKind.wrap_i64]; omega
        have jz : (kp : Int) + 1 < (N : Int) := by omega
        have jz1 : (kp : Int) < (N : Int) := by omega
        have p0 : (0 : Int) ≤ (kp : Int) + 1 := by omega
        have e0 : ((kp : Int) + 1).toNat = kp + 1 := by omega
        obtain ⟨cv, hcv⟩ : ∃ cv, cv = sameK x y := ⟨_, rfl⟩
        have hcg := fun (n : Nat) (os : Array Obj) => closure_same x y (grow (wr.drewN n) os)
        rw [← hcv] at hcg
        have HCV := Lib.hid hcv
        clear hx hy hxd hyd hcv hz
        cases cv with
        | false =>
          go_wp2_with fail
          go_quiet_grown (first | (go_at_fn 25; refine Calls.grown_of (hcg _ _)))
          have S3 := Lib.hid (S1.out.grown nq osq)
          clear lj lj' lp lp' hcg S1
          generalize grow (wr.drewN nq) osq = wq at S3 ⊢
          go_wp2_with fail
          go_roundg (N - (kp + 1 + 1))
          case measure => omega
          case rel =>
            refine ⟨kp + 1 + 1, by go_num, by omega, by omega, Nat.le_refl _, ?_, S3.out⟩
            have hlt := lt_of_next HS.out HX.out HY.out HCV.out.symm
            show Strict _
            rw [take_snoc HX.out]
            exact (Gath.start HT.out (take_last HY.out)).keep (take_last HY.out) hlt |>.1
        | true =>
          go_wp2_with fail
          go_quiet_grown (first | (go_at_fn 25; refine Calls.grown_of (hcg _ _)))
          have S3 := Lib.hid (S1.out.grown nq osq)
          clear lj lj' lp lp' hcg S1
          generalize grow (wr.drewN nq) osq = wq at S3 ⊢
          go_wp2_with fail
          have ST : Hid (Gath (l.take (kp + 1 + 1)) (l.take (kp + 1))) := by
            show Gath _ _
            rw [take_snoc HX.out]
            exact (Gath.start HT.out (take_last HY.out)).skip (take_last HY.out) (same_of HCV.out.symm)
          clear HX HY HCV HT
          generalize hO : off + (kp + 1) * 2 = o2
          generalize hn2 : N - (kp + 1) = n2
          generalize c - (kp + 1) = c2
          have HO : Hid (o2 = off + (kp + 1) * 2) := by show _ = _; omega
          have hnk : n2 + (kp + 1) = N := by omega
          clear hO hn2
          go_loopg [5, 7] N (fun gg vk vj wr => ∃ (kc k2 : Nat) (out garb : List Lab), vk = .int .i64 (kc : Int) ∧ vj = .int .i64 (k2 : Int) ∧ 1 ≤ k2 ∧ k2 ≤ n2 ∧ 1 ≤ kc ∧ kc ≤ kp + k2 ∧ n2 - k2 ≤ gg ∧ Hid (out.length = kc ∧ out.length + garb.length = kp + k2 ∧ Gath (l.take (kp + 1 + k2)) out) ∧ Hid (St w g off (out ++ garb ++ l.drop (kp + k2)) wr))
          case atStart =>
            have h0 := HN.out
            refine ⟨kp + 1, 1, l.take (kp + 1), [], by go_num, rfl, Nat.le_refl _, by omega, by omega, Nat.le_refl _, by omega, ⟨by rw [List.length_take]; omega, by rw [List.length_take, List.length_nil]; omega, ST.out⟩, ?_⟩
            show St _ _ _ _ _
            rw [List.append_nil, List.take_append_drop]
            exact S3.out
          case round =>
            clear ST S3
            obtain ⟨kc, k2, out, garb, rfl, rfl, hk2, hk2n, hkc, hkck, hgg2, HI, S4⟩ := hrel
            have HL : Hid ((out ++ garb ++ l.drop (kp + k2)).length = N) := by
              obtain ⟨h1, h3, _⟩ := HI.out
              have := HN.out
              show _ = _
              simp
              omega
            by_cases hlt2 : k2 < n2
            · obtain ⟨k2p, rfl⟩ : ∃ k2p, k2 = k2p + 1 := ⟨k2 - 1, by omega⟩
              obtain ⟨x', hx'⟩ : ∃ x', l[kp + 1 + (k2p + 1)]? = some x' := ⟨l[kp + 1 + (k2p + 1)]'(by have := HN.out; omega), List.getElem?_eq_getElem _⟩
              obtain ⟨y', hy'⟩ : ∃ y', l[kp + (k2p + 1)]? = some y' := ⟨l[kp + (k2p + 1)]'(by have := HN.out; omega), List.getElem?_eq_getElem _⟩
              have hdrop : l.drop (kp + (k2p + 1)) = y' :: x' :: l.drop (kp + 1 + (k2p + 1) + 1) := by
                have e1 := List.getElem?_eq_some_iff.1 hy'
                have e2 := List.getElem?_eq_some_iff.1 hx'
                rw [List.drop_eq_getElem_cons e1.1, e1.2, show kp + (k2p + 1) + 1 = kp + 1 + (k2p + 1) by omega, List.drop_eq_getElem_cons e2.1, e2.2]
              obtain ⟨dk, hdk⟩ : ∃ dk, dk = (out ++ garb ++ l.drop (kp + (k2p + 1))).toArray := ⟨_, rfl⟩
              have S5 : Hid (SWK encL 2 w g off dk wr) := by show SWK _ _ _ _ _ _ _; rw [hdk]; exact S4.out
              have hzN : dk.size = N := by rw [hdk]; simpa using HL.out
              have hz : dk.size = l.toArray.size := by rw [hzN]; simpa using HN.out
              have hyd : dk[kp + (k2p + 1)]! = y' := by
                rw [hdk, hdrop]
                exact at_split (by have := HI.out.2.1; rw [List.length_append]; omega)
              have hxd : dk[kp + 1 + (k2p + 1)]! = x' := by
                rw [hdk, hdrop]
                have := at_split (A := out ++ garb ++ [y']) (C := l.drop (kp + 1 + (k2p + 1) + 1)) (x := x') (i := kp + 1 + (k2p + 1)) (by have := HI.out.2.1; simp; omega)
                simpa using this
              have ea : off + (kp + 1 + (k2p + 1)) * 2 = o2 + (k2p + 1) * 2 := by have := HO.out; omega
              have eb : off + (kp + (k2p + 1)) * 2 = o2 + k2p * 2 := by have := HO.out; omega
              have lj : ∀ n os, (grow (wr.drewN n) os).cell? ⟨g, o2 + (k2p + 1) * 2, none⟩ = some (.string x'.1) := fun n os => by have := (SWK.cells2 S5.out RR.out hz (kp + 1 + (k2p + 1)) (by omega) x' hxd n os).1; rwa [ea] at this
              have lj' : ∀ n os, (grow (wr.drewN n) os).cell? ⟨g, o2 + (k2p + 1) * 2 + 1, none⟩ = some (.string x'.2) := fun n os => by have := (SWK.cells2 S5.out RR.out hz (kp + 1 + (k2p + 1)) (by omega) x' hxd n os).2; rwa [ea] at this
              have lp : ∀ n os, (grow (wr.drewN n) os).cell? ⟨g, o2 + k2p * 2, none⟩ = some (.string y'.1) := fun n os => by have := (SWK.cells2 S5.out RR.out hz (kp + (k2p + 1)) (by omega) y' hyd n os).1; rwa [eb] at this
              have lp' : ∀ n os, (grow (wr.drewN n) os).cell? ⟨g, o2 + k2p * 2 + 1, none⟩ = some (.string y'.2) := fun n os => by have := (SWK.cells2 S5.out RR.out hz (kp + (k2p + 1)) (by omega) y' hyd n os).2; rwa [eb] at this
              have HX : Hid (l[kp + 1 + (k2p + 1)]? = some x' ∧ l[kp + (k2p + 1)]? = some y' ∧ l.drop (kp + (k2p + 1)) = y' :: x' :: l.drop (kp + 1 + (k2p + 1) + 1) ∧ dk = (out ++ garb ++ l.drop (kp + (k2p + 1))).toArray ∧ dk[kp + 1 + (k2p + 1)]! = x') := ⟨hx', hy', hdrop, hdk, hxd⟩
              have EA := Lib.hid ea
              have wp : IntKind.i64.wrap (k2p : Int) = (k2p : Int) := by rw [IntKind.wrap_i64]; omega
              have jz : (k2p : Int) + 1 < (n2 : Int) := by omega
              have jz1 : (k2p : Int) < (n2 : Int) := by omega
              have p0 : (0 : Int) ≤ (k2p : Int) + 1 := by omega
              have e0 : ((k2p : Int) + 1).toNat = k2p + 1 := by omega
              obtain ⟨cv, hcv⟩ : ∃ cv, cv = sameK x' y' := ⟨_, rfl⟩
              have hcg := fun (n : Nat) (os : Array Obj) => closure_same x' y' (grow (wr.drewN n) os)
              rw [← hcv] at hcg
              have HCV := Lib.hid hcv
              clear hx' hy' hdrop hdk hxd hyd hcv ea eb
              cases cv with
              | true =>
                go_wp2_with fail
                go_quiet_grown (first | (go_at_fn 25; refine Calls.grown_of (hcg _ _)))
                have S6 := Lib.hid (S5.out.grown nq osq)
                clear lj lj' lp lp' hcg S4 S5
                generalize grow (wr.drewN nq) osq = wq at S6 ⊢
                go_wp2_with fail
                go_roundg (n2 - (k2p + 1 + 1))
                case measure => omega
                case rel =>
                  obtain ⟨q1, q2, q3, q4, q5⟩ := HX.out
                  obtain ⟨h1, h3, h4⟩ := HI.out
                  refine ⟨kc, k2p + 1 + 1, out, garb ++ [y'], rfl, by go_num, by omega, by omega, hkc, by omega, Nat.le_refl _, ⟨h1, by simp; omega, ?_⟩, ?_⟩
                  · rw [show kp + 1 + (k2p + 1 + 1) = kp + 1 + (k2p + 1) + 1 by omega, take_snoc q1]
                    exact h4.skip (by rw [show kp + 1 + (k2p + 1) = kp + (k2p + 1) + 1 by omega]; exact take_last q2) (same_of HCV.out.symm)
                  · have h := S6.out
                    rw [q4, q3] at h
                    show St _ _ _ _ _
                    have e : l.drop (kp + (k2p + 1 + 1)) = x' :: l.drop (kp + 1 + (k2p + 1) + 1) := by
                      have e2 := List.getElem?_eq_some_iff.1 q1
                      rw [show kp + (k2p + 1 + 1) = kp + 1 + (k2p + 1) by omega, List.drop_eq_getElem_cons e2.1, e2.2]
                    rw [e]
                    simpa using h
              | false =>
                go_wp2_with fail
                go_quiet_grown (first | (go_at_fn 25; refine Calls.grown_of (hcg _ _)))
                have S6 := Lib.hid (S5.out.grown nq osq)
                clear lj lj' lp lp' hcg S4 S5
                generalize grow (wr.drewN nq) osq = wq at S6 ⊢
                obtain ⟨⟨v1, g1⟩, ⟨v2, g2⟩, f1, f2, S7⟩ := set_facts S6.out RR.out hz kc (by omega) x'
                have ld := SWK.cells1 S6.out RR.out hz (kp + 1 + (k2p + 1)) (by omega) x' HX.out.2.2.2.2
                rw [EA.out] at ld
                obtain ⟨ld1, ld2⟩ := ld
                have hkN2 : kc < N := by omega
                clear S6
                go_wp2_with fail
                clear g1 g2 f1 f2 ld1 ld2
                generalize (wq.setCell ⟨g, off + kc * 2, none⟩ (.string x'.1)).setCell ⟨g, off + kc * 2 + 1, none⟩ (.string x'.2) = wz at S7 ⊢
                go_roundg (n2 - (k2p + 1 + 1))
                case measure => omega
                case rel =>
                  obtain ⟨q1, q2, q3, q4, q5⟩ := HX.out
                  obtain ⟨h1, h3, h4⟩ := HI.out
                  obtain ⟨z0, garb', hgz⟩ : ∃ z0 garb', garb ++ [y'] = z0 :: garb' := by
                    cases garb with
                    | nil => exact ⟨y', [], rfl⟩
                    | cons z0 r => exact ⟨z0, r ++ [y'], rfl⟩
                  have hgl := congrArg List.length hgz
                  simp at hgl
                  refine ⟨kc + 1, k2p + 1 + 1, out ++ [x'], garb', by go_num, by go_num, by omega, by omega, by omega, by omega, Nat.le_refl _, ⟨by simp; omega, by simp; omega, ?_⟩, ?_⟩
                  · rw [show kp + 1 + (k2p + 1 + 1) = kp + 1 + (k2p + 1) + 1 by omega, take_snoc q1]
                    exact h4.keep (by rw [show kp + 1 + (k2p + 1) = kp + (k2p + 1) + 1 by omega]; exact take_last q2) (lt_of_next HS.out (k := kp + (k2p + 1)) (by rw [show kp + (k2p + 1) + 1 = kp + 1 + (k2p + 1) by omega]; exact q1) q2 HCV.out.symm)
                  · have h := S7.out
                    have e : l.drop (kp + (k2p + 1 + 1)) = x' :: l.drop (kp + 1 + (k2p + 1) + 1) := by
                      have e2 := List.getElem?_eq_some_iff.1 q1
                      rw [show kp + (k2p + 1 + 1) = kp + 1 + (k2p + 1) by omega, List.drop_eq_getElem_cons e2.1, e2.2]
                    have e3 : out ++ garb ++ l.drop (kp + (k2p + 1)) = out ++ z0 :: (garb' ++ x' :: l.drop (kp + 1 + (k2p + 1) + 1)) := by
                      rw [q3]
                      have : out ++ garb ++ y' :: x' :: l.drop (kp + 1 + (k2p + 1) + 1) = out ++ ((garb ++ [y']) ++ x' :: l.drop (kp + 1 + (k2p + 1) + 1)) := by simp
                      rw [this, hgz]
                      simp
                    rw [q4, e3, set_mid h1.symm] at h
                    show St _ _ _ _ _
                    rw [e]
                    simpa using h
            · obtain rfl : k2 = n2 := by omega
              have hkN2 : kc < N := by omega
              have RH := S4.out.holds RR.out.hblk RR.out.hH (by have := HL.out; have := HN.out; simp at *; omega)
              have hcl : ∀ ty, (Builtin.clear_ #[22] ty #[.slice (some ⟨g, off + kc * 2, none⟩) (N - kc) (c - kc)]).run Try.prog wr = .ok (.tuple #[]) (wr.setCells g (off + kc * 2) (List.replicate ((N - kc) * 2) (.string ByteArray.empty))) := fun ty => by
                have hHt : ∀ t, t < N * 2 → wr.cell? ⟨g, off + t, none⟩ ≠ none ∧ wr.frozen? ⟨g, off + t, none⟩ = false := by
                  intro t ht
                  have := RH t (by rw [size_flatK]; have := HL.out; simp at this ⊢; omega)
                  exact ⟨by rw [this.1]; simp, this.2⟩
                refine run_clear_labs wr ty g (off + kc * 2) (N - kc) (c - kc) (by omega) (fun j hj => ?_) (fun j hj => ?_)
                · have := (hHt (kc * 2 + j) (by omega)).1
                  rw [Nat.add_assoc]
                  exact Option.isSome_iff_ne_none.2 this
                · have := (hHt (kc * 2 + j) (by omega)).2
                  rw [Nat.add_assoc]
                  exact this
              have RHH := Lib.hid RH
              clear RH
              go_wp2
              go_ret
              obtain ⟨h1, h3, h4, h5, _⟩ := HI.out
              have e9 : l.take (kp + 1 + k2) = l := by rw [List.take_of_length_le]; have := HN.out; omega
              rw [e9] at h5
              refine ⟨out, c, by rw [h1]; rfl, h4, h5, ?_, below_setCells (Nat.le_refl _) _ _ _ _ (below_sort (Nat.le_refl _) (Nat.le_of_lt HG.out) S4.out)⟩
              have hLs := labs_sort HH.out HG.out (by rw [HL.out, HN.out]) S4.out
              intro j x hx
              have hj := (List.getElem?_eq_some_iff.1 hx).1
              obtain ⟨b', o', e, r1, r2, r3⟩ := hLs j x (by rw [List.append_assoc, List.getElem?_append_left hj]; exact hx)
              injection e with e
              injection e with e1 e2
              subst e1 e2
              refine ⟨g, off, rfl, by simpa using r1, ?_, ?_⟩
              · rw [World.cell?_setCells_out _ _ _ _ _ (fun _ _ => .inl (by show off + j * 2 < off + kc * 2; omega))]; exact r2
              · rw [World.cell?_setCells_out _ _ _ _ _ (fun _ _ => .inl (by show off + j * 2 + 1 < off + kc * 2; omega))]; exact r3
      · obtain rfl : k = N := by omega
        go_wp2
        go_ret
        refine ⟨l, c, by rw [HN.out]; rfl, ?_, Same1.refl _, labs_sort HH.out HG.out rfl S1.out, below_sort (Nat.le_refl _) (Nat.le_of_lt HG.out) S1.out⟩
        have := HT.out
        rw [HN.out, List.take_length] at this
        exact this
end Go.Proofs.Ytmdpkblkbokhoaa
