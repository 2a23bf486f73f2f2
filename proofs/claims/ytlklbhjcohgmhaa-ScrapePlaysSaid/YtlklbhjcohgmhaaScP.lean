/- A row of series of the call's own is sorted. -/
import Derived.Test.YtlklbhjcohgmhaaScK
namespace Go.Proofs.Ytlklbhjcohgmhaa
open Go.RowKit Go.Shelf Go.Lib Go.Sort
open Go.Joins (cell_of_block unfrozen_of_block block_setCell)
set_option linter.unusedVariables false
set_option linter.unusedSimpArgs false
set_option maxRecDepth 20000

abbrev fvS : Value := .func (.func 27) #[] #[]
theorem enters_allS : ∀ args w, (callFunc 27 args).run Try.prog w = .ok (.enter 27 args) w := enters_of Try.func27 (by kernel_rfl) rfl
theorem flat_KS (l : List Sr) : flatK enSr 2 l.toArray = (flS l).toArray := by
  refine ext_get! (by simp [fl_lenS]) fun t ht => ?_
  have ht' : t < l.length * 2 := by simpa using ht
  rw [get_flatK _ _ _ t (by simpa using ht')]
  have hlt : t / 2 < l.length := by omega
  obtain ⟨x, hx⟩ : ∃ x, l[t / 2]? = some x := ⟨l[t / 2], List.getElem?_eq_getElem hlt⟩
  have e2 : l.toArray[t / 2]! = x := by
    have hj := List.getElem?_eq_some_iff.1 hx
    rw [getElem!_pos _ _ (by simpa using hj.1)]
    simpa using hj.2
  have e3 := fl_atS l (t / 2) x hx
  have hlf : t < (flS l).length := by rw [fl_lenS]; exact ht'
  rw [e2, getElem!_pos (flS l).toArray t (by simpa using hlf)]
  have hm := Nat.mod_lt t (show 0 < 2 by omega)
  rw [getElem!_pos (enSr x) (t % 2) (by rw [lnSr]; exact hm)]
  have h4 : (flS l)[t]? = some ((enSr x)[t % 2]'(by rw [lnSr]; exact hm)) := by
    have hc : t % 2 = 0 ∨ t % 2 = 1 := by omega
    rcases hc with h0 | h0
    · have ht2 : t = t / 2 * 2 := by omega
      have e4 := e3.1
      rw [← ht2] at e4
      rw [e4]
      simp [h0, enSr]
    · have ht2 : t = t / 2 * 2 + 1 := by omega
      have e4 := e3.2
      rw [← ht2] at e4
      rw [e4]
      simp [h0, enSr]
  rw [List.getElem?_eq_getElem hlf] at h4
  simpa using (Option.some.inj h4).symm
theorem holdsS {w : World} {N g c : Nat} {l : List Sr} (h : w.ownsRow N KS 2 (.slice (some ⟨g, 0, none⟩) l.length c) l.length (flS l)) : HoldsK enSr 2 w g 0 l.toArray ∧ g < w.heap.size ∧ N ≤ g := by
  obtain ⟨h0, h⟩ := h
  rcases h with ⟨e, _⟩ | ⟨g', c', cur, e, hb, hg, hc, hm, hsz, htk⟩
  · cases e
  · simp only [Value.slice.injEq, Option.some.injEq, Addr.mk.injEq, and_true, true_and] at e
    obtain ⟨rfl, rfl⟩ := e
    refine ⟨?_, (Array.getElem?_eq_some_iff.1 hg).1, hb⟩
    unfold HoldsK
    rw [flat_KS]
    intro t ht
    have ht' : t < (flS l).length := by simpa using ht
    have e : cur.toList[t]? = some (flS l)[t] := by
      have h2 : (cur.toList.take (l.length * 2))[t]? = some (flS l)[t] := by rw [htk, List.getElem?_eq_getElem ht']
      rw [List.getElem?_take_of_lt (by rw [← fl_lenS]; exact ht')] at h2
      exact h2
    refine ⟨?_, by simp [World.frozen?, hg]⟩
    rw [Nat.zero_add, getElem!_pos _ _ (by simpa using ht')]
    simp only [World.cell?, hg, Option.isSome_none, Bool.false_eq_true, if_false]
    rw [← Array.getElem?_toList, e]
    simp
theorem tch_sortS {w W : World} {g off : Nat} {d : Array Sr} (h : SWK enSr 2 w g off d W) : Tch [g] w W := by
  obtain ⟨n, os, rfl⟩ := h
  refine ⟨rfl, rfl, rfl, by simp [sortWorldK, putRowK, putRow, mapBlock, Sort.ahead], fun k hk hm => ?_⟩
  unfold sortWorldK
  rw [heap_grow_old _ _ (by simp [putRowK, putRow, mapBlock, Sort.ahead]; omega)]
  have : g ≠ k := by simp at hm; omega
  simp [putRowK, putRow, mapBlock, Sort.ahead, Array.getElem?_modify, this]
/-- A row of series that lies there. -/
def RowS (W : World) (B : Nat) (q : Option Addr) (l : List Sr) : Prop := ∀ i x, l[i]? = some x → ∃ g : Nat, q = some ⟨g, 0, none⟩ ∧ B ≤ g ∧ g < W.heap.size ∧ W.cell? ⟨g, i * 2, none⟩ = some (.string x.1) ∧ W.cell? ⟨g, i * 2 + 1, none⟩ = some (.string x.2)
theorem rowS_sort {w W : World} {B g : Nat} {l s : List Sr} (hH : HoldsK enSr 2 w g 0 l.toArray) (hg : g < w.heap.size) (hB : B ≤ g) (hs : s.length = l.length) (h : SWK enSr 2 w g 0 s.toArray W) : RowS W B (some ⟨g, 0, none⟩) s := by
  have H := h.holds hg hH (by simpa using hs)
  refine fun i x hx => ⟨g, rfl, hB, h.lt hg, ?_⟩
  have hj := List.getElem?_eq_some_iff.1 hx
  have e : s.toArray[i]! = x := by rw [getElem!_pos _ _ (by simpa using hj.1)]; simpa using hj.2
  have c0 := (HoldsK.cell H (i := i) (by simpa using hj.1) (c := 0) (by omega)).1
  have c1 := (HoldsK.cell H (i := i) (by simpa using hj.1) (c := 1) (by omega)).1
  rw [e, Nat.zero_add] at c0 c1
  exact ⟨c0, c1⟩
theorem RowS.gr {W W' : World} {B : Nat} {q : Option Addr} {l : List Sr} (h : RowS W B q l) (b : Below W.heap.size W W') : RowS W' B q l := fun i x hx => by
  obtain ⟨g, h1, h2, h3, h4, h5⟩ := h i x hx
  exact ⟨g, h1, h2, by have := b.size; omega, (b.cell (p := ⟨g, i * 2, none⟩) h3).trans h4, (b.cell (p := ⟨g, i * 2 + 1, none⟩) h3).trans h5⟩

set_option maxHeartbeats 2000000 in
theorem ins_noneS (fv : Value) (w : World) : Calls Try.prog 59 #[.slice none 0 0, .int .i64 0, .int .i64 0, fv] w fun e w' => e = .returned (.tuple #[]) ∧ w = w' := by
  go_enter Try.func59, Try.ntmps59
  go_wp2
  refine wp_loop_rounds 1 ?_
  rw [rounds_succ]
  go_wp2
  go_end0
  exact ⟨rfl, rfl⟩
set_option maxHeartbeats 2000000 in
theorem pdq_noneS (lim : Int) (fv : Value) (w : World) : Calls Try.prog 51 #[.slice none 0 0, .int .i64 0, .int .i64 0, .int .i64 lim, fv] w fun e w' => e = .returned (.tuple #[]) ∧ w = w' := by
  have C := Lib.hid (fun W => ins_noneS fv W)
  go_enter Try.func51, Try.ntmps51
  go_wp2
  refine wp_loop_rounds 1 ?_
  rw [rounds_succ]
  go_wp2_with fail
  refine (C.out _).mono ?_
  rintro e w' ⟨rfl, rfl⟩
  go_wp2
  (try simp only [Exit.inBlock, Exit.then]); refine bodyPost_ret (results_none rfl _ _ _) rfl ?_
  exact ⟨rfl, rfl⟩
theorem len_zeroS (W : World) : Calls Try.prog 52 #[.int .u64 0] W fun e w' => e = .returned (.int .i64 0) ∧ W = w' :=
  (Any.bits_Len (SlLaysF0.n15.bits (P := Try.prog) (ρ := sh_sortS_ren) { sh_sortS with }) 0 W (by omega) (by omega)).mono fun e w' h => ⟨h.1, h.2.symm⟩
set_option maxHeartbeats 2000000 in
theorem sort_noneS (fv : Value) (w : World) : Calls Try.prog 41 #[.slice none 0 0, fv] w fun e w' => e = .returned (.tuple #[]) ∧ w = w' := by
  have C1 := Lib.hid (fun W => len_zeroS W)
  have C2 := Lib.hid (fun lim W => pdq_noneS lim fv W)
  go_enter Try.func41, Try.ntmps41
  go_wp2_with fail
  refine (C1.out _).mono ?_
  rintro e w' ⟨rfl, rfl⟩
  go_wp2_with fail
  refine (C2.out _ _).mono ?_
  rintro e w' ⟨rfl, rfl⟩
  go_wp2
  go_end0
  exact ⟨rfl, rfl⟩
theorem own_nilS {w : World} {N n c : Nat} {xs : List Value} {q : Option Addr} (h : w.ownsRow N KS 2 (.slice q n c) n xs) : (q = none ∧ c = 0 ∧ n = 0) ∨ ∃ g, q = some ⟨g, 0, none⟩ := by
  rcases h.2 with ⟨e, h0⟩ | ⟨g, cap, cur, e, _⟩
  · cases e
    exact .inl ⟨rfl, rfl, rfl⟩
  · cases e
    exact .inr ⟨g, rfl⟩
/-- slices.SortFunc at a row of series of the call's own. -/
theorem sortS_any (w : World) (N : Nat) (q : Option Addr) (c : Nat) (l : List Sr) (h : w.ownsRow N KS 2 (.slice q l.length c) l.length (flS l)) (hN : N ≤ w.heap.size) (hl : l.length ≤ 1000000) :
    Calls Try.prog 41 #[.slice q l.length c, fvS] w fun e w' => e = .returned (.tuple #[]) ∧ Below N w w' ∧ ∃ s : List Sr, s.Perm l ∧ s.Pairwise (fun a b => risesS b a = false) ∧ RowS w' N q s := by
  rcases own_nilS h with ⟨rfl, rfl, h0⟩ | ⟨g, rfl⟩
  · have hcl : l = [] := List.eq_nil_of_length_eq_zero h0
    subst hcl
    exact (sort_noneS fvS w).mono fun e w' hh => ⟨hh.1, hh.2 ▸ Below.refl _ _, [], List.Perm.refl _, List.Pairwise.nil, fun i x hx => by simp at hx⟩
  · obtain ⟨hH, hg, hNg⟩ := holdsS h
    have C := AnyQ.slices_SortFunc sh_sortS 2 Try.isAgg33 Try.sizeOf33 enSr lnSr onSr cfS swoS 27 #[] g 0 c l.toArray w enters_allS (fun _ _ _ _ x y => closureS x y _) hH hg (by simp; omega)
    have C' : Calls Try.prog 41 #[.slice (some ⟨g, 0, none⟩) l.toArray.size c, fvS] w fun e w' =>
      e = .returned (.tuple #[]) ∧ ∃ d' n os, PermIn 0 l.toArray.size l.toArray d' ∧ SortedIn (ltOf cfS) 0 l.toArray.size d' ∧ w' = sortWorldK enSr 2 w g 0 n d' os := C
    rw [List.size_toArray] at C'
    refine C'.mono fun e w' hh => ?_
    obtain ⟨he, d', n, os, hp, hs, hw⟩ := hh
    have hk : SWK enSr 2 w g 0 d' w' := ⟨n, os, hw⟩
    have hsz : d'.size = l.length := by rw [hp.1]; simp
    have hperm : d'.toList.Perm l := by
      have := hp.2.2
      rw [show d'.extract 0 l.length = d' by rw [← hsz]; simp, show l.toArray.extract 0 l.length = l.toArray by rw [← List.size_toArray]; simp] at this
      simpa using this
    refine ⟨he, (tch_sortS hk).below (fun k hk => by rw [List.mem_singleton] at hk; omega) hN, d'.toList, hperm, ?_, ?_⟩
    · rw [List.pairwise_iff_getElem]
      intro i j hi hj hij
      have hj' : j < d'.size := by simpa using hj
      have hi' : i < d'.size := by simpa using hi
      have := hs i j (Nat.zero_le _) hij (by omega)
      rw [getElem!_pos d' j hj', getElem!_pos d' i hi'] at this
      have t2 : risesS d'[j] d'[i] = false := this
      simpa using t2
    · exact rowS_sort hH hg hNg (by simpa using hsz) (by simpa using hk)
end Go.Proofs.Ytlklbhjcohgmhaa
