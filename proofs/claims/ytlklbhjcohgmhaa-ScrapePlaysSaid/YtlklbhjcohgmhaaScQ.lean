/- The keys of a map of rings are told. -/
import Derived.Test.YtlklbhjcohgmhaaScP
import Derived.Test.YtlklbhjcohgmhaaScE
namespace Go.Proofs.Ytlklbhjcohgmhaa
open Go.RowKit Go.Shelf Go.Lib Go.Sort
open Go.Maps (Keyed IsMap Tidy)
open Go.Joins (cell_of_block unfrozen_of_block block_setCell)
set_option linter.unusedVariables false
set_option linter.unusedSimpArgs false
set_option maxRecDepth 20000

theorem keys_any (w : World) (mb : Nat) : Calls Try.prog 26 #[.map (some mb)] w fun e w' => e = .returned (.func (.func 42) #[] #[.pointer (some ⟨w.heap.size, 0, none⟩)]) ∧ w' = w.alloc (.cells #[.map (some mb)] MS) := by
  have hmf : ∀ (fn : Fn) (first cap : Array Value) (w : World), (Instr.makeFunc fn first cap).run Try.prog w = .ok (.func fn first cap) w := fun _ _ _ _ => rfl
  go_enter Try.func26, Try.ntmps26
  go_wp2
  go_ret
  exact ⟨rfl, rfl⟩
theorem ranges_keep {w w' : World} {mb r n : Nat} {D : DataW Value} {left : Lit → Bool} {cnt : Nat} (h : w.ranges Try.prog KS hS mb r n D left cnt) (h1 : w'.heap[mb]? = w.heap[mb]?) (h2 : w'.heap[r]? = w.heap[r]?) : w'.ranges Try.prog KS hS mb r n D left cnt := by
  obtain ⟨es, clock, since, seen, c0, hb, F, hs, hD, hr, rest⟩ := h
  exact ⟨es, clock, since, seen, c0, h1.trans hb, F, hs, hD, h2.trans hr, rest⟩
theorem ranges_iter {w : World} {mb r n : Nat} {D : DataW Value} {left : Lit → Bool} {cnt : Nat} (h : w.ranges Try.prog KS hS mb r n D left cnt) : ∃ o : Obj, w.heap[r]? = some o ∧ o.isCells = false := by
  obtain ⟨es, clock, since, seen, c0, hb, F, hs, hD, hr, rest⟩ := h
  exact ⟨_, hr, rfl⟩
/-- What has come while keys are gone through. -/
structure Came (E : List En) (left : Lit → Bool) (pre : List Sr) : Prop where
  iff : ∀ e ∈ E, (e.s ∈ pre ↔ left (ks e.s) = false)
  nodup : pre.Nodup
  sub : ∀ s ∈ pre, ∃ e ∈ E, e.s = s
theorem Came.start {E : List En} {left : Lit → Bool} (h : ∀ e ∈ E, left (ks e.s) = true) : Came E left [] :=
  ⟨fun e he => by rw [h e he]; simp, List.nodup_nil, by simp⟩
theorem Came.next {E : List En} {left : Lit → Bool} {pre : List Sr} (h : Came E left pre) (ok : ∀ e ∈ E, OkS e.s) {e : En} (he : e ∈ E) (hl : left (ks e.s) = true) : Came E (fun z => left z && !z.sameKey (ks e.s)) (pre ++ [e.s]) ∧ e.s ∉ pre := by
  have hn : e.s ∉ pre := fun hm => by rw [(h.iff e he).1 hm] at hl; cases hl
  refine ⟨⟨fun x hx => ?_, List.nodup_append.2 ⟨h.nodup, by simp, fun a ha b hb => ?_⟩, fun s hs => ?_⟩, hn⟩
  · have hk : (ks x.s).sameKey (ks e.s) = decide (x.s = e.s) := by
      rw [Bool.eq_iff_iff, WideAt.sameKey_iff (isKeyS _), decide_eq_true_eq]
      exact ⟨fun h => ks_inj (ok x hx) (ok e he) h, fun h => by rw [h]⟩
    simp only [hk, List.mem_append, List.mem_singleton, Bool.and_eq_false_iff, Bool.not_eq_false', decide_eq_true_eq]
    exact or_congr (h.iff x hx) Iff.rfl
  · rw [List.mem_singleton] at hb
    subst hb
    exact fun e => hn (e ▸ ha)
  · rcases List.mem_append.1 hs with hs | hs
    · exact h.sub s hs
    · rw [List.mem_singleton] at hs
      exact ⟨e, he, hs.symm⟩
theorem Came.fin {E : List En} {left : Lit → Bool} {pre : List Sr} (h : Came E left pre) (ha : ApartS E) (hl : ∀ z, left z = false) : pre.Perm (E.map (·.s)) := by
  have hn : (E.map (·.s)).Nodup := List.pairwise_map.2 ha
  refine (List.perm_ext_iff_of_nodup h.nodup hn).2 (fun s => ⟨fun hs => ?_, fun hs => ?_⟩)
  · obtain ⟨e, he, rfl⟩ := h.sub s hs
    exact List.mem_map.2 ⟨e, he, rfl⟩
  · obtain ⟨e, he, rfl⟩ := List.mem_map.1 hs
    exact (h.iff e he).2 (hl _)

set_option maxHeartbeats 4000000 in
theorem keys_tells (n base : Nat) (w : World) (mb b : Nat) (E : List En) (H : MapS w mb E) (h1 : w.cell? ⟨b, 0, none⟩ = some (.map (some mb))) (hm : mb < base) (hbase : base ≤ w.heap.size) :
    TellsD n Try.prog 42 #[.pointer (some ⟨b, 0, none⟩)] (fun s : Sr => #[ser s]) (fun pre s _ => pre.length < E.length) (fun xs => xs.Perm (E.map (·.s))) (fun _ => True) base w := fun l' J Jx W hW bJ hY h0 => by
  have c1 : W.cell? ⟨b, 0, none⟩ = some (.map (some mb)) := (hW.cell (p := ⟨b, 0, none⟩) (World.block_lt_of_cell? _ _ h1)).trans h1
  have HM := H.keep (hW.block mb H.lt)
  obtain ⟨D, own, hrd⟩ := HM
  obtain ⟨m, hmE⟩ : ∃ m, m = E.length := ⟨_, rfl⟩
  rw [← hmE] at own
  have HMAX : Maps.size D = m := by rw [hrd.size, hmE]
  have OW := Lib.hid own
  obtain ⟨R, hR⟩ : ∃ R, R = W.heap.size := ⟨_, rfl⟩
  have HJ := Lib.hid (And.intro h0 (And.intro bJ hY))
  have HH := Lib.hid (And.intro hrd (And.intro hmE (And.intro hR (And.intro hm (show base ≤ W.heap.size by have := hW.size; omega)))))
  clear h0 hY hW h1 bJ own hrd hmE hR hm hbase H
  refine callsIn_wide.2 ?_
  show Calls Try.prog 42 #[.func (.yield l') #[] #[], .pointer (some ⟨b, 0, none⟩)] W _
  go_enter Try.func42, Try.ntmps42
  go_wp2_with (first
    | (at_range; refine wpList_range_own _ rfl _ MS rfl KS PR lawS mapTS hS mb m D rfl OW.out ?_; intro w1 hrg1 hg1 hs1)
    | go_in)
  try go_frame
  rw [← HH.out.2.2.1] at hrg1 ⊢
  rw [HMAX] at hrg1
  obtain ⟨C, hC⟩ : ∃ C, C = w1.heap.size := ⟨_, rfl⟩
  have W1 : Hid (Below W.heap.size W w1 ∧ C = W.heap.size + 1 ∧ C = w1.heap.size) := ⟨⟨hg1.os, hg1.tape, hg1.output, hg1.size, fun g hg => hg1.block g hg (by simp)⟩, by rw [hC]; exact hs1, hC⟩
  have R0 := Lib.hid hrg1
  clear hrg1 hg1 hs1 OW HMAX c1 hC
  go_loopg [] m (fun g wr => ∃ (left : Lit → Bool) (cnt : Nat) (pre : List Sr), cnt ≤ g ∧ pre.length + cnt ≤ m ∧ wr.ranges Try.prog KS hS mb R m D left cnt ∧ Hid (J C pre wr ∧ Below base w1 wr ∧ Came E left pre ∧ ∀ z, left z = true → Maps.has D z = true))
  case atStart =>
    obtain ⟨hrd, hmE, hR, hm, hbase⟩ := HH.out
    refine ⟨_, m, [], Nat.le_refl _, by simp, R0.out, ?_, Below.refl _ _, Came.start (fun e he => by rw [hrd.has _ (hrd.ok e he), any_some he]), fun z hz => hz⟩
    exact HJ.out.2.1 _ _ W w1 [] (HJ.out.1 _ (by have := W1.out.2.1; omega)) (Tch.ofBelow W1.out.1 []) (fun g hg => by cases hg)
  case round =>
    obtain ⟨left, cnt, pre, hcnt, hpc, hrg, HX⟩ := hrel
    go_wp2_with (first
      | (at_next; refine wpList_next_ranges _ rfl _ rfl KS lawS hS (fun v : Value => v) (fun v : Value => v) (fun key _ _ => ⟨key, rfl⟩) (fun v _ _ => ⟨v, rfl⟩) mb R m D _ _ rfl hrg ?_ ?_)
      | go_in)
    · intro hc0 hl0
      obtain ⟨hj, hst, hcm, _⟩ := HX.out
      have FIN : Hid (∃ C, ∃ xs : List Sr, W.heap.size ≤ C ∧ xs.Perm (E.map (·.s)) ∧ J C xs wr) := ⟨C, pre, by have := W1.out.2.1; omega, hcm.fin HH.out.1.apart hl0, hj⟩
      clear hj hst hcm hrg hl0 HX R0 hc0
      go_wp2
      go_end0
      exact ⟨⟨_, rfl⟩, .inl FIN.out⟩
    · intro x cv klit y yp w2 cnt1 hkey hlx hv hat hrg2 hlt hg2 hs2 hen
      obtain ⟨hj, hst, hcm, hsub⟩ := HX.out
      obtain ⟨hrd, hmE, hR, hm, hbase⟩ := HH.out
      obtain ⟨bW, hC1, hC2⟩ := W1.out
      have hkey' : keyOf Try.prog KS x = some klit := hkey
      obtain ⟨s, hs, rfl, rfl⟩ := ks_inv hkey'
      have hany : E.any (hitS s) = true := by rw [← hrd.has s hs]; exact hsub _ hlx
      obtain ⟨e, he, hes⟩ := List.any_eq_true.1 hany
      have hes' := hitS_iff.1 hes
      obtain ⟨hcm2, hnp⟩ := hcm.next hrd.ok he (by rw [hes']; exact hlx)
      rw [hes'] at hcm2 hnp
      have hen' : (Instr.entry (.pointer (some ⟨R, 0, none⟩))).run Try.prog w2 = .ok (.tuple #[.agg #[.string s.1, .string s.2], cv]) w2 := hen
      have hzr : C ≤ wr.heap.size := by have := hst.size; omega
      have t2 : Tch [R] wr w2 := Tch.ofGrown hg2 (fun g e => .inl (by simp at e; simp [e]))
      have it := ranges_iter hrg
      have hj2 : J C pre w2 := HJ.out.2.1 _ _ wr w2 [R] hj t2 (fun g hg => by rw [List.mem_singleton] at hg; subst hg; exact ⟨by omega, it⟩)
      obtain ⟨A, hA⟩ : ∃ A, A = w2.heap.size := ⟨_, rfl⟩
      obtain ⟨w3, hw3⟩ : ∃ w3, w3 = w2.alloc (.cells #[.string s.1, .string s.2] KS) := ⟨_, rfl⟩
      have b3 : Below w2.heap.size w2 w3 := hw3 ▸ (Below.refl _ _).alloc (Nat.le_refl _) _
      have k3 : w3.heap[A]? = some (.cells #[.string s.1, .string s.2] KS (0, 0)) := by rw [hw3, hA]; exact heap_alloc_new w2 _
      have d0 : w3.cell? ⟨A, 0, none⟩ = some (.string s.1) := cell_of_block k3 0
      have d1 : w3.cell? ⟨A, 1, none⟩ = some (.string s.2) := cell_of_block k3 1
      have hj3 : J C pre w3 := HJ.out.2.1 _ _ w2 w3 [] hj2 (Tch.ofBelow b3 []) (fun g hg => by cases hg)
      have hz2 : w2.heap.size = wr.heap.size := hs2
      have hC3 : C ≤ w3.heap.size := by have := b3.size; omega
      obtain ⟨fn, tmps, assign, body, hy, hRd⟩ := HJ.out.2.2 C pre s w3 (by omega) hC3 hj3 (show pre.length < E.length by omega)
      have RG : Hid (∀ W', StaysD base W.heap.size C w3 W' → W'.ranges Try.prog KS hS mb R m D (fun z => left z && !z.sameKey (ks s)) cnt1) := fun W' st => by
        have hr3 : w3.ranges Try.prog KS hS mb R m D (fun z => left z && !z.sameKey (ks s)) cnt1 := by rw [hw3]; exact hrg2.alloc _
        have e1 := hr3.owns.lt
        exact ranges_keep hr3 (st.fx.block mb hm) (st.rest R (by omega) (by omega) hr3.lt)
      have st13 : Hid (∀ W', StaysD base W.heap.size C w3 W' → J C (pre ++ [s]) W' → J C (pre ++ [s]) W' ∧ Below base w1 W' ∧ Came E (fun z => left z && !z.sameKey (ks s)) (pre ++ [s]) ∧ ∀ z, (left z && !z.sameKey (ks s)) = true → Maps.has D z = true) := fun W' st hjj => by
        have hsz : w1.heap.size ≤ wr.heap.size := hst.size
        exact ⟨hjj, hst.trans ((t2.below (fun g hg => by rw [List.mem_singleton] at hg; omega) (by omega)).trans ((b3.mono (by omega)).trans st.fx)), hcm2, fun z hz => hsub z (by rw [Bool.and_eq_true] at hz; exact hz.1)⟩
      have HRD := Lib.hid hRd
      have HW3 : Hid (w2.alloc (.cells #[.string s.1, .string s.2] KS) = w3 ∧ w2.heap.size = A) := ⟨hw3.symm, hA.symm⟩
      have hlt' : cnt1 < cnt := hlt
      unfold ser at hy
      clear hj hst hcm hsub hrd hmE hR hm hbase bW hC1 hC2 hkey hkey' hs hany hes hes' he hcm2 hnp hen hzr t2 it hj2 hw3 hA b3 k3 hj3 hz2 hC3 hRd hg2 hs2 hrg2 hrg hlt HX hat hv hlx
      go_upto_region 3 with fail
      rw [HW3.out.1, HW3.out.2]
      refine (wpIn_wide (n := n)).1 ?_
      gi_wp2_with fail
      refine ⟨fun e => (nomatch e), HRD.out.mono ?_⟩
      rintro e W' (⟨rfl, hJ', st'⟩ | ⟨rfl, hJx'⟩)
      · have RN := Lib.hid (st13.out W' st' hJ')
        have RG' := Lib.hid (RG.out W' st')
        clear hJ' st' HRD RG st13 d0 d1
        gi_wp2
        go_wp2
        go_roundg cnt1
        case measure => omega
        case rel => exact ⟨_, cnt1, pre ++ [s], Nat.le_refl _, by simp; omega, RG'.out, RN⟩
      · have RN : Hid (∃ C pre, True ∧ Jx C pre W') := ⟨_, _, trivial, hJx'⟩
        clear hJx' HRD RG st13 d0 d1
        gi_wp2
        go_wp2
        (try simp only [Exit.inBlock, Exit.then]); refine bodyPost_ret (results_none rfl _ _ _) rfl ?_
        exact ⟨⟨_, rfl⟩, .inr RN.out⟩
end Go.Proofs.Ytlklbhjcohgmhaa
