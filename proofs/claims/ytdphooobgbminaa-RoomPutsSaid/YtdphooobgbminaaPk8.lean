/- Layer 17 (room): are objects few, little, and may they be, each kind and name once (the law's Few, of any row). -/
import Derived.Test.YtdphooobgbminaaObSub
import Derived.Test.YtdphooobgbminaaPk7
import Derived.Deep.LoopGhost
import Derived.Deep.QuietTactic
import Derived.BigQuiet
import Derived.Test.YtdphooobgbminaaPkRmL
import Derived.Laws.StructEq
import Derived.Below
import Derived.ChangeSame
import Derived.Carry
import Derived.Test.YtdphooobgbminaaRows
import Derived.ProofKit
import Derived.OpenShut
namespace Go.Proofs.Ytdphooobgbminaa.Rm
open Go.RowKit Go.Shelf Go.Lib Go.Sort Go.Deep
open Go.Joins (cell_of_block unfrozen_of_block block_setCell)
open Go.Proofs.Ytdphooobgbminaa.Ow
set_option linter.unusedVariables false
set_option linter.unusedSimpArgs false
set_option maxRecDepth 20000

def unlike (a b : Ob) : Prop := ¬ (a.kind = b.kind ∧ a.name = b.name)
structure FewP (L : List Ob) : Prop where
  each : ∀ o ∈ L, fewB o = true ∧ rgtE o = 0
  un : L.Pairwise unlike
theorem FewP.nil : FewP [] := ⟨by simp, List.Pairwise.nil⟩
theorem FewP.more {L : List Ob} {o : Ob} (h : FewP L) (h1 : fewB o = true) (h2 : rgtE o = 0) (h3 : ∀ x ∈ L, unlike x o) : FewP (L ++ [o]) := by
  refine ⟨fun x hx => ?_, List.pairwise_append.2 ⟨h.un, List.pairwise_singleton _ _, fun a ha b hb => ?_⟩⟩
  · rcases List.mem_append.1 hx with hx | hx
    · exact h.each x hx
    · rw [List.mem_singleton] at hx
      subst hx
      exact ⟨h1, h2⟩
  · rw [List.mem_singleton] at hb
    subst hb
    exact h3 a ha
theorem rangeK {W w : World} {b off : Nat} {x : Obv} (h : W.rangeAt b off (encOb x)) (hb : Below W.heap.size W w) (hbl : b < W.heap.size) : w.rangeAt b off (encOb x) := fun j v hv => (hb.cell (p := ⟨b, off + j, none⟩) hbl).trans (h j v hv)

theorem by_inj' {a b : ByteArray} (h : a.toList = b.toList) : a = b := by
  have e1 := Lib.toList_data a
  have e2 := Lib.toList_data b
  rw [e1, e2] at h
  exact ByteArray.ext (Array.toList_inj.1 h)
set_option maxHeartbeats 8000000 in
theorem rm_few (W w : World) (low : Below W.heap.size W w) (q : Option Addr) (c : Nat) (l : List Obv) (hr : RowR 47 encOb W q l) (hok : ∀ x ∈ l, ObjV W x.1.1 x.2 ∧ FitsO x.2) (hlen : l.length ≤ 140737488351232) :
    Calls Try.prog 5 #[.slice q l.length c] w fun e w' => (∃ b, e = .returned (.bool b) ∧ Hid (b = true → FewP (l.map (·.2)) ∧ l.length ≤ 60)) ∧ Below w.heap.size w w' := by
  obtain ⟨n, hn⟩ : ∃ n, n = l.length := ⟨_, rfl⟩
  rw [← hn] at hlen ⊢
  have HH := Lib.hid (And.intro low (And.intro hr (And.intro hok hn)))
  clear low hr hok hn
  go_enter Try.func5, Try.ntmps5
  go_wp2_with fail
  go_loopg [8] n (fun g1 vi wr => ∃ j : Nat, vi = .int .i64 (j : Int) ∧ j ≤ n ∧ n - j ≤ g1 ∧ Hid (FewP ((l.take j).map (·.2))) ∧ Hid (Below w.heap.size w wr))
  case atStart => exact ⟨0, rfl, Nat.zero_le _, by omega, FewP.nil, Below.refl _ _⟩
  case round =>
    obtain ⟨j, rfl, h1, h2, HC, HB⟩ := hrel
    by_cases hlt : j < n
    · obtain ⟨low, hr, hok, hn⟩ := HH.out
      obtain ⟨x, hx⟩ : ∃ x, l[j]? = some x := ⟨l[j]'(by omega), List.getElem?_eq_getElem (by omega)⟩
      obtain ⟨b, off, rfl, _, _⟩ := hr j x hx
      obtain ⟨hbl, hra⟩ := rangeAt_obs hr hx
      have lowr : Below W.heap.size W wr := low.trans (HB.out.mono low.size)
      have LD := Lib.hid (Ow.load_at (x := x) (rangeK hra lowr hbl))
      obtain ⟨okv, okf⟩ := hok x (List.mem_of_getElem? hx)
      obtain ⟨X, hX⟩ : ∃ X, X = x.1.1 := ⟨_, rfl⟩
      obtain ⟨o, ho⟩ : ∃ o, o = x.2 := ⟨_, rfl⟩
      rw [← hX] at LD okv
      rw [← ho] at okv okf
      have ON := Lib.hid (objV_one okv)
      obtain ⟨th, inn, el⟩ := el_new wr X okv.1
      have TH := Lib.hid th
      have IN := Lib.hid inn
      obtain ⟨w3, hw3⟩ : ∃ W', W' = (wr.alloc (.cells zerC OTy)).setCells wr.heap.size 0 X.toList := ⟨_, rfl⟩
      obtain ⟨O, hO⟩ : ∃ A, A = wr.heap.size := ⟨_, rfl⟩
      have HW3 : Hid ((wr.alloc (.cells zerC OTy)).setCells wr.heap.size 0 X.toList = w3 ∧ wr.heap.size = O) := ⟨hw3.symm, hO.symm⟩
      rw [← hw3, ← hO] at el
      have elb : w3.heap[O]? = some (.cells X OTy (0, 0)) := el.blk
      have ell : Below wr.heap.size wr w3 := el.low
      have low3 : Below W.heap.size W w3 := lowr.trans (ell.mono lowr.size)
      have LO := Lib.hid (load_ob elb okv.1)
      have CF := Lib.hid (few_any w3 X o (okv.below low3) okf)
      obtain ⟨fb, hfb⟩ : ∃ b, b = fewB o := ⟨_, rfl⟩
      rw [← hfb] at CF
      have B3 : Hid (Below w.heap.size w w3) := HB.out.trans (ell.mono HB.out.size)
      have HX := Lib.hid (And.intro hx (And.intro ho (And.intro okv (And.intro okf (And.intro elb (And.intro low3 hfb))))))
      clear low hr hok hn hx hbl hra lowr okv okf hX ho th inn el hw3 hO elb ell low3 hfb HB
      go_upto_region 4 with (first | (refine wpList_load_by (by kernel_rfl) OTy _ rfl (.pointer (some ⟨b, off + j * 47, none⟩)) (.agg X) (by rfl) LD.out ?_) | (refine wpList_store_mid rfl _ _ _ rfl wr.heap.size 0 X (by rfl) (by rfl) TH.out IN.out ON.out ?_; rw [HW3.out.1, HW3.out.2]))
      clear TH IN ON HW3 LD
      go_wp2_with (refine wpList_load_by (by kernel_rfl) OTy _ rfl (.pointer (some ⟨O, 0, none⟩)) (.agg X) (by kernel_rfl) LO.out ?_)
      refine CF.out.mono ?_
      rintro e w4 ⟨rfl, g4⟩
      have B4 : Hid (Below w.heap.size w w4) := B3.out.trans (g4.below.mono B3.out.size)
      have eb4 : w4.heap[O]? = some (.cells X OTy (0, 0)) := (g4.heap (Array.getElem?_eq_some_iff.1 HX.out.2.2.2.2.1).1).trans HX.out.2.2.2.2.1
      have low4 : Below W.heap.size W w4 := HX.out.2.2.2.2.2.1.trans (g4.below.mono HX.out.2.2.2.2.2.1.size)
      cases fb with
      | false =>
        clear g4 eb4 low4 CF LO HX B3
        go_wp2
        go_ret
        exact ⟨⟨false, rfl, fun h => by cases h⟩, B4.out⟩
      | true =>
        have LO4 := Lib.hid (load_ob eb4 HX.out.2.2.1.1)
        have CR := Lib.hid (lawO_any w4 X o (HX.out.2.2.1.below low4) HX.out.2.2.2.1)
        obtain ⟨rg, hrg⟩ : ∃ b, b = rgtE o := ⟨_, rfl⟩
        rw [← hrg] at CR
        have H4 := Lib.hid (And.intro eb4 (And.intro low4 hrg))
        clear g4 eb4 low4 CF LO hrg B3
        go_wp2_with (refine wpList_load_by (by kernel_rfl) OTy _ rfl (.pointer (some ⟨O, 0, none⟩)) (.agg X) (by kernel_rfl) LO4.out ?_)
        refine CR.out.mono ?_
        rintro e w5 ⟨rfl, g5⟩
        have B5 : Hid (Below w.heap.size w w5) := B4.out.trans (g5.below.mono B4.out.size)
        have eb5 : w5.heap[O]? = some (.cells X OTy (0, 0)) := (g5.heap (Array.getElem?_eq_some_iff.1 H4.out.1).1).trans H4.out.1
        have low5 : Below W.heap.size W w5 := H4.out.2.1.trans (g5.below.mono H4.out.2.1.size)
        by_cases hr0 : rg = 0
        · have R0 : Hid (rgtE o = 0) := by rw [← H4.out.2.2, hr0]; exact (rfl : (0 : Int) = 0)
          obtain ⟨kd, hkd⟩ : ∃ a, a = o.kind := ⟨_, rfl⟩
          obtain ⟨nm, hnm⟩ : ∃ a, a = o.name := ⟨_, rfl⟩
          have okv := HX.out.2.2.1
          have d0 : w5.cell? ⟨O, 0, none⟩ = some (.int .i64 kd) := by rw [hkd]; exact (cell_of_block eb5 0).trans okv.2.1.1
          have d1 : w5.cell? ⟨O, 1, none⟩ = some (.string nm) := by rw [hnm]; exact (cell_of_block eb5 1).trans okv.2.1.2.1
          have HKN := Lib.hid (And.intro hkd hnm)
          have L5 := Lib.hid low5
          clear g5 eb5 low5 CR LO4 H4 hkd hnm okv
          subst hr0
          go_wp2_with fail
          go_loopg [5] j (fun g2 vk wr2 => ∃ k : Nat, vk = .int .i64 (k : Int) ∧ k ≤ j ∧ j - k ≤ g2 ∧ Hid (∀ (t : Nat) y, t < k → l[t]? = some y → ¬ (y.2.kind = kd ∧ y.2.name = nm)) ∧ Hid (Gr w5 wr2))
          case atStart => exact ⟨0, rfl, Nat.zero_le _, by omega, fun t y ht => absurd ht (Nat.not_lt_zero _), Gr.refl _⟩
          case round =>
            obtain ⟨k, rfl, hk1, hk2, HK, HG⟩ := hrel
            by_cases hkj : k < j
            · obtain ⟨y, hy⟩ : ∃ y, l[k]? = some y := ⟨l[k]'(by have := HH.out.2.2.2; omega), List.getElem?_eq_getElem (by have := HH.out.2.2.2; omega)⟩
              obtain ⟨hbl, hra⟩ := rangeAt_obs HH.out.2.1 hy
              have hr5 := rangeK hra (L5.out.trans (HG.out.below.mono L5.out.size)) hbl
              have d0 := HG.out.cell d0
              have d1 := HG.out.cell d1
              obtain ⟨yv, _⟩ := HH.out.2.2.1 y (List.mem_of_getElem? hy)
              have f0 : wr.cell? ⟨b, off + k * 47, none⟩ = some (.int .i64 y.2.kind) := by
                have := hr5 0 (.int .i64 y.2.kind) (by show y.1.1.toList[0]? = _; rw [Array.getElem?_toList]; exact yv.2.1.1)
                simpa using this
              have f1 : wr.cell? ⟨b, off + k * 47 + 1, none⟩ = some (.string y.2.name) := hr5 1 (.string y.2.name) (by show y.1.1.toList[1]? = _; rw [Array.getElem?_toList]; exact yv.2.1.2.1)
              obtain ⟨yk, hyk⟩ : ∃ a, a = y.2.kind := ⟨_, rfl⟩
              obtain ⟨yn, hyn⟩ : ∃ a, a = y.2.name := ⟨_, rfl⟩
              rw [← hyk] at f0
              rw [← hyn] at f1
              have HY := Lib.hid (And.intro hy (And.intro hyk hyn))
              have p2 : (k : Int) < (n : Int) := by omega
              have p3 : IntKind.i64.wrap ((k : Int) + 1) = (k : Int) + 1 := by rw [IntKind.wrap_i64]; omega
              have MORE : ¬ (yk = kd ∧ yn = nm) → Hid (∀ (t : Nat) y, t < k + 1 → l[t]? = some y → ¬ (y.2.kind = kd ∧ y.2.name = nm)) := fun hne t z ht hz => by
                by_cases e : t = k
                · subst e
                  rw [HY.out.1] at hz
                  cases hz
                  rw [HY.out.2.1, HY.out.2.2] at hne
                  exact hne
                · exact HK.out t z (by omega) hz
              clear hy hbl hra hr5 yv hyk hyn
              by_cases e1 : yk = kd
              · have t1 : (yk == kd) = true := by simp [e1]
                by_cases e2 : yn = nm
                · have t2 : (yn.toList == nm.toList) = true := by simp [e2]
                  clear MORE HK HY e1 e2
                  go_wp2_with fail
                  go_quiet (fail)
                  have F : Hid (Below w.heap.size w (wr.drewN nq)) := B5.out.trans (((HG.out.drewN nq).below).mono B5.out.size)
                  generalize wr.drewN nq = wz at F ⊢
                  go_wp2
                  go_ret
                  exact ⟨⟨false, rfl, fun h => by cases h⟩, F.out⟩
                · have t2 : (yn.toList == nm.toList) = false := by
                    rw [beq_eq_false_iff_ne]
                    intro h
                    exact e2 (by_inj' h)
                  have M := MORE (fun h => e2 h.2)
                  clear MORE HK HY e1 e2
                  go_wp2_with fail
                  go_quiet (fail)
                  have F : Hid (Gr w5 (wr.drewN nq)) := HG.out.drewN nq
                  generalize wr.drewN nq = wz at F ⊢
                  go_wp2
                  go_roundg (j - (k + 1))
                  case measure => omega
                  case rel => exact ⟨k + 1, by push_cast; rfl, by omega, by omega, M, F.out⟩
              · have t1 : (yk == kd) = false := by rw [beq_eq_false_iff_ne]; exact e1
                have M := MORE (fun h => e1 h.1)
                clear MORE HK HY e1
                go_wp2_with fail
                go_quiet (fail)
                have F : Hid (Gr w5 (wr.drewN nq)) := HG.out.drewN nq
                generalize wr.drewN nq = wz at F ⊢
                go_wp2
                go_roundg (j - (k + 1))
                case measure => omega
                case rel => exact ⟨k + 1, by push_cast; rfl, by omega, by omega, M, F.out⟩
            · obtain rfl : k = j := by omega
              have NX : Hid (FewP ((l.take (k + 1)).map (·.2))) := by
                obtain ⟨hx, ho, okv, okf, elb, low3, hfb⟩ := HX.out
                rw [List.take_add_one, hx, List.map_append]
                show FewP (_ ++ [x.2])
                rw [← ho]
                refine HC.out.more hfb.symm R0.out (fun z hz h => ?_)
                obtain ⟨y, hy, rfl⟩ := List.mem_map.1 hz
                obtain ⟨t, ht⟩ := List.getElem?_of_mem hy
                have htk : t < k := by
                  have := (List.getElem?_eq_some_iff.1 ht).1
                  rw [List.length_take] at this
                  omega
                rw [List.getElem?_take_of_lt htk] at ht
                rw [← HKN.out.1, ← HKN.out.2] at h
                exact HK.out t y htk ht h
              have p3 : IntKind.i64.wrap ((k : Int) + 1) = (k : Int) + 1 := by rw [IntKind.wrap_i64]; omega
              have F : Hid (Below w.heap.size w wr) := B5.out.trans (HG.out.below.mono B5.out.size)
              clear HK HX HC HKN L5 d0 d1
              go_wp2
              go_roundg (n - (k + 1))
              case measure => omega
              case rel => exact ⟨k + 1, by push_cast; rfl, by omega, by omega, NX.out, F.out⟩
        · have t : (rg != 0) = true := by simp [bne, hr0]
          have B5' := Lib.hid B5.out
          clear g5 eb5 low5 CR LO4 H4 hr0
          go_wp2
          go_ret
          exact ⟨⟨false, rfl, fun h => by cases h⟩, B5.out⟩
    · obtain rfl : j = n := by omega
      have FP : Hid (FewP (l.map (·.2)) ∧ j = l.length) := by
        have := HC.out
        rw [List.take_of_length_le (by have := HH.out.2.2.2; omega)] at this
        exact ⟨this, HH.out.2.2.2⟩
      by_cases h60 : j ≤ 60
      · have t1 : decide (j ≤ 60) = true := decide_eq_true h60
        have t2 : decide ((j : Int) ≤ 60) = true := decide_eq_true (by omega)
        have FIN : Hid (FewP (l.map (·.2)) ∧ j ≤ 60) := ⟨FP.out.1, h60⟩
        clear HC HH FP h60
        go_wp2
        go_ret
        exact ⟨⟨true, rfl, fun _ => FIN.out⟩, HB.out⟩
      · have t1 : decide (j ≤ 60) = false := decide_eq_false h60
        have t2 : decide ((j : Int) ≤ 60) = false := decide_eq_false (by omega)
        clear HC HH FP h60
        go_wp2
        go_ret
        exact ⟨⟨false, rfl, fun h => by cases h⟩, HB.out⟩
end Go.Proofs.Ytdphooobgbminaa.Rm
/- Layer 17 (room): what the law's numbers come to. -/
namespace Go.Proofs.Ytdphooobgbminaa.Rm
open Go.RowKit Go.Shelf Go.Lib Go.Sort Go.Deep
open Go.Joins (cell_of_block unfrozen_of_block block_setCell)
open Go.Proofs.Ytdphooobgbminaa.Ow
set_option linter.unusedVariables false
set_option linter.unusedSimpArgs false
set_option maxRecDepth 20000

theorem res_of {c m : Int} (h : resB c m = true) : 1 ≤ c ∧ c ≤ 9007199254740992 ∧ 0 ≤ m ∧ m ≤ 9007199254740992 := by
  simp [resB, someB, milB, withinB] at h
  omega
theorem law_of {o : Ob} (h : rgtE o = 0) : lawS o = true := by
  unfold rgtE at h
  split at h
  · cases h
  · split at h
    · cases h
    · split at h
      · cases h
      · rename_i h3
        rw [Bool.and_eq_false_iff] at h3
        cases e : lawS o with
        | true => rfl
        | false => exact absurd (.inr e) h3
theorem pod_of {o : Ob} (h : rgtE o = 0) (k : o.kind = 1) : 1 ≤ o.p.cpu ∧ o.p.cpu ≤ 9007199254740992 ∧ 0 ≤ o.p.mem ∧ o.p.mem ≤ 9007199254740992 := by
  have := law_of h
  unfold lawS at this
  rw [if_neg (by omega), if_pos k] at this
  unfold l_p wantsB at this
  simp only [Bool.and_eq_true] at this
  exact res_of this.1.2.1.1.1.1
theorem node_of {o : Ob} (h : rgtE o = 0) (k : o.kind = 2) : 1 ≤ o.n.cpu ∧ o.n.cpu ≤ 9007199254740992 ∧ 0 ≤ o.n.mem ∧ o.n.mem ≤ 9007199254740992 := by
  have := law_of h
  unfold lawS at this
  rw [if_neg (by omega), if_neg (by omega), if_pos k] at this
  unfold l_n at this
  simp only [Bool.and_eq_true] at this
  exact res_of this.1.1.1.1.2
theorem i64_of {x : Int} (h : 0 ≤ x ∧ x ≤ 9007199254740992) : I64 x := by unfold I64; omega
theorem sum_bounds (l : List Ob) (g : Ob → Int) (h : ∀ o ∈ l, 0 ≤ g o ∧ g o ≤ 9007199254740992) (n : Nat) (hn : l.length ≤ n) : 0 ≤ (l.map g).sum ∧ (l.map g).sum ≤ 9007199254740992 * (n : Int) := by
  induction l generalizing n with
  | nil => simp; omega
  | cons o l ih =>
    have h1 := h o (by simp)
    cases n with
    | zero => simp at hn
    | succ n =>
      have h2 := ih (fun x hx => h x (by simp [hx])) n (by simpa using hn)
      rw [List.map_cons, List.sum_cons]
      omega
theorem sums_of (s : ByteArray) (L : List Ob) (hL : ∀ o ∈ L, rgtE o = 0) (hl : L.length ≤ 60) : (0 ≤ cpuOf s L ∧ cpuOf s L ≤ 540431955284459520) ∧ (0 ≤ memOf s L ∧ memOf s L ≤ 540431955284459520) := by
  have hf : (L.filter (onIt s)).length ≤ 60 := Nat.le_trans (List.length_filter_le _ _) hl
  have h1 := sum_bounds (L.filter (onIt s)) (·.p.cpu) (fun o ho => by
    have := pod_of (hL o (List.mem_filter.1 ho).1) (on_kind (List.mem_filter.1 ho).2)
    omega) 60 hf
  have h2 := sum_bounds (L.filter (onIt s)) (·.p.mem) (fun o ho => by
    have := pod_of (hL o (List.mem_filter.1 ho).1) (on_kind (List.mem_filter.1 ho).2)
    omega) 60 hf
  unfold cpuOf memOf
  omega
/-- What the law asks of the numbers. -/
structure Come (r : Rmo) (x : Pd) : Prop where
  nums : Nums r
  asks : I64 x.cpu ∧ I64 x.mem
  pods : 0 ≤ r.pods ∧ r.pods ≤ 60
  put : FitsB r x = true → Nums (putR r x) ∧ leftI r.n.cpu r.cpu - leftI r.n.cpu (putR r x).cpu = x.cpu ∧ leftI r.n.mem r.mem - leftI r.n.mem (putR r x).mem = x.mem ∧ (takeR (putR r x) x).cpu = r.cpu ∧ (takeR (putR r x) x).mem = r.mem ∧ (takeR (putR r x) x).pods = r.pods
theorem come_of (no po : Ob) (L : List Ob) (h1 : rgtE no = 0) (k1 : no.kind = 2) (h2 : rgtE po = 0) (k2 : po.kind = 1) (hL : ∀ o ∈ L, rgtE o = 0) (hl : L.length ≤ 60) : Come (roomOf L no) po.p := by
  obtain ⟨a1, a2, a3, a4⟩ := node_of h1 k1
  obtain ⟨b1, b2, b3, b4⟩ := pod_of h2 k2
  obtain ⟨⟨s1, s2⟩, s3, s4⟩ := sums_of no.name L hL hl
  have c1 : clamp (cpuOf no.name L) = cpuOf no.name L := clamp_id (by unfold I64; omega)
  have c2 : clamp (memOf no.name L) = memOf no.name L := clamp_id (by unfold I64; omega)
  have hp := pods_le no.name L
  unfold roomOf
  rw [c1, c2]
  generalize cpuOf no.name L = u at *
  generalize memOf no.name L = v at *
  generalize podsOf no.name L = k at *
  refine ⟨⟨by show I64 no.n.cpu; unfold I64; omega, by show I64 no.n.mem; unfold I64; omega, by show I64 u; unfold I64; omega, by show I64 v; unfold I64; omega⟩, ⟨by unfold I64; omega, by unfold I64; omega⟩, by show 0 ≤ k ∧ k ≤ 60; omega, fun hf => ?_⟩
  unfold FitsB Enough at hf
  simp only [Bool.and_eq_true, decide_eq_true_eq] at hf
  obtain ⟨_, f1, f2⟩ := hf
  simp only [putR, takeR, leftI]
  have d1 : clamp (u + po.p.cpu) = u + po.p.cpu := clamp_id (by unfold I64; omega)
  have d2 : clamp (v + po.p.mem) = v + po.p.mem := clamp_id (by unfold I64; omega)
  rw [d1, d2]
  have e1 : clamp (no.n.cpu - u) = no.n.cpu - u := clamp_id (by unfold I64; omega)
  have e2 : clamp (no.n.mem - v) = no.n.mem - v := clamp_id (by unfold I64; omega)
  have e3 : clamp (no.n.cpu - (u + po.p.cpu)) = no.n.cpu - (u + po.p.cpu) := clamp_id (by unfold I64; omega)
  have e4 : clamp (no.n.mem - (v + po.p.mem)) = no.n.mem - (v + po.p.mem) := clamp_id (by unfold I64; omega)
  have e5 : clamp (u + po.p.cpu - po.p.cpu) = u := by rw [clamp_id (by unfold I64; omega)]; omega
  have e6 : clamp (v + po.p.mem - po.p.mem) = v := by rw [clamp_id (by unfold I64; omega)]; omega
  rw [e1, e2, e3, e4, e5, e6]
  refine ⟨⟨by show I64 no.n.cpu; unfold I64; omega, by show I64 no.n.mem; unfold I64; omega, by show I64 (u + po.p.cpu); unfold I64; omega, by show I64 (v + po.p.mem); unfold I64; omega⟩, ?_⟩
  omega
/-- Two rooms lie so. -/
def PutS2 (D7 D8 : Nat) (R R' : Array Value) (ws : World) : Prop := ws.heap[D7]? = some (.cells R RT (0, 0)) ∧ ws.heap[D8]? = some (.cells R' RT (0, 0))
theorem eql_res (a b : Int) (w : World) : (binOp .eql ResT (.agg #[.int .i64 a, .int .i64 b]) (.agg #[.int .i64 a, .int .i64 b])).run Try.prog w = .ok (.bool true) w := by
  have u2 := Try.underlying23
  have a2 := Try.isAgg23
  have z2 := Try.sizeOf23
  have hS : Try.prog.underlying ResT = some (.struct (Try.prog.fieldsOf ResT)) := by kernel_rfl
  have hp : Try.prog.stoodInHeld ResT = false := by kernel_rfl
  rw [run_eql_struct, show (10000 : Nat) = 9999 + 1 from rfl, run_equalIn_agg w 9999 ResT _ _ hS hp]
  simp only [Program.fieldsOf, Try.underlying25]
  go_simp
/-- A slice literal of two whole structs, at the list of a plain region's operations. -/
theorem list_build2 {P : Program} {ops : Array Oper} {rest : List Oper} {o : Oper} {a : Act} {w : World} {Q : Exit → Act → World → Prop} (hw : Region.wanted o (yielded ops a.tmps) = true) (t e : TypeId) (x y : Operand) (ho : o.op = .buildSlice t 2 #[(0, x), (1, y)]) (z : Value) (s : Nat) (X Y : Array Value) (hx : a.eval x = .agg X) (hy : a.eval y = .agg Y) (hX : X.size = s) (hY : Y.size = s) (h0 : 0 < s) (h1 : s ≤ 1000000)
    (hu : P.underlying t = some (.slice e)) (hinfo : (P.info? e).map (fun i => (i.zero, i.size)) = some (some z, s)) (k : wpList P ops Q rest (a.put o.dst (.slice (some ⟨w.heap.size, 0, none⟩) 2 2)) (w.alloc (.cells (X ++ Y) e))) : wpList P ops Q (o :: rest) a w := by
  refine wpList_step fun K hK => ?_
  rw [if_pos hw]
  cases hie : P.info? e with
  | none => rw [hie] at hinfo; cases hinfo
  | some i =>
    rw [hie] at hinfo
    simp only [Option.map_some, Option.some.injEq, Prod.mk.injEq] at hinfo
    obtain ⟨hz, hs⟩ := hinfo
    refine wp_buildSlice t e 2 _ ho (X ++ Y) i z hu hie hz (by rw [hs]; omega) (by rw [hs]; omega) ?_ (hK _ _ k)
    have hc : (Value.agg X).cells = X := rfl
    have hc2 : (Value.agg Y).cells = Y := rfl
    have := Great.fill_whole h0 [Value.agg X, Value.agg Y] ((Array.range (2 * i.size)).map (z.cells[· % z.cells.size]!)) (fun v hv => by
      simp only [List.mem_cons, List.not_mem_nil, or_false] at hv
      rcases hv with rfl | rfl
      · rw [hc]; exact hX
      · rw [hc2]; exact hY) (by simp [hs])
    rw [hs] at this ⊢
    have e : (X.toList ++ Y.toList).toArray = X ++ Y := by
      apply Array.toList_inj.1
      simp
    simp [hx, hy, hc, hc2] at this ⊢
    rw [this, e]
/-- A row of two objects in a block of its own. -/
theorem row_two {w : World} {M : Nat} {x y : Obv} (h : w.heap[M]? = some (.cells (x.1.1 ++ y.1.1) OTy (0, 0))) : RowR 47 encOb w (some ⟨M, 0, none⟩) [x, y] := by
  intro j z hj
  refine ⟨M, 0, rfl, (Array.getElem?_eq_some_iff.1 h).1, fun t v hv => ?_⟩
  have sx : x.1.1.size = 47 := x.1.2.1
  have ht : t < 47 := by rw [← lenOb z]; exact (List.getElem?_eq_some_iff.1 hv).1
  rw [cell_of_block h]
  match j, hj with
  | 0, hj =>
    cases hj
    rw [show 0 + 0 * 47 + t = t by omega, Array.getElem?_append_left (by omega), ← Array.getElem?_toList]
    exact hv
  | 1, hj =>
    cases hj
    rw [Array.getElem?_append_right (by omega), sx, show 0 + 1 * 47 + t - 47 = t by omega, ← Array.getElem?_toList]
    exact hv
  | n + 2, hj => simp at hj
end Go.Proofs.Ytdphooobgbminaa.Rm
/- The last step of a law over plain arguments: what was there before the call reads as it did, if nothing below the heap's old end has turned. -/
namespace Go.Proofs.Ytdphooobgbminaa
open Go.RowKit Go.WideShapes Go.ChangeShapes

theorem post_below {H : Type} {enc : TypeId × Value → H} {P : Program} {f : Func} {s : ChangeSpec} {apart fresh handsOn again : Bool} {W W' : World} {args : Array Value} {v : Value} {ds gs : List (DataW H)} {before : List MemPlace}
    (hW : DataW.Whole enc P f.params.toList s.vars apart W args.toList ds gs before) (hb : Below W.heap.size W W')
    (hres : ∀ (b : Nat) (sp : Nat → Bool) (hd : Bool), DataW.TrodAll enc P W' b sp hd f.resultTypes.toList (v.resultList f.resultTypes.size) (s.fn H (ds ++ gs)).results [])
    (hargs : ∀ sp : Nat → Bool, (∀ p ∈ before, sp p.block = true) → DataW.TrodAll enc P W' 0 sp true f.params.toList args.toList (s.fn H (ds ++ gs)).args before)
    (hvars : ∀ sp : Nat → Bool, DataW.TrodVars enc P W' sp s.vars (s.fn H (ds ++ gs)).vars [])
    (hok : ∀ (j : Nat) (t : TypeId) (r : Value), f.resultTypes[j]? = some t → (v.resultList f.resultTypes.size)[j]? = some r → Value.okWide P W' .any 0 t r) :
    s.post enc P f apart fresh handsOn again W args v W' := by
  have hsp : ∀ p ∈ before, (fun b => decide (b < W.heap.size)) p.block = true := fun p hp => by simpa using hW.lt p hp
  refine ⟨ds, gs, before, [], before, [], hW, hres _ _ _, hargs _ hsp, hvars _, World.keptBut_mono (fun p hp => ⟨hp, .inr (.inl hp)⟩) (hb.frame (· ∈ before)), fun _ => ?_⟩
  have hlt : ∀ p ∈ before, p.block < W.heap.size := fun p hp => hW.lt p hp
  obtain ⟨_, _, _, _, _, hz, hn⟩ := hW
  refine ⟨hok, _, _, ([] ++ before) ++ [], ⟨[] ++ before, [], trodAll_append (hargs _ (fun _ _ => rfl)) (hres _ _ _), hvars _, rfl, fun b off hp => ?_, fun ha => by simpa using hn ha⟩, fun p hp _ => by simpa using hp⟩
  have hin : MemPlace.cell b off ∈ before := by simpa using hp
  rw [hb.frozen (hlt _ hin)]
  exact hz b off hin

/-- A number of 64 bits as a natural one. -/
theorem nat_of_wf {a : Int} (h : (Lit.int .u64 a).wf = true) : ∃ n : Nat, a = (n : Int) ∧ n < 18446744073709551616 := by
  have h2 : 0 ≤ a ∧ a < 18446744073709551616 := by
    simp [Lit.wf, IntKind.min, IntKind.max, IntKind.signed, IntKind.bits] at h
    omega
  exact ⟨a.toNat, by omega, by omega⟩
end Go.Proofs.Ytdphooobgbminaa
/- Arguments that nobody turned read again as they did: the last step of a law over arguments of whatever shape. -/
namespace Go.Proofs.Ytdphooobgbminaa
open Go.RowKit Go.WideShapes Go.ChangeShapes

theorem all_again {H : Type} {enc : TypeId × Value → H} {P : Program} (hl : laidOutB P = true) {W W' : World} (hb : Below W.heap.size W W') {sp : Nat → Bool} :
    ∀ (ts : List TypeId) (vs : List Value) (ds : List (DataW H)) (ps : List MemPlace), (∀ t ∈ ts, P.readableRec t = true ∧ t < P.types.size) →
      DataW.TrodAll enc P W 0 (fun _ => true) true ts vs ds ps → (∀ p ∈ ps, p.block < W.heap.size) → (∀ p ∈ ps, sp p.block = true) → DataW.TrodAll enc P W' 0 sp true ts vs ds ps := by
  intro ts
  induction ts with
  | nil =>
    intro vs ds ps _ h _ _
    cases vs <;> cases ds <;> first | exact h | exact h.elim
  | cons t ts ih =>
    intro vs ds ps ht h hlt hsp
    obtain ⟨v, vs', d, ds', p, q, rfl, rfl, rfl, h1, h2⟩ := trodAll_cons h
    refine ⟨p, q, ?_, ih _ _ _ (fun t' h' => ht t' (List.mem_cons_of_mem _ h')) h2 (fun x hx => hlt x (List.mem_append_right _ hx)) (fun x hx => hsp x (List.mem_append_right _ hx)), rfl⟩
    have h3 := ht t List.mem_cons_self
    exact WideElems.Trod_stays hl h3.1 h3.2 h1 (fun x hx => hb.same (hlt x (List.mem_append_left _ hx))) (fun x hx => hsp x (List.mem_append_left _ hx))

end Go.Proofs.Ytdphooobgbminaa
/- What the laws of layer 17 have in common. -/
namespace Go.Proofs.Ytdphooobgbminaa
theorem own : ownKnob Try.prog.godebug = none := by kernel_rfl
end Go.Proofs.Ytdphooobgbminaa
