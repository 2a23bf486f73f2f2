/- Layer 16 (replica): a pass over a workload of a store. -/
import Derived.Test.YtbkoepghmcdnhaaGreatDoorPk3
import Derived.Test.YtbkoepghmcdnhaaGreatDoorPk4
import Derived.Test.YtbkoepghmcdnhaaGreatDoorPk2
import Derived.Test.YtbkoepghmcdnhaaGreatDoorStA
import Derived.Laws.OwnMore
import Derived.Test.YtbkoepghmcdnhaaGreatDoorVaW
namespace Go.Proofs.YtbkoepghmcdnhaaGreatDoor.Rp
open Go.RowKit Go.Shelf Go.Lib Go.Sort Go.Deep
open Go.Joins (cell_of_block unfrozen_of_block block_setCell)
open Go.Proofs.YtbkoepghmcdnhaaGreatDoor.Lc
open Go.Proofs.YtbkoepghmcdnhaaGreatDoor.Po (WT PT WlS NilW mdP podO podC PdS OwnP NilP zerP new_pd load_pd made_any built2 run_built wpList_known obj_pod nil_pod)
open Go.Proofs.YtbkoepghmcdnhaaGreatDoor.Vi (isPod isOf isLive isFailed)
open Go.Proofs.YtbkoepghmcdnhaaGreatDoor.Ow (Obv encOb FitO)
set_option linter.unusedVariables false
set_option linter.unusedSimpArgs false
set_option maxRecDepth 20000

/-! ### the workload of an object -/
theorem ext7 {cs : Array Value} (hs : cs.size = 47) (i : Nat) (hi : i < 7) : (cs.extract 3 10)[i]? = cs[3 + i]? := by
  rw [Array.getElem?_extract, if_pos (by omega)]
theorem ext7_size {cs : Array Value} (hs : cs.size = 47) : (cs.extract 3 10).size = 7 := by simp; omega
theorem ext_wl {w : World} {cs : Array Value} {o : Ob} (hv : ObjV w cs o) : WlS w (cs.extract 3 10) o.w := by
  obtain ⟨hsz, _, ⟨c0, c1, c2, c3, c4, c5, c6⟩, _⟩ := hv
  refine ⟨ext7_size hsz, ?_, ?_, ?_, ?_, ?_, ?_, ?_⟩ <;> rw [ext7 hsz _ (by decide)] <;> assumption
theorem ext_nilW {cs : Array Value} (hsz : cs.size = 47) (hn : NilO cs) : NilW (cs.extract 3 10) := by
  intro i n c hi h
  simp only [List.mem_cons, List.not_mem_nil, or_false] at hi
  rcases hi with rfl | rfl | rfl <;> rw [ext7 hsz _ (by decide)] at h
  · exact hn 6 n c (by decide) h
  · exact hn 7 n c (by decide) h
  · exact hn 8 n c (by decide) h
theorem load_inW {w : World} {b : Nat} {cs : Array Value} {T : TypeId} {fz : Nat × Nat} (h : w.heap[b]? = some (.cells cs T fz)) (hs : cs.size = 47) : (Instr.loadAt WT (.pointer (some ⟨b, 3, none⟩))).run Tryz.prog w = .ok (.agg (cs.extract 3 10)) w := by
  have hr : w.rangeAt b 3 (cs.extract 3 10).toList := fun j v hv => by
    have hj : j < 7 := by
      have := (List.getElem?_eq_some_iff.1 hv).1
      rw [Array.length_toList, ext7_size hs] at this
      exact this
    rw [Array.getElem?_toList, ext7 hs j hj] at hv
    rw [cell_of_block h]
    exact hv
  have h1 := run_loadAt_mid (P := Tryz.prog) w b 3 WT (cs.extract 3 10).toList _ hr Tryz.underlying36 rfl (by rw [Array.length_toList, ext7_size hs]; exact Po.info_wt)
  rwa [Array.toArray_toList] at h1

/-! ### the pod that is made -/
theorem ownP_fx {base N : Nat} {w w' : World} {x : Pd} {P : Array Value} (h : OwnP N w x P) (f : Fx base w w') : OwnP N w' x P := ⟨h.1.fx rfl f, h.2.1.fx rfl f, h.2.2.fx rfl f⟩
theorem fits_mk {o : Ob} {nm : ByteArray} {now : Int} (F : FitsO o) (hn : nm.size ≤ 32) : FitsO (podO 1 nm 0 (mdP o.w o.name now)) := by
  have hnm : ftT nm = true := ftT_iff.2 (by omega)
  constructor <;> first | rfl | exact hnm | exact Nat.zero_le _ | exact F.name | exact F.w_lab_r | exact F.w_sel_r | exact F.w_tol_r | exact F.w_lab | exact F.w_sel | exact F.w_tol
theorem tiny_mk {o : Ob} {nm : ByteArray} {now : Int} (T : TinyO o) : TinyO (podO 1 nm 0 (mdP o.w o.name now)) := by
  unfold TinyO at T ⊢
  obtain ⟨h1, h2, h3, _⟩ := T
  exact ⟨Nat.zero_le _, Nat.zero_le _, Nat.zero_le _, h1, h2, h3, Nat.zero_le _, Nat.zero_le _, Nat.zero_le _, Nat.zero_le _, Nat.zero_le _, Nat.zero_le _, Nat.zero_le _, Nat.zero_le _⟩
theorem kept_mk {base N : Nat} {w : World} {P : Array Value} {o : Ob} {nm : ByteArray} {now : Int} (v : PdS w P (mdP o.w o.name now)) (ow : OwnP N w (mdP o.w o.name now) P) (F : FitsO o) (T : TinyO o) (hn : nm.size ≤ 32) : Kept base w (podC 1 nm 0 P) (podO 1 nm 0 (mdP o.w o.name now)) :=
  ⟨fun w' f => obj_pod (v.own (ownP_fx ow f)) 1 nm 0 (by decide), nil_pod v.1 ow.nil 1 nm 0, tiny_mk T, fits_mk F hn⟩
theorem chk_wl {o : Ob} (h : chkE o = 0) (hk : o.kind = 0) : nameB o.name = true ∧ c_w o = true := by
  unfold chkE at h
  split at h
  · omega
  · split at h
    · omega
    · rename_i h6
      split at h
      · omega
      · rename_i hh
        have hs : shC o = true := by
          cases hsh : shC o with
          | false => exact absurd (.inr hsh) hh
          | true => rfl
        unfold shC at hs
        rw [if_pos hk] at hs
        exact ⟨by simpa using h6, hs⟩
theorem chk_mk {o : Ob} {nm : ByteArray} {now : Int} (h : chkE o = 0) (hk : o.kind = 0) (hn : nameB nm = true) (h0 : 0 ≤ now) (h1 : now ≤ 4611686018427387904) : chkE (podO 1 nm 0 (mdP o.w o.name now)) = 0 := by
  obtain ⟨ho, hw⟩ := chk_wl h hk
  unfold chkE
  have e1 : alC (podO 1 nm 0 (mdP o.w o.name now)) = true := by
    show ((_ || z_w zerO) && (_ || _) && (_ || z_n zerO) && (_ || z_g zerO) && (_ || z_h zerO)) = true
    have z1 : z_w zerO = true := by decide +kernel
    have z2 : z_n zerO = true := by decide +kernel
    have z3 : z_g zerO = true := by decide +kernel
    have z4 : z_h zerO = true := by decide +kernel
    rw [z1, z2, z3, z4]
    rfl
  have e2 : shC (podO 1 nm 0 (mdP o.w o.name now)) = true := by
    show c_p (podO 1 nm 0 (mdP o.w o.name now)) = true
    show (nameB o.name && mayB ⟨#[]⟩ && phaseB ⟨#[]⟩ 0 && withinB now 0 4611686018427387904 && wlC 0 o.w.cpu o.w.mem o.w.lab o.w.sel o.w.tol o.w.warm) = true
    unfold c_w wlC at hw
    simp only [Bool.and_eq_true] at hw
    obtain ⟨⟨⟨⟨⟨_, w1⟩, w2⟩, w3⟩, w4⟩, w5⟩ := hw
    unfold wlC
    rw [ho, w1, w2, w3, w4, w5]
    have e3 : withinB now 0 4611686018427387904 = true := by unfold withinB; rw [decide_eq_true h0, decide_eq_true h1]; rfl
    rw [e3]
    decide +kernel
  rw [if_neg (by show ¬ (withinB 1 0 4 = false); decide), if_neg (by show ¬ (nameB nm = false); rw [hn]; decide), if_neg (by rw [e1, e2]; decide)]
theorem dfl_mk (nm : ByteArray) (y : Pd) : dfl (podO 1 nm 0 y) = podO 1 nm 0 y := (if_neg (show ¬ ((1 : Int) = 3) by decide)).trans (if_neg (show ¬ ((1 : Int) = 4) by decide))
theorem live_mk (s nm : ByteArray) (x : Wl) (now : Int) (v : Nat) : isLive s (setV (podO 1 nm 0 (mdP x s now)) v) = true := by
  show ((decide ((1 : Int) = 1) && (s.toList == s.toList)) && !(decide ((0 : Int) = 3))) = true
  rw [beq_self_eq_true]
  decide

/-! ### steps of a pass, over rows -/
theorem del_ok {L : List Ob} {R : List ByteArray} {i : Nat} {nm : ByteArray} (hR : R.Pairwise (· ≠ ·)) (ha : ∀ nm ∈ R, L.any (hit 1 nm) = true) (hi : R[i]? = some nm) : delE 1 nm 0 (L.filter (keepR (R.take i))) = 0 := by
  obtain ⟨x, hx, hh⟩ := List.any_eq_true.1 (ha nm (List.mem_of_getElem? hi))
  unfold delE
  rw [if_neg (by decide)]
  cases hf : (L.filter (keepR (R.take i))).find? (hit 1 nm) with
  | some y => simp
  | none =>
    refine absurd hh (List.find?_eq_none.1 hf x (List.mem_filter.2 ⟨hx, keepR_iff.2 ?_⟩))
    rintro ⟨_, hm⟩
    rw [(hit_pod.1 hh).2] at hm
    obtain ⟨j, hj⟩ := List.getElem?_of_mem hm
    have hlt : j < i := by
      have := (List.getElem?_eq_some_iff.1 hj).1
      rw [List.length_take] at this
      omega
    rw [List.getElem?_take_of_lt hlt] at hj
    obtain ⟨h1, e1⟩ := List.getElem?_eq_some_iff.1 hj
    obtain ⟨h2, e2⟩ := List.getElem?_eq_some_iff.1 hi
    exact List.pairwise_iff_getElem.1 hR j i h1 h2 hlt (e1.trans e2.symm)
theorem take_app {α : Type} {l : List α} {i : Nat} {x : α} (h : l[i]? = some x) : l.take (i + 1) = l.take i ++ [x] := by
  rw [List.take_add_one, h]
  rfl
/-- The names that are free, for a pass: none has them. -/
theorem fresh_of {s : ByteArray} {L lp Q : List Ob} {R CR : List ByteArray} {k : Nat} {nm : ByteArray} (hperm : lp.Perm (L.filter isPod)) (hRf : ∀ x ∈ lp, isFailed s x = true → x.name ∈ R) (hCR : CR.Pairwise (· ≠ ·)) (hT : ∀ nm ∈ CR, nm.data.toList ∉ takenOf s lp)
    (hk : CR[k]? = some nm) (hQ : Q.map (·.name) = CR.take k) : (L.filter (keepR R) ++ Q).any (hit 1 nm) = false := by
  rw [List.any_eq_false]
  intro x hx hh
  obtain ⟨px, en⟩ := hit_pod.1 hh
  rcases List.mem_append.1 hx with hx | hx
  · obtain ⟨hx, hkp⟩ := List.mem_filter.1 hx
    have hl : x ∈ lp := hperm.mem_iff.2 (List.mem_filter.2 ⟨hx, px⟩)
    cases hf : isFailed s x with
    | true => exact keepR_iff.1 hkp ⟨px, hRf x hl hf⟩
    | false =>
      refine hT nm (List.mem_of_getElem? hk) ?_
      unfold takenOf
      rw [List.mem_map]
      refine ⟨x, List.mem_filter.2 ⟨hl, ?_⟩, by rw [en]⟩
      unfold takes
      rw [px, hf]
      rfl
  · have hm : nm ∈ CR.take k := by rw [← hQ, ← en]; exact List.mem_map.2 ⟨x, hx, rfl⟩
    obtain ⟨j, hj⟩ := List.getElem?_of_mem hm
    have hlt : j < k := by
      have := (List.getElem?_eq_some_iff.1 hj).1
      rw [List.length_take] at this
      omega
    rw [List.getElem?_take_of_lt hlt] at hj
    obtain ⟨h1, e1⟩ := List.getElem?_eq_some_iff.1 hj
    obtain ⟨h2, e2⟩ := List.getElem?_eq_some_iff.1 hk
    exact List.pairwise_iff_getElem.1 hCR j k h1 h2 hlt (e1.trans e2.symm)
theorem cre_ok {d : Ob} {l : List Ob} {nm : ByteArray} (hc : chkE d = 0) (hk : d.kind = 1 ∧ d.name = nm) (ha : l.any (hit 1 nm) = false) (hl : l.length ≤ 199) (v : Nat) : creE d l 200 = 0 ∧ put l (setV d v) = l ++ [setV d v] := by
  constructor
  · unfold creE
    rw [if_neg (by rw [hc]; decide), hk.1, hk.2, ha, if_neg (by decide), if_neg (by omega)]
  · unfold put
    have e1 : (setV d v).kind = 1 := hk.1
    have e2 : (setV d v).name = nm := hk.2
    rw [e1, e2, ha]
    rfl
/-- A change behind a change. -/
theorem After.chain {base : Nat} {a b c : World} {S S1 : List Nat} {sp : Nat} {m2 : Int} {l2 : List Ob} {h2 : List Ev} (hc : Chg S a b) (hn : ∀ g ∈ S1, g ∈ S ∨ a.heap.size ≤ g) (k : After base b c S1 sp m2 l2 h2) : After base a c S sp m2 l2 h2 := by
  obtain ⟨S2, s2, c2, n2⟩ := k
  refine ⟨S2, s2, hc.trans c2 hn, fun g hg => ?_⟩
  rcases n2 g hg with h | h
  · exact hn g h
  · have := hc.size
    exact .inr (by omega)
theorem OwnCo.row {base N : Nat} {W : World} {q : Option Addr} {c : Nat} {cl : List Co} (h : OwnCo base N W q c cl) : RowR 47 encOb W q (cl.map (·.1)) := by
  have hO : OwnO N W (.slice q cl.length c) (cl.map (·.1)) := by
    unfold OwnO
    have e : flat encOb (cl.map (·.1)) = flat encO cl := by
      simp [flat, encO, encOb, List.flatMap_map, Function.comp_def]
      rfl
    rw [List.length_map, e]
    exact h.own
  obtain ⟨q', c', e, r⟩ := hO.slc
  injection e with e1 e2 e3
  rw [e1]
  exact r
theorem fit_tiny {o : Ob} (h : TinyO o) : FitO o := by
  unfold TinyO at h
  unfold FitO
  omega
end Go.Proofs.YtbkoepghmcdnhaaGreatDoor.Rp
/- Layer 16 (replica): a pass over a workload of a store. -/
namespace Go.Proofs.YtbkoepghmcdnhaaGreatDoor.Rp
open Go.RowKit Go.Shelf Go.Lib Go.Sort Go.Deep
open Go.Joins (cell_of_block unfrozen_of_block block_setCell)
open Go.Proofs.YtbkoepghmcdnhaaGreatDoor.Lc
open Go.Proofs.YtbkoepghmcdnhaaGreatDoor.Po (WT PT WlS NilW mdP podO podC PdS OwnP NilP zerP new_pd load_pd made_any built2 run_built wpList_known obj_pod nil_pod)
open Go.Proofs.YtbkoepghmcdnhaaGreatDoor.Vi (isPod isOf isLive isFailed El)
open Go.Proofs.YtbkoepghmcdnhaaGreatDoor.Ow (Obv encOb FitO)
set_option linter.unusedVariables false
set_option linter.unusedSimpArgs false
set_option maxRecDepth 20000

set_option maxHeartbeats 16000000 in
theorem rpass_any (base : Nat) (w : World) (S : List Nat) (sp : Nat) (L : List Ob) (hist : List Ev) (X : Array Value) (o : Ob) (N : Nat) (q : Option Addr) (n c : Nat) (lp : List Obv) (now : Int)
    (st : StIs base w S sp 200 L hist) (kx : Kept base w X o) (ok : OkK o) (hk : o.kind = 0) (hN : o.w.rep = (N : Int)) (hN1 : N ≤ 1000000) (hnm : okNm o.name = true)
    (hn : n = lp.length) (hr : RowR 47 encOb w q lp) (hok : ∀ x ∈ lp, Kept base w x.1.1 x.2 ∧ x.2.name.size ≤ maxLen) (hperm : (lp.map (·.2)).Perm (L.filter isPod))
    (hroom : L.length + (N - liveN o.name L) ≤ 199) (hh : hist.length ≤ 10000) (hT : Tab w) (h0 : 0 ≤ now) (h1 : now ≤ 4611686018427387904) :
    Calls Tryz.prog 20 #[.pointer (some ⟨sp, 0, none⟩), .agg X, .slice q n c, .int .i64 now] w fun e w' => (∃ v, e = .returned v) ∧ ∃ L' hist', After base w w' S sp 200 L' hist' ∧ Passed o.name N L L' hist.length hist'.length := by
  obtain ⟨bw, ap0, ok0⟩ : base ≤ w.heap.size ∧ KeyNe L ∧ ∀ o ∈ L, OkK o := by
    obtain ⟨mb, D, ev, kept, h⟩ := st
    exact ⟨h.bw, h.map.apart, h.map.ok⟩
  obtain ⟨B, hB⟩ : ∃ B, B = w.heap.size := ⟨_, rfl⟩
  obtain ⟨w1, hw1⟩ : ∃ W, W = w.alloc (.cells X OT) := ⟨_, rfl⟩
  have G1 : Gr w w1 := hw1 ▸ (Gr.refl w).alloc _
  have b1 : w1.heap[B]? = some (.cells X OT (0, 0)) := by rw [hw1, hB]; exact heap_alloc_new w _
  have z1 : w1.heap.size = B + 1 := by rw [hw1, hB]; simp
  have hlpl : lp.length ≤ 200 := by
    have e1 := hperm.length_eq
    rw [List.length_map] at e1
    have := List.length_filter_le isPod L
    omega
  have LX := Lib.hid (load_ob b1 kx.obj.1)
  have CP := Lib.hid (plan_any w1 X o N q n c lp (kx.fx (Fx.ofBelow G1.below)).obj hk hN (by omega) ok.nm hn (hr.below G1.below) (fun x hx => ⟨((hok x hx).1.fx (Fx.ofBelow G1.below)).obj, (hok x hx).1.nil, fit_tiny (hok x hx).1.small, (hok x hx).2⟩) (by omega) (hT.below G1.below))
  have HW1 : Hid (w.alloc (.cells X OT) = w1 ∧ w.heap.size = B) := ⟨hw1.symm, hB.symm⟩
  obtain ⟨s, hs⟩ : ∃ s, s = o.name := ⟨_, rfl⟩
  rw [← hs] at CP hnm hroom ⊢
  have HH := Lib.hid (And.intro bw (And.intro ap0 (And.intro st (And.intro kx (And.intro ok (And.intro hk (And.intro hperm (And.intro hroom (And.intro hh (And.intro h0 (And.intro h1 (And.intro hlpl (And.intro hnm (And.intro b1 (And.intro G1.below (And.intro z1 (And.intro hB hs)))))))))))))))))
  clear bw ap0 ok0 hB hw1 G1 b1 z1 hlpl st kx ok hk hN hn hr hok hperm hroom hh hT h0 h1 hs hnm
  go_enter Tryz.func20, Tryz.ntmps20
  go_upto_region 1 with fail
  rw [HW1.out.1, HW1.out.2]
  go_wp2_with (refine wpList_load_by (by kernel_rfl) OT _ rfl (.pointer (some ⟨B, 0, none⟩)) (.agg X) (by kernel_rfl) LX.out ?_)
  refine CP.out.mono ?_
  rintro e w2 ⟨⟨v1, v2, rfl, HPL⟩, b2⟩
  obtain ⟨p, t, srt, sm, hp, o1, o2⟩ := HPL.out
  obtain ⟨bw, ap0, st, kx, ok, hk, hperm, hroom, hh, h0, h1, hlpl, hnm, b1, l1, z1, hB, hs⟩ := HH.out
  obtain ⟨so, hso⟩ : ∃ so, so = t.map (·.1.2) := ⟨_, rfl⟩
  obtain ⟨RM, hRM⟩ : ∃ R, R = sortS (((lp.map (·.2)).filter (isFailed s)).map (·.name)) ++ (t.take (min (t.length - N) 16)).map (·.1.2.name) := ⟨_, rfl⟩
  obtain ⟨CR, hCR⟩ : ∃ R, R = frees s (takenOf s (lp.map (·.2))) (min (N - t.length) 16) := ⟨_, rfl⟩
  rw [← hRM] at o2
  rw [← hCR] at o1
  have hsl : so.length = t.length := by rw [hso, List.length_map]
  have hsoP : ((lp.map (·.2)).filter (isLive s)).Perm so := by
    rw [← hp, hso]
    exact sm.1.map _
  have hRM2 : RM = sortS (((lp.map (·.2)).filter (isFailed s)).map (·.name)) ++ (so.take (min (so.length - N) 16)).map (·.name) := by
    rw [hRM, hsl, hso, ← List.map_take, List.map_map]
    rfl
  obtain ⟨_, _, _, hlv, hRl, hRp, hRa⟩ := after_del ap0 hperm hsoP hRM2
  have hTl : (takenOf s (lp.map (·.2))).length ≤ 200 := by
    unfold takenOf
    rw [List.length_map]
    have := List.length_filter_le (takes s) (lp.map (·.2))
    rw [List.length_map] at this
    omega
  have hFF := frees_facts (s := s) (T := takenOf s (lp.map (·.2))) (k := min (N - t.length) 16) hnm (by omega)
  rw [← hCR] at hFF
  obtain ⟨hCl, hCp, hCt⟩ := hFF
  obtain ⟨q1, c1, rfl, _, r1⟩ := o1.slc
  obtain ⟨q2, c2, rfl, _, r2⟩ := o2.slc
  obtain ⟨m1, hm1⟩ : ∃ m, m = CR.length := ⟨_, rfl⟩
  obtain ⟨m2, hm2⟩ : ∃ m, m = RM.length := ⟨_, rfl⟩
  rw [← hm1, ← hm2]
  have hRs : ∀ nm ∈ RM, nm.size ≤ maxLen := fun nm hm => by
    obtain ⟨x, hx, hhx⟩ := List.any_eq_true.1 (hRa nm hm)
    obtain ⟨mb, D, ev, kept, h⟩ := st
    rw [← (hit_pod.1 hhx).2]
    exact (h.map.ok x hx).nm
  have HF := Lib.hid (And.intro hRM2 (And.intro hsoP (And.intro hlv (And.intro hRl (And.intro hRp (And.intro hRa (And.intro hRs (And.intro hCl (And.intro hCp (And.intro hCt (And.intro hm1 (And.intro hm2 hsl))))))))))))
  have b2' := l1.trans (b2.mono l1.size)
  have HR := Lib.hid (And.intro o1 (And.intro o2 (And.intro b2' (And.intro ((b2.block B (by omega)).trans b1) (And.intro b2.size (st.gr b2'))))))
  have hm2l : m2 ≤ 400 := by
    have h1 := List.length_filter_le (isFailed s) L
    unfold failN at hRl
    omega
  have hm1l : m1 ≤ 16 := by omega
  clear HPL p srt sm hp o1 o2 bw ap0 st kx ok hk hperm hroom hh h0 h1 hlpl hnm b1 l1 z1 hB hs hso hRM hCR hsl hsoP hRM2 hlv hRl hRp hRa hTl hCl hCp hCt r1 r2 hm1 hm2 hRs b2' b2 CP LX
  go_wp2_with fail
  go_loopg [25] m2 (fun g vi wr => ∃ i : Nat, vi = .int .i64 (i : Int) ∧ i ≤ m2 ∧ m2 - i ≤ g ∧ Hid (∃ S1 hist1, StIs base wr S1 sp 200 (L.filter (keepR (RM.take i))) hist1 ∧ Chg S w2 wr ∧ (∀ g ∈ S1, g ∈ S ∨ w2.heap.size ≤ g) ∧ hist1.length = hist.length + i))
  case atStart => exact ⟨0, rfl, Nat.zero_le _, by omega, S, hist, by rw [List.take_zero, keepR_nil]; exact HR.out.2.2.2.2.2, Chg.refl _ _, fun g hg => .inl hg, rfl⟩
  case round =>
    obtain ⟨i, rfl, hi1, hi2, HP⟩ := hrel
    by_cases hlt : i < m2
    · obtain ⟨S1, hist1, s1, k1, n1, e1⟩ := HP.out
      obtain ⟨hRM2, hsoP, hlv, hRl, hRp, hRa, hRs, hCl, hCp, hCt, hm1, hm2, hsl⟩ := HF.out
      obtain ⟨bw, ap0, st, kx, ok, hk, hperm, hroom, hh, h0, h1, hlpl, hnm, b1, l1, z1, hB, hs⟩ := HH.out
      obtain ⟨o1, o2, b2, hBb, hz, st2⟩ := HR.out
      obtain ⟨nm, hnmx⟩ : ∃ x, RM[i]? = some x := ⟨RM[i]'(by omega), List.getElem?_eq_getElem (by omega)⟩
      have owr : OwnS w1.heap.size wr (.slice q2 RM.length c2) RM := own_block o2 (fun g hg => k1.block g (OwnS.lt o2 g hg).2 (fun hm => by have := (OwnS.lt o2 g hg).1; have := (st.prot g hm).2.1; omega))
      have rr : SRow wr q2 RM := by
        obtain ⟨q', c', e2, _, rr⟩ := owr.slc
        injection e2 with e2 _ _
        rw [e2]; exact rr
      obtain ⟨b, off, rfl, hbl, hcl⟩ := rr i nm hnmx
      have CD := Lib.hid (delete_any base wr S1 sp 200 (L.filter (keepR (RM.take i))) hist1 1 nm 0 s1 (by omega) ⟨by decide, by decide⟩ (hRs nm (List.mem_of_getElem? hnmx)))
      rw [del_ok hRp hRa hnmx] at CD
      have KX : Hid (∀ w', After base wr w' S1 sp 200 (del (L.filter (keepR (RM.take i))) 1 nm) (hist1 ++ [⟨2, 1, nm, hist1.length + 1⟩]) → ∃ S1 hist1, StIs base w' S1 sp 200 (L.filter (keepR (RM.take (i + 1)))) hist1 ∧ Chg S w2 w' ∧ (∀ g ∈ S1, g ∈ S ∨ w2.heap.size ≤ g) ∧ hist1.length = hist.length + (i + 1)) := fun w' af => by
        obtain ⟨S2, a1, a2, a3⟩ := After.chain k1 n1 af
        rw [del_next ap0, ← take_app hnmx] at a1
        exact ⟨S2, _, a1, a2, a3, by rw [List.length_append, e1]; rfl⟩
      clear s1 k1 n1 e1 hRM2 hsoP hlv hRl hRp hRa hRs hCl hCp hCt hm1 hm2 hsl bw ap0 st kx ok hk hperm hroom hh h0 h1 hlpl hnm b1 l1 z1 hB hs o1 o2 b2 hBb hz st2 hnmx owr rr HP
      go_wp2_with fail
      refine CD.out.mono ?_
      rintro e w' (⟨h, _⟩ | ⟨_, rfl, af⟩)
      · exact absurd rfl h
      · have HN := Lib.hid (KX.out w' af)
        clear af KX CD hcl
        go_wp2
        go_roundg (m2 - (i + 1))
        case measure => omega
        case rel => exact ⟨i + 1, by go_num, hlt, Nat.le_refl _, HN.out⟩
    · obtain rfl : i = m2 := by omega
      clear hlt hi1 hi2
      go_wp2_with fail
      go_loopg [35] m1 (fun g vi wr => ∃ k : Nat, vi = .int .i64 (k : Int) ∧ k ≤ m1 ∧ m1 - k ≤ g ∧ Hid (∃ S1 hist1 Q, StIs base wr S1 sp 200 (L.filter (keepR RM) ++ Q) hist1 ∧ Chg S w2 wr ∧ (∀ g ∈ S1, g ∈ S ∨ w2.heap.size ≤ g) ∧ hist1.length = hist.length + i + k ∧ Q.length = k ∧ Q.map (·.name) = CR.take k ∧ ∀ x ∈ Q, isLive s x = true))
      case atStart =>
        obtain ⟨S1, hist1, s1, k1, n1, e1⟩ := HP.out
        rw [HF.out.2.2.2.2.2.2.2.2.2.2.2.1, List.take_length] at s1
        exact ⟨0, rfl, Nat.zero_le _, by omega, S1, hist1, [], by rw [List.append_nil]; exact s1, k1, n1, e1, rfl, by simp, fun x hx => by cases hx⟩
      case round =>
        clear HP
        rename_i wr0
        obtain ⟨k, rfl, hk1, hk2, HP⟩ := hrel
        by_cases hlt : k < m1
        · obtain ⟨S1, hist1, Q, s1, k1, n1, e1, eQ, nQ, vQ⟩ := HP.out
          obtain ⟨hRM2, hsoP, hlv, hRl, hRp, hRa, hRs, hCl, hCp, hCt, hm1, hm2, hsl⟩ := HF.out
          obtain ⟨bw, ap0, st, kx, ok, hk, hperm, hroom, hh, h0, h1, hlpl, hnm, b1, l1, z1, hB, hs⟩ := HH.out
          obtain ⟨o1, o2, b2, hBb, hz, st2⟩ := HR.out
          obtain ⟨nm, hnmx⟩ : ∃ x, CR[k]? = some x := ⟨CR[k]'(by omega), List.getElem?_eq_getElem (by omega)⟩
          have notS : ∀ g, B ≤ g → g < w2.heap.size → wr.heap[g]? = w2.heap[g]? := fun g hg1 hg2 => k1.block g hg2 (fun hm => by have := (st.prot g hm).2.1; omega)
          have owr : OwnS w1.heap.size wr (.slice q1 CR.length c1) CR := own_block o1 (fun g hg => notS g (by have := (OwnS.lt o1 g hg).1; omega) (OwnS.lt o1 g hg).2)
          have rr : SRow wr q1 CR := by
            obtain ⟨q', c', e2, _, rr⟩ := owr.slc
            injection e2 with e2 _ _
            rw [e2]; exact rr
          obtain ⟨b, off, rfl, hbl, hcl⟩ := rr k nm hnmx
          obtain ⟨nn, hnn, rfl⟩ := (hCt nm (List.mem_of_getElem? hnmx)).2
          obtain ⟨nm, hnme⟩ : ∃ x, x = pname s nn := ⟨_, rfl⟩
          have hnmB : nameB nm = true := by rw [hnme]; exact pname_name hnm hnn
          have hnm32 : nm.size ≤ 32 := by
            unfold nameB at hnmB
            simp only [Bool.and_eq_true, decide_eq_true_eq] at hnmB
            exact hnmB.1.2
          rw [← hnme] at hnmx hcl
          have fxr : Fx base w wr := (Fx.ofBelow b2).trans (k1.fx (fun g hg _ => (st2.prot g hg).2.2))
          have kxr : Kept base wr X o := kx.fx fxr
          have bB : wr.heap[B]? = some (.cells X OT (0, 0)) := (notS B (Nat.le_refl _) (Array.getElem?_eq_some_iff.1 hBb).1).trans hBb
          have LW := Lib.hid (load_inW bB kx.obj.1)
          have cn : wr.cell? ⟨B, 1, none⟩ = some (.string s) := by rw [cell_of_block bB, hs]; exact kxr.obj.2.1.2.1
          have tiny := kx.small
          have CM := Lib.hid (made_any wr (X.extract 3 10) o.w s now (ext_wl kxr.obj) (ext_nilW kx.obj.1 kx.nil) (by unfold TinyO at tiny; omega))
          obtain ⟨y, hy⟩ : ∃ y, y = mdP o.w s now := ⟨_, rfl⟩
          obtain ⟨PX, hPX⟩ : ∃ P, P = X.extract 3 10 := ⟨_, rfl⟩
          rw [← hy] at CM
          rw [← hPX] at CM LW
          have H5 := Lib.hid (And.intro s1 (And.intro k1 (And.intro n1 (And.intro e1 (And.intro eQ (And.intro nQ (And.intro vQ (And.intro hnmx (And.intro hnmB (And.intro hnm32 (And.intro hy kxr)))))))))))
          clear s1 k1 n1 e1 eQ nQ vQ hRM2 hsoP hlv hRl hRp hRa hRs hCl hCp hCt hm1 hm2 hsl bw ap0 st kx ok hk hperm hroom hh h0 h1 hlpl hnm b1 l1 z1 hB hs o1 o2 b2 hBb hz st2 hnmx notS owr rr hnn hnme hnmB hnm32 fxr kxr bB tiny hy hPX HP
          go_wp2_with (refine wpList_load_by (by kernel_rfl) WT _ rfl (.pointer (some ⟨B, 3, none⟩)) (.agg PX) (by rfl) LW.out ?_)
          refine CM.out.mono ?_
          rintro e w4 ⟨⟨P, rfl, pd, po⟩, b4⟩
          obtain ⟨TH, IN, ON, w5, hw5, b5, l5, z5⟩ := new_pd pd po.nil
          obtain ⟨F, hF⟩ : ∃ F, F = w4.heap.size := ⟨_, rfl⟩
          have HW5 : Hid ((w4.alloc (.cells zerP PT)).setCells w4.heap.size 0 P.toList = w5 ∧ w4.heap.size = F) := ⟨hw5, hF.symm⟩
          have b45 : Below wr.heap.size wr w5 := b4.trans (l5.mono b4.size)
          have LP := Lib.hid (load_pd b5 pd.1)
          rw [← hF] at LP
          have po5 : OwnP wr.heap.size w5 y P := po.keep (fun g _ hg => l5.block g hg)
          have pd5 : PdS w5 P y := pd.own po5
          have RX := Lib.hid (built2 nm pd.1)
          obtain ⟨s1, k1, n1, e1, eQ, nQ, vQ, hnmx, hnmB, hnm32, hy, kxr⟩ := H5.out
          obtain ⟨hRM2, hsoP, hlv, hRl, hRp, hRa, hRs, hCl, hCp, hCt, hm1, hm2, hsl⟩ := HF.out
          obtain ⟨bw, ap0, st, kx, ok, hk, hperm, hroom, hh, h0, h1, hlpl, hnm, b1, l1, z1, hB, hs⟩ := HH.out
          obtain ⟨d, hd⟩ : ∃ d, d = podO 1 nm 0 y := ⟨_, rfl⟩
          have hdm : d = podO 1 nm 0 (mdP o.w o.name now) := by rw [hd, hy, hs]
          have kd : Kept base w5 (podC 1 nm 0 P) d := by
            rw [hdm]
            rw [hy, hs] at pd5 po5
            exact kept_mk pd5 po5 kxr.fits kxr.small hnm32
          have hch : chkE d = 0 := by rw [hdm]; exact chk_mk ok.3 hk hnmB h0 h1
          have hdf : dfl d = d := by rw [hd]; exact dfl_mk nm y
          have hRf : ∀ x ∈ lp.map (·.2), isFailed s x = true → x.name ∈ RM := fun x hx hf => by
            rw [hRM2, List.mem_append, (sortS_perm _).mem_iff]
            exact .inl (List.mem_map.2 ⟨x, List.mem_filter.2 ⟨hx, hf⟩, rfl⟩)
          have hfr := fresh_of hperm hRf hCp (fun nm hm => (hCt nm hm).1) hnmx nQ
          have hll : (L.filter (keepR RM) ++ Q).length ≤ 199 := by
            have := List.length_filter_le (keepR RM) L
            rw [List.length_append]
            omega
          have hcre := cre_ok hch (show d.kind = 1 ∧ d.name = nm by rw [hd]; exact ⟨rfl, rfl⟩) hfr hll (hist1.length + 1)
          have CC := create_any base w5 S1 sp 200 (L.filter (keepR RM) ++ Q) hist1 (podC 1 nm 0 P) d (s1.gr b45) kd (by omega) (by rw [hdf]; exact hch)
          rw [hdf, hcre.1, hcre.2] at CC
          have hlvd : isLive s (setV d (hist1.length + 1)) = true := by rw [hdm, hs]; exact live_mk o.name nm o.w now _
          have HCC := Lib.hid CC
          obtain ⟨D, hD⟩ : ∃ D, D = podC 1 nm 0 P := ⟨_, rfl⟩
          rw [← hD] at HCC RX
          have KX : Hid (∀ w' ev, After base w5 w' S1 sp 200 (L.filter (keepR RM) ++ Q ++ [setV d (hist1.length + 1)]) (hist1 ++ [ev]) → ∃ S1 hist1 Q, StIs base w' S1 sp 200 (L.filter (keepR RM) ++ Q) hist1 ∧ Chg S w2 w' ∧ (∀ g ∈ S1, g ∈ S ∨ w2.heap.size ≤ g) ∧ hist1.length = hist.length + i + (k + 1) ∧ Q.length = k + 1 ∧ Q.map (·.name) = CR.take (k + 1) ∧ ∀ x ∈ Q, isLive s x = true) := fun w' ev af => by
            obtain ⟨S2, a1, a2, a3⟩ := After.chain (k1.trans (Chg.ofBelow b45 []) (by simp)) n1 af
            rw [List.append_assoc] at a1
            refine ⟨S2, _, _, a1, a2, a3, by rw [List.length_append, e1]; rfl, by rw [List.length_append, eQ]; rfl, ?_, fun x hx => ?_⟩
            · rw [List.map_append, nQ, take_app hnmx]
              show CR.take k ++ [d.name] = _
              rw [hd]
              rfl
            · rcases List.mem_append.1 hx with hx | hx
              · exact vQ x hx
              · rw [List.mem_singleton] at hx
                rw [hx]; exact hlvd
          clear pd po b4 hw5 b5 l5 z5 hF b45 po5 pd5 s1 k1 n1 e1 eQ nQ vQ hnmx hnmB hnm32 hy kxr hRM2 hsoP hlv hRl hRp hRa hRs hCl hCp hCt hm1 hm2 hsl bw ap0 st kx ok hk hperm hroom hh h0 h1 hlpl hnm b1 l1 z1 hB hs hd hdm kd hch hdf hRf hfr hll hcre CC hlvd hD H5 CM cn hcl LW
          go_wp2_with (first | (refine wpList_store_mid rfl _ _ _ rfl w4.heap.size 0 P (by rfl) (by rfl) TH.out IN.out ON.out ?_; rw [HW5.out.1, HW5.out.2]) | (refine wpList_load_by (by kernel_rfl) PT _ rfl (.pointer (some ⟨F, 0, none⟩)) (.agg P) (by rfl) LP.out ?_) | (refine wpList_known (by kernel_rfl) (run_built rfl (by kernel_rfl) RX.out _) ?_))
          refine HCC.out.mono ?_
          rintro e w6 (⟨h, _⟩ | ⟨_, rfl, af⟩)
          · exact absurd rfl h
          · have HN := Lib.hid (KX.out w6 _ af)
            clear af KX HCC TH IN ON HW5 LP RX
            go_wp2
            go_roundg (m1 - (k + 1))
            case measure => omega
            case rel => exact ⟨k + 1, by go_num, hlt, Nat.le_refl _, HN.out⟩
        · obtain rfl : k = m1 := by omega
          clear hlt hk1 hk2
          go_wp2
          go_end0
          obtain ⟨S1, hist1, Q, s1, k1, n1, e1, eQ, nQ, vQ⟩ := HP.out
          obtain ⟨hRM2, hsoP, hlv, hRl, hRp, hRa, hRs, hCl, hCp, hCt, hm1, hm2, hsl⟩ := HF.out
          obtain ⟨bw, ap0, st, kx, ok, hk, hperm, hroom, hh, h0, h1, hlpl, hnm, b1, l1, z1, hB, hs⟩ := HH.out
          obtain ⟨o1, o2, b2, hBb, hz, st2⟩ := HR.out
          have hz2 := b2.size
          refine ⟨⟨_, rfl⟩, _, hist1, ⟨S1, s1, (Chg.ofBelow b2 S).trans k1 (fun g hg => .inl hg), fun g hg => ?_⟩, passed_of ap0 hperm hsoP hRM2 vQ (by omega) (by omega)⟩
          rcases n1 g hg with h | h
          · exact .inl h
          · exact .inr (by omega)
end Go.Proofs.YtbkoepghmcdnhaaGreatDoor.Rp
/- Layer 16 (replica): what a pass over all workloads leaves of a store's objects. Rows alone. -/
namespace Go.Proofs.YtbkoepghmcdnhaaGreatDoor.Rp
open Go.RowKit Go.Shelf Go.Lib Go.Sort Go.Deep
open Go.Proofs.YtbkoepghmcdnhaaGreatDoor.Ow Go.Proofs.YtbkoepghmcdnhaaGreatDoor.Vi
set_option linter.unusedVariables false
set_option linter.unusedSimpArgs false
set_option maxRecDepth 20000

def isWl (o : Ob) : Bool := decide (o.kind = 0)
def repN (o : Ob) : Nat := o.w.rep.toNat
/-- How many live pods there are behind a pass. -/
def stepN (a N : Nat) : Nat := a - min (a - N) 16 + min (N - a) 16
/-- How many are wanting. -/
def lack (L WS : List Ob) : Nat := (WS.map fun o => repN o - liveN o.name L).sum
theorem le_sum : ∀ {l : List Nat} {a : Nat}, a ∈ l → a ≤ l.sum
  | [], a, h => by cases h
  | x :: l, a, h => by
    rw [List.sum_cons]
    rcases List.mem_cons.1 h with rfl | h
    · omega
    · have := le_sum h
      omega
theorem lack_mem {L WS : List Ob} {o : Ob} (h : o ∈ WS) : repN o - liveN o.name L ≤ lack L WS := by
  unfold lack
  exact le_sum (List.mem_map.2 ⟨o, h, rfl⟩)
/-- Sums that differ in one place. -/
theorem sum_one (f g : Ob → Nat) : ∀ (WS : List Ob) (j : Nat) (o : Ob), WS[j]? = some o → (∀ (i : Nat) (x : Ob), WS[i]? = some x → i ≠ j → f x = g x) → (WS.map f).sum + g o = (WS.map g).sum + f o
  | [], j, o, h, _ => by simp at h
  | x :: WS, 0, o, h, hs => by
    simp at h
    subst h
    have e : WS.map f = WS.map g := by
      refine List.map_congr_left fun y hy => ?_
      obtain ⟨i, hi⟩ := List.getElem?_of_mem hy
      exact hs (i + 1) y (by rw [List.getElem?_cons_succ]; exact hi) (by omega)
    rw [List.map_cons, List.map_cons, List.sum_cons, List.sum_cons, e]
    omega
  | x :: WS, j + 1, o, h, hs => by
    rw [List.getElem?_cons_succ] at h
    have ih := sum_one f g WS j o h (fun i y hi hne => hs (i + 1) y (by rw [List.getElem?_cons_succ]; exact hi) (by omega))
    have e := hs 0 x (by simp) (by omega)
    rw [List.map_cons, List.map_cons, List.sum_cons, List.sum_cons]
    omega
theorem isOf_iff {s : ByteArray} {x : Ob} : isOf s x = true ↔ isPod x = true ∧ x.p.own = s := by
  unfold isOf
  rw [Bool.and_eq_true, byte_beq, decide_eq_true_eq]
theorem isWl_not {s : ByteArray} {x : Ob} (h : isWl x = true) : isOf s x = false := by
  cases hx : isOf s x with
  | false => rfl
  | true =>
    have := (isOf_iff.1 hx).1
    unfold isPod at this
    unfold isWl at h
    have h1 := of_decide_eq_true this
    have h2 := of_decide_eq_true h
    omega
theorem rest_filter {s : ByteArray} {L : List Ob} (p : Ob → Bool) (hp : ∀ x, p x = true → isOf s x = false) : L.filter p = (L.filter (fun x => !isOf s x)).filter p := by
  rw [List.filter_filter]
  refine List.filter_congr fun x _ => ?_
  cases h : p x with
  | false => rfl
  | true => rw [hp x h]; rfl
theorem Passed.wl {s : ByteArray} {N n n' : Nat} {L L' : List Ob} (h : Passed s N L L' n n') : L'.filter isWl = L.filter isWl := by
  rw [rest_filter (s := s) isWl (fun x hx => isWl_not hx), h.rest, ← rest_filter isWl (fun x hx => isWl_not hx)]
theorem Passed.live_other {s t : ByteArray} {N n n' : Nat} {L L' : List Ob} (h : Passed s N L L' n n') (hne : t ≠ s) : liveN t L' = liveN t L := by
  have hp : ∀ x, isLive t x = true → isOf s x = false := fun x hx => by
    cases ho : isOf s x with
    | false => rfl
    | true =>
      refine absurd ?_ hne
      rw [← (isOf_iff.1 (isLive_of hx).1).2, (isOf_iff.1 ho).2]
  unfold liveN
  rw [rest_filter (s := s) _ hp, h.rest, ← rest_filter _ hp]
theorem Passed.fail_other {s t : ByteArray} {N n n' : Nat} {L L' : List Ob} (h : Passed s N L L' n n') (hne : t ≠ s) : failN t L' = failN t L := by
  have hp : ∀ x, isFailed t x = true → isOf s x = false := fun x hx => by
    cases ho : isOf s x with
    | false => rfl
    | true =>
      refine absurd ?_ hne
      rw [← (isOf_iff.1 (isFailed_of hx).1).2, (isOf_iff.1 ho).2]
  unfold failN
  rw [rest_filter (s := s) _ hp, h.rest, ← rest_filter _ hp]
/-- A pass over all is under way: these of the workloads were gone through. -/
structure Way (L0 WS : List Ob) (j : Nat) (L : List Ob) (n0 n : Nat) : Prop where
  wl : L.filter isWl = L0.filter isWl
  live : ∀ (i : Nat) (o : Ob), WS[i]? = some o → liveN o.name L = if i < j then stepN (liveN o.name L0) (repN o) else liveN o.name L0
  fail : ∀ (i : Nat) (o : Ob), WS[i]? = some o → failN o.name L = if i < j then 0 else failN o.name L0
  pot : L.length + lack L WS ≤ L0.length + lack L0 WS
  evs : n0 ≤ n ∧ n + L.length + 2 * lack L WS ≤ n0 + L0.length + 2 * lack L0 WS
  calm : (∀ o ∈ WS, liveN o.name L0 = repN o ∧ failN o.name L0 = 0) → n = n0
  orph : ∀ x ∈ L, isPod x = true → (∃ o ∈ WS, o.name = x.p.own) ∨ x ∈ L0
theorem Way.start (L0 WS : List Ob) (n0 : Nat) : Way L0 WS 0 L0 n0 n0 :=
  ⟨rfl, fun i o _ => (if_neg (by omega)).symm, fun i o _ => (if_neg (by omega)).symm, Nat.le_refl _, ⟨Nat.le_refl _, Nat.le_refl _⟩, fun _ => rfl, fun x hx _ => .inr hx⟩
theorem Way.next {L0 WS L L' : List Ob} {j n0 n n' : Nat} (h : Way L0 WS j L n0 n) (hu : UnlikeN WS) {o : Ob} (ho : WS[j]? = some o) (k : Passed o.name (repN o) L L' n n') : Way L0 WS (j + 1) L' n0 n' := by
  have other : ∀ (i : Nat) (x : Ob), WS[i]? = some x → i ≠ j → x.name ≠ o.name := fun i x hx hne e => by
    obtain ⟨a1, b1⟩ := List.getElem?_eq_some_iff.1 hx
    obtain ⟨a2, b2⟩ := List.getElem?_eq_some_iff.1 ho
    rcases Nat.lt_or_ge i j with h1 | h1
    · exact List.pairwise_iff_getElem.1 hu i j a1 a2 h1 (by rw [b1, b2]; exact e)
    · exact List.pairwise_iff_getElem.1 hu j i a2 a1 (by omega) (by rw [b1, b2]; exact e.symm)
  have hl := h.live j o ho
  have hf := h.fail j o ho
  rw [if_neg (by omega)] at hl hf
  have hs := sum_one (fun x => repN x - liveN x.name L') (fun x => repN x - liveN x.name L) WS j o ho (fun i x hx hne => by show _ - _ = _ - _; rw [k.live_other (other i x hx hne)])
  have hs : lack L' WS + (repN o - liveN o.name L) = lack L WS + (repN o - liveN o.name L') := hs
  have c1 := count3 o.name L
  have c2 := count3 o.name L'
  have f2 : failN o.name L' = 0 := by unfold failN; rw [k.fail]; rfl
  rw [k.rest] at c2
  have kl := k.live
  have kv := k.ver
  obtain ⟨e1, e2⟩ := h.evs
  have hp := h.pot
  refine ⟨k.wl.trans h.wl, fun i x hx => ?_, fun i x hx => ?_, by omega, ⟨by omega, by omega⟩, fun hc => ?_, fun x hx hp => ?_⟩
  · by_cases hij : i = j
    · subst hij
      rw [ho] at hx
      injection hx with hx
      subst hx
      rw [if_pos (by omega), kl, hl]
      rfl
    · rw [k.live_other (other i x hx hij), h.live i x hx]
      by_cases h2 : i < j
      · rw [if_pos h2, if_pos (by omega)]
      · rw [if_neg h2, if_neg (by omega)]
  · by_cases hij : i = j
    · subst hij
      rw [ho] at hx
      injection hx with hx
      subst hx
      rw [if_pos (by omega), f2]
    · rw [k.fail_other (other i x hx hij), h.fail i x hx]
      by_cases h2 : i < j
      · rw [if_pos h2, if_pos (by omega)]
      · rw [if_neg h2, if_neg (by omega)]
  · have e := h.calm hc
    obtain ⟨h1, h2⟩ := hc o (List.mem_of_getElem? ho)
    omega
  · cases hof : isOf o.name x with
    | true => exact .inl ⟨o, List.mem_of_getElem? ho, ((isOf_iff.1 hof).2).symm⟩
    | false =>
      have hm : x ∈ L'.filter (fun x => !isOf o.name x) := List.mem_filter.2 ⟨hx, by rw [hof]; rfl⟩
      rw [k.rest] at hm
      exact h.orph x (List.mem_filter.1 hm).1 hp

/-! ### pods of nobody -/
/-- No workload of the row is the pod's owner. -/
def orphan (L : List Ob) (x : Ob) : Bool := !(L.any (hit 0 x.p.own))
def orphs (L : List Ob) (l : List Ob) : List ByteArray := (l.filter (orphan L)).map (·.name)
theorem hit_wl {nm : ByteArray} {x : Ob} : hit 0 nm x = true ↔ isWl x = true ∧ x.name = nm := by
  rw [hit_iff]
  unfold isWl
  rw [decide_eq_true_eq]
theorem keepR_wl {R : List ByteArray} {x : Ob} (h : isWl x = true) : keepR R x = true := by
  rw [keepR_iff]
  rintro ⟨h1, _⟩
  unfold isPod at h1
  unfold isWl at h
  have h1 := of_decide_eq_true h1
  have h2 := of_decide_eq_true h
  omega
theorem any_keep (L : List Ob) (R : List ByteArray) (nm : ByteArray) : (L.filter (keepR R)).any (hit 0 nm) = L.any (hit 0 nm) := by
  rw [Bool.eq_iff_iff, List.any_eq_true, List.any_eq_true]
  constructor
  · rintro ⟨x, hx, h⟩
    exact ⟨x, (List.mem_filter.1 hx).1, h⟩
  · rintro ⟨x, hx, h⟩
    exact ⟨x, List.mem_filter.2 ⟨hx, keepR_wl (hit_wl.1 h).1⟩, h⟩
theorem orphs_next {L l : List Ob} {j : Nat} {x : Ob} (hx : l[j]? = some x) : orphs L (l.take (j + 1)) = orphs L (l.take j) ++ (if orphan L x = true then [x.name] else []) := by
  unfold orphs
  rw [List.take_add_one, hx, List.filter_append, List.map_append]
  cases h : orphan L x <;> simp [h]
theorem listed_unlike {L : List Ob} (hL : KeyNe L) (k : Int) : UnlikeN (listed k L) := by
  have h1 : UnlikeN (L.filter (fun o => decide (o.kind = k))) := by
    refine List.Pairwise.imp_of_mem (R := fun a b => Key a ≠ Key b) (fun {a b} ha hb hne e => hne ?_) (List.Pairwise.filter _ hL)
    have pa := of_decide_eq_true (List.mem_filter.1 ha).2
    have pb := of_decide_eq_true (List.mem_filter.1 hb).2
    unfold Key
    rw [pa, pb, e]
  exact unlike_perm h1 (listed_perm k L).symm
/-- The next orphan is there yet, and can be deleted. -/
theorem orph_del {L : List Ob} (hL : KeyNe L) {j : Nat} {x : Ob} (hx : (listed 1 L)[j]? = some x) : (L.filter (keepR (orphs L ((listed 1 L).take j)))).find? (hit 1 x.name) ≠ none := by
  intro hf
  obtain ⟨hm, hk⟩ := listed_mem.1 (List.mem_of_getElem? hx)
  have px : isPod x = true := by unfold isPod; rw [hk]; rfl
  refine List.find?_eq_none.1 hf x (List.mem_filter.2 ⟨hm, keepR_iff.2 ?_⟩) (hit_pod.2 ⟨px, rfl⟩)
  rintro ⟨_, hn⟩
  unfold orphs at hn
  obtain ⟨y, hy, e⟩ := List.mem_map.1 hn
  have hy := (List.mem_filter.1 hy).1
  obtain ⟨i, hi⟩ := List.getElem?_of_mem hy
  have hlt : i < j := by
    have := (List.getElem?_eq_some_iff.1 hi).1
    rw [List.length_take] at this
    omega
  rw [List.getElem?_take_of_lt hlt] at hi
  obtain ⟨a1, b1⟩ := List.getElem?_eq_some_iff.1 hi
  obtain ⟨a2, b2⟩ := List.getElem?_eq_some_iff.1 hx
  exact List.pairwise_iff_getElem.1 (listed_unlike hL 1) i j a1 a2 hlt (by rw [b1, b2]; exact e)

/-- A pass over all has been. -/
structure Over (L0 L : List Ob) (n0 n : Nat) : Prop where
  wl : L.filter isWl = L0.filter isWl
  live : ∀ o ∈ listed 0 L0, liveN o.name L = stepN (liveN o.name L0) (repN o)
  fail : ∀ o ∈ listed 0 L0, failN o.name L = 0
  orph : ∀ x ∈ L, isPod x = true → ∃ o ∈ listed 0 L0, o.name = x.p.own
  pot : L.length + lack L (listed 0 L0) ≤ L0.length + lack L0 (listed 0 L0)
  evs : n0 ≤ n ∧ n + L.length + 2 * lack L (listed 0 L0) ≤ n0 + L0.length + 2 * lack L0 (listed 0 L0)
  calm : (∀ o ∈ listed 0 L0, liveN o.name L0 = repN o ∧ failN o.name L0 = 0) → (∀ x ∈ L0, isPod x = true → ∃ o ∈ listed 0 L0, o.name = x.p.own) → n = n0
theorem Over.listed {L0 L : List Ob} {n0 n : Nat} (h : Over L0 L n0 n) : listed 0 L = listed 0 L0 := by
  unfold Proofs.YtbkoepghmcdnhaaGreatDoor.listed
  have := h.wl
  unfold isWl at this
  rw [this]
theorem over_of {L0 L : List Ob} {n0 n n' : Nat} (hL : KeyNe L) (h : Way L0 (listed 0 L0) (listed 0 L0).length L n0 n) (hn : n' = n + (orphs L (listed 1 L)).length) : Over L0 (L.filter (keepR (orphs L (listed 1 L)))) n0 n' := by
  have hwl : ∀ nm, L.any (hit 0 nm) = true ↔ ∃ o ∈ listed 0 L0, o.name = nm := fun nm => by
    rw [List.any_eq_true]
    constructor
    · rintro ⟨x, hx, hh⟩
      obtain ⟨h1, h2⟩ := hit_wl.1 hh
      have hm : x ∈ L.filter isWl := List.mem_filter.2 ⟨hx, h1⟩
      rw [h.wl] at hm
      exact ⟨x, listed_mem.2 ⟨(List.mem_filter.1 hm).1, of_decide_eq_true h1⟩, h2⟩
    · rintro ⟨o, ho, e⟩
      obtain ⟨h1, h2⟩ := listed_mem.1 ho
      have hm : o ∈ L0.filter isWl := List.mem_filter.2 ⟨h1, decide_eq_true h2⟩
      rw [← h.wl] at hm
      exact ⟨o, (List.mem_filter.1 hm).1, hit_wl.2 ⟨(List.mem_filter.1 hm).2, e⟩⟩
  have kp : ∀ x ∈ L, keepR (orphs L (listed 1 L)) x = !(isPod x && orphan L x) := fun x hx => by
    rw [Bool.eq_iff_iff, keepR_iff, Bool.not_eq_true', ← Bool.not_eq_true, Bool.and_eq_true]
    refine not_congr ⟨fun ⟨h1, h2⟩ => ⟨h1, ?_⟩, fun ⟨h1, h2⟩ => ⟨h1, ?_⟩⟩
    · unfold orphs at h2
      obtain ⟨y, hy, e⟩ := List.mem_map.1 h2
      obtain ⟨h3, h4⟩ := List.mem_filter.1 hy
      obtain ⟨h5, h6⟩ := listed_mem.1 h3
      have := hL.pod_eq h5 hx (by unfold isPod; rw [h6]; rfl) h1 e
      rw [← this]; exact h4
    · unfold orphs
      refine List.mem_map.2 ⟨x, List.mem_filter.2 ⟨listed_mem.2 ⟨hx, ?_⟩, h2⟩, rfl⟩
      unfold isPod at h1
      exact of_decide_eq_true h1
  have own : ∀ o ∈ listed 0 L0, ∀ x, isOf o.name x = true → orphan L x = false := fun o ho x hx => by
    unfold orphan
    rw [(isOf_iff.1 hx).2, (hwl o.name).2 ⟨o, ho, rfl⟩]
    rfl
  have live : ∀ o ∈ listed 0 L0, liveN o.name (L.filter (keepR (orphs L (listed 1 L)))) = liveN o.name L := fun o ho => by
    unfold liveN
    rw [List.filter_filter]
    refine congrArg List.length (List.filter_congr fun x hx => ?_)
    cases hl : isLive o.name x with
    | false => rfl
    | true => rw [kp x hx, own o ho x (isLive_of hl).1, Bool.and_false]; rfl
  have fail : ∀ o ∈ listed 0 L0, failN o.name (L.filter (keepR (orphs L (listed 1 L)))) = failN o.name L := fun o ho => by
    unfold failN
    rw [List.filter_filter]
    refine congrArg List.length (List.filter_congr fun x hx => ?_)
    cases hl : isFailed o.name x with
    | false => rfl
    | true => rw [kp x hx, own o ho x (isFailed_of hl).1, Bool.and_false]; rfl
  have lk : lack (L.filter (keepR (orphs L (listed 1 L)))) (listed 0 L0) = lack L (listed 0 L0) := by
    unfold lack
    refine congrArg List.sum (List.map_congr_left fun o ho => ?_)
    rw [live o ho]
  have ln : (L.filter (keepR (orphs L (listed 1 L)))).length + (orphs L (listed 1 L)).length = L.length := by
    have e1 := split_len (keepR (orphs L (listed 1 L))) L
    have e2 : (L.filter (fun x => !keepR (orphs L (listed 1 L)) x)).length = (orphs L (listed 1 L)).length := by
      unfold orphs
      rw [List.length_map, ((listed_perm 1 L).filter (orphan L)).length_eq, List.filter_filter]
      refine congrArg List.length (List.filter_congr fun x hx => ?_)
      have := kp x hx
      unfold orphs at this
      rw [this, Bool.not_not]
      unfold isPod
      rw [Bool.and_comm]
    omega
  obtain ⟨e1, e2⟩ := h.evs
  have hp := h.pot
  refine ⟨?_, fun o ho => ?_, fun o ho => ?_, fun x hx hpx => ?_, by rw [lk]; omega, ⟨by omega, by rw [lk]; omega⟩, fun hc ho => ?_⟩
  · rw [← h.wl, List.filter_filter]
    refine List.filter_congr fun x _ => ?_
    cases hw : isWl x with
    | false => rfl
    | true => rw [keepR_wl hw]; rfl
  · obtain ⟨i, hi⟩ := List.getElem?_of_mem ho
    rw [live o ho, h.live i o hi, if_pos (List.getElem?_eq_some_iff.1 hi).1]
  · obtain ⟨i, hi⟩ := List.getElem?_of_mem ho
    rw [fail o ho, h.fail i o hi, if_pos (List.getElem?_eq_some_iff.1 hi).1]
  · obtain ⟨h1, h2⟩ := List.mem_filter.1 hx
    rw [kp x h1, hpx, Bool.true_and, Bool.not_eq_true'] at h2
    unfold orphan at h2
    refine (hwl _).1 ?_
    simpa using h2
  · have e := h.calm hc
    have : orphs L (listed 1 L) = [] := by
      unfold orphs
      rw [List.map_eq_nil_iff, List.filter_eq_nil_iff]
      intro x hx hor
      obtain ⟨h1, h2⟩ := listed_mem.1 hx
      have px : isPod x = true := by unfold isPod; rw [h2]; rfl
      have hex : ∃ o ∈ listed 0 L0, o.name = x.p.own := by
        rcases h.orph x h1 px with h3 | h3
        · exact h3
        · exact ho x h3 px
      unfold orphan at hor
      rw [(hwl _).2 hex] at hor
      cases hor
    rw [hn, this, e]
    rfl

/-! ### at rest -/
/-- So many passes have been. -/
structure Rests (L : List Ob) (i : Nat) : Prop where
  near : ∀ o ∈ listed 0 L, liveN o.name L ≤ repN o + (60 - 16 * i) ∧ repN o ≤ liveN o.name L + (60 - 16 * i)
  fail : 1 ≤ i → ∀ o ∈ listed 0 L, failN o.name L = 0
  orph : 1 ≤ i → ∀ x ∈ L, isPod x = true → ∃ o ∈ listed 0 L, o.name = x.p.own
theorem Rests.start {L : List Ob} (h1 : L.length ≤ 60) (h2 : ∀ o ∈ listed 0 L, repN o ≤ 20) : Rests L 0 :=
  ⟨fun o ho => by have := h2 o ho; have := List.length_filter_le (isLive o.name) L; unfold liveN; omega, fun h => by omega, fun h => by omega⟩
theorem Rests.next {L0 L : List Ob} {i n0 n : Nat} (h : Rests L0 i) (k : Over L0 L n0 n) : Rests L (i + 1) := by
  refine ⟨?_, fun _ => ?_, fun _ => ?_⟩ <;> rw [k.listed]
  · intro o ho
    rw [k.live o ho]
    have := h.near o ho
    unfold stepN
    omega
  · exact k.fail
  · exact k.orph
theorem Rests.calm {L0 L : List Ob} {i n0 n : Nat} (h : Rests L0 i) (hi : 4 ≤ i) (k : Over L0 L n0 n) : n = n0 :=
  k.calm (fun o ho => ⟨by have := h.near o ho; omega, h.fail (by omega) o ho⟩) (h.orph (by omega))
/-- Each pod is one workload's. -/
theorem cover_len (L : List Ob) : ∀ WS : List Ob, UnlikeN WS → (L.filter (fun x => isPod x && WS.any (fun o => decide (o.name = x.p.own)))).length = (WS.map fun o => liveN o.name L + failN o.name L).sum
  | [], _ => by simp
  | o :: WS, hu => by
    have hp := List.pairwise_cons.1 hu
    rw [List.map_cons, List.sum_cons, ← cover_len L WS hp.2]
    have e1 := count3 o.name L
    have e2 := split_len (isOf o.name) (L.filter (fun x => isPod x && (o :: WS).any (fun o => decide (o.name = x.p.own))))
    have e3 : (L.filter (fun x => isPod x && (o :: WS).any (fun o => decide (o.name = x.p.own)))).filter (isOf o.name) = L.filter (isOf o.name) := by
      rw [List.filter_filter]
      refine List.filter_congr fun x _ => ?_
      cases h : isOf o.name x with
      | false => rfl
      | true =>
        obtain ⟨h1, h2⟩ := isOf_iff.1 h
        rw [h1, List.any_cons, h2, decide_eq_true rfl]
        rfl
    have e4 : (L.filter (fun x => isPod x && (o :: WS).any (fun o => decide (o.name = x.p.own)))).filter (fun x => !isOf o.name x) = L.filter (fun x => isPod x && WS.any (fun o => decide (o.name = x.p.own))) := by
      rw [List.filter_filter]
      refine List.filter_congr fun x _ => ?_
      cases hpx : isPod x with
      | false => rw [Bool.false_and, Bool.false_and, Bool.and_false]
      | true =>
        rw [Bool.true_and, Bool.true_and, List.any_cons]
        cases h : isOf o.name x with
        | false =>
          have : decide (o.name = x.p.own) = false := decide_eq_false (fun e => by rw [isOf_iff.2 ⟨hpx, e.symm⟩] at h; cases h)
          rw [this]
          rfl
        | true =>
          have hx := (isOf_iff.1 h).2
          have : WS.any (fun o => decide (o.name = x.p.own)) = false := by
            rw [List.any_eq_false]
            intro y hy e
            exact hp.1 y hy (by rw [of_decide_eq_true e, hx])
          rw [this]
          rfl
    have e5 := split_len (isOf o.name) L
    rw [e3, e4] at e2
    omega
/-- At rest there are as many pods as there should be, of all. -/
theorem Rests.all {L : List Ob} {i : Nat} (h : Rests L i) (hi : 4 ≤ i) (hL : KeyNe L) : (listed 1 L).length = ((listed 0 L).map repN).sum := by
  have e := cover_len L (listed 0 L) (listed_unlike hL 0)
  have e1 : L.filter (fun x => isPod x && (listed 0 L).any (fun o => decide (o.name = x.p.own))) = L.filter (fun o => decide (o.kind = 1)) := by
    refine List.filter_congr fun x hx => ?_
    cases hp : isPod x with
    | false => unfold isPod at hp; rw [hp, Bool.false_and]
    | true =>
      obtain ⟨o, ho, e⟩ := h.orph (by omega) x hx hp
      have : (listed 0 L).any (fun o => decide (o.name = x.p.own)) = true := List.any_eq_true.2 ⟨o, ho, decide_eq_true e⟩
      rw [this]
      unfold isPod at hp
      rw [hp]
      rfl
  rw [(listed_perm 1 L).length_eq, ← e1, e]
  refine congrArg List.sum (List.map_congr_left fun o ho => ?_)
  have := h.near o ho
  have := h.fail (by omega) o ho
  omega
theorem Rests.live {L : List Ob} {i : Nat} (h : Rests L i) (hi : 4 ≤ i) {o : Ob} (ho : o ∈ listed 0 L) : liveN o.name L = repN o := by
  have := h.near o ho
  omega
end Go.Proofs.YtbkoepghmcdnhaaGreatDoor.Rp
/- Pods: what a pass over a row of objects comes to; an object whose pod was put anew. -/
namespace Go.Proofs.YtbkoepghmcdnhaaGreatDoor.Po
open Go.RowKit Go.Shelf Go.Lib Go.Sort Go.Deep
open Go.Joins (cell_of_block unfrozen_of_block block_setCell)
set_option linter.unusedVariables false
set_option linter.unusedSimpArgs false
set_option maxRecDepth 20000

/-! ### what a pass comes to -/
def setP (o : Ob) (y : Pd) : Ob := { o with p := y }
/-- An object's pod, as it gets on by the nodes of a row. -/
def gets (l0 : List Ob) (now : Int) (o : Ob) : Ob := setP o (nxt o.p now (l0.any (hit 2 o.p.node)))
/-- Does it? -/
def mv (l0 : List Ob) (now : Int) (o : Ob) : Bool := !(decide ((nxt o.p now (l0.any (hit 2 o.p.node))).ph = o.p.ph))
theorem nxt_ways (x : Pd) (now : Int) (there : Bool) : nxt x now there = x ∨ (x.node.size ≠ 0 ∧ nxt x now there = setPh x 3 now) ∨ (x.ph = 1 ∧ nxt x now there = setPh x 2 (x.since + x.warm)) := by
  unfold nxt
  split
  · exact .inl rfl
  · split
    · rename_i hn; exact .inr (.inl ⟨hn.1, rfl⟩)
    · split
      · rename_i hb; exact .inr (.inr ⟨hb.1, rfl⟩)
      · exact .inl rfl
theorem nxt_same {x : Pd} {now : Int} {there : Bool} (h : (nxt x now there).ph = x.ph) : nxt x now there = x := by
  unfold nxt at h ⊢
  split at h
  · rename_i h3; rw [if_pos h3]
  · rename_i h3
    split at h
    · exact absurd h.symm h3
    · rename_i hn
      split at h
      · rename_i hb
        have : (2 : Int) = x.ph := h
        omega
      · rename_i hb; rw [if_neg h3, if_neg hn, if_neg hb]
theorem mv_not {l0 : List Ob} {now : Int} {o : Ob} (h : mv l0 now o = false) : gets l0 now o = o := by
  have h1 : (nxt o.p now (l0.any (hit 2 o.p.node))).ph = o.p.ph := by
    unfold mv at h
    simpa using h
  unfold gets
  rw [nxt_same h1]
  rfl
theorem key_gets (l0 : List Ob) (now : Int) (o : Ob) (v : Nat) : Key (setV (gets l0 now o) v) = Key o := rfl

/-- A pass under way: these were gone through. -/
structure Pas (l0 : List Ob) (now : Int) (n0 : Nat) (done l : List Ob) (hist : List Ev) : Prop where
  sub : ∀ o ∈ done, o ∈ l0
  len : l.length = l0.length
  any : ∀ k nm, l.any (hit k nm) = l0.any (hit k nm)
  stay : ∀ o ∈ l0, (o ∉ done ∨ mv l0 now o = false) → o ∈ l
  got : ∀ o ∈ done, mv l0 now o = true → ∃ v, v < 18446744073709551616 ∧ setV (gets l0 now o) v ∈ l
  cnt : hist.length = n0 + (done.filter (mv l0 now)).length
theorem Pas.start (l0 : List Ob) (now : Int) (hist : List Ev) : Pas l0 now hist.length [] l0 hist :=
  ⟨fun _ h => (by cases h), rfl, fun _ _ => rfl, fun o h _ => h, fun _ h => (by cases h), rfl⟩
theorem Pas.skip {l0 l done : List Ob} {now : Int} {n0 : Nat} {hist : List Ev} (h : Pas l0 now n0 done l hist) {o : Ob} (ho : o ∈ l0) (hm : mv l0 now o = false) : Pas l0 now n0 (done ++ [o]) l hist := by
  refine ⟨fun x hx => ?_, h.len, h.any, fun x hx hc => h.stay x hx ?_, fun x hx hv => ?_, ?_⟩
  · rcases List.mem_append.1 hx with hx | hx
    · exact h.sub x hx
    · rw [List.mem_singleton] at hx; rw [hx]; exact ho
  · rcases hc with hc | hc
    · exact .inl (fun hd => hc (List.mem_append_left _ hd))
    · exact .inr hc
  · rcases List.mem_append.1 hx with hx | hx
    · exact h.got x hx hv
    · rw [List.mem_singleton] at hx; rw [hx, hm] at hv; cases hv
  · rw [h.cnt, List.filter_append]
    simp [hm]
theorem Pas.turn {l0 l done : List Ob} {now : Int} {n0 : Nat} {hist : List Ev} (h : Pas l0 now n0 done l hist) (ap0 : l0.Pairwise (fun a b => Key a ≠ Key b)) {o : Ob} (ho : o ∈ l0) (hd : o ∉ done) (hm : mv l0 now o = true) (hk : OkK (gets l0 now o)) {v : Nat} (hv : v < 18446744073709551616) (e : Ev) :
    Pas l0 now n0 (done ++ [o]) (put l (setV (gets l0 now o) v)) (hist ++ [e]) := by
  have ol : o ∈ l := h.stay o ho (.inl hd)
  have ha : l.any (hit (setV (gets l0 now o) v).kind (setV (gets l0 now o) v).name) = true := List.any_eq_true.2 ⟨o, ol, hit_self o⟩
  have hkv : OkK (setV (gets l0 now o) v) := ⟨hk.1, hk.2, hk.3⟩
  have other : ∀ x ∈ l0, x ≠ o → Key x ≠ Key (setV (gets l0 now o) v) := fun x hx hne e => hne (key_same ap0 hx ho (e.trans (key_gets l0 now o v)))
  refine ⟨fun x hx => ?_, ?_, fun k nm => ?_, fun x hx hc => ?_, fun x hx hvx => ?_, ?_⟩
  · rcases List.mem_append.1 hx with hx | hx
    · exact h.sub x hx
    · rw [List.mem_singleton] at hx; rw [hx]; exact ho
  · rw [put_len, if_pos ha]; exact h.len
  · have s := (step_set (v := v) ha hkv).now k nm
    rw [s]
    by_cases hh : k = (setV (gets l0 now o) v).kind ∧ nm = (setV (gets l0 now o) v).name
    · rw [if_pos hh]
      obtain ⟨rfl, rfl⟩ := hh
      exact (List.any_eq_true.2 ⟨o, ho, hit_self o⟩).symm
    · rw [if_neg hh]; exact h.any k nm
  · have hne : x ≠ o := by
      rintro rfl
      rcases hc with hc | hc
      · exact hc (List.mem_append_right _ (by simp))
      · rw [hm] at hc; cases hc
    refine put_keeps (h.stay x hx ?_) (other x hx hne)
    rcases hc with hc | hc
    · exact .inl (fun hd => hc (List.mem_append_left _ hd))
    · exact .inr hc
  · by_cases hxo : x = o
    · subst hxo
      exact ⟨v, hv, put_self l _⟩
    · rcases List.mem_append.1 hx with hx | hx
      · obtain ⟨u, hu, hm2⟩ := h.got x hx hvx
        exact ⟨u, hu, put_keeps hm2 (other x (h.sub x hx) hxo)⟩
      · rw [List.mem_singleton] at hx; exact absurd hx hxo
  · rw [List.length_append, h.cnt, List.filter_append, List.length_append]
    simp [hm]
    omega
/-- Where what is there behind a pass comes from. -/
theorem Pas.back {l0 l done : List Ob} {now : Int} {n0 : Nat} {hist : List Ev} (h : Pas l0 now n0 done l hist) (ap : l.Pairwise (fun a b => Key a ≠ Key b)) {x : Ob} (hx : x ∈ l) : ∃ o ∈ l0, Key o = Key x ∧ ((x = o ∧ (o ∉ done ∨ mv l0 now o = false)) ∨ (o ∈ done ∧ mv l0 now o = true ∧ ∃ v, x = setV (gets l0 now o) v)) := by
  have h1 := h.any x.kind x.name
  rw [List.any_eq_true.2 ⟨x, hx, hit_self x⟩] at h1
  obtain ⟨o, ho, hh⟩ := List.any_eq_true.1 h1.symm
  have hk : Key o = Key x := by
    obtain ⟨e1, e2⟩ := hit_iff.1 hh
    unfold Key
    rw [e1, e2]
  refine ⟨o, ho, hk, ?_⟩
  by_cases hd : o ∈ done
  · cases hm : mv l0 now o with
    | false => exact .inl ⟨key_same ap hx (h.stay o ho (.inr hm)) hk.symm, .inr rfl⟩
    | true =>
      obtain ⟨v, _, hv⟩ := h.got o hd hm
      exact .inr ⟨hd, rfl, v, key_same ap hx hv (hk.symm.trans (key_gets l0 now o v).symm)⟩
  · exact .inl ⟨key_same ap hx (h.stay o ho (.inl hd)) hk.symm, .inl hd⟩
/-- A pass behind a pass turns none. -/
theorem Pas.calm {l0 l : List Ob} {now : Int} {n0 : Nat} {hist : List Ev} (h : Pas l0 now n0 (listed 1 l0) l hist) (ap : l.Pairwise (fun a b => Key a ≠ Key b)) : (listed 1 l).filter (mv l now) = [] := by
  rw [List.filter_eq_nil_iff]
  intro x hx hm
  obtain ⟨hx, hk1⟩ := listed_mem.1 hx
  have e : ∀ o : Ob, mv l now o = mv l0 now o := fun o => by unfold mv; rw [h.any]
  rw [e] at hm
  obtain ⟨o, ho, hk, (⟨rfl, hc⟩ | ⟨hd, hm2, v, rfl⟩)⟩ := h.back ap hx
  · rcases hc with hc | hc
    · exact hc (listed_mem.2 ⟨ho, hk1⟩)
    · rw [hc] at hm; cases hm
  · unfold mv at hm
    have e2 : (setV (gets l0 now o) v).p = nxt o.p now (l0.any (hit 2 o.p.node)) := rfl
    rw [e2, (nxt_rows o.p now (l0.any (hit 2 o.p.node))).2.2.2.2.1, nxt_again] at hm
    simp at hm
theorem listed_new {l : List Ob} (hp : l.Pairwise (fun a b => Key a ≠ Key b)) {k : Int} {n : Nat} {o : Ob} (h : (listed k l)[n]? = some o) : o ∉ (listed k l).take n := by
  intro hm
  obtain ⟨i, hi⟩ := List.getElem?_of_mem hm
  have hlt : i < n := by
    have := (List.getElem?_eq_some_iff.1 hi).1
    rw [List.length_take] at this
    omega
  rw [List.getElem?_take_of_lt hlt] at hi
  have up := listed_up hp k
  obtain ⟨h1, e1⟩ := List.getElem?_eq_some_iff.1 hi
  obtain ⟨h2, e2⟩ := List.getElem?_eq_some_iff.1 h
  have r := List.pairwise_iff_getElem.1 up i n h1 h2 hlt
  rw [e1, e2, rises_irr] at r
  cases r

/-! ### an object whose pod was put anew -/
theorem OwnP.fx {base N : Nat} {w w' : World} {x : Pd} {P : Array Value} (h : OwnP N w x P) (f : Fx base w w') : OwnP N w' x P := ⟨h.1.fx rfl f, h.2.1.fx rfl f, h.2.2.fx rfl f⟩
/-- What stays of a pod that gets on. -/
def SameP (y x : Pd) : Prop := y.lab = x.lab ∧ y.sel = x.sel ∧ y.tol = x.tol ∧ y.own = x.own ∧ y.node = x.node
theorem nxt_sameP (x : Pd) (now : Int) (there : Bool) : SameP (nxt x now there) x := by
  obtain ⟨h1, h2, h3, _, h5, h6⟩ := nxt_rows x now there
  exact ⟨h1, h2, h3, h6, h5⟩
theorem tiny_setP {o : Ob} {y : Pd} (h : TinyO o) (s : SameP y o.p) : TinyO (setP o y) := by
  obtain ⟨h1, h2, h3, _⟩ := s
  obtain ⟨r0, r1, r2, r3, r4, r5, r6⟩ := h
  exact ⟨r0, r1, r2, by show y.lab.length ≤ 255; rw [h1]; exact r3, by show y.sel.length ≤ 255; rw [h2]; exact r4, by show y.tol.length ≤ 255; rw [h3]; exact r5, r6⟩
/-! ### what may be gets on to what may be -/
theorem chk_pod {o : Ob} (h : chkE o = 0) (hk : o.kind = 1) : c_p o = true := by
  unfold chkE at h
  split at h
  · omega
  · split at h
    · omega
    · split at h
      · omega
      · rename_i hh
        have hs : shC o = true := by
          cases hsh : shC o with
          | false => exact absurd (.inr hsh) hh
          | true => rfl
        unfold shC at hs
        simpa [hk] using hs
theorem tk_pod {o : Ob} (h : chkE o = 0) (hk : o.kind = 1) : Tk o.p := by
  have hc := chk_pod h hk
  unfold c_p pdC wlC at hc
  simp only [Bool.and_eq_true] at hc
  obtain ⟨⟨_, hs⟩, ⟨_, hw⟩⟩ := hc
  unfold withinB at hs hw
  simp only [Bool.and_eq_true, decide_eq_true_eq] at hs hw
  exact ⟨hs.1, hs.2, hw.1, hw.2⟩
theorem dfl_pod {o : Ob} (hk : o.kind = 1) : dfl o = o := (if_neg (by omega)).trans (if_neg (by omega))
end Go.Proofs.YtbkoepghmcdnhaaGreatDoor.Po
/- Pods: Pass: of no store, of a store. -/
namespace Go.Proofs.YtbkoepghmcdnhaaGreatDoor.Po
open Go.RowKit Go.Shelf Go.Lib Go.Sort Go.Deep
open Go.Joins (cell_of_block unfrozen_of_block block_setCell)
open Go.Proofs.YtbkoepghmcdnhaaGreatDoor.Lc
set_option linter.unusedVariables false
set_option linter.unusedSimpArgs false
set_option maxRecDepth 20000

/-- A store bears the turn of what is neither cells nor a map. -/
theorem stIs_idle {base : Nat} {A A' : World} {S T : List Nat} {sp : Nat} {hist : List Ev} {most : Int} {l : List Ob} (h : StIs base A S sp most l hist) (c : Chg T A A') (hT : ∀ g ∈ T, base ≤ g ∧ A.heap[g]? = some (.deferred (some []))) : StIs base A' S sp most l hist ∧ Fx base A A' := by
  have fx : Fx base A A' := c.fx (fun g hg _ hp => by
    obtain ⟨hb, hr⟩ := hT g hg
    rcases hp with hp | ⟨cs, T', fz, h6, _⟩
    · omega
    · rw [hr] at h6; cases h6)
  refine ⟨h.stay (fun g hg => ?_) fx, fx⟩
  refine c.block g (h.prot g hg).2.1 (fun hm => ?_)
  obtain ⟨_, hr⟩ := hT g hm
  obtain ⟨mb, D, ev, kept, h⟩ := h
  have e := h.fp
  rw [e] at hg
  simp only [List.mem_cons, Option.mem_toList] at hg
  rcases hg with rfl | rfl | hg
  · have := h.blk; rw [hr] at this; cases this
  · obtain ⟨es, c', h1, _⟩ := h.map.own
    rw [hr] at h1
    cases h1
  · rcases h.evs.2 with ⟨rfl, _⟩ | ⟨g', cap, cur, rfl, hb, h2, _⟩
    · cases hg
    · simp [Value.ownBlock] at hg
      subst hg
      rw [hr] at h2; cases h2
theorem stIs_fine {base : Nat} {w : World} {S : List Nat} {sp : Nat} {hist : List Ev} {most : Int} {l : List Ob} (h : StIs base w S sp most l hist) : base ≤ w.heap.size ∧ l.Pairwise (fun a b => Key a ≠ Key b) ∧ ∀ o ∈ l, OkK o := by
  obtain ⟨mb, D, ev, kept, h⟩ := h
  exact ⟨h.bw, h.map.apart, h.map.ok⟩
end Go.Proofs.YtbkoepghmcdnhaaGreatDoor.Po
/- Objects that came in; the law's store of them. -/
namespace Go.Proofs.YtbkoepghmcdnhaaGreatDoor.Po
open Go.ChangeShapes Go.WideShapes Go.ChangeAt Go.RowKit Go.Deep Go.Lib Go.Shelf Go.Sort
open Go.Joins (cell_of_block unfrozen_of_block block_setCell)
open Go.Proofs.YtbkoepghmcdnhaaGreatDoor.Lc
set_option linter.unusedVariables false
set_option linter.unusedSimpArgs false
set_option maxRecDepth 20000

abbrev Obv := Cs × Ob
def encOb (x : Obv) : List Value := x.1.1.toList
theorem lenOb (x : Obv) : (encOb x).length = 47 := lenC x.1
def okOb (W : World) (x : Obv) : Prop := ObjV W x.1.1 x.2 ∧ NilO x.1.1 ∧ FitsO x.2 ∧ I64 x.2.kind
theorem open_rowK {α : Type} [Inhabited α] {H : Type} {enc : TypeId × Value → H} {W : World} {S E : TypeId} {k n o : Nat} (e : α → List Value) (ok : α → Prop) (hS : Tryz.prog.underlying S = some (.slice E)) (hk : Tryz.prog.cellsOf E = k) (h0 : 0 < k)
    (hb : 0 < Tryz.prog.bytesOf E) (each : ∀ n cs y, cs.length = k → DataW.trod enc Tryz.prog W 0 (fun _ => true) true n E cs = some y → Wt E y.1 → ∃ x, (∀ (t : Nat) (v : Value), (e x)[t]? = some v → cs[t]? = some v) ∧ ok x) {cs : List Value} {y : DataW H × List MemPlace} (h : DataW.trod enc Tryz.prog W 0 (fun _ => true) true n S ((cs.drop o).take 1) = some y) (wt : Wt S y.1) :
    ∃ l : List α, SlR k e W cs[o]? l ∧ (∀ x ∈ l, ok x) ∧ l.length ≤ 140737488351232 := by
  rcases open_slice hS h with ⟨hcs, hx⟩ | ⟨a, len, cap, m, n', D, Pl, hcs, _, hl, hm, hmm, hx, hcell⟩
  · exact ⟨[], ⟨none, 0, at1 hcs, RowR.nil _ _ _ _⟩, by simp, by simp⟩
  · simp only [if_true] at hmm
    have each2 : ∀ i, i < len → ∃ x : α, ∃ b off, a = ⟨b, off, none⟩ ∧ b < W.heap.size ∧ ok x ∧ ∀ (t : Nat) (u : Value), (e x)[t]? = some u → W.cell? ⟨b, off + i * k + t, none⟩ = some u := by
      intro i hi
      obtain ⟨c0, g1, g2⟩ := hcell 0 (by omega)
      rw [hk] at g1
      obtain ⟨l0, p0⟩ := cells_at g1
      obtain ⟨b, off, ha, hbl⟩ := spot_none' (by have := p0 0 (c0[0]'(by omega)) (List.getElem?_eq_getElem (by omega)); simpa [Addr.add] using this)
      subst ha
      obtain ⟨c1, g3, g4⟩ := hcell i (by omega)
      rw [hk] at g3
      obtain ⟨l1, p1⟩ := cells_at g3
      obtain ⟨x, hx1, hx2⟩ := each _ _ _ l1 g4 (fun n hn => wt n (by rw [hx, DataW.weights, hS]; exact List.mem_cons_of_mem _ (List.mem_append_left _ (wt_mem hi hn))))
      refine ⟨x, b, off, rfl, hbl, hx2, fun t u hu => ?_⟩
      have := p1 t u (hx1 t u hu)
      rw [add_none', add_none'] at this
      exact this
    obtain ⟨f, hf⟩ := choose_lt each2
    have hlen : len ≤ 140737488351232 := by
      have h1 := wt ((((List.range len).map D).length + ((List.range (m - len)).map fun j => D (len + j)).length) * Tryz.prog.bytesOf E) (by rw [hx, DataW.weights, hS]; exact List.mem_cons_self)
      rw [reach_eq] at h1
      simp only [List.length_map, List.length_range] at h1
      have h2 : len + (m - len) ≤ (len + (m - len)) * Tryz.prog.bytesOf E := Nat.le_mul_of_pos_right _ hb
      omega
    refine ⟨(List.range len).map f, ⟨some a, cap, by rw [at1 hcs]; simp, ?_⟩, ?_, by simp; exact hlen⟩
    · intro j x hj
      rw [List.getElem?_map, Option.map_eq_some_iff] at hj
      obtain ⟨i, hi, rfl⟩ := hj
      obtain ⟨hlt, rfl⟩ := List.getElem?_eq_some_iff.1 hi
      rw [List.getElem_range] at *
      obtain ⟨b, off, e, h1, _, h3⟩ := hf j (by simpa using hlt)
      exact ⟨b, off, by rw [e], h1, h3⟩
    · intro x hx
      obtain ⟨i, hi, rfl⟩ := List.mem_map.1 hx
      obtain ⟨b, off, e, h1, h2, h3⟩ := hf i (by simpa using hi)
      exact h2
theorem open_one {H : Type} {enc : TypeId × Value → H} {W : World} {n : Nat} {cs : List Value} {y : DataW H × List MemPlace} (hl : cs.length = 47) (h : DataW.trod enc Tryz.prog W 0 (fun _ => true) true n OT cs = some y) (wt : Wt OT y.1) :
    ∃ x : Obv, (∀ (t : Nat) (v : Value), (encOb x)[t]? = some v → cs[t]? = some v) ∧ okOb W x := by
  obtain ⟨d, p⟩ := y
  have hs : cs.toArray.size = 47 := by simpa using hl
  obtain ⟨o, hv, F⟩ := open_ob2 (cs := cs.toArray) hs h wt
  have hn : NilO cs.toArray := open_nil (H := H) (enc := enc) (W := W) (d := d) (p := p) ⟨n, h⟩ wt
  obtain ⟨_, _, t3, z3⟩ := fld (F := 3) (off := 0) (k := 1) 0 Tryz.underlying51 (by kernel_rfl) h wt
  obtain ⟨ok, a3, w3⟩ := leaf_i Tryz.underlying3 t3
  refine ⟨⟨⟨cs.toArray, hs, objV_one hv⟩, o⟩, fun t v ht => ht, hv, hn, F, ?_⟩
  have e2 : cs[0]? = some (.int .i64 o.kind) := by
    have := hv.2.1.1
    simpa using this
  rw [e2] at a3
  injection a3 with a3
  injection a3 with _ a3
  show I64 o.kind
  rw [a3]
  exact w3
theorem open_objs {H : Type} {enc : TypeId × Value → H} {W : World} {base : Nat} {v : Value} {d : DataW H} {p : List MemPlace} (ok : Value.okWide Tryz.prog W .any base 22 v)
    (h : DataW.Trod enc Tryz.prog W 0 (fun _ => true) true 22 v d p) (wt : Wt 22 d) : ∃ q c l, v = .slice q l.length c ∧ RowR 47 encOb W q l ∧ (∀ x ∈ l, okOb W x) ∧ l.length ≤ 140737488351232 := by
  obtain ⟨a0, len, cap, rfl⟩ := okWide_slice Tryz.underlying22 ok
  obtain ⟨fuel, hf⟩ := h
  have hf : DataW.trod enc Tryz.prog W 0 (fun _ => true) true fuel 22 (([Value.slice a0 len cap].drop 0).take 1) = some (d, p) := hf
  obtain ⟨l, ⟨q, c, h1, h2⟩, h3, h4⟩ := open_rowK (k := 47) encOb (okOb W) Tryz.underlying22 (by kernel_rfl) (by decide) (of_decide_eq_true (by kernel_rfl)) (fun n cs y hl h wt => open_one hl h wt) hf wt
  simp at h1
  obtain ⟨rfl, rfl, rfl⟩ := h1
  exact ⟨a0, cap, l, rfl, h2, h3, h4⟩
theorem rangeAt_obs {W : World} {b off : Nat} {l : List Obv} {j : Nat} {x : Obv} (h : RowR 47 encOb W (some ⟨b, off, none⟩) l) (hx : l[j]? = some x) : b < W.heap.size ∧ W.rangeAt b (off + j * 47) (encOb x) := by
  obtain ⟨b', off', e, h1, h2⟩ := h j x hx
  simp only [Option.some.injEq, Addr.mk.injEq] at e
  obtain ⟨rfl, rfl, _⟩ := e
  exact ⟨h1, fun t v hv => h2 t v hv⟩

/-- Whatever is created: a store of one more at the most. -/
theorem create_some (base : Nat) (w : World) (S : List Nat) (sp : Nat) (most : Int) (l : List Ob) (hist : List Ev) (cs : Array Value) (o : Ob) (hs : StIs base w S sp most l hist) (hc : Kept base w cs o) (hn : hist.length < 1000000) :
    Calls Tryz.prog 12 #[.pointer (some ⟨sp, 0, none⟩), .agg cs] w fun e w' => (∃ v, e = .returned v) ∧ ∃ l' hist', After base w w' S sp most l' hist' ∧ l'.length ≤ l.length + 1 ∧ hist'.length ≤ hist.length + 1 := by
  by_cases he : chkE (dfl o) = 0
  · refine (create_any base w S sp most l hist cs o hs hc hn he).mono ?_
    rintro e w' (⟨_, rfl, b⟩ | ⟨_, rfl, a⟩)
    · exact ⟨⟨_, rfl⟩, l, hist, ⟨S, hs.gr b, Chg.ofBelow b S, fun g hg => .inl hg⟩, Nat.le_succ _, Nat.le_succ _⟩
    · refine ⟨⟨_, rfl⟩, _, _, a, ?_, by simp⟩
      rw [put_len]; split <;> omega
  · refine (create_bad base w sp cs o hc (by obtain ⟨_, _, _, _, q⟩ := hs; exact q.bw) he).mono ?_
    rintro e w' ⟨rfl, b⟩
    exact ⟨⟨_, rfl⟩, l, hist, ⟨S, hs.gr b, Chg.ofBelow b S, fun g hg => .inl hg⟩, Nat.le_succ _, Nat.le_succ _⟩

set_option maxHeartbeats 8000000 in
theorem stocked_any (base : Nat) (W w : World) (hbase : W.heap.size = base) (low : Below W.heap.size W w) (q : Option Addr) (c : Nat) (l : List Obv) (hr : RowR 47 encOb W q l) (hok : ∀ x ∈ l, okOb W x) (hlen : l.length ≤ 140737488351232) :
    Calls Tryz.prog 4 #[.slice q l.length c] w fun e w' => (e = .returned (.pointer none) ∨ ∃ sp S l' hist', e = .returned (.pointer (some ⟨sp, 0, none⟩)) ∧ StIs base w' S sp 200 l' hist' ∧ (∀ g ∈ S, w.heap.size ≤ g) ∧ l'.length ≤ 60 ∧ hist'.length ≤ 60) ∧ Below w.heap.size w w' := by
  have mixed : Tryz.prog.follows .mixedOrders = true := by kernel_rfl
  obtain ⟨n, hn⟩ : ∃ n, n = l.length := ⟨_, rfl⟩
  rw [← hn] at hlen ⊢
  have HH := Lib.hid (And.intro hbase (And.intro low (And.intro hr (And.intro hok hn))))
  have hb : base ≤ w.heap.size := by have := low.size; omega
  clear hr hok hn hbase low
  by_cases h60 : 60 < n
  · have t1 : decide (60 < n) = true := decide_eq_true h60
    have t2 : decide ((60 : Int) < (n : Int)) = true := decide_eq_true (by omega)
    clear h60 HH hb
    go_enter Tryz.func4, Tryz.ntmps4
    go_wp2
    go_ret
    exact ⟨.inl rfl, Below.refl _ _⟩
  · have t1 : decide (60 < n) = false := decide_eq_false h60
    have t2 : decide ((60 : Int) < (n : Int)) = false := decide_eq_false (by omega)
    have CN := Lib.hid (new_any base w 200 (by decide) (by decide) hb)
    have hn60 : n ≤ 60 := by omega
    clear h60 hlen hb
    go_enter Tryz.func4, Tryz.ntmps4
    go_wp2_with fail
    refine CN.out.mono ?_
    rintro e w1 ⟨⟨S0, sp, rfl, st0, hS0⟩, b1⟩
    have H1 := Lib.hid (And.intro st0 (And.intro hS0 b1))
    clear st0 hS0 b1 CN
    go_wp2_with fail
    go_loopg [16] n (fun g vi wr => ∃ j : Nat, vi = .int .i64 (j : Int) ∧ j ≤ n ∧ n - j ≤ g ∧ Hid (∃ S l' hist', StIs base wr S sp 200 l' hist' ∧ (∀ g ∈ S, w.heap.size ≤ g) ∧ l'.length ≤ j ∧ hist'.length ≤ j) ∧ Hid (Below w.heap.size w wr))
    case atStart => exact ⟨0, rfl, Nat.zero_le _, by omega, ⟨S0, [], [], H1.out.1, H1.out.2.1, Nat.le_refl _, Nat.le_refl _⟩, H1.out.2.2⟩
    case round =>
      obtain ⟨j, rfl, h1, h2, HP, HB⟩ := hrel
      by_cases hlt : j < n
      · obtain ⟨hbase, low, hr, hok, hn⟩ := HH.out
        obtain ⟨x, hx⟩ : ∃ x, l[j]? = some x := ⟨l[j]'(by omega), List.getElem?_eq_getElem (by omega)⟩
        obtain ⟨b, off, rfl, _, _⟩ := hr j x hx
        obtain ⟨hbl, hra⟩ := rangeAt_obs hr hx
        have lowr : Below W.heap.size W wr := low.trans (HB.out.mono low.size)
        have LD := Lib.hid (load_at47 (c := x.1) (rangeAt_below hra lowr hbl))
        obtain ⟨okv, okn, okf, oki⟩ := hok x (List.mem_of_getElem? hx)
        obtain ⟨X, hX⟩ : ∃ X, X = x.1.1 := ⟨_, rfl⟩
        obtain ⟨o, ho⟩ : ∃ o, o = x.2 := ⟨_, rfl⟩
        rw [← hX] at LD okv okn
        rw [← ho] at okv okf oki
        have z0 : (wr.alloc (.cells zerC OT)).heap[wr.heap.size]? = some (.cells zerC OT (0, 0)) := heap_alloc_new wr _
        obtain ⟨th, n0', fx1, c1'⟩ := store_ob (base := wr.heap.size) z0 rfl okv.1 (Nat.le_refl _)
        obtain ⟨w3, hw3⟩ : ∃ W', W' = (wr.alloc (.cells zerC OT)).setCells wr.heap.size 0 X.toList := ⟨_, rfl⟩
        obtain ⟨O, hO⟩ : ∃ A, A = wr.heap.size := ⟨_, rfl⟩
        rw [← hw3] at n0' c1'
        have b3 : Below wr.heap.size wr w3 := by
          have g : Gr wr (wr.alloc (.cells zerC OT)) := (Gr.refl wr).alloc _
          exact ((Xb.ofGr g wr.heap.size).trans ⟨c1'.os, c1'.tape, c1'.output, c1'.size, fun k hk hne => c1'.block k hk (by simpa using hne)⟩).below (Nat.le_refl _) (Nat.le_refl _)
        rw [← hO] at n0'
        have TH := Lib.hid th
        have IN : Hid ((Tryz.prog.info? OT).map (·.size) = some X.size) := by show _ = _; rw [okv.1]; exact info_ob47
        have ON := Lib.hid (objV_one okv)
        have HW3 : Hid ((wr.alloc (.cells zerC OT)).setCells wr.heap.size 0 X.toList = w3 ∧ wr.heap.size = O) := ⟨hw3.symm, hO.symm⟩
        have low3 : Below W.heap.size W w3 := lowr.trans (b3.mono lowr.size)
        have LV := Lib.hid (load_ob n0' okv.1)
        have CF := Lib.hid (few_any w3 X o (okv.below low3) okf)
        have q1 : w3.cell? ⟨O, 1, none⟩ = some (.string o.name) := by rw [cell_of_block n0']; exact okv.2.1.2.1
        obtain ⟨nm, hnm⟩ : ∃ s, s = o.name := ⟨_, rfl⟩
        obtain ⟨fb, hfb⟩ : ∃ b, b = fewB o := ⟨_, rfl⟩
        rw [← hnm] at q1
        rw [← hfb] at CF
        have HX := Lib.hid (And.intro okv (And.intro okn (And.intro okf (And.intro oki (And.intro n0' (And.intro b3 (And.intro low3 hfb)))))))
        clear hbase low hr hok hn hx hbl hra lowr okv okn okf oki hX ho z0 th n0' fx1 c1' hw3 hO b3 low3 hnm hfb
        go_upto_region 7 with (first | (refine wpList_load_by (by kernel_rfl) OT _ rfl (.pointer (some ⟨b, off + j * 47, none⟩)) (.agg X) (by rfl) LD.out ?_) | (refine wpList_store_mid rfl _ _ _ rfl wr.heap.size 0 X (by rfl) (by rfl) TH.out IN.out ON.out ?_; rw [HW3.out.1, HW3.out.2]))
        clear TH IN ON HW3 LD
        go_wp2_with (refine wpList_load_by (by kernel_rfl) OT _ rfl (.pointer (some ⟨O, 0, none⟩)) (.agg X) (by kernel_rfl) LV.out ?_)
        refine CF.out.mono ?_
        rintro e w4 ⟨rfl, g4⟩
        have q4 : w4.cell? ⟨O, 1, none⟩ = some (.string nm) := g4.cell q1
        have K4 : Hid (Below w.heap.size w w4) := HB.out.trans ((HX.out.2.2.2.2.2.1.trans (g4.below.mono HX.out.2.2.2.2.2.1.size)).mono HB.out.size)
        cases fb with
        | false =>
          clear q1 q4 g4 HX HP HH CF LV
          go_wp2
          go_ret
          exact ⟨.inl rfl, K4.out⟩
        | true =>
          by_cases hs : 60 < nm.size
          · have t3 : decide (60 < nm.size) = true := decide_eq_true hs
            have t4 : decide ((60 : Int) < (nm.size : Int)) = true := decide_eq_true (by omega)
            clear q1 g4 HX HP HH CF LV hs
            go_wp2
            go_ret
            exact ⟨.inl rfl, K4.out⟩
          · have t3 : decide (60 < nm.size) = false := decide_eq_false hs
            have t4 : decide ((60 : Int) < (nm.size : Int)) = false := decide_eq_false (by omega)
            obtain ⟨okv, okn, okf, oki, n0', b3, low3, hfb⟩ := HX.out
            obtain ⟨hbase, low, hr, hok, hn⟩ := HH.out
            obtain ⟨S, l1, h1', st, hS, hl1, hh1⟩ := HP.out
            have o4 : w4.heap[O]? = some (.cells X OT (0, 0)) := (g4.heap (Array.getElem?_eq_some_iff.1 n0').1).trans n0'
            have low4 : Below W.heap.size W w4 := low3.trans (g4.below.mono low3.size)
            have bw4 : Below wr.heap.size wr w4 := b3.trans (g4.below.mono b3.size)
            have kept4 : Kept base w4 X o := kept_arg okv hbase (Fx.ofBelow low4) okn (tiny_few hfb.symm) okf
            have st4 := st.gr bw4
            have LV4 := Lib.hid (load_ob o4 okv.1)
            have CC := Lib.hid (create_some base w4 S sp 200 l1 h1' X o st4 kept4 (by omega))
            have FIN : Hid (∀ w', (∃ l' hist', After base w4 w' S sp 200 l' hist' ∧ l'.length ≤ l1.length + 1 ∧ hist'.length ≤ h1'.length + 1) → Hid (∃ S l' hist', StIs base w' S sp 200 l' hist' ∧ (∀ g ∈ S, w.heap.size ≤ g) ∧ l'.length ≤ j + 1 ∧ hist'.length ≤ j + 1) ∧ Hid (Below w.heap.size w w')) := fun w' ⟨l2, h2', ⟨S2, a1, a2, a3⟩, c1, c2⟩ => by
              have k4 := K4.out
              refine ⟨⟨S2, l2, h2', a1, fun g hg => ?_, by omega, by omega⟩, k4.trans (a2.below hS k4.size)⟩
              rcases a3 g hg with hq | hq
              · exact hS g hq
              · have := k4.size; omega
            clear okv okn okf oki n0' b3 low3 hfb hbase low hr hok hn st hS hl1 hh1 o4 low4 bw4 kept4 st4 q1 g4 HX HP HH CF LV hs
            go_wp2_with (refine wpList_load_by (by kernel_rfl) OT _ rfl (.pointer (some ⟨O, 0, none⟩)) (.agg X) (by kernel_rfl) LV4.out ?_)
            refine CC.out.mono ?_
            rintro e w5 ⟨⟨v, rfl⟩, af⟩
            have FF := FIN.out w5 af
            obtain ⟨F1, F2⟩ := FF
            clear af FIN CC LV4 q4 K4 HB
            go_wp2
            go_roundg (n - (j + 1))
            case measure => omega
            case rel => exact ⟨j + 1, by push_cast; rfl, by omega, by omega, F1, F2⟩
      · obtain ⟨S, l1, h1', st, hS, hl1, hh1⟩ := HP.out
        have FIN : Hid (∃ sp' S l' hist', Ending.returned (.pointer (some ⟨sp, 0, none⟩)) = .returned (.pointer (some ⟨sp', 0, none⟩)) ∧ StIs base wr S sp' 200 l' hist' ∧ (∀ g ∈ S, w.heap.size ≤ g) ∧ l'.length ≤ 60 ∧ hist'.length ≤ 60) := ⟨sp, S, l1, h1', rfl, st, hS, by omega, by omega⟩
        clear st hS hl1 hh1 HP HH H1
        go_wp2
        go_ret
        exact ⟨.inr FIN.out, HB.out⟩
end Go.Proofs.YtbkoepghmcdnhaaGreatDoor.Po
