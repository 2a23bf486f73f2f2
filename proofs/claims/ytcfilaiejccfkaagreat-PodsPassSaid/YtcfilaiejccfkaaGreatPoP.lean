/- Pods: what a pass over a row of objects comes to; an object whose pod was put anew. -/
import Derived.Test.YtcfilaiejccfkaaGreatPoC
import Derived.Test.YtcfilaiejccfkaaGreatStA
import Derived.Test.YtcfilaiejccfkaaGreatStO
import Derived.Test.YtcfilaiejccfkaaGreatLiC
import Derived.Laws.OwnMore
import Derived.Test.YtcfilaiejccfkaaGreatVaW
namespace Go.Proofs.YtcfilaiejccfkaaGreat.Po
open Go.RowKit Go.Shelf Go.Lib Go.Sort Go.Deep
open Go.Joins (cell_of_block unfrozen_of_block block_setCell)
set_option linter.unusedVariables false
set_option linter.unusedSimpArgs false
set_option maxRecDepth 20000

/-! ### what a pass comes to -/
def setP (o : Ob) (y : Pd) : Ob := { o with p := y }
/-- An object's pod, as it gets on by the nodes of a row. -/
def gets (l0 : List Ob) (now : Int) (o : Ob) : Ob := setP o (nxt o.p now (l0.any (hit 2 o.p.node)))
/-- Does it? -/
def mv (l0 : List Ob) (now : Int) (o : Ob) : Bool := !(decide ((nxt o.p now (l0.any (hit 2 o.p.node))).ph = o.p.ph))
theorem nxt_ways (x : Pd) (now : Int) (there : Bool) : nxt x now there = x ∨ (x.node.size ≠ 0 ∧ nxt x now there = setPh x 3 now) ∨ (x.ph = 1 ∧ nxt x now there = setPh x 2 (x.since + x.warm)) := by
  unfold nxt
  split
  · exact .inl rfl
  · split
    · rename_i hn; exact .inr (.inl ⟨hn.1, rfl⟩)
    · split
      · rename_i hb; exact .inr (.inr ⟨hb.1, rfl⟩)
      · exact .inl rfl
theorem nxt_same {x : Pd} {now : Int} {there : Bool} (h : (nxt x now there).ph = x.ph) : nxt x now there = x := by
  unfold nxt at h ⊢
  split at h
  · rename_i h3; rw [if_pos h3]
  · rename_i h3
    split at h
    · exact absurd h.symm h3
    · rename_i hn
      split at h
      · rename_i hb
        have : (2 : Int) = x.ph := h
        omega
      · rename_i hb; rw [if_neg h3, if_neg hn, if_neg hb]
theorem mv_not {l0 : List Ob} {now : Int} {o : Ob} (h : mv l0 now o = false) : gets l0 now o = o := by
  have h1 : (nxt o.p now (l0.any (hit 2 o.p.node))).ph = o.p.ph := by
    unfold mv at h
    simpa using h
  unfold gets
  rw [nxt_same h1]
  rfl
theorem key_gets (l0 : List Ob) (now : Int) (o : Ob) (v : Nat) : Key (setV (gets l0 now o) v) = Key o := rfl

/-- A pass under way: these were gone through. -/
structure Pas (l0 : List Ob) (now : Int) (n0 : Nat) (done l : List Ob) (hist : List Ev) : Prop where
  sub : ∀ o ∈ done, o ∈ l0
  len : l.length = l0.length
  any : ∀ k nm, l.any (hit k nm) = l0.any (hit k nm)
  stay : ∀ o ∈ l0, (o ∉ done ∨ mv l0 now o = false) → o ∈ l
  got : ∀ o ∈ done, mv l0 now o = true → ∃ v, v < 18446744073709551616 ∧ setV (gets l0 now o) v ∈ l
  cnt : hist.length = n0 + (done.filter (mv l0 now)).length
theorem Pas.start (l0 : List Ob) (now : Int) (hist : List Ev) : Pas l0 now hist.length [] l0 hist :=
  ⟨fun _ h => (by cases h), rfl, fun _ _ => rfl, fun o h _ => h, fun _ h => (by cases h), rfl⟩
theorem Pas.skip {l0 l done : List Ob} {now : Int} {n0 : Nat} {hist : List Ev} (h : Pas l0 now n0 done l hist) {o : Ob} (ho : o ∈ l0) (hm : mv l0 now o = false) : Pas l0 now n0 (done ++ [o]) l hist := by
  refine ⟨fun x hx => ?_, h.len, h.any, fun x hx hc => h.stay x hx ?_, fun x hx hv => ?_, ?_⟩
  · rcases List.mem_append.1 hx with hx | hx
    · exact h.sub x hx
    · rw [List.mem_singleton] at hx; rw [hx]; exact ho
  · rcases hc with hc | hc
    · exact .inl (fun hd => hc (List.mem_append_left _ hd))
    · exact .inr hc
  · rcases List.mem_append.1 hx with hx | hx
    · exact h.got x hx hv
    · rw [List.mem_singleton] at hx; rw [hx, hm] at hv; cases hv
  · rw [h.cnt, List.filter_append]
    simp [hm]
theorem Pas.turn {l0 l done : List Ob} {now : Int} {n0 : Nat} {hist : List Ev} (h : Pas l0 now n0 done l hist) (ap0 : l0.Pairwise (fun a b => Key a ≠ Key b)) {o : Ob} (ho : o ∈ l0) (hd : o ∉ done) (hm : mv l0 now o = true) (hk : OkK (gets l0 now o)) {v : Nat} (hv : v < 18446744073709551616) (e : Ev) :
    Pas l0 now n0 (done ++ [o]) (put l (setV (gets l0 now o) v)) (hist ++ [e]) := by
  have ol : o ∈ l := h.stay o ho (.inl hd)
  have ha : l.any (hit (setV (gets l0 now o) v).kind (setV (gets l0 now o) v).name) = true := List.any_eq_true.2 ⟨o, ol, hit_self o⟩
  have hkv : OkK (setV (gets l0 now o) v) := ⟨hk.1, hk.2, hk.3⟩
  have other : ∀ x ∈ l0, x ≠ o → Key x ≠ Key (setV (gets l0 now o) v) := fun x hx hne e => hne (key_same ap0 hx ho (e.trans (key_gets l0 now o v)))
  refine ⟨fun x hx => ?_, ?_, fun k nm => ?_, fun x hx hc => ?_, fun x hx hvx => ?_, ?_⟩
  · rcases List.mem_append.1 hx with hx | hx
    · exact h.sub x hx
    · rw [List.mem_singleton] at hx; rw [hx]; exact ho
  · rw [put_len, if_pos ha]; exact h.len
  · have s := (step_set (v := v) ha hkv).now k nm
    rw [s]
    by_cases hh : k = (setV (gets l0 now o) v).kind ∧ nm = (setV (gets l0 now o) v).name
    · rw [if_pos hh]
      obtain ⟨rfl, rfl⟩ := hh
      exact (List.any_eq_true.2 ⟨o, ho, hit_self o⟩).symm
    · rw [if_neg hh]; exact h.any k nm
  · have hne : x ≠ o := by
      rintro rfl
      rcases hc with hc | hc
      · exact hc (List.mem_append_right _ (by simp))
      · rw [hm] at hc; cases hc
    refine put_keeps (h.stay x hx ?_) (other x hx hne)
    rcases hc with hc | hc
    · exact .inl (fun hd => hc (List.mem_append_left _ hd))
    · exact .inr hc
  · by_cases hxo : x = o
    · subst hxo
      exact ⟨v, hv, put_self l _⟩
    · rcases List.mem_append.1 hx with hx | hx
      · obtain ⟨u, hu, hm2⟩ := h.got x hx hvx
        exact ⟨u, hu, put_keeps hm2 (other x (h.sub x hx) hxo)⟩
      · rw [List.mem_singleton] at hx; exact absurd hx hxo
  · rw [List.length_append, h.cnt, List.filter_append, List.length_append]
    simp [hm]
    omega
/-- Where what is there behind a pass comes from. -/
theorem Pas.back {l0 l done : List Ob} {now : Int} {n0 : Nat} {hist : List Ev} (h : Pas l0 now n0 done l hist) (ap : l.Pairwise (fun a b => Key a ≠ Key b)) {x : Ob} (hx : x ∈ l) : ∃ o ∈ l0, Key o = Key x ∧ ((x = o ∧ (o ∉ done ∨ mv l0 now o = false)) ∨ (o ∈ done ∧ mv l0 now o = true ∧ ∃ v, x = setV (gets l0 now o) v)) := by
  have h1 := h.any x.kind x.name
  rw [List.any_eq_true.2 ⟨x, hx, hit_self x⟩] at h1
  obtain ⟨o, ho, hh⟩ := List.any_eq_true.1 h1.symm
  have hk : Key o = Key x := by
    obtain ⟨e1, e2⟩ := hit_iff.1 hh
    unfold Key
    rw [e1, e2]
  refine ⟨o, ho, hk, ?_⟩
  by_cases hd : o ∈ done
  · cases hm : mv l0 now o with
    | false => exact .inl ⟨key_same ap hx (h.stay o ho (.inr hm)) hk.symm, .inr rfl⟩
    | true =>
      obtain ⟨v, _, hv⟩ := h.got o hd hm
      exact .inr ⟨hd, rfl, v, key_same ap hx hv (hk.symm.trans (key_gets l0 now o v).symm)⟩
  · exact .inl ⟨key_same ap hx (h.stay o ho (.inl hd)) hk.symm, .inl hd⟩
/-- A pass behind a pass turns none. -/
theorem Pas.calm {l0 l : List Ob} {now : Int} {n0 : Nat} {hist : List Ev} (h : Pas l0 now n0 (listed 1 l0) l hist) (ap : l.Pairwise (fun a b => Key a ≠ Key b)) : (listed 1 l).filter (mv l now) = [] := by
  rw [List.filter_eq_nil_iff]
  intro x hx hm
  obtain ⟨hx, hk1⟩ := listed_mem.1 hx
  have e : ∀ o : Ob, mv l now o = mv l0 now o := fun o => by unfold mv; rw [h.any]
  rw [e] at hm
  obtain ⟨o, ho, hk, (⟨rfl, hc⟩ | ⟨hd, hm2, v, rfl⟩)⟩ := h.back ap hx
  · rcases hc with hc | hc
    · exact hc (listed_mem.2 ⟨ho, hk1⟩)
    · rw [hc] at hm; cases hm
  · unfold mv at hm
    have e2 : (setV (gets l0 now o) v).p = nxt o.p now (l0.any (hit 2 o.p.node)) := rfl
    rw [e2, (nxt_rows o.p now (l0.any (hit 2 o.p.node))).2.2.2.2.1, nxt_again] at hm
    simp at hm
theorem listed_new {l : List Ob} (hp : l.Pairwise (fun a b => Key a ≠ Key b)) {k : Int} {n : Nat} {o : Ob} (h : (listed k l)[n]? = some o) : o ∉ (listed k l).take n := by
  intro hm
  obtain ⟨i, hi⟩ := List.getElem?_of_mem hm
  have hlt : i < n := by
    have := (List.getElem?_eq_some_iff.1 hi).1
    rw [List.length_take] at this
    omega
  rw [List.getElem?_take_of_lt hlt] at hi
  have up := listed_up hp k
  obtain ⟨h1, e1⟩ := List.getElem?_eq_some_iff.1 hi
  obtain ⟨h2, e2⟩ := List.getElem?_eq_some_iff.1 h
  have r := List.pairwise_iff_getElem.1 up i n h1 h2 hlt
  rw [e1, e2, rises_irr] at r
  cases r

/-! ### an object whose pod was put anew -/
theorem OwnP.fx {base N : Nat} {w w' : World} {x : Pd} {P : Array Value} (h : OwnP N w x P) (f : Fx base w w') : OwnP N w' x P := ⟨h.1.fx rfl f, h.2.1.fx rfl f, h.2.2.fx rfl f⟩
/-- What stays of a pod that gets on. -/
def SameP (y x : Pd) : Prop := y.lab = x.lab ∧ y.sel = x.sel ∧ y.tol = x.tol ∧ y.own = x.own ∧ y.node = x.node
theorem nxt_sameP (x : Pd) (now : Int) (there : Bool) : SameP (nxt x now there) x := by
  obtain ⟨h1, h2, h3, _, h5, h6⟩ := nxt_rows x now there
  exact ⟨h1, h2, h3, h6, h5⟩
theorem obj_setP {w : World} {cs P : Array Value} {o : Ob} {y : Pd} (hv : ObjV w cs o) (v : PdS w P y) : ObjV w (setAt cs 10 P.toList) (setP o y) := by
  obtain ⟨hsz, ⟨c0, c1, c2, hver⟩, hW, hP, hN, hG, hH⟩ := hv
  obtain ⟨c3, c4, c5, c6, c7, c8, c9⟩ := hW
  obtain ⟨c20, c21, c22, c23, c24, c25, c26⟩ := hN
  obtain ⟨c27, c28, c29, c30, c31, c32, c33, c34⟩ := hG
  obtain ⟨c35, c36, c37, c38, c39, c40, c41, c42, c43, c44, c45, c46⟩ := hH
  obtain ⟨p0, p1, p2, p3, p4, p5, p6, p7, p8, p9, p10⟩ := v
  have hl : P.toList.length = 10 := by rw [Array.length_toList]; exact p0
  have lo : ∀ i, i < 10 → (setAt cs 10 P.toList)[i]? = cs[i]? := fun i hi => setAt_out _ _ _ _ (.inl hi)
  have hi : ∀ i, 20 ≤ i → (setAt cs 10 P.toList)[i]? = cs[i]? := fun i h => setAt_out _ _ _ _ (.inr (by omega))
  have md : ∀ j, j < 10 → (setAt cs 10 P.toList)[10 + j]? = P[j]? := fun j hj => by rw [setAt_get _ _ _ _ (by omega) (by omega), Array.getElem?_toList]
  refine ⟨by rw [setAt_size]; exact hsz, ⟨(lo 0 (by decide)).trans c0, (lo 1 (by decide)).trans c1, (lo 2 (by decide)).trans c2, hver⟩, ⟨(lo 3 (by decide)).trans c3, (lo 4 (by decide)).trans c4, (lo 5 (by decide)).trans c5, (lo 6 (by decide)) ▸ c6, (lo 7 (by decide)) ▸ c7, (lo 8 (by decide)) ▸ c8, (lo 9 (by decide)).trans c9⟩, ⟨(md 0 (by decide)).trans p1, (md 1 (by decide)).trans p2, (md 2 (by decide)).trans p3, (md 3 (by decide)).trans p4, (md 4 (by decide)).trans p5, (md 5 (by decide)).trans p6, (md 6 (by decide)) ▸ p7, (md 7 (by decide)) ▸ p8, (md 8 (by decide)) ▸ p9, (md 9 (by decide)).trans p10⟩, ⟨(hi 20 (by decide)).trans c20, (hi 21 (by decide)).trans c21, (hi 22 (by decide)).trans c22, (hi 23 (by decide)) ▸ c23, (hi 24 (by decide)) ▸ c24, (hi 25 (by decide)).trans c25, (hi 26 (by decide)).trans c26⟩, ⟨(hi 27 (by decide)).trans c27, (hi 28 (by decide)).trans c28, (hi 29 (by decide)).trans c29, (hi 30 (by decide)).trans c30, (hi 31 (by decide)).trans c31, (hi 32 (by decide)) ▸ c32, (hi 33 (by decide)) ▸ c33, (hi 34 (by decide)).trans c34⟩, ⟨(hi 35 (by decide)).trans c35, (hi 36 (by decide)).trans c36, (hi 37 (by decide)).trans c37, (hi 38 (by decide)) ▸ c38, (hi 39 (by decide)).trans c39, (hi 40 (by decide)).trans c40, (hi 41 (by decide)).trans c41, (hi 42 (by decide)) ▸ c42, (hi 43 (by decide)).trans c43, (hi 44 (by decide)).trans c44, (hi 45 (by decide)) ▸ c45, (hi 46 (by decide)) ▸ c46⟩⟩
theorem nil_setP {cs P : Array Value} (hsz : cs.size = 47) (p0 : P.size = 10) (hn : NilO cs) (pn : NilP P) : NilO (setAt cs 10 P.toList) := by
  have hl : P.toList.length = 10 := by rw [Array.length_toList]; exact p0
  intro i n c hi hc
  by_cases h : 10 ≤ i ∧ i < 20
  · obtain ⟨j, rfl⟩ : ∃ j, i = 10 + j := ⟨i - 10, by omega⟩
    rw [setAt_get _ _ _ _ (by omega) (by omega), Array.getElem?_toList] at hc
    refine pn j n c ?_ hc
    simp only [rowsIx, List.mem_cons, List.not_mem_nil, or_false] at hi ⊢
    omega
  · rw [setAt_out _ _ _ _ (by omega)] at hc
    exact hn i n c hi hc
theorem tiny_setP {o : Ob} {y : Pd} (h : TinyO o) (s : SameP y o.p) : TinyO (setP o y) := by
  obtain ⟨h1, h2, h3, _⟩ := s
  obtain ⟨r0, r1, r2, r3, r4, r5, r6⟩ := h
  exact ⟨r0, r1, r2, by show y.lab.length ≤ 255; rw [h1]; exact r3, by show y.sel.length ≤ 255; rw [h2]; exact r4, by show y.tol.length ≤ 255; rw [h3]; exact r5, r6⟩
theorem fits_setP {o : Ob} {y : Pd} (F : FitsO o) (s : SameP y o.p) : FitsO (setP o y) := by
  obtain ⟨h1, h2, h3, h4, h5⟩ := s
  exact ⟨F.name, F.w_lab_r, F.w_lab, F.w_sel_r, F.w_sel, F.w_tol_r, F.w_tol, by show ftT y.own = true; rw [h4]; exact F.p_own, by show ftT y.node = true; rw [h5]; exact F.p_node, by show y.lab.length ≤ _; rw [h1]; exact F.p_lab_r, by show y.lab.all ftL = true; rw [h1]; exact F.p_lab, by show y.sel.length ≤ _; rw [h2]; exact F.p_sel_r, by show y.sel.all ftR = true; rw [h2]; exact F.p_sel, by show y.tol.length ≤ _; rw [h3]; exact F.p_tol_r, by show y.tol.all ftL = true; rw [h3]; exact F.p_tol, F.n_grp, F.n_lab_r, F.n_lab, F.n_tnt_r, F.n_tnt, F.g_lab_r, F.g_lab, F.g_tnt_r, F.g_tnt, F.h_tg, F.h_met_r, F.h_met, F.h_upol_r, F.h_dpol_r, F.h_past_r⟩
theorem kept_setP {base N : Nat} {w : World} {cs P : Array Value} {o : Ob} {y : Pd} (h : Kept base w cs o) (v : PdS w P y) (ow : OwnP N w y P) (s : SameP y o.p) : Kept base w (setAt cs 10 P.toList) (setP o y) :=
  ⟨fun w' f => obj_setP (h.held w' f) (v.own (ow.fx f)), nil_setP h.obj.1 v.1 h.nil ow.nil, tiny_setP h.small s, fits_setP h.fits s⟩

/-! ### what may be gets on to what may be -/
theorem chk_pod {o : Ob} (h : chkE o = 0) (hk : o.kind = 1) : c_p o = true := by
  unfold chkE at h
  split at h
  · omega
  · split at h
    · omega
    · split at h
      · omega
      · rename_i hh
        have hs : shC o = true := by
          cases hsh : shC o with
          | false => exact absurd (.inr hsh) hh
          | true => rfl
        unfold shC at hs
        simpa [hk] using hs
theorem tk_pod {o : Ob} (h : chkE o = 0) (hk : o.kind = 1) : Tk o.p := by
  have hc := chk_pod h hk
  unfold c_p pdC wlC at hc
  simp only [Bool.and_eq_true] at hc
  obtain ⟨⟨_, hs⟩, ⟨_, hw⟩⟩ := hc
  unfold withinB at hs hw
  simp only [Bool.and_eq_true, decide_eq_true_eq] at hs hw
  exact ⟨hs.1, hs.2, hw.1, hw.2⟩
theorem chk_setP {o : Ob} {now : Int} {there : Bool} (h : chkE o = 0) (hk : o.kind = 1) (h0 : 0 ≤ now) (h1 : now ≤ 4611686018427387904) : chkE (setP o (nxt o.p now there)) = 0 := by
  have hc := chk_pod h hk
  have tk := nxt_tk (tk_pod h hk) h0 h1 there
  have hc' : c_p (setP o (nxt o.p now there)) = true := by
    obtain ⟨r1, r2, r3, r4, r5, r6⟩ := nxt_rows o.p now there
    unfold c_p pdC at hc ⊢
    simp only [Bool.and_eq_true] at hc ⊢
    obtain ⟨⟨⟨⟨a1, a2⟩, a3⟩, a4⟩, a5⟩ := hc
    refine ⟨⟨⟨⟨?_, ?_⟩, ?_⟩, ?_⟩, ?_⟩
    · show nameB (nxt o.p now there).own = true
      rw [r6]; exact a1
    · show mayB (nxt o.p now there).node = true
      rw [r5]; exact a2
    · show phaseB (nxt o.p now there).node (nxt o.p now there).ph = true
      rw [r5]
      rcases nxt_ways o.p now there with e | ⟨hz, e⟩ | ⟨hp, e⟩
      · rw [e]; exact a3
      · rw [e]
        unfold phaseB
        rw [if_neg hz]
        show withinB 3 1 3 = true
        decide
      · rw [e]
        unfold phaseB at a3 ⊢
        by_cases hz : o.p.node.size = 0
        · rw [if_pos hz, hp] at a3
          exact absurd a3 (by decide)
        · rw [if_neg hz]
          show withinB 2 1 3 = true
          decide
    · show withinB (nxt o.p now there).since 0 4611686018427387904 = true
      unfold withinB
      simp only [Bool.and_eq_true, decide_eq_true_eq]
      exact ⟨tk.1, tk.2.1⟩
    · have e1 : (nxt o.p now there).cpu = o.p.cpu := by unfold nxt; split; rfl; split; rfl; split <;> rfl
      have e2 : (nxt o.p now there).mem = o.p.mem := by unfold nxt; split; rfl; split; rfl; split <;> rfl
      show wlC 0 (nxt o.p now there).cpu (nxt o.p now there).mem (nxt o.p now there).lab (nxt o.p now there).sel (nxt o.p now there).tol (nxt o.p now there).warm = true
      rw [e1, e2, r1, r2, r3, r4]
      exact a5
  have e1 : alC (setP o (nxt o.p now there)) = alC o := by
    unfold alC
    have t : decide ((setP o (nxt o.p now there)).kind = 1) = true := decide_eq_true hk
    have t2 : decide (o.kind = 1) = true := decide_eq_true hk
    rw [t, t2]
    rfl
  have e2 : shC (setP o (nxt o.p now there)) = shC o := by
    have x1 : shC (setP o (nxt o.p now there)) = c_p (setP o (nxt o.p now there)) := by
      have hk' : (setP o (nxt o.p now there)).kind = 1 := hk
      unfold shC
      simp [hk']
    have x2 : shC o = c_p o := by
      unfold shC
      simp [hk]
    rw [x1, x2, hc, hc']
  unfold chkE at h ⊢
  rw [e1, e2]
  exact h
theorem ok_setP {o : Ob} {now : Int} {there : Bool} (h : OkK o) (hk : o.kind = 1) (h0 : 0 ≤ now) (h1 : now ≤ 4611686018427387904) : OkK (setP o (nxt o.p now there)) := ⟨h.1, h.2, chk_setP h.3 hk h0 h1⟩
theorem dfl_pod {o : Ob} (hk : o.kind = 1) : dfl o = o := (if_neg (by omega)).trans (if_neg (by omega))
end Go.Proofs.YtcfilaiejccfkaaGreat.Po
/- Pods: Pass: of no store, of a store. -/
namespace Go.Proofs.YtcfilaiejccfkaaGreat.Po
open Go.RowKit Go.Shelf Go.Lib Go.Sort Go.Deep
open Go.Joins (cell_of_block unfrozen_of_block block_setCell)
open Go.Proofs.YtcfilaiejccfkaaGreat.Lc
set_option linter.unusedVariables false
set_option linter.unusedSimpArgs false
set_option maxRecDepth 20000

/-- A store bears the turn of what is neither cells nor a map. -/
theorem stIs_idle {base : Nat} {A A' : World} {S T : List Nat} {sp : Nat} {hist : List Ev} {most : Int} {l : List Ob} (h : StIs base A S sp most l hist) (c : Chg T A A') (hT : ∀ g ∈ T, base ≤ g ∧ A.heap[g]? = some (.deferred (some []))) : StIs base A' S sp most l hist ∧ Fx base A A' := by
  have fx : Fx base A A' := c.fx (fun g hg _ hp => by
    obtain ⟨hb, hr⟩ := hT g hg
    rcases hp with hp | ⟨cs, T', fz, h6, _⟩
    · omega
    · rw [hr] at h6; cases h6)
  refine ⟨h.stay (fun g hg => ?_) fx, fx⟩
  refine c.block g (h.prot g hg).2.1 (fun hm => ?_)
  obtain ⟨_, hr⟩ := hT g hm
  obtain ⟨mb, D, ev, kept, h⟩ := h
  have e := h.fp
  rw [e] at hg
  simp only [List.mem_cons, Option.mem_toList] at hg
  rcases hg with rfl | rfl | hg
  · have := h.blk; rw [hr] at this; cases this
  · obtain ⟨es, c', h1, _⟩ := h.map.own
    rw [hr] at h1
    cases h1
  · rcases h.evs.2 with ⟨rfl, _⟩ | ⟨g', cap, cur, rfl, hb, h2, _⟩
    · cases hg
    · simp [Value.ownBlock] at hg
      subst hg
      rw [hr] at h2; cases h2
theorem stIs_fine {base : Nat} {w : World} {S : List Nat} {sp : Nat} {hist : List Ev} {most : Int} {l : List Ob} (h : StIs base w S sp most l hist) : base ≤ w.heap.size ∧ l.Pairwise (fun a b => Key a ≠ Key b) ∧ ∀ o ∈ l, OkK o := by
  obtain ⟨mb, D, ev, kept, h⟩ := h
  exact ⟨h.bw, h.map.apart, h.map.ok⟩
theorem upd_ok {l : List Ob} (ap : l.Pairwise (fun a b => Key a ≠ Key b)) {o d : Ob} (ho : o ∈ l) (hc : chkE d = 0) (hk : d.kind = o.kind ∧ d.name = o.name) (hv : d.ver = o.ver) : updE d l = 0 := by
  have hf : l.find? (hit d.kind d.name) = some o := by
    rw [hk.1, hk.2]
    cases hf : l.find? (hit o.kind o.name) with
    | none => have := List.find?_eq_none.1 hf o ho; rw [hit_self] at this; exact absurd rfl this
    | some y =>
      have h1 := List.find?_some hf
      have h2 := List.mem_of_find?_eq_some hf
      obtain ⟨q1, q2⟩ := hit_iff.1 h1
      rw [key_same ap h2 ho (by unfold Key; rw [q1, q2])]
  unfold updE
  rw [if_neg (by rw [hc]; simp), hf]
  simp [hv]

theorem pass_nil (w : World) (now : Int) : Calls Tryz.prog 8 #[.pointer none, .int .i64 now] w fun e w' => e = .returned (.tuple #[.slice none 0 0, .int .i64 1]) ∧ Below w.heap.size w w' := by
  have G := Lib.hid (((Gr.refl w).alloc (.cells #[.pointer none] 23)).alloc (.cells #[.int .i64 now] 2))
  go_enter Tryz.func8, Tryz.ntmps8
  go_wp2
  go_ret2
  exact ⟨rfl, G.out.below⟩
theorem pass_bad (w : World) (sp : Nat) (now : Int) (h : now < 0 ∨ 4611686018427387904 < now) : Calls Tryz.prog 8 #[.pointer (some ⟨sp, 0, none⟩), .int .i64 now] w fun e w' => e = .returned (.tuple #[.slice none 0 0, .int .i64 1]) ∧ Below w.heap.size w w' := by
  have G := Lib.hid (((Gr.refl w).alloc (.cells #[.pointer (some ⟨sp, 0, none⟩)] 23)).alloc (.cells #[.int .i64 now] 2))
  by_cases h0 : now < 0
  · have t1 : decide (now < 0) = true := decide_eq_true h0
    clear h h0
    go_enter Tryz.func8, Tryz.ntmps8
    go_wp2
    go_ret2
    exact ⟨rfl, G.out.below⟩
  · have t1 : decide (now < 0) = false := decide_eq_false h0
    have t2 : decide (4611686018427387904 < now) = true := decide_eq_true (by rcases h with h | h; exact absurd h h0; exact h)
    clear h h0
    go_enter Tryz.func8, Tryz.ntmps8
    go_wp2
    go_ret2
    exact ⟨rfl, G.out.below⟩

/-- What stands while pods get on. -/
def PasI (base A : Nat) (S : List Nat) (sp : Nat) (most : Int) (w : World) (l : List Ob) (now : Int) (n0 : Nat) (C : Nat) (pre : List Co) (W : World) : Prop :=
  ∃ S' l' hist', StIs base W S' sp most l' hist' ∧ Chg S w W ∧ (∀ g ∈ S', g ∈ S ∨ C ≤ g) ∧ W.heap[A]? = some (.cells #[.pointer (some ⟨sp, 0, none⟩)] 23 (0, 0)) ∧ W.heap[A + 1]? = some (.cells #[.int .i64 now] 2 (0, 0)) ∧ pre.map (·.1.2) = (listed 1 l).take pre.length ∧ Pas l now n0 (pre.map (·.1.2)) l' hist'
theorem pas_bears (base A B : Nat) (S : List Nat) (sp : Nat) (most : Int) (w : World) (l : List Ob) (now : Int) (n0 C : Nat) (hB : base ≤ B) (hw : w.heap.size ≤ B) : BearsL B (PasI base A S sp most w l now n0 C) := by
  rintro pre V V' T ⟨S', l', hist', h1, h2, h3, h4, h5, h6, h7⟩ c hT
  have hT2 : ∀ g ∈ T, base ≤ g ∧ ∃ r : Loop, V.heap[g]? = some (.loop r) := fun g hg => ⟨by have := (hT g hg).1; omega, (hT g hg).2⟩
  have out : ∀ (g : Nat) (cs : Array Value) (T' : TypeId) (fz : Nat × Nat), V.heap[g]? = some (Obj.cells cs T' fz) → V'.heap[g]? = V.heap[g]? := fun g cs T' fz hg => c.block g (Array.getElem?_eq_some_iff.1 hg).1 (fun hm => loop_cells (hT g hm).2 hg)
  exact ⟨S', l', hist', StIs.loops h1 c hT2, h2.trans c (fun g hg => .inr (by have := (hT g hg).1; omega)), h3, (out A _ _ _ h4).trans h4, (out _ _ _ _ h5).trans h5, h6, h7⟩

set_option maxHeartbeats 16000000 in
theorem pass_any (base : Nat) (w : World) (S : List Nat) (sp : Nat) (most : Int) (l : List Ob) (hist : List Ev) (now : Int) (st : StIs base w S sp most l hist) (hl : l.length ≤ 400) (hn : hist.length + l.length ≤ 1000) (h0 : 0 ≤ now) (h1 : now ≤ 4611686018427387904) :
    Calls Tryz.prog 8 #[.pointer (some ⟨sp, 0, none⟩), .int .i64 now] w fun e w' => ∃ q c l' hist', e = .returned (.tuple #[.slice q (hist'.length - hist.length) c, .int .i64 0]) ∧ Pas l now hist.length (listed 1 l) l' hist' ∧ After base w w' S sp most l' hist' := by
  obtain ⟨bw, ap0, ok0⟩ := stIs_fine st
  obtain ⟨A, hA⟩ : ∃ A, A = w.heap.size := ⟨_, rfl⟩
  obtain ⟨w1, hw1⟩ : ∃ x, x = (w.alloc (.cells #[.pointer (some ⟨sp, 0, none⟩)] 23)).alloc (.cells #[.int .i64 now] 2) := ⟨_, rfl⟩
  have G1 : Gr w w1 := hw1 ▸ ((Gr.refl w).alloc _).alloc _
  have z1 : w1.heap.size = A + 2 := by rw [hw1, hA]; simp
  have a1 : w1.heap[A]? = some (.cells #[.pointer (some ⟨sp, 0, none⟩)] 23 (0, 0)) := by
    rw [hw1, hA, ((Gr.refl (w.alloc (.cells #[.pointer (some ⟨sp, 0, none⟩)] 23))).alloc _).heap (by simp)]
    exact heap_alloc_new w _
  have a2 : w1.heap[A + 1]? = some (.cells #[.int .i64 now] 2 (0, 0)) := by
    rw [hw1, hA]
    have := heap_alloc_new (w.alloc (.cells #[.pointer (some ⟨sp, 0, none⟩)] 23)) (.cells #[.int .i64 now] 2)
    simpa using this
  obtain ⟨w2, hw2⟩ : ∃ x, x = (w1.alloc (.cells #[.pointer (some ⟨sp, 0, none⟩)] 23)).alloc (.cells #[.int .i64 1] 3) := ⟨_, rfl⟩
  have G2 : Gr w1 w2 := hw2 ▸ ((Gr.refl w1).alloc _).alloc _
  have z2 : w2.heap.size = A + 4 := by rw [hw2]; simp [z1]
  have e1 : w2.heap[A + 2]? = some (.cells #[.pointer (some ⟨sp, 0, none⟩)] 23 (0, 0)) := by
    rw [hw2, ← z1, ((Gr.refl (w1.alloc (.cells #[.pointer (some ⟨sp, 0, none⟩)] 23))).alloc _).heap (by simp)]
    exact heap_alloc_new w1 _
  have e2 : w2.heap[A + 3]? = some (.cells #[.int .i64 1] 3 (0, 0)) := by
    rw [hw2]
    have := heap_alloc_new (w1.alloc (.cells #[.pointer (some ⟨sp, 0, none⟩)] 23)) (.cells #[.int .i64 1] 3)
    rw [World.size_alloc, z1] at this
    exact this
  have G12 : Gr w w2 := G1.trans G2
  have CN := Lib.hid (now_any base w1 S sp most l hist (st.gr G1.below))
  have CL := Lib.hid (list_any w1 (.pointer (some ⟨sp, 0, none⟩)) 1 ⟨_, rfl⟩)
  have TN := list_tellsC (6 - 1) base w2 S sp (A + 2) most 1 l hist (st.gr G12.below) (cell_of_block e1 0) (cell_of_block e2 0) (by omega) (by omega)
  have HTN := Lib.hid TN
  have k1 : w1.cell? ⟨A, 0, none⟩ = some (.pointer (some ⟨sp, 0, none⟩)) := cell_of_block a1 0
  have k2 : w1.cell? ⟨A + 1, 0, none⟩ = some (.int .i64 now) := cell_of_block a2 0
  have t1 : decide (now < 0) = false := decide_eq_false (by omega)
  have t2 : decide (4611686018427387904 < now) = false := decide_eq_false (Int.not_lt.2 h1)
  have HW1 : Hid ((w.alloc (.cells #[.pointer (some ⟨sp, 0, none⟩)] 23)).alloc (.cells #[.int .i64 now] 2) = w1 ∧ w.heap.size = A ∧ w1.heap.size = A + 2) := ⟨hw1.symm, hA.symm, z1⟩
  have HW2 : Hid ((w1.alloc (.cells #[.pointer (some ⟨sp, 0, none⟩)] 23)).alloc (.cells #[.int .i64 1] 3) = w2) := hw2.symm
  have I0 : Hid (∀ C, w2.heap.size ≤ C → PasI base A S sp most w l now hist.length C [] w2) := fun C hC => ⟨S, l, hist, st.gr G12.below, Chg.ofBelow G12.below S, fun g hg => .inl hg, (G2.heap (by omega)).trans a1, (G2.heap (by omega)).trans a2, by simp, Pas.start l now hist⟩
  have HH := Lib.hid (And.intro bw (And.intro ap0 (And.intro ok0 (And.intro hA (And.intro z2 (And.intro hl (And.intro hn (And.intro h0 (And.intro h1 st)))))))))
  obtain ⟨n0, hn0⟩ : ∃ n, n = hist.length := ⟨_, rfl⟩
  have HN0 := Lib.hid hn0
  rw [← hn0] at CN I0
  clear st hl hn h0 h1 bw ap0 ok0 hA hw1 G1 z1 a1 a2 hw2 G2 z2 e1 e2 G12 TN hn0
  refine (callsIn_wide (n := 6)).1 ?_
  refine callsIn_of_wp_marks Tryz.func8 rfl trivial ?_ rfl
  simp only [Tryz.ntmps8, List.size_toArray, List.length_cons, List.length_nil, Nat.reduceAdd, Nat.reduceSub, Array.replicate_succ, Array.replicate_zero, List.push_toArray, List.append_toArray, List.nil_append, List.cons_append]
  refine wpIn_wide.2 ?_
  go_upto_region 1 with fail
  rw [HW1.out.1, HW1.out.2.1]
  go_wp2_with fail
  refine CN.out.mono ?_
  rintro e w' ⟨rfl, hw'⟩
  rw [hw']
  clear hw'
  go_wp2_with fail
  refine CL.out.mono ?_
  rintro e w' ⟨rfl, hw'⟩
  rw [HW1.out.2.2]
  rw [hw', HW2.out]
  clear hw' CN CL k1 k2 t1 t2
  go_wp2_with fail
  refine (wpIn_wide (n := 6)).1 ?_
  refine wpIn_toldC (α := Co) (n := 6) (by decide) (gf := 22) (lb := #[.pointer (some ⟨A + 2, 0, none⟩), .pointer (some ⟨A + 2 + 1, 0, none⟩)]) rfl (enters_of Tryz.func22 (by kernel_rfl) rfl) HTN.out (Below.refl _ _) (fun _ => rfl) (by have := HH.out.1; have := HH.out.2.2.2.1; have := HH.out.2.2.2.2.1; omega) (fun pre x A A' h f => ⟨h.1, h.2.fx f⟩)
    (PasI base A S sp most w l now n0) (fun _ _ _ _ => False) ?_ (fun c C s A A' T h _ _ => h.elim) I0.out ?_ ?_ (fun _ _ _ _ _ _ h _ => h.elim (fun _ h => h.elim))
  · intro C
    obtain ⟨bw, ap0, ok0, hA, z2, _⟩ := HH.out
    exact pas_bears base A w2.heap.size S sp most w l now n0 C (by omega) (by omega)
  · intro l' C pre x W hi hgv hlB hlC hCW
    rw [zip_one]
    obtain ⟨D, hD⟩ : ∃ D, D = x.1.1.1 := ⟨_, rfl⟩
    obtain ⟨o, ho⟩ : ∃ o, o = x.1.2 := ⟨_, rfl⟩
    have hkx := hgv.2
    rw [← hD] at hkx ⊢
    rw [← ho] at hkx
    have z0 : (W.alloc (.cells zerC OT)).heap[W.heap.size]? = some (.cells zerC OT (0, 0)) := heap_alloc_new W _
    obtain ⟨th, n0', fx1, c1'⟩ := store_ob (base := W.heap.size) z0 rfl hkx.obj.1 (Nat.le_refl _)
    obtain ⟨w3, hw3⟩ : ∃ W', W' = (W.alloc (.cells zerC OT)).setCells W.heap.size 0 D.toList := ⟨_, rfl⟩
    obtain ⟨O, hO⟩ : ∃ A, A = W.heap.size := ⟨_, rfl⟩
    rw [← hw3] at n0' c1'
    have b3 : Below W.heap.size W w3 := by
      have g : Gr W (W.alloc (.cells zerC OT)) := (Gr.refl W).alloc _
      exact ((Xb.ofGr g W.heap.size).trans ⟨c1'.os, c1'.tape, c1'.output, c1'.size, fun k hk hne => c1'.block k hk (by simpa using hne)⟩).below (Nat.le_refl _) (Nat.le_refl _)
    rw [← hO] at n0'
    have TH := Lib.hid th
    have IN : Hid ((Tryz.prog.info? OT).map (·.size) = some D.size) := by show _ = _; rw [hkx.obj.1]; exact info_ob47
    have ON := Lib.hid (objV_one hkx.obj)
    have HW3 : Hid ((W.alloc (.cells zerC OT)).setCells W.heap.size 0 D.toList = w3 ∧ W.heap.size = O) := ⟨hw3.symm, hO.symm⟩
    have H3 := Lib.hid (And.intro n0' (And.intro b3 (And.intro hi (And.intro hgv.1 (And.intro hkx ho)))))
    clear hkx z0 th n0' fx1 c1' hw3 hO b3 hi hgv hD ho
    refine region_round (by rfl) (fun ⟨a, w, h⟩ => h) ?_
    go_wp2_with (refine wpList_store_mid rfl _ _ _ rfl W.heap.size 0 D (by rfl) (by rfl) TH.out IN.out ON.out ?_; rw [HW3.out.1, HW3.out.2])
    refine ⟨StaysC.ofBelow H3.out.2.1, fun W2 c2 f2 => ?_⟩
    obtain ⟨n3, b3, ⟨S', l1, h1, s1, s2, s3, s4, s5, s6, s7⟩, gv1, gv2, ho⟩ := H3.out
    obtain ⟨bw, ap0, ok0, hA, z2, hl, hn, hn0, hn1, st⟩ := HH.out
    have hO : W.heap.size = O := HW3.out.2
    rw [← ho] at gv1
    have out : ∀ g, g < w3.heap.size → g ≠ l' → W2.heap[g]? = w3.heap[g]? := fun g h1 h2 => c2.block g h1 (by simpa using h2)
    have z3 := b3.size
    have aW := (Array.getElem?_eq_some_iff.1 s5).1
    have p4 : W2.heap[A]? = some (.cells #[.pointer (some ⟨sp, 0, none⟩)] 23 (0, 0)) := (out A (by omega) (by omega)).trans ((b3.block A (by omega)).trans s4)
    have p5 : W2.heap[A + 1]? = some (.cells #[.int .i64 now] 2 (0, 0)) := (out _ (by omega) (by omega)).trans ((b3.block _ (by omega)).trans s5)
    have o2 : W2.heap[O]? = some (.cells D OT (0, 0)) := (out O (Array.getElem?_eq_some_iff.1 n3).1 (by omega)).trans n3
    have kD : Kept base W2 D o := (gv2.fx (Fx.ofBelow b3)).fx f2
    have pS := s1.prot
    have st2 : StIs base W2 S' sp most l1 h1 := (s1.gr b3).stay (fun g hg => by
      obtain ⟨q1, q2, _⟩ := pS g hg
      refine out g (by omega) ?_
      rintro rfl
      rcases s3 _ hg with hq | hq
      · have := (st.prot _ hq).2.1; omega
      · omega) f2
    have hol : o ∈ l ∧ o.kind = 1 := listed_mem.1 (List.mem_of_getElem? gv1)
    have hok := ok0 o hol.1
    have hdn : o ∉ pre.map (·.1.2) := by rw [s6]; exact listed_new ap0 gv1
    have tk := tk_pod hok.3 hol.2
    obtain ⟨nd, hnd⟩ : ∃ s, s = o.p.node := ⟨_, rfl⟩
    obtain ⟨th, hth⟩ : ∃ b, b = l.any (hit 2 nd) := ⟨_, rfl⟩
    have CG := Lib.hid (get_any base W2 S' sp most l1 h1 2 nd st2 (by unfold I64; decide) (by rw [hnd]; have := ftT_iff.1 kD.fits.p_node; unfold maxLen; omega))
    rw [s7.any, ← hth] at CG
    have c0 : W2.cell? ⟨A, 0, none⟩ = some (.pointer (some ⟨sp, 0, none⟩)) := cell_of_block p4 0
    have cn : W2.cell? ⟨O, 11, none⟩ = some (.string nd) := (cell_of_block o2 11).trans (by rw [hnd]; exact kD.obj.2.2.2.1.2.1)
    have H4 := Lib.hid (And.intro p4 (And.intro p5 (And.intro o2 (And.intro kD (And.intro st2 (And.intro hol (And.intro hok (And.intro hdn (And.intro tk (And.intro hnd (And.intro hth (And.intro gv1 (And.intro ho (And.intro s2 (And.intro s3 (And.intro s6 (And.intro s7 (And.intro b3 c2))))))))))))))))))
    have HLW : Hid (w2.heap.size ≤ l' ∧ l' < C ∧ C ≤ O ∧ ∀ g ∈ S', g < O) := ⟨hlB, hlC, by omega, fun g hg => by have := (pS g hg).2.1; omega⟩
    clear n3 b3 s1 s2 s3 s4 s5 s6 s7 gv1 gv2 ho bw ap0 ok0 hA z2 hl hn hn0 hn1 st hO out z3 aW p4 p5 o2 kD pS st2 hol hok hdn tk hnd hth c2 f2 TH IN ON HW3 H3 hlB hlC hCW
    gi_upto_region 6 with fail
    refine region_round (by rfl) (fun ⟨a, w, h⟩ => h) ?_
    go_wp2_with fail
    refine CG.out.mono ?_
    rintro e w5 ⟨⟨V, rfl, hVs, hVo, hVk⟩, b5⟩
    have z0 : (w5.alloc (.cells zerC OT)).heap[w5.heap.size]? = some (.cells zerC OT (0, 0)) := heap_alloc_new w5 _
    obtain ⟨th', n0', fx1, c1'⟩ := store_ob (base := w5.heap.size) z0 rfl hVs (Nat.le_refl _)
    obtain ⟨w6, hw6⟩ : ∃ W', W' = (w5.alloc (.cells zerC OT)).setCells w5.heap.size 0 V.toList := ⟨_, rfl⟩
    obtain ⟨E, hE⟩ : ∃ A, A = w5.heap.size := ⟨_, rfl⟩
    rw [← hw6] at n0' c1'
    have b6 : Below w5.heap.size w5 w6 := by
      have g : Gr w5 (w5.alloc (.cells zerC OT)) := (Gr.refl w5).alloc _
      exact ((Xb.ofGr g w5.heap.size).trans ⟨c1'.os, c1'.tape, c1'.output, c1'.size, fun k hk hne => c1'.block k hk (by simpa using hne)⟩).below (Nat.le_refl _) (Nat.le_refl _)
    have TH := Lib.hid th'
    have IN : Hid ((Tryz.prog.info? OT).map (·.size) = some V.size) := by show _ = _; rw [hVs]; exact info_ob47
    have ON : Hid (V.all (·.oneCell') = true) := hVo
    have HW6 : Hid ((w5.alloc (.cells zerC OT)).setCells w5.heap.size 0 V.toList = w6 ∧ w5.heap.size = E) := ⟨hw6.symm, hE.symm⟩
    have B26 : Below W2.heap.size W2 w6 := b5.trans (b6.mono b5.size)
    obtain ⟨p4, p5, o2, kD, st2, hol, hok, hdn, tk, hnd, hth, gv1, ho, s2, s3, s6, s7, b3, c2⟩ := H4.out
    have o6 : w6.heap[O]? = some (.cells D OT (0, 0)) := (B26.block O (Array.getElem?_eq_some_iff.1 o2).1).trans o2
    have c5 : w6.cell? ⟨A + 1, 0, none⟩ = some (.int .i64 now) := cell_of_block ((B26.block _ (Array.getElem?_eq_some_iff.1 p5).1).trans p5) 0
    have kD6 : Kept base w6 D o := kD.fx (Fx.ofBelow B26)
    have LP := Lib.hid (load_in o6 kD.obj.1)
    have tiny := kD.small
    have CX := Lib.hid (next_any w6 (D.extract 10 20) o.p now th (ext_pd kD6.obj) (ext_nil kD.obj.1 kD.nil) (by unfold TinyO at tiny; omega) tk)
    obtain ⟨y, hy⟩ : ∃ y, y = nxt o.p now th := ⟨_, rfl⟩
    obtain ⟨PD, hPD⟩ : ∃ P, P = D.extract 10 20 := ⟨_, rfl⟩
    rw [← hy] at CX
    rw [← hPD] at CX LP
    have H6 := Lib.hid (And.intro o6 (And.intro kD6 (And.intro hy B26)))
    clear z0 th' n0' fx1 c1' hw6 hE b6 hVs hVo hVk B26 b5 p4 p5 o2 kD st2 hol hok hdn tk hnd hth gv1 ho s2 s3 s6 s7 b3 c2 o6 kD6 tiny hy hPD CG cn c0
    go_wp2_with (refine wpList_store_mid rfl _ _ _ rfl w5.heap.size 0 V (by rfl) (by rfl) TH.out IN.out ON.out ?_; rw [HW6.out.1, HW6.out.2])
    clear TH IN ON HW6
    gi_upto_region 7 with fail
    refine region_round (by rfl) (fun ⟨a, w, h⟩ => h) ?_
    go_wp2_with (refine wpList_load_by (by kernel_rfl) PT _ rfl (.pointer (some ⟨O, 10, none⟩)) (.agg PD) (by kernel_rfl) LP.out ?_)
    refine CX.out.mono ?_
    rintro e w7 ⟨⟨P, rfl, pd, po⟩, b7⟩
    obtain ⟨TH, IN, ON, w8, hw8, b8, l8, z8⟩ := new_pd pd po.nil
    obtain ⟨F, hF⟩ : ∃ F, F = w7.heap.size := ⟨_, rfl⟩
    have HW8 : Hid ((w7.alloc (.cells zerP PT)).setCells w7.heap.size 0 P.toList = w8 ∧ w7.heap.size = F) := ⟨hw8, hF.symm⟩
    have B68 : Below w6.heap.size w6 w8 := b7.trans (l8.mono b7.size)
    have f8 : w8.heap[F]? = some (.cells P PT (0, 0)) := by rw [hF]; exact b8
    have po8 : OwnP w6.heap.size w8 y P := po.keep (fun g _ hg => l8.block g hg)
    have pd8 : PdS w8 P y := pd.own po8
    obtain ⟨o6, kD6, hy, B26⟩ := H6.out
    have o8 : w8.heap[O]? = some (.cells D OT (0, 0)) := (B68.block O (Array.getElem?_eq_some_iff.1 o6).1).trans o6
    have kD8 : Kept base w8 D o := kD6.fx (Fx.ofBelow B68)
    obtain ⟨pn, hpn⟩ : ∃ p, p = y.ph := ⟨_, rfl⟩
    obtain ⟨pq, hpq⟩ : ∃ p, p = o.p.ph := ⟨_, rfl⟩
    have d1 : w8.cell? ⟨F, 2, none⟩ = some (.int .i64 pn) := by rw [cell_of_block f8, hpn]; exact pd8.2.2.2.1
    have d2 : w8.cell? ⟨O, 12, none⟩ = some (.int .i64 pq) := by rw [cell_of_block o8, hpq]; exact kD8.obj.2.2.2.1.2.2.1
    have H8 := Lib.hid (And.intro f8 (And.intro po8 (And.intro pd8 (And.intro o8 (And.intro kD8 (And.intro hpn (And.intro hpq (And.intro (B26.trans (B68.mono B26.size)) (And.intro hy (show O < F by have := (Array.getElem?_eq_some_iff.1 o6).1; have := b7.size; omega))))))))))
    clear pd po b7 hw8 b8 l8 z8 hF B68 f8 po8 pd8 o6 kD6 hy B26 o8 kD8 hpn hpq c5 CX LP H6
    go_wp2_with (refine wpList_store_mid rfl _ _ _ rfl w7.heap.size 0 P (by rfl) (by rfl) TH.out IN.out ON.out ?_; rw [HW8.out.1, HW8.out.2])
    clear TH IN ON HW8
    by_cases hm : pn = pq
    · have t1 : (pn != pq) = false := by simp [hm]
      have FIN : Hid (StaysC base w2.heap.size C W2 w8 ∧ PasI base A S sp most w l now n0 C (pre ++ [x]) w8) := by
        obtain ⟨p4, p5, o2, kD, st2, hol, hok, hdn, tk, hnd, hth, gv1, ho, s2, s3, s6, s7, b3, c2⟩ := H4.out
        obtain ⟨f8, po8, pd8, o8, kD8, hpn, hpq, B28, hy, hOF⟩ := H8.out
        have mvf : mv l now o = false := by
          unfold mv
          rw [← hnd, ← hth, ← hy, ← hpn, ← hpq, hm]
          simp
        have e : (pre ++ [x]).map (·.1.2) = pre.map (·.1.2) ++ [o] := by rw [ho]; simp
        refine ⟨StaysC.ofBelow B28, S', l1, h1, st2.gr B28, ((s2.trans (Chg.ofBelow b3 []) (by simp)).trans c2 (fun g hg => .inr ?_)).trans (Chg.ofBelow B28 []) (by simp), s3, (B28.block A (Array.getElem?_eq_some_iff.1 p4).1).trans p4, (B28.block _ (Array.getElem?_eq_some_iff.1 p5).1).trans p5, ?_, by rw [e]; exact s7.skip hol.1 mvf⟩
        · rw [List.mem_singleton] at hg
          have := HLW.out.1
          have := HH.out.2.2.2.1
          have := HH.out.2.2.2.2.1
          omega
        · have := take_nextO (L := listed 1 l) (pre := pre) (x := x) s6 (by rw [← ho]; exact gv1)
          rw [this, List.length_append]
          rfl
      clear hm H8 H4
      gi_upto_region 8 with fail
      refine region_round (by rfl) (fun ⟨a, w, h⟩ => h) ?_
      go_wp2_with fail
      gi_wp2
      exact FIN.out
    · have t1 : (pn != pq) = true := by simp [hm]
      obtain ⟨p4, p5, o2, kD, st2, hol, hok, hdn, tk, hnd, hth, gv1, ho, s2, s3, s6, s7, b3, c2⟩ := H4.out
      obtain ⟨f8, po8, pd8, o8, kD8, hpn, hpq, B28, hy, hOF⟩ := H8.out
      obtain ⟨bw, ap0, ok0, hA, z2, hl, hn, hn0, hn1, st⟩ := HH.out
      obtain ⟨hl1, hl2, hl3, hS'⟩ := HLW.out
      have mvt : mv l now o = true := by
        unfold mv
        rw [← hnd, ← hth, ← hy, ← hpn, ← hpq]
        simp [hm]
      have eg : gets l now o = setP o y := by
        unfold gets
        rw [← hnd, ← hth, ← hy]
      have okY : OkK (setP o y) := by rw [hy]; exact ok_setP hok hol.2 hn0 hn1
      obtain ⟨w9, hw9⟩ : ∃ W', W' = w8.setCells O 10 P.toList := ⟨_, rfl⟩
      have o9 : w9.heap[O]? = some (.cells (setAt D 10 P.toList) OT (0, 0)) := by rw [hw9]; exact setCells_block _ _ _ _ _ _ _ o8
      have C89 : Chg [O] w8 w9 := by
        obtain ⟨r1, r2, r3⟩ := setCells_rest P.toList w8 O 10
        rw [hw9]
        exact ⟨r1, r2, r3, by rw [setCells_size]; exact Nat.le_refl _, fun k _ hk => setCells_out _ _ _ _ _ (by simpa using hk)⟩
      have npO : ¬ Prot base w8 O := (cells_prot o8 (by omega) rfl).2.2
      have F89 : Fx base w8 w9 := C89.fx (fun g hg _ => by rw [List.mem_singleton] at hg; rw [hg]; exact npO)
      have kept9 : Kept base w9 (setAt D 10 P.toList) (setP o y) := (kept_setP kD8 pd8 po8 (by rw [hy]; exact nxt_sameP o.p now th)).fx F89
      have st9 : StIs base w9 S' sp most l1 h1 := (st2.gr B28).chg C89 (fun g hg hm => by rw [List.mem_singleton] at hm; have := hS' g hg; omega) (fun g hg _ => by rw [List.mem_singleton] at hg; rw [hg]; exact npO)
      have q4 : w9.heap[A]? = some (.cells #[.pointer (some ⟨sp, 0, none⟩)] 23 (0, 0)) := (C89.block A (Nat.lt_of_lt_of_le (Array.getElem?_eq_some_iff.1 p4).1 B28.size) (by simp; omega)).trans ((B28.block A (Array.getElem?_eq_some_iff.1 p4).1).trans p4)
      have q5 : w9.heap[A + 1]? = some (.cells #[.int .i64 now] 2 (0, 0)) := (C89.block _ (Nat.lt_of_lt_of_le (Array.getElem?_eq_some_iff.1 p5).1 B28.size) (by simp; omega)).trans ((B28.block _ (Array.getElem?_eq_some_iff.1 p5).1).trans p5)
      have c9 : w9.cell? ⟨A, 0, none⟩ = some (.pointer (some ⟨sp, 0, none⟩)) := cell_of_block q4 0
      have hpl : pre.length ≤ l.length := by
        have h1 := congrArg List.length s6
        rw [List.length_map, List.length_take] at h1
        have h2 := listed_len (l := l) 1
        omega
      have hcnt : h1.length ≤ 1000 := by
        have := s7.cnt
        have h2 := List.length_filter_le (mv l now) (pre.map (·.1.2))
        rw [List.length_map] at h2
        have := HN0.out
        omega
      have CU := update_any base w9 S' sp most l1 h1 (setAt D 10 P.toList) (setP o y) st9 kept9 (by omega) (by rw [dfl_pod (o := setP o y) hol.2]; exact okY.3)
      rw [dfl_pod (o := setP o y) hol.2] at CU
      have up : updE (setP o y) l1 = 0 := upd_ok (stIs_fine st2).2.1 (s7.stay o hol.1 (.inl hdn)) okY.3 ⟨rfl, rfl⟩ rfl
      have HCU := Lib.hid CU
      have HUP := Lib.hid up
      have TH : Hid (w8.there O 10 P.size) := by
        intro j hj
        have h1 := pd8.1
        have h2 := kD8.obj.1
        rw [cell_of_block o8, unfrozen_of_block o8]
        refine ⟨?_, rfl⟩
        rw [Array.getElem?_eq_getElem (by omega)]
        rfl
      have IN : Hid ((Tryz.prog.info? PT).map (·.size) = some P.size) := by show _ = _; rw [pd8.1]; exact info_pt
      have ON := Lib.hid pd8.one
      have LF := Lib.hid (load_pd f8 pd8.1)
      have LO := Lib.hid (load_ob o9 kept9.obj.1)
      obtain ⟨X, hX⟩ : ∃ X, X = setAt D 10 P.toList := ⟨_, rfl⟩
      rw [← hX] at HCU LO o9
      have HW9 : Hid (w8.setCells O 10 P.toList = w9) := hw9.symm
      have FIN : Hid (∀ w', After base w9 w' S' sp most (put l1 (setV (setP o y) (h1.length + 1))) (h1 ++ [⟨1, (setP o y).kind, (setP o y).name, h1.length + 1⟩]) → StaysC base w2.heap.size C W2 w' ∧ PasI base A S sp most w l now n0 C (pre ++ [x]) w') := fun w' ⟨S2, a1, a2, a3⟩ => by
        have e : (pre ++ [x]).map (·.1.2) = pre.map (·.1.2) ++ [o] := by rw [ho]; simp
        have pS := st9.prot
        have z8 := B28.size
        have z9 := C89.size
        have zO := (Array.getElem?_eq_some_iff.1 o8).1
        have turn := s7.turn ap0 hol.1 hdn mvt (by rw [eg]; exact okY) (v := h1.length + 1) (by omega) ⟨1, (setP o y).kind, (setP o y).name, h1.length + 1⟩
        rw [eg] at turn
        have hSA : ∀ g ∈ S', g ≠ A ∧ g ≠ A + 1 := fun g hg => by
          rcases s3 g hg with hq | hq
          · have := (st.prot g hq).2.1; omega
          · omega
        refine ⟨(StaysC.ofBelow B28).trans ((StaysC.ofChg C89 (fun g hg => ?_)).trans (StaysC.ofChg a2 (fun g hg => ?_))), S2, _, _, a1, ((((s2.trans (Chg.ofBelow b3 []) (by simp)).trans c2 (fun g hg => .inr ?_)).trans (Chg.ofBelow B28 []) (by simp)).trans C89 (fun g hg => .inr ?_)).trans a2 (fun g hg => ?_), fun g hg => ?_, ?_, ?_, ?_, by rw [e]; exact turn⟩
        · rw [List.mem_singleton] at hg
          rw [hg]
          exact ⟨.inr hl3, fun _ => npO⟩
        · refine ⟨?_, fun _ => (pS g hg).2.2⟩
          rcases s3 g hg with hq | hq
          · have := (st.prot g hq).2.1; exact .inl (by omega)
          · exact .inr hq
        · rw [List.mem_singleton] at hg
          omega
        · rw [List.mem_singleton] at hg
          have := s2.size
          omega
        · rcases s3 g hg with hq | hq
          · exact .inl hq
          · exact .inr (by omega)
        · rcases a3 g hg with hq | hq
          · exact s3 g hq
          · exact .inr (by omega)
        · exact (a2.block A (Array.getElem?_eq_some_iff.1 q4).1 (fun hm => (hSA A hm).1 rfl)).trans q4
        · exact (a2.block _ (Array.getElem?_eq_some_iff.1 q5).1 (fun hm => (hSA _ hm).2 rfl)).trans q5
        · have := take_nextO (L := listed 1 l) (pre := pre) (x := x) s6 (by rw [← ho]; exact gv1)
          rw [this, List.length_append]
          rfl
      clear p4 p5 o2 kD st2 hol hok hdn tk hnd hth gv1 ho s2 s3 s6 s7 b3 c2 f8 po8 pd8 o8 kD8 hpn hpq B28 hy hOF bw ap0 ok0 hA z2 hl hn hn0 hn1 st hl1 hl2 hl3 hS' mvt eg okY hw9 o9 C89 npO F89 kept9 st9 q4 q5 hpl hcnt CU up hX H8 H4 hm
      gi_upto_region 8 with fail
      refine region_round (by rfl) (fun ⟨a, w, h⟩ => h) ?_
      go_wp2_with fail
      gi_upto_region 9 with fail
      refine region_round (by rfl) (fun ⟨a, w, h⟩ => h) ?_
      go_wp2_with (first | (refine wpList_load_by (by kernel_rfl) PT _ rfl (.pointer (some ⟨F, 0, none⟩)) (.agg P) (by rfl) LF.out ?_) | (refine wpList_store_mid rfl _ _ _ rfl O 10 P (by rfl) (by rfl) TH.out IN.out ON.out ?_; rw [HW9.out]))
      clear TH IN ON HW9 LF
      gi_upto_region 10 with fail
      refine region_round (by rfl) (fun ⟨a, w, h⟩ => h) ?_
      go_wp2_with (refine wpList_load_by (by kernel_rfl) OT _ rfl (.pointer (some ⟨O, 0, none⟩)) (.agg X) (by rfl) LO.out ?_)
      refine HCU.out.mono ?_
      rintro e w10 (⟨h, _⟩ | ⟨_, rfl, af⟩)
      · exact absurd HUP.out h
      · have FF := Lib.hid (FIN.out w10 af)
        clear af FIN HCU HUP LO c9
        go_wp2_with fail
        gi_wp2
        exact FF.out
  · intro Dm xs W hD hS ⟨C, hC, S', l1, h1, s1, s2, s3, s4, s5, s6, s7⟩ hdef
    obtain ⟨bw, ap0, ok0, hA, z2, hl, hn, hn0, hn1, st⟩ := HH.out
    rw [hS] at s7
    have hcnt : h1.length ≤ 1000 ∧ n0 ≤ h1.length := by
      have := s7.cnt
      have h2 := List.length_filter_le (mv l now) (listed 1 l)
      have h3 := listed_len (l := l) 1
      have := HN0.out
      omega
    have CS := Lib.hid (since_any base W S' sp most l1 h1 n0 s1 (by omega) hcnt.2 (by omega))
    have c0 : W.cell? ⟨A, 0, none⟩ = some (.pointer (some ⟨sp, 0, none⟩)) := cell_of_block s4 0
    have FIN := Lib.hid (And.intro s1 (And.intro s2 (And.intro s3 (And.intro s7 (And.intro hdef (And.intro (show w2.heap.size ≤ Dm from hD) (And.intro hC hcnt)))))))
    clear bw ap0 ok0 hA z2 hl hn hn0 hn1 st hS s1 s2 s3 s4 s5 s6 s7 hdef hD hC hcnt HTN I0
    go_wp2_with fail
    refine CS.out.mono ?_
    rintro e w5 ⟨⟨v, rfl, own⟩, b5⟩
    obtain ⟨q, c, rfl⟩ := own_slice own
    obtain ⟨m, hm⟩ : ∃ m, m = (h1.drop n0).length := ⟨_, rfl⟩
    rw [← hm]
    have HM := Lib.hid (And.intro hm b5)
    clear own hm b5 CS c0
    go_wp2_with fail
    obtain ⟨s1, s2, s3, s7, hdef, hD, hC, hc1, hc2⟩ := FIN.out
    obtain ⟨hm, b5⟩ := HM.out
    obtain ⟨bw, ap0, ok0, hA, z2, hl, hn, hn0, hn1, st⟩ := HH.out
    have hdef5 : w5.heap[Dm]? = some (.deferred (some [])) := (b5.block Dm (Array.getElem?_eq_some_iff.1 hdef).1).trans hdef
    refine leaves_marks (F := Fence.wide) (n := 6) (P := Tryz.prog) (fn := Tryz.f8) [Dm] w5 (by simp) (fun D hD => by rw [List.mem_singleton] at hD; rw [hD]; exact hdef5) (fun w'' c'' => ?_)
    obtain ⟨s5, f5⟩ := stIs_idle (s1.gr b5) c'' (fun g hg => by rw [List.mem_singleton] at hg; rw [hg]; exact ⟨by omega, hdef5⟩)
    refine ⟨_, results_tmp2 rfl _ _ _, q, c, l1, h1, ?_, by rw [← HN0.out]; exact s7, S', s5, ((s2.trans (Chg.ofBelow b5 []) (by simp)).trans c'' (fun g hg => .inr ?_)), fun g hg => ?_⟩
    · rw [hm, List.length_drop, HN0.out]
      rfl
    · rw [List.mem_singleton] at hg
      omega
    · rcases s3 g hg with hq | hq
      · exact .inl hq
      · exact .inr (by omega)
end Go.Proofs.YtcfilaiejccfkaaGreat.Po
/- Objects that came in; the law's store of them. -/
namespace Go.Proofs.YtcfilaiejccfkaaGreat.Po
open Go.ChangeShapes Go.WideShapes Go.ChangeAt Go.RowKit Go.Deep Go.Lib Go.Shelf Go.Sort
open Go.Joins (cell_of_block unfrozen_of_block block_setCell)
open Go.Proofs.YtcfilaiejccfkaaGreat.Lc
set_option linter.unusedVariables false
set_option linter.unusedSimpArgs false
set_option maxRecDepth 20000

abbrev Obv := Cs × Ob
def encOb (x : Obv) : List Value := x.1.1.toList
theorem lenOb (x : Obv) : (encOb x).length = 47 := lenC x.1
def okOb (W : World) (x : Obv) : Prop := ObjV W x.1.1 x.2 ∧ NilO x.1.1 ∧ FitsO x.2 ∧ I64 x.2.kind
theorem open_rowK {α : Type} [Inhabited α] {H : Type} {enc : TypeId × Value → H} {W : World} {S E : TypeId} {k n o : Nat} (e : α → List Value) (ok : α → Prop) (hS : Tryz.prog.underlying S = some (.slice E)) (hk : Tryz.prog.cellsOf E = k) (h0 : 0 < k)
    (hb : 0 < Tryz.prog.bytesOf E) (each : ∀ n cs y, cs.length = k → DataW.trod enc Tryz.prog W 0 (fun _ => true) true n E cs = some y → Wt E y.1 → ∃ x, (∀ (t : Nat) (v : Value), (e x)[t]? = some v → cs[t]? = some v) ∧ ok x) {cs : List Value} {y : DataW H × List MemPlace} (h : DataW.trod enc Tryz.prog W 0 (fun _ => true) true n S ((cs.drop o).take 1) = some y) (wt : Wt S y.1) :
    ∃ l : List α, SlR k e W cs[o]? l ∧ (∀ x ∈ l, ok x) ∧ l.length ≤ 140737488351232 := by
  rcases open_slice hS h with ⟨hcs, hx⟩ | ⟨a, len, cap, m, n', D, Pl, hcs, _, hl, hm, hmm, hx, hcell⟩
  · exact ⟨[], ⟨none, 0, at1 hcs, RowR.nil _ _ _ _⟩, by simp, by simp⟩
  · simp only [if_true] at hmm
    have each2 : ∀ i, i < len → ∃ x : α, ∃ b off, a = ⟨b, off, none⟩ ∧ b < W.heap.size ∧ ok x ∧ ∀ (t : Nat) (u : Value), (e x)[t]? = some u → W.cell? ⟨b, off + i * k + t, none⟩ = some u := by
      intro i hi
      obtain ⟨c0, g1, g2⟩ := hcell 0 (by omega)
      rw [hk] at g1
      obtain ⟨l0, p0⟩ := cells_at g1
      obtain ⟨b, off, ha, hbl⟩ := spot_none' (by have := p0 0 (c0[0]'(by omega)) (List.getElem?_eq_getElem (by omega)); simpa [Addr.add] using this)
      subst ha
      obtain ⟨c1, g3, g4⟩ := hcell i (by omega)
      rw [hk] at g3
      obtain ⟨l1, p1⟩ := cells_at g3
      obtain ⟨x, hx1, hx2⟩ := each _ _ _ l1 g4 (fun n hn => wt n (by rw [hx, DataW.weights, hS]; exact List.mem_cons_of_mem _ (List.mem_append_left _ (wt_mem hi hn))))
      refine ⟨x, b, off, rfl, hbl, hx2, fun t u hu => ?_⟩
      have := p1 t u (hx1 t u hu)
      rw [add_none', add_none'] at this
      exact this
    obtain ⟨f, hf⟩ := choose_lt each2
    have hlen : len ≤ 140737488351232 := by
      have h1 := wt ((((List.range len).map D).length + ((List.range (m - len)).map fun j => D (len + j)).length) * Tryz.prog.bytesOf E) (by rw [hx, DataW.weights, hS]; exact List.mem_cons_self)
      rw [reach_eq] at h1
      simp only [List.length_map, List.length_range] at h1
      have h2 : len + (m - len) ≤ (len + (m - len)) * Tryz.prog.bytesOf E := Nat.le_mul_of_pos_right _ hb
      omega
    refine ⟨(List.range len).map f, ⟨some a, cap, by rw [at1 hcs]; simp, ?_⟩, ?_, by simp; exact hlen⟩
    · intro j x hj
      rw [List.getElem?_map, Option.map_eq_some_iff] at hj
      obtain ⟨i, hi, rfl⟩ := hj
      obtain ⟨hlt, rfl⟩ := List.getElem?_eq_some_iff.1 hi
      rw [List.getElem_range] at *
      obtain ⟨b, off, e, h1, _, h3⟩ := hf j (by simpa using hlt)
      exact ⟨b, off, by rw [e], h1, h3⟩
    · intro x hx
      obtain ⟨i, hi, rfl⟩ := List.mem_map.1 hx
      obtain ⟨b, off, e, h1, h2, h3⟩ := hf i (by simpa using hi)
      exact h2
theorem open_one {H : Type} {enc : TypeId × Value → H} {W : World} {n : Nat} {cs : List Value} {y : DataW H × List MemPlace} (hl : cs.length = 47) (h : DataW.trod enc Tryz.prog W 0 (fun _ => true) true n OT cs = some y) (wt : Wt OT y.1) :
    ∃ x : Obv, (∀ (t : Nat) (v : Value), (encOb x)[t]? = some v → cs[t]? = some v) ∧ okOb W x := by
  obtain ⟨d, p⟩ := y
  have hs : cs.toArray.size = 47 := by simpa using hl
  obtain ⟨o, hv, F⟩ := open_ob2 (cs := cs.toArray) hs h wt
  have hn : NilO cs.toArray := open_nil (H := H) (enc := enc) (W := W) (d := d) (p := p) ⟨n, h⟩ wt
  obtain ⟨_, _, t3, z3⟩ := fld (F := 3) (off := 0) (k := 1) 0 Tryz.underlying57 (by kernel_rfl) h wt
  obtain ⟨ok, a3, w3⟩ := leaf_i Tryz.underlying3 t3
  refine ⟨⟨⟨cs.toArray, hs, objV_one hv⟩, o⟩, fun t v ht => ht, hv, hn, F, ?_⟩
  have e2 : cs[0]? = some (.int .i64 o.kind) := by
    have := hv.2.1.1
    simpa using this
  rw [e2] at a3
  injection a3 with a3
  injection a3 with _ a3
  show I64 o.kind
  rw [a3]
  exact w3
theorem open_objs {H : Type} {enc : TypeId × Value → H} {W : World} {base : Nat} {v : Value} {d : DataW H} {p : List MemPlace} (ok : Value.okWide Tryz.prog W .any base 22 v)
    (h : DataW.Trod enc Tryz.prog W 0 (fun _ => true) true 22 v d p) (wt : Wt 22 d) : ∃ q c l, v = .slice q l.length c ∧ RowR 47 encOb W q l ∧ (∀ x ∈ l, okOb W x) ∧ l.length ≤ 140737488351232 := by
  obtain ⟨a0, len, cap, rfl⟩ := okWide_slice Tryz.underlying22 ok
  obtain ⟨fuel, hf⟩ := h
  have hf : DataW.trod enc Tryz.prog W 0 (fun _ => true) true fuel 22 (([Value.slice a0 len cap].drop 0).take 1) = some (d, p) := hf
  obtain ⟨l, ⟨q, c, h1, h2⟩, h3, h4⟩ := open_rowK (k := 47) encOb (okOb W) Tryz.underlying22 (by kernel_rfl) (by decide) (of_decide_eq_true (by kernel_rfl)) (fun n cs y hl h wt => open_one hl h wt) hf wt
  simp at h1
  obtain ⟨rfl, rfl, rfl⟩ := h1
  exact ⟨a0, cap, l, rfl, h2, h3, h4⟩
theorem rangeAt_obs {W : World} {b off : Nat} {l : List Obv} {j : Nat} {x : Obv} (h : RowR 47 encOb W (some ⟨b, off, none⟩) l) (hx : l[j]? = some x) : b < W.heap.size ∧ W.rangeAt b (off + j * 47) (encOb x) := by
  obtain ⟨b', off', e, h1, h2⟩ := h j x hx
  simp only [Option.some.injEq, Addr.mk.injEq] at e
  obtain ⟨rfl, rfl, _⟩ := e
  exact ⟨h1, fun t v hv => h2 t v hv⟩

/-- Whatever is created: a store of one more at the most. -/
theorem create_some (base : Nat) (w : World) (S : List Nat) (sp : Nat) (most : Int) (l : List Ob) (hist : List Ev) (cs : Array Value) (o : Ob) (hs : StIs base w S sp most l hist) (hc : Kept base w cs o) (hn : hist.length < 1000000) :
    Calls Tryz.prog 16 #[.pointer (some ⟨sp, 0, none⟩), .agg cs] w fun e w' => (∃ v, e = .returned v) ∧ ∃ l' hist', After base w w' S sp most l' hist' ∧ l'.length ≤ l.length + 1 ∧ hist'.length ≤ hist.length + 1 := by
  by_cases he : chkE (dfl o) = 0
  · refine (create_any base w S sp most l hist cs o hs hc hn he).mono ?_
    rintro e w' (⟨_, rfl, b⟩ | ⟨_, rfl, a⟩)
    · exact ⟨⟨_, rfl⟩, l, hist, ⟨S, hs.gr b, Chg.ofBelow b S, fun g hg => .inl hg⟩, Nat.le_succ _, Nat.le_succ _⟩
    · refine ⟨⟨_, rfl⟩, _, _, a, ?_, by simp⟩
      rw [put_len]; split <;> omega
  · refine (create_bad base w sp cs o hc (by obtain ⟨_, _, _, _, q⟩ := hs; exact q.bw) he).mono ?_
    rintro e w' ⟨rfl, b⟩
    exact ⟨⟨_, rfl⟩, l, hist, ⟨S, hs.gr b, Chg.ofBelow b S, fun g hg => .inl hg⟩, Nat.le_succ _, Nat.le_succ _⟩

set_option maxHeartbeats 8000000 in
theorem stocked_any (base : Nat) (W w : World) (hbase : W.heap.size = base) (low : Below W.heap.size W w) (q : Option Addr) (c : Nat) (l : List Obv) (hr : RowR 47 encOb W q l) (hok : ∀ x ∈ l, okOb W x) (hlen : l.length ≤ 140737488351232) :
    Calls Tryz.prog 4 #[.slice q l.length c] w fun e w' => (e = .returned (.pointer none) ∨ ∃ sp S l' hist', e = .returned (.pointer (some ⟨sp, 0, none⟩)) ∧ StIs base w' S sp 200 l' hist' ∧ (∀ g ∈ S, w.heap.size ≤ g) ∧ l'.length ≤ 60 ∧ hist'.length ≤ 60) ∧ Below w.heap.size w w' := by
  have mixed : Tryz.prog.follows .mixedOrders = true := by kernel_rfl
  obtain ⟨n, hn⟩ : ∃ n, n = l.length := ⟨_, rfl⟩
  rw [← hn] at hlen ⊢
  have HH := Lib.hid (And.intro hbase (And.intro low (And.intro hr (And.intro hok hn))))
  have hb : base ≤ w.heap.size := by have := low.size; omega
  clear hr hok hn hbase low
  by_cases h60 : 60 < n
  · have t1 : decide (60 < n) = true := decide_eq_true h60
    have t2 : decide ((60 : Int) < (n : Int)) = true := decide_eq_true (by omega)
    clear h60 HH hb
    go_enter Tryz.func4, Tryz.ntmps4
    go_wp2
    go_ret
    exact ⟨.inl rfl, Below.refl _ _⟩
  · have t1 : decide (60 < n) = false := decide_eq_false h60
    have t2 : decide ((60 : Int) < (n : Int)) = false := decide_eq_false (by omega)
    have CN := Lib.hid (new_any base w 200 (by decide) (by decide) hb)
    have hn60 : n ≤ 60 := by omega
    clear h60 hlen hb
    go_enter Tryz.func4, Tryz.ntmps4
    go_wp2_with fail
    refine CN.out.mono ?_
    rintro e w1 ⟨⟨S0, sp, rfl, st0, hS0⟩, b1⟩
    have H1 := Lib.hid (And.intro st0 (And.intro hS0 b1))
    clear st0 hS0 b1 CN
    go_wp2_with fail
    go_loopg [16] n (fun g vi wr => ∃ j : Nat, vi = .int .i64 (j : Int) ∧ j ≤ n ∧ n - j ≤ g ∧ Hid (∃ S l' hist', StIs base wr S sp 200 l' hist' ∧ (∀ g ∈ S, w.heap.size ≤ g) ∧ l'.length ≤ j ∧ hist'.length ≤ j) ∧ Hid (Below w.heap.size w wr))
    case atStart => exact ⟨0, rfl, Nat.zero_le _, by omega, ⟨S0, [], [], H1.out.1, H1.out.2.1, Nat.le_refl _, Nat.le_refl _⟩, H1.out.2.2⟩
    case round =>
      obtain ⟨j, rfl, h1, h2, HP, HB⟩ := hrel
      by_cases hlt : j < n
      · obtain ⟨hbase, low, hr, hok, hn⟩ := HH.out
        obtain ⟨x, hx⟩ : ∃ x, l[j]? = some x := ⟨l[j]'(by omega), List.getElem?_eq_getElem (by omega)⟩
        obtain ⟨b, off, rfl, _, _⟩ := hr j x hx
        obtain ⟨hbl, hra⟩ := rangeAt_obs hr hx
        have lowr : Below W.heap.size W wr := low.trans (HB.out.mono low.size)
        have LD := Lib.hid (load_at47 (c := x.1) (rangeAt_below hra lowr hbl))
        obtain ⟨okv, okn, okf, oki⟩ := hok x (List.mem_of_getElem? hx)
        obtain ⟨X, hX⟩ : ∃ X, X = x.1.1 := ⟨_, rfl⟩
        obtain ⟨o, ho⟩ : ∃ o, o = x.2 := ⟨_, rfl⟩
        rw [← hX] at LD okv okn
        rw [← ho] at okv okf oki
        have z0 : (wr.alloc (.cells zerC OT)).heap[wr.heap.size]? = some (.cells zerC OT (0, 0)) := heap_alloc_new wr _
        obtain ⟨th, n0', fx1, c1'⟩ := store_ob (base := wr.heap.size) z0 rfl okv.1 (Nat.le_refl _)
        obtain ⟨w3, hw3⟩ : ∃ W', W' = (wr.alloc (.cells zerC OT)).setCells wr.heap.size 0 X.toList := ⟨_, rfl⟩
        obtain ⟨O, hO⟩ : ∃ A, A = wr.heap.size := ⟨_, rfl⟩
        rw [← hw3] at n0' c1'
        have b3 : Below wr.heap.size wr w3 := by
          have g : Gr wr (wr.alloc (.cells zerC OT)) := (Gr.refl wr).alloc _
          exact ((Xb.ofGr g wr.heap.size).trans ⟨c1'.os, c1'.tape, c1'.output, c1'.size, fun k hk hne => c1'.block k hk (by simpa using hne)⟩).below (Nat.le_refl _) (Nat.le_refl _)
        rw [← hO] at n0'
        have TH := Lib.hid th
        have IN : Hid ((Tryz.prog.info? OT).map (·.size) = some X.size) := by show _ = _; rw [okv.1]; exact info_ob47
        have ON := Lib.hid (objV_one okv)
        have HW3 : Hid ((wr.alloc (.cells zerC OT)).setCells wr.heap.size 0 X.toList = w3 ∧ wr.heap.size = O) := ⟨hw3.symm, hO.symm⟩
        have low3 : Below W.heap.size W w3 := lowr.trans (b3.mono lowr.size)
        have LV := Lib.hid (load_ob n0' okv.1)
        have CF := Lib.hid (few_any w3 X o (okv.below low3) okf)
        have q1 : w3.cell? ⟨O, 1, none⟩ = some (.string o.name) := by rw [cell_of_block n0']; exact okv.2.1.2.1
        obtain ⟨nm, hnm⟩ : ∃ s, s = o.name := ⟨_, rfl⟩
        obtain ⟨fb, hfb⟩ : ∃ b, b = fewB o := ⟨_, rfl⟩
        rw [← hnm] at q1
        rw [← hfb] at CF
        have HX := Lib.hid (And.intro okv (And.intro okn (And.intro okf (And.intro oki (And.intro n0' (And.intro b3 (And.intro low3 hfb)))))))
        clear hbase low hr hok hn hx hbl hra lowr okv okn okf oki hX ho z0 th n0' fx1 c1' hw3 hO b3 low3 hnm hfb
        go_upto_region 7 with (first | (refine wpList_load_by (by kernel_rfl) OT _ rfl (.pointer (some ⟨b, off + j * 47, none⟩)) (.agg X) (by rfl) LD.out ?_) | (refine wpList_store_mid rfl _ _ _ rfl wr.heap.size 0 X (by rfl) (by rfl) TH.out IN.out ON.out ?_; rw [HW3.out.1, HW3.out.2]))
        clear TH IN ON HW3 LD
        go_wp2_with (refine wpList_load_by (by kernel_rfl) OT _ rfl (.pointer (some ⟨O, 0, none⟩)) (.agg X) (by kernel_rfl) LV.out ?_)
        refine CF.out.mono ?_
        rintro e w4 ⟨rfl, g4⟩
        have q4 : w4.cell? ⟨O, 1, none⟩ = some (.string nm) := g4.cell q1
        have K4 : Hid (Below w.heap.size w w4) := HB.out.trans ((HX.out.2.2.2.2.2.1.trans (g4.below.mono HX.out.2.2.2.2.2.1.size)).mono HB.out.size)
        cases fb with
        | false =>
          clear q1 q4 g4 HX HP HH CF LV
          go_wp2
          go_ret
          exact ⟨.inl rfl, K4.out⟩
        | true =>
          by_cases hs : 60 < nm.size
          · have t3 : decide (60 < nm.size) = true := decide_eq_true hs
            have t4 : decide ((60 : Int) < (nm.size : Int)) = true := decide_eq_true (by omega)
            clear q1 g4 HX HP HH CF LV hs
            go_wp2
            go_ret
            exact ⟨.inl rfl, K4.out⟩
          · have t3 : decide (60 < nm.size) = false := decide_eq_false hs
            have t4 : decide ((60 : Int) < (nm.size : Int)) = false := decide_eq_false (by omega)
            obtain ⟨okv, okn, okf, oki, n0', b3, low3, hfb⟩ := HX.out
            obtain ⟨hbase, low, hr, hok, hn⟩ := HH.out
            obtain ⟨S, l1, h1', st, hS, hl1, hh1⟩ := HP.out
            have o4 : w4.heap[O]? = some (.cells X OT (0, 0)) := (g4.heap (Array.getElem?_eq_some_iff.1 n0').1).trans n0'
            have low4 : Below W.heap.size W w4 := low3.trans (g4.below.mono low3.size)
            have bw4 : Below wr.heap.size wr w4 := b3.trans (g4.below.mono b3.size)
            have kept4 : Kept base w4 X o := kept_arg okv hbase (Fx.ofBelow low4) okn (tiny_few hfb.symm) okf
            have st4 := st.gr bw4
            have LV4 := Lib.hid (load_ob o4 okv.1)
            have CC := Lib.hid (create_some base w4 S sp 200 l1 h1' X o st4 kept4 (by omega))
            have FIN : Hid (∀ w', (∃ l' hist', After base w4 w' S sp 200 l' hist' ∧ l'.length ≤ l1.length + 1 ∧ hist'.length ≤ h1'.length + 1) → Hid (∃ S l' hist', StIs base w' S sp 200 l' hist' ∧ (∀ g ∈ S, w.heap.size ≤ g) ∧ l'.length ≤ j + 1 ∧ hist'.length ≤ j + 1) ∧ Hid (Below w.heap.size w w')) := fun w' ⟨l2, h2', ⟨S2, a1, a2, a3⟩, c1, c2⟩ => by
              have k4 := K4.out
              refine ⟨⟨S2, l2, h2', a1, fun g hg => ?_, by omega, by omega⟩, k4.trans (a2.below hS k4.size)⟩
              rcases a3 g hg with hq | hq
              · exact hS g hq
              · have := k4.size; omega
            clear okv okn okf oki n0' b3 low3 hfb hbase low hr hok hn st hS hl1 hh1 o4 low4 bw4 kept4 st4 q1 g4 HX HP HH CF LV hs
            go_wp2_with (refine wpList_load_by (by kernel_rfl) OT _ rfl (.pointer (some ⟨O, 0, none⟩)) (.agg X) (by kernel_rfl) LV4.out ?_)
            refine CC.out.mono ?_
            rintro e w5 ⟨⟨v, rfl⟩, af⟩
            have FF := FIN.out w5 af
            obtain ⟨F1, F2⟩ := FF
            clear af FIN CC LV4 q4 K4 HB
            go_wp2
            go_roundg (n - (j + 1))
            case measure => omega
            case rel => exact ⟨j + 1, by push_cast; rfl, by omega, by omega, F1, F2⟩
      · obtain ⟨S, l1, h1', st, hS, hl1, hh1⟩ := HP.out
        have FIN : Hid (∃ sp' S l' hist', Ending.returned (.pointer (some ⟨sp, 0, none⟩)) = .returned (.pointer (some ⟨sp', 0, none⟩)) ∧ StIs base wr S sp' 200 l' hist' ∧ (∀ g ∈ S, w.heap.size ≤ g) ∧ l'.length ≤ 60 ∧ hist'.length ≤ 60) := ⟨sp, S, l1, h1', rfl, st, hS, by omega, by omega⟩
        clear st hS hl1 hh1 HP HH H1
        go_wp2
        go_ret
        exact ⟨.inr FIN.out, HB.out⟩
end Go.Proofs.YtcfilaiejccfkaaGreat.Po
