/- An object through the course. -/
import Derived.Test.YtlajiochpdlhaaaOctVwl
import Derived.Test.YtlajiochpdlhaaaOctVpd
import Derived.Test.YtlajiochpdlhaaaOctVnd
import Derived.Test.YtlajiochpdlhaaaOctVgp
import Derived.Test.YtlajiochpdlhaaaOctVhp
namespace Go.Proofs.Ytlajiochpdlhaaa
open Go.RowKit Go.Shelf Go.Lib Go.Sort
open Go.Joins (cell_of_block unfrozen_of_block block_setCell)
set_option linter.unusedVariables false
set_option linter.unusedSimpArgs false
set_option maxRecDepth 20000

theorem wl_keep {A C O : Nat} {w w' : World} {L L' : Array Value} {x : Wl} (h : wlA A C O w L x) (m : Mv A C O w w') (e : ∀ j, 3 ≤ j → j < 10 → L'[j]? = L[j]?) : wlA A C O w' L' x := by
  obtain ⟨a0, a1, a2, a3, a4, a5, a6⟩ := h
  refine ⟨?_, ?_, ?_, ?_, ?_, ?_, ?_⟩
  · rw [e 3 (by omega) (by omega)]; exact a0
  · rw [e 4 (by omega) (by omega)]; exact a1
  · rw [e 5 (by omega) (by omega)]; exact a2
  · rw [e 6 (by omega) (by omega)]; exact a3.mv m
  · rw [e 7 (by omega) (by omega)]; exact a4.mv m
  · rw [e 8 (by omega) (by omega)]; exact a5.mv m
  · rw [e 9 (by omega) (by omega)]; exact a6
theorem wl_keepZ {st st' : St} {L L' : Array Value} {x : Wl} (h : wlZ st L x) (i : st'.isR = st.isR) (e : ∀ j, 3 ≤ j → j < 10 → L'[j]? = L[j]?) : wlZ st' L' x := by
  obtain ⟨a3, a4, a5⟩ := h
  refine ⟨?_, ?_, ?_⟩
  · intro hr; rw [e 6 (by omega) (by omega)]; exact a3 (by rw [← i]; exact hr)
  · intro hr; rw [e 7 (by omega) (by omega)]; exact a4 (by rw [← i]; exact hr)
  · intro hr; rw [e 8 (by omega) (by omega)]; exact a5 (by rw [← i]; exact hr)
theorem pd_keep {A C O : Nat} {w w' : World} {L L' : Array Value} {x : Pd} (h : pdA A C O w L x) (m : Mv A C O w w') (e : ∀ j, 10 ≤ j → j < 20 → L'[j]? = L[j]?) : pdA A C O w' L' x := by
  obtain ⟨a0, a1, a2, a3, a4, a5, a6, a7, a8, a9⟩ := h
  refine ⟨?_, ?_, ?_, ?_, ?_, ?_, ?_, ?_, ?_, ?_⟩
  · rw [e 10 (by omega) (by omega)]; exact a0
  · rw [e 11 (by omega) (by omega)]; exact a1
  · rw [e 12 (by omega) (by omega)]; exact a2
  · rw [e 13 (by omega) (by omega)]; exact a3
  · rw [e 14 (by omega) (by omega)]; exact a4
  · rw [e 15 (by omega) (by omega)]; exact a5
  · rw [e 16 (by omega) (by omega)]; exact a6.mv m
  · rw [e 17 (by omega) (by omega)]; exact a7.mv m
  · rw [e 18 (by omega) (by omega)]; exact a8.mv m
  · rw [e 19 (by omega) (by omega)]; exact a9
theorem pd_keepZ {st st' : St} {L L' : Array Value} {x : Pd} (h : pdZ st L x) (i : st'.isR = st.isR) (e : ∀ j, 10 ≤ j → j < 20 → L'[j]? = L[j]?) : pdZ st' L' x := by
  obtain ⟨a6, a7, a8⟩ := h
  refine ⟨?_, ?_, ?_⟩
  · intro hr; rw [e 16 (by omega) (by omega)]; exact a6 (by rw [← i]; exact hr)
  · intro hr; rw [e 17 (by omega) (by omega)]; exact a7 (by rw [← i]; exact hr)
  · intro hr; rw [e 18 (by omega) (by omega)]; exact a8 (by rw [← i]; exact hr)
theorem nd_keep {A C O : Nat} {w w' : World} {L L' : Array Value} {x : Nd} (h : ndA A C O w L x) (m : Mv A C O w w') (e : ∀ j, 20 ≤ j → j < 27 → L'[j]? = L[j]?) : ndA A C O w' L' x := by
  obtain ⟨a0, a1, a2, a3, a4, a5, a6⟩ := h
  refine ⟨?_, ?_, ?_, ?_, ?_, ?_, ?_⟩
  · rw [e 20 (by omega) (by omega)]; exact a0
  · rw [e 21 (by omega) (by omega)]; exact a1
  · rw [e 22 (by omega) (by omega)]; exact a2
  · rw [e 23 (by omega) (by omega)]; exact a3.mv m
  · rw [e 24 (by omega) (by omega)]; exact a4.mv m
  · rw [e 25 (by omega) (by omega)]; exact a5
  · rw [e 26 (by omega) (by omega)]; exact a6
theorem nd_keepZ {st st' : St} {L L' : Array Value} {x : Nd} (h : ndZ st L x) (i : st'.isR = st.isR) (e : ∀ j, 20 ≤ j → j < 27 → L'[j]? = L[j]?) : ndZ st' L' x := by
  obtain ⟨a3, a4⟩ := h
  refine ⟨?_, ?_⟩
  · intro hr; rw [e 23 (by omega) (by omega)]; exact a3 (by rw [← i]; exact hr)
  · intro hr; rw [e 24 (by omega) (by omega)]; exact a4 (by rw [← i]; exact hr)
theorem gp_keep {A C O : Nat} {w w' : World} {L L' : Array Value} {x : Gp} (h : gpA A C O w L x) (m : Mv A C O w w') (e : ∀ j, 27 ≤ j → j < 35 → L'[j]? = L[j]?) : gpA A C O w' L' x := by
  obtain ⟨a0, a1, a2, a3, a4, a5, a6, a7⟩ := h
  refine ⟨?_, ?_, ?_, ?_, ?_, ?_, ?_, ?_⟩
  · rw [e 27 (by omega) (by omega)]; exact a0
  · rw [e 28 (by omega) (by omega)]; exact a1
  · rw [e 29 (by omega) (by omega)]; exact a2
  · rw [e 30 (by omega) (by omega)]; exact a3
  · rw [e 31 (by omega) (by omega)]; exact a4
  · rw [e 32 (by omega) (by omega)]; exact a5.mv m
  · rw [e 33 (by omega) (by omega)]; exact a6.mv m
  · rw [e 34 (by omega) (by omega)]; exact a7
theorem gp_keepZ {st st' : St} {L L' : Array Value} {x : Gp} (h : gpZ st L x) (i : st'.isR = st.isR) (e : ∀ j, 27 ≤ j → j < 35 → L'[j]? = L[j]?) : gpZ st' L' x := by
  obtain ⟨a5, a6⟩ := h
  refine ⟨?_, ?_⟩
  · intro hr; rw [e 32 (by omega) (by omega)]; exact a5 (by rw [← i]; exact hr)
  · intro hr; rw [e 33 (by omega) (by omega)]; exact a6 (by rw [← i]; exact hr)
theorem hp_keep {A C O : Nat} {w w' : World} {L L' : Array Value} {x : Hp} (h : hpA A C O w L x) (m : Mv A C O w w') (e : ∀ j, 35 ≤ j → j < 47 → L'[j]? = L[j]?) : hpA A C O w' L' x := by
  obtain ⟨a0, a1, a2, a3, a4, a5, a6, a7, a8, a9, a10, a11⟩ := h
  refine ⟨?_, ?_, ?_, ?_, ?_, ?_, ?_, ?_, ?_, ?_, ?_, ?_⟩
  · rw [e 35 (by omega) (by omega)]; exact a0
  · rw [e 36 (by omega) (by omega)]; exact a1
  · rw [e 37 (by omega) (by omega)]; exact a2
  · rw [e 38 (by omega) (by omega)]; exact a3.mv m
  · rw [e 39 (by omega) (by omega)]; exact a4
  · rw [e 40 (by omega) (by omega)]; exact a5
  · rw [e 41 (by omega) (by omega)]; exact a6
  · rw [e 42 (by omega) (by omega)]; exact a7.mv m
  · rw [e 43 (by omega) (by omega)]; exact a8
  · rw [e 44 (by omega) (by omega)]; exact a9
  · rw [e 45 (by omega) (by omega)]; exact a10.mv m
  · rw [e 46 (by omega) (by omega)]; exact a11.mv m
theorem hp_keepZ {st st' : St} {L L' : Array Value} {x : Hp} (h : hpZ st L x) (i : st'.isR = st.isR) (e : ∀ j, 35 ≤ j → j < 47 → L'[j]? = L[j]?) : hpZ st' L' x := by
  obtain ⟨a3, a7, a10, a11⟩ := h
  refine ⟨?_, ?_, ?_, ?_⟩
  · intro hr; rw [e 38 (by omega) (by omega)]; exact a3 (by rw [← i]; exact hr)
  · intro hr; rw [e 42 (by omega) (by omega)]; exact a7 (by rw [← i]; exact hr)
  · intro hr; rw [e 45 (by omega) (by omega)]; exact a10 (by rw [← i]; exact hr)
  · intro hr; rw [e 46 (by omega) (by omega)]; exact a11 (by rw [← i]; exact hr)

def hdA (L : Array Value) (o : Ob) : Prop := L[0]? = some (.int .i64 o.kind) ∧ L[1]? = some (.string o.name) ∧ L[2]? = some (.int .u64 (o.ver : Int)) ∧ o.ver < 18446744073709551616
/-- An object in the fields' block. -/
def obA (A C O : Nat) (w : World) (L : Array Value) (o : Ob) : Prop := L.size = 47 ∧ hdA L o ∧ wlA A C O w L o.w ∧ pdA A C O w L o.p ∧ ndA A C O w L o.n ∧ gpA A C O w L o.g ∧ hpA A C O w L o.h
def obZ (st : St) (L : Array Value) (o : Ob) : Prop := wlZ st L o.w ∧ pdZ st L o.p ∧ ndZ st L o.n ∧ gpZ st L o.g ∧ hpZ st L o.h
def spoilT : St → St
  | .wr lg bs => .wr lg bs
  | .rd ro _ => .rd ro none
def objT (st : St) (o : Ob) : St × Ob :=
  let s1 := oneT st o.kind
  let s2 := txtT s1.1 o.name
  let s3 := numU s2.1 o.ver
  if s1.2 = 0 then let r := wlT s3.1 o.w; (r.1, ⟨s1.2, s2.2, s3.2, r.2, o.p, o.n, o.g, o.h⟩)
  else if s1.2 = 1 then let r := pdT s3.1 o.p; (r.1, ⟨s1.2, s2.2, s3.2, o.w, r.2, o.n, o.g, o.h⟩)
  else if s1.2 = 2 then let r := ndT s3.1 o.n; (r.1, ⟨s1.2, s2.2, s3.2, o.w, o.p, r.2, o.g, o.h⟩)
  else if s1.2 = 3 then let r := gpT s3.1 o.g; (r.1, ⟨s1.2, s2.2, s3.2, o.w, o.p, o.n, r.2, o.h⟩)
  else if s1.2 = 4 then let r := hpT s3.1 o.h; (r.1, ⟨s1.2, s2.2, s3.2, o.w, o.p, o.n, o.g, r.2⟩)
  else (spoilT s3.1, ⟨s1.2, s2.2, s3.2, o.w, o.p, o.n, o.g, o.h⟩)
theorem size_of {L L' : Array Value} {v : Value} (hs : L.size = 47) (h46 : L'[46]? = some v) (h47 : L'[47]? = L[47]?) : L'.size = 47 := by
  have h1 := (Array.getElem?_eq_some_iff.1 h46).1
  rw [Array.getElem?_eq_none (by omega : L.size ≤ 47)] at h47
  have h2 := Array.getElem?_eq_none_iff.1 h47
  omega
theorem hp46 {A C O : Nat} {w : World} {L : Array Value} {x : Hp} (h : hpA A C O w L x) : ∃ v, L[46]? = some v := by
  obtain ⟨_, _, _, _, _, _, _, _, _, _, _, h⟩ := h
  obtain ⟨q, c, e, _⟩ := h
  exact ⟨_, e⟩
theorem numU_lt {st : St} {x : Nat} (h : x < 18446744073709551616) : (numU st x).2 < 18446744073709551616 := by
  cases st with
  | wr lg bs => exact h
  | rd ro s => exact valU_lt8 s

set_option maxHeartbeats 8000000 in
theorem object_any (w : World) (N A C O : Nat) (st : St) (L : Array Value) (T : TypeId) (fz : Nat × Nat) (o : Ob) (hc : CoreSt N A C st w) (ht : Tg A C O L T fz w) (hf : st.isR = true → fz = (0, 0)) (hx : obA A C O w L o) (hz : obZ st L o) (hk : st.isR = false → 0 ≤ o.kind ∧ o.kind ≤ 4) (hl : st.len + 9000000 ≤ 1000000000) :
    Calls Try.prog 34 #[ptr C, .pointer (some ⟨O, 0, none⟩)] w fun e w' => e = .returned (.tuple #[]) ∧ ∃ L', Pst N A C O (objT st o).1 L' T fz w w' ∧ obA A C O w' L' (objT st o).2 := by
  have mixed : Try.prog.follows .mixedOrders = true := by kernel_rfl
  obtain ⟨kind, name, ver, W, P, Nn, G, H⟩ := o
  obtain ⟨hsz, ⟨a0, a1, a2, hver⟩, hW, hP, hN, hG, hH⟩ := hx
  obtain ⟨zW, zP, zN, zG, zH⟩ := hz
  dsimp only at *
  have P0 : Hid (Pst N A C O st L T fz w w) := Pst.start hc ht
  have s0 : 0 < L.size := by omega
  have s1 : 1 < L.size := by omega
  have s2 : 2 < L.size := by omega
  have C1 := Lib.hid (single_any w N A C O 0 st L T fz kind hc ht hf a0 (by omega))
  have hkk : st.isR = false → (oneT st kind).2 = kind := by
    intro h
    cases st with
    | wr lg bs => rfl
    | rd ro s => cases h
  have n1 := oneT_len st kind
  have i1 := oneT_isR st kind
  obtain ⟨⟨t1, k⟩, ht1⟩ : ∃ p, p = oneT st kind := ⟨_, rfl⟩
  rw [← ht1] at C1 hkk n1 i1
  dsimp only at C1 hkk n1 i1
  have n2 := txtT_len t1 name
  have i2 := txtT_isR t1 name
  obtain ⟨⟨t2, nm⟩, ht2⟩ : ∃ p, p = txtT t1 name := ⟨_, rfl⟩
  rw [← ht2] at n2 i2
  dsimp only at n2 i2
  have n3 := numU_len t2 ver
  have i3 := numU_isR t2 ver
  have hvr := numU_lt (st := t2) hver
  obtain ⟨⟨t3, vr⟩, ht3⟩ : ∃ p, p = numU t2 ver := ⟨_, rfl⟩
  rw [← ht3] at n3 i3 hvr
  dsimp only at n3 i3 hvr
  obtain ⟨L1, hL1⟩ : ∃ l, l = L.setIfInBounds 0 (.int .i64 k) := ⟨_, rfl⟩
  rw [← hL1] at C1
  have z1 : L1.size = 47 := by rw [hL1]; simp [hsz]
  have b1 : L1[1]? = some (.string name) := by rw [hL1, Array.getElem?_setIfInBounds_ne (by decide)]; exact a1
  obtain ⟨L2, hL2⟩ : ∃ l, l = L1.setIfInBounds 1 (.string nm) := ⟨_, rfl⟩
  have b2 : L2[2]? = some (.int .u64 (ver : Int)) := by rw [hL2, Array.getElem?_setIfInBounds_ne (by decide), hL1, Array.getElem?_setIfInBounds_ne (by decide)]; exact a2
  obtain ⟨L3, hL3⟩ : ∃ l, l = L2.setIfInBounds 2 (.int .u64 (vr : Int)) := ⟨_, rfl⟩
  have c0 : L3[0]? = some (.int .i64 k) := by rw [hL3, Array.getElem?_setIfInBounds_ne (by decide), hL2, Array.getElem?_setIfInBounds_ne (by decide), hL1]; simp [s0]
  have c1 : L3[1]? = some (.string nm) := by rw [hL3, Array.getElem?_setIfInBounds_ne (by decide), hL2]; simp [z1]
  have c2 : L3[2]? = some (.int .u64 (vr : Int)) := by rw [hL3, hL2, hL1]; simp [hsz]
  have c3 : ∀ j, 3 ≤ j → L3[j]? = L[j]? := by
    intro j hj
    rw [hL3, Array.getElem?_setIfInBounds_ne (by omega), hL2, Array.getElem?_setIfInBounds_ne (by omega), hL1, Array.getElem?_setIfInBounds_ne (by omega)]
  have HA := Lib.hid (And.intro hf (And.intro hl (And.intro hk (And.intro hkk (And.intro n1 (And.intro n2 (And.intro n3 (And.intro i1 (And.intro i2 i3)))))))))
  have HS := Lib.hid (And.intro hW (And.intro hP (And.intro hN (And.intro hG hH))))
  have HZ := Lib.hid (And.intro zW (And.intro zP (And.intro zN (And.intro zG zH))))
  have HC := Lib.hid (And.intro c0 (And.intro c1 (And.intro c2 (And.intro hvr c3))))
  have HB := Lib.hid (And.intro b1 (And.intro b2 hver))
  have HT := Lib.hid (And.intro ht1 (And.intro ht2 ht3))
  have HLs := Lib.hid (And.intro hL2 (And.intro hL3 hsz))
  clear hsz a0 a1 a2 hver hW hP hN hG hH zW zP zN zG zH hc ht hf hk hl s0 s1 s2 hkk n1 i1 ht1 n2 i2 ht2 n3 i3 hvr ht3 hL1 z1 b1 hL2 b2 hL3 c0 c1 c2 c3
  go_enter Try.func34, Try.ntmps34
  go_wp2_with fail
  refine C1.out.mono ?_
  rintro e w1 ⟨rfl, k1⟩
  have P1 : Hid (Pst N A C O t1 L1 T fz w w1) := k1
  clear k1 C1 P0
  have C2 := Lib.hid (txts_any w1 N A C O t1 L1 T fz [(1, name)] P1.out.1 P1.out.2.1 (fun h => HA.out.1 (by obtain ⟨_, _, _, _, _, _, _, i1, i2, i3⟩ := HA.out; rw [← i1]; exact h)) (by intro p hp; simp only [List.mem_cons, List.not_mem_nil, or_false] at hp; subst hp; exact HB.out.1) (by simp) (by simp) (by obtain ⟨_, hl, _, _, n1, n2, n3, _⟩ := HA.out; simp only [List.length_cons, List.length_nil]; omega))
  go_wp2_with fail
  refine C2.out.mono ?_
  rintro e w2 ⟨rfl, k2⟩
  have P2 : Hid (Pst N A C O t2 L2 T fz w w2) := by
    have h := P1.out.trans k2
    simp only [runF, ← HT.out.2.1, ← HLs.out.1] at h
    exact h
  clear k2 C2
  have C3 := Lib.hid (numV_any w2 N A C O t2 L2 T fz [(2, ver)] P2.out.1 P2.out.2.1 (fun h => HA.out.1 (by obtain ⟨_, _, _, _, _, _, _, i1, i2, i3⟩ := HA.out; rw [← i1, ← i2]; exact h)) (by intro p hp; simp only [List.mem_cons, List.not_mem_nil, or_false] at hp; subst hp; exact HB.out.2.1) (by simp) (by intro p hp; simp only [List.mem_cons, List.not_mem_nil, or_false] at hp; subst hp; exact HB.out.2.2) (by simp) (by obtain ⟨_, hl, _, _, n1, n2, n3, _⟩ := HA.out; simp only [List.length_cons, List.length_nil]; omega))
  go_wp2_with fail
  refine C3.out.mono ?_
  rintro e w3 ⟨rfl, k3⟩
  have P3 : Hid (Pst N A C O t3 L3 T fz w w3) := by
    have h := P2.out.trans k3
    simp only [runF, ← HT.out.2.2, ← HLs.out.2.1] at h
    exact h
  clear k3 C3
  have d0 : w3.cell? ⟨O, 0, none⟩ = some (.int .i64 k) := by rw [cell_of_block P3.out.2.1.1]; exact HC.out.1
  have hf3 : t3.isR = true → fz = (0, 0) := fun h => HA.out.1 (by obtain ⟨_, _, _, _, _, _, _, i1, i2, i3⟩ := HA.out; rw [← i1, ← i2, ← i3]; exact h)
  have hi3 : t3.isR = st.isR := by obtain ⟨_, _, _, _, _, _, _, i1, i2, i3⟩ := HA.out; rw [i3, i2, i1]
  have hl3 : t3.len + 8000000 ≤ 1000000000 := by obtain ⟨_, hl, _, _, n1, n2, n3, _⟩ := HA.out; omega
  have hT : Hid (∀ (r : St × Ob), (if k = 0 then (let r := wlT t3 W; (r.1, (⟨k, nm, vr, r.2, P, Nn, G, H⟩ : Ob))) else if k = 1 then (let r := pdT t3 P; (r.1, ⟨k, nm, vr, W, r.2, Nn, G, H⟩)) else if k = 2 then (let r := ndT t3 Nn; (r.1, ⟨k, nm, vr, W, P, r.2, G, H⟩)) else if k = 3 then (let r := gpT t3 G; (r.1, ⟨k, nm, vr, W, P, Nn, r.2, H⟩)) else if k = 4 then (let r := hpT t3 H; (r.1, ⟨k, nm, vr, W, P, Nn, G, r.2⟩)) else (spoilT t3, ⟨k, nm, vr, W, P, Nn, G, H⟩)) = r → objT st ⟨kind, name, ver, W, P, Nn, G, H⟩ = r) := by
    intro r hr
    rw [← hr]
    simp only [objT, ← HT.out.1, ← HT.out.2.1, ← HT.out.2.2]
  have kW := wl_keep HS.out.1 P3.out.2.2 (fun j h1 _ => HC.out.2.2.2.2 j h1)
  have kP := pd_keep HS.out.2.1 P3.out.2.2 (fun j h1 _ => HC.out.2.2.2.2 j (by omega))
  have kN := nd_keep HS.out.2.2.1 P3.out.2.2 (fun j h1 _ => HC.out.2.2.2.2 j (by omega))
  have kG := gp_keep HS.out.2.2.2.1 P3.out.2.2 (fun j h1 _ => HC.out.2.2.2.2 j (by omega))
  have kH := hp_keep HS.out.2.2.2.2 P3.out.2.2 (fun j h1 _ => HC.out.2.2.2.2 j (by omega))
  have hz3 : L3.size = 47 := by
    obtain ⟨v, h⟩ := hp46 kH
    exact size_of HLs.out.2.2 h (HC.out.2.2.2.2 47 (by omega))
  have K3 := Lib.hid (And.intro kW (And.intro kP (And.intro kN (And.intro kG kH))))
  have HD := Lib.hid (And.intro hf3 (And.intro hi3 (And.intro hl3 hz3)))
  clear hf3 hi3 hl3 kW kP kN kG kH hz3
  by_cases hk0 : k = 0
  · have CS := Lib.hid (wl_any w3 N A C O t3 L3 T fz W P3.out.1 P3.out.2.1 HD.out.1 K3.out.1 (wl_keepZ HZ.out.1 HD.out.2.1 (fun j h1 _ => HC.out.2.2.2.2 j (by omega))) HD.out.2.2.1)
    have e : objT st ⟨kind, name, ver, W, P, Nn, G, H⟩ = ((wlT t3 W).1, ⟨k, nm, vr, (wlT t3 W).2, P, Nn, G, H⟩) := hT.out _ (by  rw [if_pos hk0])
    have HE := Lib.hid e
    clear e hT
    subst hk0
    go_wp2_with fail
    refine CS.out.mono ?_
    rintro e w4 ⟨rfl, L4, k1, k2, k3⟩
    have hz4 : L4.size = 47 := by
      obtain ⟨v, h⟩ := hp46 K3.out.2.2.2.2
      exact size_of HD.out.2.2.2 ((k3 46 (by omega)).trans h) (k3 47 (by omega))
    have FIN : Hid (∃ L', Pst N A C O (objT st ⟨kind, name, ver, W, P, Nn, G, H⟩).1 L' T fz w w4 ∧ obA A C O w4 L' (objT st ⟨kind, name, ver, W, P, Nn, G, H⟩).2) := by
      show ∃ _, _
      rw [HE.out]
      refine ⟨L4, P3.out.trans k1, hz4, ⟨?_, ?_, ?_, HC.out.2.2.2.1⟩, k2, pd_keep K3.out.2.1 k1.2.2 (fun j h1 h2 => k3 j (by omega)), nd_keep K3.out.2.2.1 k1.2.2 (fun j h1 h2 => k3 j (by omega)), gp_keep K3.out.2.2.2.1 k1.2.2 (fun j h1 h2 => k3 j (by omega)), hp_keep K3.out.2.2.2.2 k1.2.2 (fun j h1 h2 => k3 j (by omega))⟩
      · rw [k3 0 (by omega)]; exact HC.out.1
      · rw [k3 1 (by omega)]; exact HC.out.2.1
      · rw [k3 2 (by omega)]; exact HC.out.2.2.1
    clear k1 k2 k3 hz4 CS
    go_wp2
    go_end0
    exact ⟨rfl, FIN.out⟩
  by_cases hk1 : k = 1
  · have CS := Lib.hid (pd_any w3 N A C O t3 L3 T fz P P3.out.1 P3.out.2.1 HD.out.1 K3.out.2.1 (pd_keepZ HZ.out.2.1 HD.out.2.1 (fun j h1 _ => HC.out.2.2.2.2 j (by omega))) HD.out.2.2.1)
    have e : objT st ⟨kind, name, ver, W, P, Nn, G, H⟩ = ((pdT t3 P).1, ⟨k, nm, vr, W, (pdT t3 P).2, Nn, G, H⟩) := hT.out _ (by rw [if_neg hk0]; rw [if_pos hk1])
    have HE := Lib.hid e
    clear e hT
    subst hk1
    clear hk0
    go_wp2_with fail
    refine CS.out.mono ?_
    rintro e w4 ⟨rfl, L4, k1, k2, k3⟩
    have hz4 : L4.size = 47 := by
      obtain ⟨v, h⟩ := hp46 K3.out.2.2.2.2
      exact size_of HD.out.2.2.2 ((k3 46 (by omega)).trans h) (k3 47 (by omega))
    have FIN : Hid (∃ L', Pst N A C O (objT st ⟨kind, name, ver, W, P, Nn, G, H⟩).1 L' T fz w w4 ∧ obA A C O w4 L' (objT st ⟨kind, name, ver, W, P, Nn, G, H⟩).2) := by
      show ∃ _, _
      rw [HE.out]
      refine ⟨L4, P3.out.trans k1, hz4, ⟨?_, ?_, ?_, HC.out.2.2.2.1⟩, wl_keep K3.out.1 k1.2.2 (fun j h1 h2 => k3 j (by omega)), k2, nd_keep K3.out.2.2.1 k1.2.2 (fun j h1 h2 => k3 j (by omega)), gp_keep K3.out.2.2.2.1 k1.2.2 (fun j h1 h2 => k3 j (by omega)), hp_keep K3.out.2.2.2.2 k1.2.2 (fun j h1 h2 => k3 j (by omega))⟩
      · rw [k3 0 (by omega)]; exact HC.out.1
      · rw [k3 1 (by omega)]; exact HC.out.2.1
      · rw [k3 2 (by omega)]; exact HC.out.2.2.1
    clear k1 k2 k3 hz4 CS
    go_wp2
    go_end0
    exact ⟨rfl, FIN.out⟩
  by_cases hk2 : k = 2
  · have CS := Lib.hid (nd_any w3 N A C O t3 L3 T fz Nn P3.out.1 P3.out.2.1 HD.out.1 K3.out.2.2.1 (nd_keepZ HZ.out.2.2.1 HD.out.2.1 (fun j h1 _ => HC.out.2.2.2.2 j (by omega))) HD.out.2.2.1)
    have e : objT st ⟨kind, name, ver, W, P, Nn, G, H⟩ = ((ndT t3 Nn).1, ⟨k, nm, vr, W, P, (ndT t3 Nn).2, G, H⟩) := hT.out _ (by rw [if_neg hk0]; rw [if_neg hk1]; rw [if_pos hk2])
    have HE := Lib.hid e
    clear e hT
    subst hk2
    clear hk0 hk1
    go_wp2_with fail
    refine CS.out.mono ?_
    rintro e w4 ⟨rfl, L4, k1, k2, k3⟩
    have hz4 : L4.size = 47 := by
      obtain ⟨v, h⟩ := hp46 K3.out.2.2.2.2
      exact size_of HD.out.2.2.2 ((k3 46 (by omega)).trans h) (k3 47 (by omega))
    have FIN : Hid (∃ L', Pst N A C O (objT st ⟨kind, name, ver, W, P, Nn, G, H⟩).1 L' T fz w w4 ∧ obA A C O w4 L' (objT st ⟨kind, name, ver, W, P, Nn, G, H⟩).2) := by
      show ∃ _, _
      rw [HE.out]
      refine ⟨L4, P3.out.trans k1, hz4, ⟨?_, ?_, ?_, HC.out.2.2.2.1⟩, wl_keep K3.out.1 k1.2.2 (fun j h1 h2 => k3 j (by omega)), pd_keep K3.out.2.1 k1.2.2 (fun j h1 h2 => k3 j (by omega)), k2, gp_keep K3.out.2.2.2.1 k1.2.2 (fun j h1 h2 => k3 j (by omega)), hp_keep K3.out.2.2.2.2 k1.2.2 (fun j h1 h2 => k3 j (by omega))⟩
      · rw [k3 0 (by omega)]; exact HC.out.1
      · rw [k3 1 (by omega)]; exact HC.out.2.1
      · rw [k3 2 (by omega)]; exact HC.out.2.2.1
    clear k1 k2 k3 hz4 CS
    go_wp2
    go_end0
    exact ⟨rfl, FIN.out⟩
  by_cases hk3 : k = 3
  · have CS := Lib.hid (gp_any w3 N A C O t3 L3 T fz G P3.out.1 P3.out.2.1 HD.out.1 K3.out.2.2.2.1 (gp_keepZ HZ.out.2.2.2.1 HD.out.2.1 (fun j h1 _ => HC.out.2.2.2.2 j (by omega))) HD.out.2.2.1)
    have e : objT st ⟨kind, name, ver, W, P, Nn, G, H⟩ = ((gpT t3 G).1, ⟨k, nm, vr, W, P, Nn, (gpT t3 G).2, H⟩) := hT.out _ (by rw [if_neg hk0]; rw [if_neg hk1]; rw [if_neg hk2]; rw [if_pos hk3])
    have HE := Lib.hid e
    clear e hT
    subst hk3
    clear hk0 hk1 hk2
    go_wp2_with fail
    refine CS.out.mono ?_
    rintro e w4 ⟨rfl, L4, k1, k2, k3⟩
    have hz4 : L4.size = 47 := by
      obtain ⟨v, h⟩ := hp46 K3.out.2.2.2.2
      exact size_of HD.out.2.2.2 ((k3 46 (by omega)).trans h) (k3 47 (by omega))
    have FIN : Hid (∃ L', Pst N A C O (objT st ⟨kind, name, ver, W, P, Nn, G, H⟩).1 L' T fz w w4 ∧ obA A C O w4 L' (objT st ⟨kind, name, ver, W, P, Nn, G, H⟩).2) := by
      show ∃ _, _
      rw [HE.out]
      refine ⟨L4, P3.out.trans k1, hz4, ⟨?_, ?_, ?_, HC.out.2.2.2.1⟩, wl_keep K3.out.1 k1.2.2 (fun j h1 h2 => k3 j (by omega)), pd_keep K3.out.2.1 k1.2.2 (fun j h1 h2 => k3 j (by omega)), nd_keep K3.out.2.2.1 k1.2.2 (fun j h1 h2 => k3 j (by omega)), k2, hp_keep K3.out.2.2.2.2 k1.2.2 (fun j h1 h2 => k3 j (by omega))⟩
      · rw [k3 0 (by omega)]; exact HC.out.1
      · rw [k3 1 (by omega)]; exact HC.out.2.1
      · rw [k3 2 (by omega)]; exact HC.out.2.2.1
    clear k1 k2 k3 hz4 CS
    go_wp2
    go_end0
    exact ⟨rfl, FIN.out⟩
  by_cases hk4 : k = 4
  · have CS := Lib.hid (hp_any w3 N A C O t3 L3 T fz H P3.out.1 P3.out.2.1 HD.out.1 K3.out.2.2.2.2 (hp_keepZ HZ.out.2.2.2.2 HD.out.2.1 (fun j h1 _ => HC.out.2.2.2.2 j (by omega))) HD.out.2.2.1)
    have e : objT st ⟨kind, name, ver, W, P, Nn, G, H⟩ = ((hpT t3 H).1, ⟨k, nm, vr, W, P, Nn, G, (hpT t3 H).2⟩) := hT.out _ (by rw [if_neg hk0]; rw [if_neg hk1]; rw [if_neg hk2]; rw [if_neg hk3]; rw [if_pos hk4])
    have HE := Lib.hid e
    clear e hT
    subst hk4
    clear hk0 hk1 hk2 hk3
    go_wp2_with fail
    refine CS.out.mono ?_
    rintro e w4 ⟨rfl, L4, k1, k2, k3⟩
    have hz4 : L4.size = 47 := by
      obtain ⟨v, h⟩ := hp46 k2
      exact size_of HD.out.2.2.2 h (k3 47 (by omega))
    have FIN : Hid (∃ L', Pst N A C O (objT st ⟨kind, name, ver, W, P, Nn, G, H⟩).1 L' T fz w w4 ∧ obA A C O w4 L' (objT st ⟨kind, name, ver, W, P, Nn, G, H⟩).2) := by
      show ∃ _, _
      rw [HE.out]
      refine ⟨L4, P3.out.trans k1, hz4, ⟨?_, ?_, ?_, HC.out.2.2.2.1⟩, wl_keep K3.out.1 k1.2.2 (fun j h1 h2 => k3 j (by omega)), pd_keep K3.out.2.1 k1.2.2 (fun j h1 h2 => k3 j (by omega)), nd_keep K3.out.2.2.1 k1.2.2 (fun j h1 h2 => k3 j (by omega)), gp_keep K3.out.2.2.2.1 k1.2.2 (fun j h1 h2 => k3 j (by omega)), k2⟩
      · rw [k3 0 (by omega)]; exact HC.out.1
      · rw [k3 1 (by omega)]; exact HC.out.2.1
      · rw [k3 2 (by omega)]; exact HC.out.2.2.1
    clear k1 k2 k3 hz4 CS
    go_wp2
    go_end0
    exact ⟨rfl, FIN.out⟩
  have e : objT st ⟨kind, name, ver, W, P, Nn, G, H⟩ = (spoilT t3, ⟨k, nm, vr, W, P, Nn, G, H⟩) := hT.out _ (by rw [if_neg hk0, if_neg hk1, if_neg hk2, if_neg hk3, if_neg hk4])
  have HE := Lib.hid e
  have j0 : (k == 0) = false := beq_eq_false_iff_ne.2 hk0
  have j1 : (k == 1) = false := beq_eq_false_iff_ne.2 hk1
  have j2 : (k == 2) = false := beq_eq_false_iff_ne.2 hk2
  have j3 : (k == 3) = false := beq_eq_false_iff_ne.2 hk3
  have j4 : (k == 4) = false := beq_eq_false_iff_ne.2 hk4
  have hR : t3.isR = true := by
    cases h : t3.isR with
    | true => rfl
    | false =>
      have h2 : st.isR = false := by rw [← HD.out.2.1]; exact h
      obtain ⟨_, _, hk, hkk, _⟩ := HA.out
      have := hk h2
      have := hkk h2
      omega
  cases t3 with
  | wr lg bs => cases hR
  | rd ro s =>
    have c1 : w3.cell? ⟨C, 1, none⟩ = some (.pointer ro) := cell_of_block P3.out.1.2.2.2.2.2.2.2.1 1
    have SP := Lib.hid (spoil_any w3 N A ro s P3.out.1.2.2.2.2.2.2.2.2)
    clear e hT hR hk0 hk1 hk2 hk3 hk4
    go_wp2_with fail
    refine SP.out.mono ?_
    rintro e w4 ⟨rfl, k1, k2⟩
    have P4 := P3.out.rd k1 k2
    have mv : Mv A C O w3 w4 := k2.more
    have FIN : Hid (∃ L', Pst N A C O (objT st ⟨kind, name, ver, W, P, Nn, G, H⟩).1 L' T fz w w4 ∧ obA A C O w4 L' (objT st ⟨kind, name, ver, W, P, Nn, G, H⟩).2) := by
      show ∃ _, _
      rw [HE.out]
      exact ⟨L3, P4, HD.out.2.2.2, ⟨HC.out.1, HC.out.2.1, HC.out.2.2.1, HC.out.2.2.2.1⟩, wl_keep K3.out.1 mv (fun _ _ _ => rfl), pd_keep K3.out.2.1 mv (fun _ _ _ => rfl), nd_keep K3.out.2.2.1 mv (fun _ _ _ => rfl), gp_keep K3.out.2.2.2.1 mv (fun _ _ _ => rfl), hp_keep K3.out.2.2.2.2 mv (fun _ _ _ => rfl)⟩
    clear k1 k2 P4 mv SP
    go_wp2
    go_end0
    exact ⟨rfl, FIN.out⟩
end Go.Proofs.Ytlajiochpdlhaaa
