/- The document's Short: is nothing of an object's shape too long? -/
import Derived.Test.YtcfilaiejccfkaaObO
import Derived.Deep.DeepCutAuto
namespace Go.Proofs.Ytcfilaiejccfkaa
open Go.RowKit Go.Shelf Go.Lib Go.Sort
set_option linter.unusedVariables false
set_option linter.unusedSimpArgs false
set_option maxRecDepth 20000

def okL (x : Lab) : Bool := decide (x.1.size ≤ 255) && decide (x.2.size ≤ 255)
def okR (x : Req) : Bool := decide (x.1.size ≤ 255) && decide (x.2.1.size ≤ 255)
def okM (x : Met) : Bool := decide (x.2.1.size ≤ 255)
def okRow {α : Type} (ok : α → Bool) (l : List α) : Bool := l.all ok && decide (l.length ≤ 255)
theorem okRow_iff {α : Type} {ok : α → Bool} {l : List α} : okRow ok l = true ↔ l.all ok = true ∧ l.length ≤ 255 := by simp [okRow]
def okT (s : ByteArray) : Bool := decide (s.size ≤ 255)
theorem okT_iff {s : ByteArray} : okT s = true ↔ s.size ≤ 255 := by simp [okT]
def okW (x : Wl) : Bool := okRow okL x.lab && okRow okR x.sel && okRow okL x.tol
def okP (x : Pd) : Bool := okT x.own && okT x.node && okRow okL x.lab && okRow okR x.sel && okRow okL x.tol
def okN (x : Nd) : Bool := okT x.grp && okRow okL x.lab && okRow okL x.tnt
def okG (x : Gp) : Bool := okRow okL x.lab && okRow okL x.tnt
def okH (x : Hp) : Bool := x.met.all okM && okT x.tg && decide (x.met.length ≤ 255) && decide (x.past.length ≤ 255) && decide (x.upol.length ≤ 255) && decide (x.dpol.length ≤ 255)
def okS (o : Ob) : Bool := if o.kind = 0 then okW o.w else if o.kind = 1 then okP o.p else if o.kind = 2 then okN o.n else if o.kind = 3 then okG o.g else okH o.h
def okO (o : Ob) : Bool := okT o.name && okS o
theorem take_all_step {α : Type} {ok : α → Bool} {l : List α} {k : Nat} {x : α} (h : l[k]? = some x) (ha : (l.take k).all ok = true) (hx : ok x = true) : (l.take (k + 1)).all ok = true := by
  rw [List.take_add_one, List.all_append, ha, h]
  simp [hx]
theorem all_not {α : Type} {ok : α → Bool} {l : List α} {k : Nat} {x : α} (h : l[k]? = some x) (hx : ok x = false) : okRow ok l = false := by
  have : l.all ok = false := List.all_eq_false.2 ⟨x, List.mem_of_getElem? h, by rw [hx]; decide⟩
  rw [okRow, this, Bool.false_and]
theorem all_not' {α : Type} {ok : α → Bool} {l : List α} {k : Nat} {x : α} (h : l[k]? = some x) (hx : ok x = false) : l.all ok = false :=
  List.all_eq_false.2 ⟨x, List.mem_of_getElem? h, by rw [hx]; decide⟩
/-- The rows of an object are no longer than rows can be. -/
def lenO (x : Ob) : Prop := x.w.lab.length ≤ 9223372036854775807 ∧ x.w.sel.length ≤ 9223372036854775807 ∧ x.w.tol.length ≤ 9223372036854775807 ∧ x.p.lab.length ≤ 9223372036854775807 ∧ x.p.sel.length ≤ 9223372036854775807 ∧ x.p.tol.length ≤ 9223372036854775807 ∧ x.n.lab.length ≤ 9223372036854775807 ∧ x.n.tnt.length ≤ 9223372036854775807 ∧ x.g.lab.length ≤ 9223372036854775807 ∧ x.g.tnt.length ≤ 9223372036854775807 ∧ x.h.met.length ≤ 9223372036854775807 ∧ x.h.upol.length ≤ 9223372036854775807 ∧ x.h.dpol.length ≤ 9223372036854775807 ∧ x.h.past.length ≤ 9223372036854775807

set_option maxHeartbeats 2000000 in
theorem rshortL_any (w : World) (q : Option Addr) (c : Nat) (l : List Lab) (h : RowR 2 encL w q l) (hl : l.length ≤ 9223372036854775807) :
    Calls Try.prog 17 #[.slice q l.length c] w fun e w' => e = .returned (.bool (okRow okL l)) ∧ Gr w w' := by
  have mixed : Try.prog.follows .mixedOrders = true := by kernel_rfl
  have HR := Lib.hid h
  clear h
  go_enter Try.func17, Try.ntmps17
  go_wp2_with fail
  go_loopg [7] l.length (fun g vi wr => ∃ (k : Nat), k ≤ l.length ∧ l.length - k ≤ g ∧ vi = .int .i64 (k : Int) ∧ Hid ((l.take k).all okL = true) ∧ Hid (Gr w wr))
  case atStart => exact ⟨0, Nat.zero_le _, by omega, rfl, rfl, Gr.refl _⟩
  case round =>
    obtain ⟨k, hk, hg, rfl, HS, HG⟩ := hrel
    by_cases hlt : k < l.length
    · obtain ⟨x, hx⟩ : ∃ x, l[k]? = some x := ⟨l[k], List.getElem?_eq_getElem hlt⟩
      obtain ⟨b, off, rfl, hb, hc⟩ := (HR.out.gr HG.out) k x hx
      have c1 := hc 0 _ rfl
      have c2 := hc 1 _ rfl
      rw [Nat.add_zero] at c1
      have HD := Lib.hid (take_all_step (ok := okL) hx)
      have HN := Lib.hid (all_not (ok := okL) hx)
      obtain ⟨x1, x2⟩ := x
      have GA := Lib.hid (HG.out.alloc (.cells #[.string x1, .string x2] 58))
      clear hx hc hb
      by_cases g1 : 255 < x1.size
      · have d1 : decide ((255 : Int) < (x1.size : Int)) = true := decide_eq_true (by omega)
        have hno : Hid (okRow okL l = false) := HN.out (by simp only [okL, Bool.and_eq_false_iff, decide_eq_false_iff_not]; omega)
        go_wp2
        go_ret
        exact ⟨by rw [hno.out]; rfl, GA.out⟩
      · have d1 : decide ((255 : Int) < (x1.size : Int)) = false := decide_eq_false (by omega)
        by_cases g2 : 255 < x2.size
        · have d2 : decide ((255 : Int) < (x2.size : Int)) = true := decide_eq_true (by omega)
          have hno : Hid (okRow okL l = false) := HN.out (by simp only [okL, Bool.and_eq_false_iff, decide_eq_false_iff_not]; omega)
          go_wp2
          go_ret
          exact ⟨by rw [hno.out]; rfl, GA.out⟩
        · have d2 : decide ((255 : Int) < (x2.size : Int)) = false := decide_eq_false (by omega)
          have hyes : Hid ((l.take (k + 1)).all okL = true) := HD.out HS.out (by simp only [okL, Bool.and_eq_true, decide_eq_true_eq]; omega)
          go_wp2
          go_roundg (l.length - (k + 1))
          case measure => omega
          case rel => exact ⟨k + 1, hlt, Nat.le_refl _, by go_num, hyes, GA.out⟩
    · obtain rfl : k = l.length := by omega
      have hall : Hid (l.all okL = true) := by have h := HS.out; rw [List.take_length] at h; exact h
      have HE : Hid (okRow okL l = decide (l.length ≤ 255)) := by show _ = _; rw [okRow, hall.out, Bool.true_and]
      clear HS hall
      by_cases hq : l.length ≤ 255
      · have d1 : decide ((l.length : Int) ≤ 255) = true := decide_eq_true (by omega)
        go_wp2
        go_ret
        exact ⟨by rw [HE.out, decide_eq_true hq]; rfl, HG.out⟩
      · have d1 : decide ((l.length : Int) ≤ 255) = false := decide_eq_false (by omega)
        go_wp2
        go_ret
        exact ⟨by rw [HE.out, decide_eq_false hq]; rfl, HG.out⟩

set_option maxHeartbeats 2000000 in
theorem rshortR_any (w : World) (q : Option Addr) (c : Nat) (l : List Req) (h : RowR 3 encR w q l) (hl : l.length ≤ 9223372036854775807) :
    Calls Try.prog 18 #[.slice q l.length c] w fun e w' => e = .returned (.bool (okRow okR l)) ∧ Gr w w' := by
  have mixed : Try.prog.follows .mixedOrders = true := by kernel_rfl
  have HR := Lib.hid h
  clear h
  go_enter Try.func18, Try.ntmps18
  go_wp2_with fail
  go_loopg [7] l.length (fun g vi wr => ∃ (k : Nat), k ≤ l.length ∧ l.length - k ≤ g ∧ vi = .int .i64 (k : Int) ∧ Hid ((l.take k).all okR = true) ∧ Hid (Gr w wr))
  case atStart => exact ⟨0, Nat.zero_le _, by omega, rfl, rfl, Gr.refl _⟩
  case round =>
    obtain ⟨k, hk, hg, rfl, HS, HG⟩ := hrel
    by_cases hlt : k < l.length
    · obtain ⟨x, hx⟩ : ∃ x, l[k]? = some x := ⟨l[k], List.getElem?_eq_getElem hlt⟩
      obtain ⟨b, off, rfl, hb, hc⟩ := (HR.out.gr HG.out) k x hx
      have c1 := hc 0 _ rfl
      have c2 := hc 1 _ rfl
      have c3 := hc 2 _ rfl
      rw [Nat.add_zero] at c1
      have HD := Lib.hid (take_all_step (ok := okR) hx)
      have HN := Lib.hid (all_not (ok := okR) hx)
      obtain ⟨x1, x2, x3⟩ := x
      have GA := Lib.hid (HG.out.alloc (.cells #[.string x1, .string x2, .int .i64 x3] 60))
      clear hx hc hb
      by_cases g1 : 255 < x1.size
      · have d1 : decide ((255 : Int) < (x1.size : Int)) = true := decide_eq_true (by omega)
        have hno : Hid (okRow okR l = false) := HN.out (by simp only [okR, Bool.and_eq_false_iff, decide_eq_false_iff_not]; omega)
        go_wp2
        go_ret
        exact ⟨by rw [hno.out]; rfl, GA.out⟩
      · have d1 : decide ((255 : Int) < (x1.size : Int)) = false := decide_eq_false (by omega)
        by_cases g2 : 255 < x2.size
        · have d2 : decide ((255 : Int) < (x2.size : Int)) = true := decide_eq_true (by omega)
          have hno : Hid (okRow okR l = false) := HN.out (by simp only [okR, Bool.and_eq_false_iff, decide_eq_false_iff_not]; omega)
          go_wp2
          go_ret
          exact ⟨by rw [hno.out]; rfl, GA.out⟩
        · have d2 : decide ((255 : Int) < (x2.size : Int)) = false := decide_eq_false (by omega)
          have hyes : Hid ((l.take (k + 1)).all okR = true) := HD.out HS.out (by simp only [okR, Bool.and_eq_true, decide_eq_true_eq]; omega)
          go_wp2
          go_roundg (l.length - (k + 1))
          case measure => omega
          case rel => exact ⟨k + 1, hlt, Nat.le_refl _, by go_num, hyes, GA.out⟩
    · obtain rfl : k = l.length := by omega
      have hall : Hid (l.all okR = true) := by have h := HS.out; rw [List.take_length] at h; exact h
      have HE : Hid (okRow okR l = decide (l.length ≤ 255)) := by show _ = _; rw [okRow, hall.out, Bool.true_and]
      clear HS hall
      by_cases hq : l.length ≤ 255
      · have d1 : decide ((l.length : Int) ≤ 255) = true := decide_eq_true (by omega)
        go_wp2
        go_ret
        exact ⟨by rw [HE.out, decide_eq_true hq]; rfl, HG.out⟩
      · have d1 : decide ((l.length : Int) ≤ 255) = false := decide_eq_false (by omega)
        go_wp2
        go_ret
        exact ⟨by rw [HE.out, decide_eq_false hq]; rfl, HG.out⟩

set_option maxHeartbeats 4000000 in
theorem rshort0 (w : World) (cs : Array Value) (ob : Ob) (hv : ObjV w cs ob) (hn : lenO ob) (hk : ob.kind = 0) :
    Calls Try.prog 9 #[.agg cs] w fun e w' => e = .returned (.bool (okO ob)) ∧ Gr w w' := by
  have mixed : Try.prog.follows .mixedOrders = true := by kernel_rfl
  obtain ⟨kind, name, ver, W, P, N, G, H⟩ := ob
  obtain ⟨hsz, ⟨c0, c1, c2, hver⟩, hW, hP, hN, hG, hH⟩ := hv
  obtain ⟨n0, n1, n2, n3, n4, n5, n6, n7, n8, n9, n10, n11, n12, n13⟩ := hn
  dsimp only at *
  subst hk
  obtain ⟨rep, cpu, mem, lab, sel, tol, warm⟩ := W
  obtain ⟨a3, a4, a5, ⟨q6, k6, c6, r6⟩, ⟨q7, k7, c7, r7⟩, ⟨q8, k8, c8, r8⟩, a9⟩ := hW
  dsimp only at *
  clear hP
  clear hN
  clear hG
  clear hH
  have HO : Hid (okO ⟨0, name, ver, ⟨rep, cpu, mem, lab, sel, tol, warm⟩, P, N, G, H⟩ = (okT name && (okRow okL lab && okRow okR sel && okRow okL tol))) := rfl
  have HF : Hid (∀ (W : World), Gr (w.alloc (.cells cs 46)) W → Gr w W ∧ W.cell? ⟨w.heap.size, 0, none⟩ = some (.int .i64 0) ∧ W.cell? ⟨w.heap.size, 1, none⟩ = some (.string name) ∧ W.cell? ⟨w.heap.size, 6, none⟩ = some (.slice q6 lab.length k6) ∧ W.cell? ⟨w.heap.size, 7, none⟩ = some (.slice q7 sel.length k7) ∧ W.cell? ⟨w.heap.size, 8, none⟩ = some (.slice q8 tol.length k8)) := fun W g => ⟨((Gr.refl w).alloc _).trans g, g.cell (by simp [c0]), g.cell (by simp [c1]), g.cell (by simp [c6]), g.cell (by simp [c7]), g.cell (by simp [c8])⟩
  have C6 := Lib.hid (fun (W : World) (g : Gr w W) => rshortL_any W q6 k6 lab (r6.gr g) n0)
  have C7 := Lib.hid (fun (W : World) (g : Gr w W) => rshortR_any W q7 k7 sel (r7.gr g) n1)
  have C8 := Lib.hid (fun (W : World) (g : Gr w W) => rshortL_any W q8 k8 tol (r8.gr g) n2)
  generalize hb6 : okRow okL lab = b6 at HO C6
  generalize hb7 : okRow okR sel = b7 at HO C7
  generalize hb8 : okRow okL tol = b8 at HO C8
  clear hb6 hb7 hb8 c2 hver n0 n1 n2 n3 n4 n5 n6 n7 n8 n9 n10 n11 n12 n13
  clear a3 a4 a5 c6 r6 c7 r7 c8 r8 a9
  clear c0 c1
  obtain ⟨g0, d0, d1, d6, d7, d8⟩ := HF.out _ (Gr.refl _)
  have G0 := Lib.hid g0
  clear g0
  by_cases hs_name : name.size ≤ 255
  case neg =>
    have e_name : decide ((255 : Int) < (name.size : Int)) = true := decide_eq_true (by omega)
    have HQ : Hid (okT name = false) := decide_eq_false hs_name
    rw [HQ.out] at HO
    go_enter Try.func9, Try.ntmps9
    go_wp2
    go_ret
    exact ⟨by rw [HO.out.trans (show _ = false by simp)]; rfl, G0.out⟩
  have e_name : decide ((255 : Int) < (name.size : Int)) = false := decide_eq_false (by omega)
  have HQ_name : Hid (okT name = true) := decide_eq_true hs_name
  rw [HQ_name.out] at HO
  clear HQ_name
  go_enter Try.func9, Try.ntmps9
  go_wp2_with fail
  refine (C6.out _ G0.out).mono ?_
  rintro e w1 ⟨rfl, h1⟩
  have K1 := Lib.hid (h1)
  have GG1 := Lib.hid (HF.out _ K1.out).1
  obtain ⟨_, u1_0, u1_1, u1_6, u1_7, u1_8⟩ := HF.out _ K1.out
  clear h1
  cases b6 with
  | false =>
    go_wp2
    go_ret
    exact ⟨by rw [HO.out.trans (show _ = false by simp)]; rfl, GG1.out⟩
  | true =>
    go_wp2_with fail
    refine (C7.out _ GG1.out).mono ?_
    rintro e w2 ⟨rfl, h2⟩
    have K2 := Lib.hid (K1.out.trans h2)
    have GG2 := Lib.hid (HF.out _ K2.out).1
    obtain ⟨_, u2_0, u2_1, u2_6, u2_7, u2_8⟩ := HF.out _ K2.out
    clear h2
    cases b7 with
    | false =>
      go_wp2
      go_ret
      exact ⟨by rw [HO.out.trans (show _ = false by simp)]; rfl, GG2.out⟩
    | true =>
      go_wp2_with fail
      refine (C8.out _ GG2.out).mono ?_
      rintro e w3 ⟨rfl, h3⟩
      have K3 := Lib.hid (K2.out.trans h3)
      have GG3 := Lib.hid (HF.out _ K3.out).1
      obtain ⟨_, u3_0, u3_1, u3_6, u3_7, u3_8⟩ := HF.out _ K3.out
      clear h3
      go_wp2
      go_ret
      exact ⟨by rw [HO.out.trans (show _ = b8 by simp)]; rfl, GG3.out⟩

set_option maxHeartbeats 4000000 in
theorem rshort1 (w : World) (cs : Array Value) (ob : Ob) (hv : ObjV w cs ob) (hn : lenO ob) (hk : ob.kind = 1) :
    Calls Try.prog 9 #[.agg cs] w fun e w' => e = .returned (.bool (okO ob)) ∧ Gr w w' := by
  have mixed : Try.prog.follows .mixedOrders = true := by kernel_rfl
  obtain ⟨kind, name, ver, W, P, N, G, H⟩ := ob
  obtain ⟨hsz, ⟨c0, c1, c2, hver⟩, hW, hP, hN, hG, hH⟩ := hv
  obtain ⟨n0, n1, n2, n3, n4, n5, n6, n7, n8, n9, n10, n11, n12, n13⟩ := hn
  dsimp only at *
  subst hk
  obtain ⟨own, node, ph, since, cpu, mem, lab, sel, tol, warm⟩ := P
  obtain ⟨a10, a11, a12, a13, a14, a15, ⟨q16, k16, c16, r16⟩, ⟨q17, k17, c17, r17⟩, ⟨q18, k18, c18, r18⟩, a19⟩ := hP
  dsimp only at *
  clear hW
  clear hN
  clear hG
  clear hH
  have HO : Hid (okO ⟨1, name, ver, W, ⟨own, node, ph, since, cpu, mem, lab, sel, tol, warm⟩, N, G, H⟩ = (okT name && (okT own && okT node && okRow okL lab && okRow okR sel && okRow okL tol))) := rfl
  have HF : Hid (∀ (W : World), Gr (w.alloc (.cells cs 46)) W → Gr w W ∧ W.cell? ⟨w.heap.size, 0, none⟩ = some (.int .i64 1) ∧ W.cell? ⟨w.heap.size, 1, none⟩ = some (.string name) ∧ W.cell? ⟨w.heap.size, 10, none⟩ = some (.string own) ∧ W.cell? ⟨w.heap.size, 11, none⟩ = some (.string node) ∧ W.cell? ⟨w.heap.size, 16, none⟩ = some (.slice q16 lab.length k16) ∧ W.cell? ⟨w.heap.size, 17, none⟩ = some (.slice q17 sel.length k17) ∧ W.cell? ⟨w.heap.size, 18, none⟩ = some (.slice q18 tol.length k18)) := fun W g => ⟨((Gr.refl w).alloc _).trans g, g.cell (by simp [c0]), g.cell (by simp [c1]), g.cell (by simp [a10]), g.cell (by simp [a11]), g.cell (by simp [c16]), g.cell (by simp [c17]), g.cell (by simp [c18])⟩
  have C16 := Lib.hid (fun (W : World) (g : Gr w W) => rshortL_any W q16 k16 lab (r16.gr g) n3)
  have C17 := Lib.hid (fun (W : World) (g : Gr w W) => rshortR_any W q17 k17 sel (r17.gr g) n4)
  have C18 := Lib.hid (fun (W : World) (g : Gr w W) => rshortL_any W q18 k18 tol (r18.gr g) n5)
  generalize hb16 : okRow okL lab = b16 at HO C16
  generalize hb17 : okRow okR sel = b17 at HO C17
  generalize hb18 : okRow okL tol = b18 at HO C18
  clear hb16 hb17 hb18 c2 hver n0 n1 n2 n3 n4 n5 n6 n7 n8 n9 n10 n11 n12 n13
  clear a10 a11 a12 a13 a14 a15 c16 r16 c17 r17 c18 r18 a19
  clear c0 c1
  obtain ⟨g0, d0, d1, d10, d11, d16, d17, d18⟩ := HF.out _ (Gr.refl _)
  have G0 := Lib.hid g0
  clear g0
  by_cases hs_name : name.size ≤ 255
  case neg =>
    have e_name : decide ((255 : Int) < (name.size : Int)) = true := decide_eq_true (by omega)
    have HQ : Hid (okT name = false) := decide_eq_false hs_name
    rw [HQ.out] at HO
    go_enter Try.func9, Try.ntmps9
    go_wp2
    go_ret
    exact ⟨by rw [HO.out.trans (show _ = false by simp)]; rfl, G0.out⟩
  have e_name : decide ((255 : Int) < (name.size : Int)) = false := decide_eq_false (by omega)
  have HQ_name : Hid (okT name = true) := decide_eq_true hs_name
  rw [HQ_name.out] at HO
  clear HQ_name
  by_cases hs_own : own.size ≤ 255
  case neg =>
    have e_own : decide ((own.size : Int) ≤ 255) = false := decide_eq_false (by omega)
    have HQ : Hid (okT own = false) := decide_eq_false hs_own
    rw [HQ.out] at HO
    go_enter Try.func9, Try.ntmps9
    go_wp2
    go_ret
    exact ⟨by rw [HO.out.trans (show _ = false by simp)]; rfl, G0.out⟩
  have e_own : decide ((own.size : Int) ≤ 255) = true := decide_eq_true (by omega)
  have HQ_own : Hid (okT own = true) := decide_eq_true hs_own
  rw [HQ_own.out] at HO
  clear HQ_own
  by_cases hs_node : node.size ≤ 255
  case neg =>
    have e_node : decide ((node.size : Int) ≤ 255) = false := decide_eq_false (by omega)
    have HQ : Hid (okT node = false) := decide_eq_false hs_node
    rw [HQ.out] at HO
    go_enter Try.func9, Try.ntmps9
    go_wp2
    go_ret
    exact ⟨by rw [HO.out.trans (show _ = false by simp)]; rfl, G0.out⟩
  have e_node : decide ((node.size : Int) ≤ 255) = true := decide_eq_true (by omega)
  have HQ_node : Hid (okT node = true) := decide_eq_true hs_node
  rw [HQ_node.out] at HO
  clear HQ_node
  go_enter Try.func9, Try.ntmps9
  go_wp2_with fail
  refine (C16.out _ G0.out).mono ?_
  rintro e w1 ⟨rfl, h1⟩
  have K1 := Lib.hid (h1)
  have GG1 := Lib.hid (HF.out _ K1.out).1
  obtain ⟨_, u1_0, u1_1, u1_10, u1_11, u1_16, u1_17, u1_18⟩ := HF.out _ K1.out
  clear h1
  cases b16 with
  | false =>
    go_wp2
    go_ret
    exact ⟨by rw [HO.out.trans (show _ = false by simp)]; rfl, GG1.out⟩
  | true =>
    go_wp2_with fail
    refine (C17.out _ GG1.out).mono ?_
    rintro e w2 ⟨rfl, h2⟩
    have K2 := Lib.hid (K1.out.trans h2)
    have GG2 := Lib.hid (HF.out _ K2.out).1
    obtain ⟨_, u2_0, u2_1, u2_10, u2_11, u2_16, u2_17, u2_18⟩ := HF.out _ K2.out
    clear h2
    cases b17 with
    | false =>
      go_wp2
      go_ret
      exact ⟨by rw [HO.out.trans (show _ = false by simp)]; rfl, GG2.out⟩
    | true =>
      go_wp2_with fail
      refine (C18.out _ GG2.out).mono ?_
      rintro e w3 ⟨rfl, h3⟩
      have K3 := Lib.hid (K2.out.trans h3)
      have GG3 := Lib.hid (HF.out _ K3.out).1
      obtain ⟨_, u3_0, u3_1, u3_10, u3_11, u3_16, u3_17, u3_18⟩ := HF.out _ K3.out
      clear h3
      go_wp2
      go_ret
      exact ⟨by rw [HO.out.trans (show _ = b18 by simp)]; rfl, GG3.out⟩

set_option maxHeartbeats 4000000 in
theorem rshort2 (w : World) (cs : Array Value) (ob : Ob) (hv : ObjV w cs ob) (hn : lenO ob) (hk : ob.kind = 2) :
    Calls Try.prog 9 #[.agg cs] w fun e w' => e = .returned (.bool (okO ob)) ∧ Gr w w' := by
  have mixed : Try.prog.follows .mixedOrders = true := by kernel_rfl
  obtain ⟨kind, name, ver, W, P, N, G, H⟩ := ob
  obtain ⟨hsz, ⟨c0, c1, c2, hver⟩, hW, hP, hN, hG, hH⟩ := hv
  obtain ⟨n0, n1, n2, n3, n4, n5, n6, n7, n8, n9, n10, n11, n12, n13⟩ := hn
  dsimp only at *
  subst hk
  obtain ⟨grp, cpu, mem, lab, tnt, since, closed⟩ := N
  obtain ⟨a20, a21, a22, ⟨q23, k23, c23, r23⟩, ⟨q24, k24, c24, r24⟩, a25, a26⟩ := hN
  dsimp only at *
  clear hW
  clear hP
  clear hG
  clear hH
  have HO : Hid (okO ⟨2, name, ver, W, P, ⟨grp, cpu, mem, lab, tnt, since, closed⟩, G, H⟩ = (okT name && (okT grp && okRow okL lab && okRow okL tnt))) := rfl
  have HF : Hid (∀ (W : World), Gr (w.alloc (.cells cs 46)) W → Gr w W ∧ W.cell? ⟨w.heap.size, 0, none⟩ = some (.int .i64 2) ∧ W.cell? ⟨w.heap.size, 1, none⟩ = some (.string name) ∧ W.cell? ⟨w.heap.size, 20, none⟩ = some (.string grp) ∧ W.cell? ⟨w.heap.size, 23, none⟩ = some (.slice q23 lab.length k23) ∧ W.cell? ⟨w.heap.size, 24, none⟩ = some (.slice q24 tnt.length k24)) := fun W g => ⟨((Gr.refl w).alloc _).trans g, g.cell (by simp [c0]), g.cell (by simp [c1]), g.cell (by simp [a20]), g.cell (by simp [c23]), g.cell (by simp [c24])⟩
  have C23 := Lib.hid (fun (W : World) (g : Gr w W) => rshortL_any W q23 k23 lab (r23.gr g) n6)
  have C24 := Lib.hid (fun (W : World) (g : Gr w W) => rshortL_any W q24 k24 tnt (r24.gr g) n7)
  generalize hb23 : okRow okL lab = b23 at HO C23
  generalize hb24 : okRow okL tnt = b24 at HO C24
  clear hb23 hb24 c2 hver n0 n1 n2 n3 n4 n5 n6 n7 n8 n9 n10 n11 n12 n13
  clear a20 a21 a22 c23 r23 c24 r24 a25 a26
  clear c0 c1
  obtain ⟨g0, d0, d1, d20, d23, d24⟩ := HF.out _ (Gr.refl _)
  have G0 := Lib.hid g0
  clear g0
  by_cases hs_name : name.size ≤ 255
  case neg =>
    have e_name : decide ((255 : Int) < (name.size : Int)) = true := decide_eq_true (by omega)
    have HQ : Hid (okT name = false) := decide_eq_false hs_name
    rw [HQ.out] at HO
    go_enter Try.func9, Try.ntmps9
    go_wp2
    go_ret
    exact ⟨by rw [HO.out.trans (show _ = false by simp)]; rfl, G0.out⟩
  have e_name : decide ((255 : Int) < (name.size : Int)) = false := decide_eq_false (by omega)
  have HQ_name : Hid (okT name = true) := decide_eq_true hs_name
  rw [HQ_name.out] at HO
  clear HQ_name
  by_cases hs_grp : grp.size ≤ 255
  case neg =>
    have e_grp : decide ((grp.size : Int) ≤ 255) = false := decide_eq_false (by omega)
    have HQ : Hid (okT grp = false) := decide_eq_false hs_grp
    rw [HQ.out] at HO
    go_enter Try.func9, Try.ntmps9
    go_wp2
    go_ret
    exact ⟨by rw [HO.out.trans (show _ = false by simp)]; rfl, G0.out⟩
  have e_grp : decide ((grp.size : Int) ≤ 255) = true := decide_eq_true (by omega)
  have HQ_grp : Hid (okT grp = true) := decide_eq_true hs_grp
  rw [HQ_grp.out] at HO
  clear HQ_grp
  go_enter Try.func9, Try.ntmps9
  go_wp2_with fail
  refine (C23.out _ G0.out).mono ?_
  rintro e w1 ⟨rfl, h1⟩
  have K1 := Lib.hid (h1)
  have GG1 := Lib.hid (HF.out _ K1.out).1
  obtain ⟨_, u1_0, u1_1, u1_20, u1_23, u1_24⟩ := HF.out _ K1.out
  clear h1
  cases b23 with
  | false =>
    go_wp2
    go_ret
    exact ⟨by rw [HO.out.trans (show _ = false by simp)]; rfl, GG1.out⟩
  | true =>
    go_wp2_with fail
    refine (C24.out _ GG1.out).mono ?_
    rintro e w2 ⟨rfl, h2⟩
    have K2 := Lib.hid (K1.out.trans h2)
    have GG2 := Lib.hid (HF.out _ K2.out).1
    obtain ⟨_, u2_0, u2_1, u2_20, u2_23, u2_24⟩ := HF.out _ K2.out
    clear h2
    go_wp2
    go_ret
    exact ⟨by rw [HO.out.trans (show _ = b24 by simp)]; rfl, GG2.out⟩

set_option maxHeartbeats 4000000 in
theorem rshort3 (w : World) (cs : Array Value) (ob : Ob) (hv : ObjV w cs ob) (hn : lenO ob) (hk : ob.kind = 3) :
    Calls Try.prog 9 #[.agg cs] w fun e w' => e = .returned (.bool (okO ob)) ∧ Gr w w' := by
  have mixed : Try.prog.follows .mixedOrders = true := by kernel_rfl
  obtain ⟨kind, name, ver, W, P, N, G, H⟩ := ob
  obtain ⟨hsz, ⟨c0, c1, c2, hver⟩, hW, hP, hN, hG, hH⟩ := hv
  obtain ⟨n0, n1, n2, n3, n4, n5, n6, n7, n8, n9, n10, n11, n12, n13⟩ := hn
  dsimp only at *
  subst hk
  obtain ⟨mn, mx, tg, cpu, mem, lab, tnt, prio⟩ := G
  obtain ⟨a27, a28, a29, a30, a31, ⟨q32, k32, c32, r32⟩, ⟨q33, k33, c33, r33⟩, a34⟩ := hG
  dsimp only at *
  clear hW
  clear hP
  clear hN
  clear hH
  have HO : Hid (okO ⟨3, name, ver, W, P, N, ⟨mn, mx, tg, cpu, mem, lab, tnt, prio⟩, H⟩ = (okT name && (okRow okL lab && okRow okL tnt))) := rfl
  have HF : Hid (∀ (W : World), Gr (w.alloc (.cells cs 46)) W → Gr w W ∧ W.cell? ⟨w.heap.size, 0, none⟩ = some (.int .i64 3) ∧ W.cell? ⟨w.heap.size, 1, none⟩ = some (.string name) ∧ W.cell? ⟨w.heap.size, 32, none⟩ = some (.slice q32 lab.length k32) ∧ W.cell? ⟨w.heap.size, 33, none⟩ = some (.slice q33 tnt.length k33)) := fun W g => ⟨((Gr.refl w).alloc _).trans g, g.cell (by simp [c0]), g.cell (by simp [c1]), g.cell (by simp [c32]), g.cell (by simp [c33])⟩
  have C32 := Lib.hid (fun (W : World) (g : Gr w W) => rshortL_any W q32 k32 lab (r32.gr g) n8)
  have C33 := Lib.hid (fun (W : World) (g : Gr w W) => rshortL_any W q33 k33 tnt (r33.gr g) n9)
  generalize hb32 : okRow okL lab = b32 at HO C32
  generalize hb33 : okRow okL tnt = b33 at HO C33
  clear hb32 hb33 c2 hver n0 n1 n2 n3 n4 n5 n6 n7 n8 n9 n10 n11 n12 n13
  clear a27 a28 a29 a30 a31 c32 r32 c33 r33 a34
  clear c0 c1
  obtain ⟨g0, d0, d1, d32, d33⟩ := HF.out _ (Gr.refl _)
  have G0 := Lib.hid g0
  clear g0
  by_cases hs_name : name.size ≤ 255
  case neg =>
    have e_name : decide ((255 : Int) < (name.size : Int)) = true := decide_eq_true (by omega)
    have HQ : Hid (okT name = false) := decide_eq_false hs_name
    rw [HQ.out] at HO
    go_enter Try.func9, Try.ntmps9
    go_wp2
    go_ret
    exact ⟨by rw [HO.out.trans (show _ = false by simp)]; rfl, G0.out⟩
  have e_name : decide ((255 : Int) < (name.size : Int)) = false := decide_eq_false (by omega)
  have HQ_name : Hid (okT name = true) := decide_eq_true hs_name
  rw [HQ_name.out] at HO
  clear HQ_name
  go_enter Try.func9, Try.ntmps9
  go_wp2_with fail
  refine (C32.out _ G0.out).mono ?_
  rintro e w1 ⟨rfl, h1⟩
  have K1 := Lib.hid (h1)
  have GG1 := Lib.hid (HF.out _ K1.out).1
  obtain ⟨_, u1_0, u1_1, u1_32, u1_33⟩ := HF.out _ K1.out
  clear h1
  cases b32 with
  | false =>
    go_wp2
    go_ret
    exact ⟨by rw [HO.out.trans (show _ = false by simp)]; rfl, GG1.out⟩
  | true =>
    go_wp2_with fail
    refine (C33.out _ GG1.out).mono ?_
    rintro e w2 ⟨rfl, h2⟩
    have K2 := Lib.hid (K1.out.trans h2)
    have GG2 := Lib.hid (HF.out _ K2.out).1
    obtain ⟨_, u2_0, u2_1, u2_32, u2_33⟩ := HF.out _ K2.out
    clear h2
    go_wp2
    go_ret
    exact ⟨by rw [HO.out.trans (show _ = b33 by simp)]; rfl, GG2.out⟩

set_option maxHeartbeats 4000000 in
theorem rshort4 (w : World) (cs : Array Value) (ob : Ob) (hv : ObjV w cs ob) (hn : lenO ob) (hk : ob.kind = 4) :
    Calls Try.prog 9 #[.agg cs] w fun e w' => e = .returned (.bool (okO ob)) ∧ Gr w w' := by
  have mixed : Try.prog.follows .mixedOrders = true := by kernel_rfl
  obtain ⟨kind, name, ver, W, P, N, G, H⟩ := ob
  obtain ⟨hsz, ⟨c0, c1, c2, hver⟩, hW, hP, hN, hG, hH⟩ := hv
  obtain ⟨n0, n1, n2, n3, n4, n5, n6, n7, n8, n9, n10, n11, n12, n13⟩ := hn
  dsimp only at *
  subst hk
  obtain ⟨tg, mn, mx, met, tol, uw, up, upol, dw, dp, dpol, past⟩ := H
  obtain ⟨a35, a36, a37, ⟨q38, k38, c38, r38⟩, a39, a40, a41, ⟨q42, k42, c42, r42⟩, a43, a44, ⟨q45, k45, c45, r45⟩, ⟨q46, k46, c46, r46⟩⟩ := hH
  dsimp only at *
  clear hW hP hN hG
  have HO : Hid (okO ⟨4, name, ver, W, P, N, G, ⟨tg, mn, mx, met, tol, uw, up, upol, dw, dp, dpol, past⟩⟩ = (okT name && (met.all okM && okT tg && decide (met.length ≤ 255) && decide (past.length ≤ 255) && decide (upol.length ≤ 255) && decide (dpol.length ≤ 255)))) := rfl
  have HR := Lib.hid r38
  have HF : Hid (∀ (W : World), Gr (w.alloc (.cells cs 46)) W → Gr w W ∧ W.cell? ⟨w.heap.size, 0, none⟩ = some (.int .i64 4) ∧ W.cell? ⟨w.heap.size, 1, none⟩ = some (.string name) ∧ W.cell? ⟨w.heap.size, 35, none⟩ = some (.string tg) ∧ W.cell? ⟨w.heap.size, 38, none⟩ = some (.slice q38 met.length k38) ∧ W.cell? ⟨w.heap.size, 42, none⟩ = some (.slice q42 upol.length k42) ∧ W.cell? ⟨w.heap.size, 45, none⟩ = some (.slice q45 dpol.length k45) ∧ W.cell? ⟨w.heap.size, 46, none⟩ = some (.slice q46 past.length k46)) := fun W g => ⟨((Gr.refl w).alloc _).trans g, g.cell (by simp [c0]), g.cell (by simp [c1]), g.cell (by simp [a35]), g.cell (by simp [c38]), g.cell (by simp [c42]), g.cell (by simp [c45]), g.cell (by simp [c46])⟩
  clear c0 c1 c2 hver r38 r42 r45 r46 c38 c42 c45 c46 a35 a36 a37 a39 a40 a41 a43 a44 n0 n1 n2 n3 n4 n5 n6 n7 n8 n9 n11 n12 n13
  obtain ⟨g0, d0, d1, d35, d38, d42, d45, d46⟩ := HF.out _ (Gr.refl _)
  have G0 := Lib.hid g0
  clear g0
  by_cases hs_name : name.size ≤ 255
  case neg =>
    have e_name : decide ((255 : Int) < (name.size : Int)) = true := decide_eq_true (by omega)
    have HQ : Hid (okT name = false) := decide_eq_false hs_name
    rw [HQ.out] at HO
    go_enter Try.func9, Try.ntmps9
    go_wp2
    go_ret
    exact ⟨by rw [HO.out.trans (show _ = false by simp)]; rfl, G0.out⟩
  have e_name : decide ((255 : Int) < (name.size : Int)) = false := decide_eq_false (by omega)
  have HQ_name : Hid (okT name = true) := decide_eq_true hs_name
  rw [HQ_name.out, Bool.true_and] at HO
  clear HQ_name hs_name
  go_enter Try.func9, Try.ntmps9
  go_wp2_with fail
  go_loopg [96] met.length (fun g vi wr => ∃ (k : Nat), k ≤ met.length ∧ met.length - k ≤ g ∧ vi = .int .i64 (k : Int) ∧ Hid ((met.take k).all okM = true) ∧ Hid (Gr (w.alloc (.cells cs 46)) wr))
  case atStart => exact ⟨0, Nat.zero_le _, by omega, rfl, rfl, Gr.refl _⟩
  case round =>
    obtain ⟨k, hk, hg, rfl, HS, HG⟩ := hrel
    obtain ⟨g1, d0, d1, d35, d38, d42, d45, d46⟩ := HF.out _ HG.out
    have GW := Lib.hid g1
    clear g1
    by_cases hlt : k < met.length
    · obtain ⟨x, hx⟩ : ∃ x, met[k]? = some x := ⟨met[k], List.getElem?_eq_getElem hlt⟩
      obtain ⟨b, off, rfl, hb, hc⟩ := (HR.out.gr GW.out) k x hx
      have c1 := hc 0 _ rfl
      have c2 := hc 1 _ rfl
      have c3 := hc 2 _ rfl
      rw [Nat.add_zero] at c1
      have HD := Lib.hid (take_all_step (ok := okM) hx)
      have HN := Lib.hid (all_not' (ok := okM) hx)
      obtain ⟨x1, x2, x3⟩ := x
      have GA := Lib.hid (HG.out.alloc (.cells #[.int .i64 x1, .string x2, .int .i64 x3] 69))
      clear hx hc hb
      by_cases g1 : 255 < x2.size
      · have d1 : decide ((255 : Int) < (x2.size : Int)) = true := decide_eq_true (by omega)
        have hno : Hid (met.all okM = false) := HN.out (by simp only [okM, decide_eq_false_iff_not]; omega)
        rw [hno.out] at HO
        go_wp2
        go_ret
        exact ⟨by rw [HO.out.trans (show _ = false by simp)]; rfl, (HF.out _ GA.out).1⟩
      · have d1 : decide ((255 : Int) < (x2.size : Int)) = false := decide_eq_false (by omega)
        have hyes : Hid ((met.take (k + 1)).all okM = true) := HD.out HS.out (by simp only [okM, decide_eq_true_eq]; omega)
        go_wp2
        go_roundg (met.length - (k + 1))
        case measure => omega
        case rel => exact ⟨k + 1, hlt, Nat.le_refl _, by go_num, hyes, GA.out⟩
    · obtain rfl : k = met.length := by omega
      have hall : Hid (met.all okM = true) := by have h := HS.out; rw [List.take_length] at h; exact h
      rw [hall.out] at HO
      clear HS hall
      by_cases z0 : tg.size ≤ 255
      case neg =>
        have e0 : decide ((tg.size : Int) ≤ 255) = false := decide_eq_false (by omega)
        have HQ : Hid (okT tg = false) := decide_eq_false z0
        rw [HQ.out] at HO
        go_wp2
        go_ret
        exact ⟨by rw [HO.out.trans (show _ = false by simp)]; rfl, GW.out⟩
      have e0 : decide ((tg.size : Int) ≤ 255) = true := decide_eq_true (by omega)
      have HQ0 : Hid (okT tg = true) := decide_eq_true z0
      rw [HQ0.out] at HO
      by_cases z1 : met.length ≤ 255
      case neg =>
        have e1 : decide ((met.length : Int) ≤ 255) = false := decide_eq_false (by omega)
        have HQ : Hid (decide (met.length ≤ 255) = false) := decide_eq_false z1
        rw [HQ.out] at HO
        go_wp2
        go_ret
        exact ⟨by rw [HO.out.trans (show _ = false by simp)]; rfl, GW.out⟩
      have e1 : decide ((met.length : Int) ≤ 255) = true := decide_eq_true (by omega)
      have HQ1 : Hid (decide (met.length ≤ 255) = true) := decide_eq_true z1
      rw [HQ1.out] at HO
      by_cases z2 : past.length ≤ 255
      case neg =>
        have e2 : decide ((past.length : Int) ≤ 255) = false := decide_eq_false (by omega)
        have HQ : Hid (decide (past.length ≤ 255) = false) := decide_eq_false z2
        rw [HQ.out] at HO
        go_wp2
        go_ret
        exact ⟨by rw [HO.out.trans (show _ = false by simp)]; rfl, GW.out⟩
      have e2 : decide ((past.length : Int) ≤ 255) = true := decide_eq_true (by omega)
      have HQ2 : Hid (decide (past.length ≤ 255) = true) := decide_eq_true z2
      rw [HQ2.out] at HO
      by_cases z3 : upol.length ≤ 255
      case neg =>
        have e3 : decide ((upol.length : Int) ≤ 255) = false := decide_eq_false (by omega)
        have HQ : Hid (decide (upol.length ≤ 255) = false) := decide_eq_false z3
        rw [HQ.out] at HO
        go_wp2
        go_ret
        exact ⟨by rw [HO.out.trans (show _ = false by simp)]; rfl, GW.out⟩
      have e3 : decide ((upol.length : Int) ≤ 255) = true := decide_eq_true (by omega)
      have HQ3 : Hid (decide (upol.length ≤ 255) = true) := decide_eq_true z3
      rw [HQ3.out] at HO
      by_cases z4 : dpol.length ≤ 255
      case neg =>
        have e4 : decide ((dpol.length : Int) ≤ 255) = false := decide_eq_false (by omega)
        have HQ : Hid (decide (dpol.length ≤ 255) = false) := decide_eq_false z4
        rw [HQ.out] at HO
        go_wp2
        go_ret
        exact ⟨by rw [HO.out.trans (show _ = false by simp)]; rfl, GW.out⟩
      have e4 : decide ((dpol.length : Int) ≤ 255) = true := decide_eq_true (by omega)
      have HQ4 : Hid (decide (dpol.length ≤ 255) = true) := decide_eq_true z4
      rw [HQ4.out] at HO
      go_wp2
      go_ret
      exact ⟨by rw [HO.out.trans (show _ = true by rfl)]; rfl, GW.out⟩

theorem rshort_any (w : World) (cs : Array Value) (ob : Ob) (hv : ObjV w cs ob) (hn : lenO ob) (hk : 0 ≤ ob.kind ∧ ob.kind ≤ 4) :
    Calls Try.prog 9 #[.agg cs] w fun e w' => e = .returned (.bool (okO ob)) ∧ Gr w w' := by
  have h : ob.kind = 0 ∨ ob.kind = 1 ∨ ob.kind = 2 ∨ ob.kind = 3 ∨ ob.kind = 4 := by omega
  rcases h with h | h | h | h | h
  · exact rshort0 w cs ob hv hn h
  · exact rshort1 w cs ob hv hn h
  · exact rshort2 w cs ob hv hn h
  · exact rshort3 w cs ob hv hn h
  · exact rshort4 w cs ob hv hn h
end Go.Proofs.Ytcfilaiejccfkaa
