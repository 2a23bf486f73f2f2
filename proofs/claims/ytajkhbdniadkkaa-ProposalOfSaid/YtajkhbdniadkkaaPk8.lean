/- Layer 20: Of, by a book and any row of pods. -/
import Derived.Test.YtajkhbdniadkkaaPk6
import Derived.Test.YtajkhbdniadkkaaPk7
import Derived.Test.YtajkhbdniadkkaaHeldG
import Derived.Test.YtajkhbdniadkkaaPk4
import Derived.Test.YtajkhbdniadkkaaObOp
import Derived.Below
import Derived.ChangeSame
import Derived.Carry
import Derived.Test.YtajkhbdniadkkaaRows
import Derived.ProofKit
import Derived.OpenShut
import Derived.Test.YtajkhbdniadkkaaQyA
namespace Go.Proofs.Ytajkhbdniadkkaa.Pp
open Go.RowKit Go.Shelf Go.Lib Go.Sort Go.Deep
open Go.Joins (cell_of_block unfrozen_of_block block_setCell)
open Go.Proofs.Ytajkhbdniadkkaa.Ow Go.Proofs.Ytajkhbdniadkkaa.Ld
set_option linter.unusedVariables false
set_option linter.unusedSimpArgs false
set_option maxRecDepth 20000

/-- A use as layer 13 has it. -/
def cv (u : Qs.Us) : Ut := ⟨u.pod, u.rd, u.hs, u.ask, u.use⟩
theorem cv_enc (u : Qs.Us) : encT (cv u) = Qs.enc u := rfl
theorem row_cv {w : World} {q : Option Addr} {s : List Qs.Us} (h : RowR 5 Qs.enc w q s) : RowR 5 encT w q (s.map cv) := by
  intro j x hx
  rw [List.getElem?_map, Option.map_eq_some_iff] at hx
  obtain ⟨y, hy, rfl⟩ := hx
  exact h j y hy
/-- Query's row, as proposal reads it. -/
theorem qrow_cv (W w : World) (low : Below W.heap.size W w) (bb mb n a : Nat) (E : List En) (h : Bk w bb mb n a E) (now : Int) (hn : now ≤ 9223372036854775807) (m : ByteArray) (hm : m.size ≤ maxLen) (q : Option Addr) (c : Nat) (l : List Obv) (hr : RowR 47 encOb W q l) (hok : ∀ x ∈ l, ObjV W x.1.1 x.2 ∧ x.2.name.size ≤ maxLen) (hlen : l.length < 1000000) :
    Calls Try.prog 15 #[.pointer (some ⟨bb, 0, none⟩), .int .i64 now, .string m, .slice q l.length c] w fun e w' => (∃ q' c' k s, e = .returned (.slice q' k c') ∧ Hid (k = (s.map cv).length ∧ k ≤ 1000000 ∧ RowR 5 encT w' q' (s.map cv)) ∧ Hid (Qs.Sorted s ∧ Qs.Same1 (Qy.usesOf now a E m (l.map (·.2))) s)) ∧ Below w.heap.size w w' := by
  refine (Qy.qrow_any W w low bb mb n a E h now hn m hm q c l hr hok hlen).mono ?_
  rintro e w' ⟨⟨q', c', k, rfl, hs⟩, b⟩
  obtain ⟨s, hk, ow, so, sm⟩ := hs.out
  subst hk
  obtain ⟨q2, c2, e2, r2, _⟩ := own_lies Qs.enc_len ow
  simp only [Value.slice.injEq] at e2
  obtain ⟨rfl, _, _⟩ := e2
  refine ⟨⟨q', c', s.length, s, rfl, ⟨by rw [List.length_map], ?_, row_cv r2⟩, so, sm⟩, b⟩
  have e1 := sm.1.length_eq
  have e3 : (Qy.usesOf now a E m (l.map (·.2))).length ≤ l.length := by
    unfold Qy.usesOf
    rw [List.length_map]
    exact Nat.le_trans (List.length_filter_le _ _) (by rw [List.length_map]; exact Nat.le_refl _)
  omega

/-! ### One, Average: told at once -/
def oneA (t v r x : Int) : Int × Int := if rightB t r x = true ∧ okQ v = true then ((oneN t.toNat v.toNat r.toNat x.toNat : Int), 0) else (0, 1)
def avgA (t v r x : Int) : Int × Int := if rightB t r x = true ∧ okQ v = true then ((avgN t.toNat v.toNat r.toNat x.toNat : Int), 0) else (0, 1)
theorem not_both {a b : Bool} (h : ¬ (a = true ∧ b = true)) : a = false ∨ b = false := by cases a <;> cases b <;> simp_all
theorem pp_one (w : World) (k : Int) (s : ByteArray) (t v r x : Int) :
    Calls Try.prog 8 #[.agg (metC k s t), .int .i64 v, .int .i64 r, .int .i64 x] w fun e w' => e = .returned (.tuple #[.int .i64 (oneA t v r x).1, .int .i64 (oneA t v r x).2]) ∧ Below w.heap.size w w' := by
  unfold oneA
  by_cases h : rightB t r x = true ∧ okQ v = true
  · rw [if_pos h]
    obtain ⟨⟨r0, r1⟩, ⟨x0, x1⟩, t0, t1⟩ := rightB_iff.1 h.1
    have h3 : 0 ≤ v ∧ v ≤ 9007199254740992 := of_decide_eq_true h.2
    obtain ⟨t', rfl⟩ : ∃ n : Nat, t = (n : Int) := ⟨t.toNat, by omega⟩
    obtain ⟨v', rfl⟩ : ∃ n : Nat, v = (n : Int) := ⟨v.toNat, by omega⟩
    obtain ⟨r', rfl⟩ : ∃ n : Nat, r = (n : Int) := ⟨r.toNat, by omega⟩
    obtain ⟨x', rfl⟩ : ∃ n : Nat, x = (n : Int) := ⟨x.toNat, by omega⟩
    exact one_ok w k s t' v' r' x' (by omega) (by omega) (by omega) (by omega) (by omega)
  · rw [if_neg h]
    exact one_bad w k s t v r x (not_both h)
theorem pp_avg (w : World) (k : Int) (s : ByteArray) (t v r x : Int) :
    Calls Try.prog 9 #[.agg (metC k s t), .int .i64 v, .int .i64 r, .int .i64 x] w fun e w' => e = .returned (.tuple #[.int .i64 (avgA t v r x).1, .int .i64 (avgA t v r x).2]) ∧ Below w.heap.size w w' := by
  unfold avgA
  by_cases h : rightB t r x = true ∧ okQ v = true
  · rw [if_pos h]
    obtain ⟨⟨r0, r1⟩, ⟨x0, x1⟩, t0, t1⟩ := rightB_iff.1 h.1
    have h3 : 0 ≤ v ∧ v ≤ 9007199254740992 := of_decide_eq_true h.2
    obtain ⟨t', rfl⟩ : ∃ n : Nat, t = (n : Int) := ⟨t.toNat, by omega⟩
    obtain ⟨v', rfl⟩ : ∃ n : Nat, v = (n : Int) := ⟨v.toNat, by omega⟩
    obtain ⟨r', rfl⟩ : ∃ n : Nat, r = (n : Int) := ⟨r.toNat, by omega⟩
    obtain ⟨x', rfl⟩ : ∃ n : Nat, x = (n : Int) := ⟨x.toNat, by omega⟩
    exact avg_ok w k s t' v' r' x' (by omega) (by omega) (by omega) (by omega) (by omega)
  · rw [if_neg h]
    exact avg_bad w k s t v r x (not_both h)

/-! ### Of -/
/-- What Of wants: the book and the pods as they are, at w and behind whatever was called. -/
structure OfH (w : World) (bb : Nat) (now : Int) (a : Nat) (E : List En) (m : ByteArray) (q : Option Addr) (n c : Nat) (U : List Qs.Us) : Prop where
  row : ∀ ws, Below w.heap.size w ws → Calls Try.prog 15 #[.pointer (some ⟨bb, 0, none⟩), .int .i64 now, .string m, .slice q n c] ws fun e w' => (∃ q' c' k s, e = .returned (.slice q' k c') ∧ Hid (k = (s.map cv).length ∧ k ≤ 1000000 ∧ RowR 5 encT w' q' (s.map cv)) ∧ Hid (Qs.Sorted s ∧ Qs.Same1 U s)) ∧ Below ws.heap.size ws w'
  one : ∀ ws, Below w.heap.size w ws → ∀ th : ByteArray, th.size ≤ maxLen → Calls Try.prog 30 #[.pointer (some ⟨bb, 0, none⟩), .int .i64 now, .string th, .string m] ws fun e w' => e = .returned (.tuple #[.int .i64 (freV now a (upto now (smpsOf E (th, m)))), .int .i64 (freE now a (upto now (smpsOf E (th, m))))]) ∧ Below ws.heap.size ws w'
  fresh : ∀ ws, Below w.heap.size w ws → ∀ th : ByteArray, th.size ≤ maxLen → Calls Try.prog 16 #[.pointer (some ⟨bb, 0, none⟩), .int .i64 now, .agg #[.string th, .string m]] ws fun e w' => e = .returned (.tuple #[.int .i64 (freV now a (upto now (smpsOf E (th, m)))), .int .i64 (freE now a (upto now (smpsOf E (th, m))))]) ∧ Below ws.heap.size ws w'
theorem OfH.below {w w' : World} {bb : Nat} {now : Int} {a : Nat} {E : List En} {m : ByteArray} {q : Option Addr} {n c : Nat} {U : List Qs.Us} (h : OfH w bb now a E m q n c U) (b : Below w.heap.size w w') : OfH w' bb now a E m q n c U :=
  ⟨fun ws bs => h.row ws (b.trans (bs.mono b.size)), fun ws bs => h.one ws (b.trans (bs.mono b.size)), fun ws bs => h.fresh ws (b.trans (bs.mono b.size))⟩
theorem OfH.mk_ (W w : World) (low : Below W.heap.size W w) (bb mb n a : Nat) (E : List En) (h : Bk w bb mb n a E) (now : Int) (hn : now ≤ 9223372036854775807) (m : ByteArray) (hm : m.size ≤ maxLen) (q : Option Addr) (c : Nat) (l : List Obv) (hr : RowR 47 encOb W q l) (hok : ∀ x ∈ l, ObjV W x.1.1 x.2 ∧ x.2.name.size ≤ maxLen) (hlen : l.length < 1000000) :
    OfH w bb now a E m q l.length c (Qy.usesOf now a E m (l.map (·.2))) :=
  ⟨fun ws b => qrow_cv W ws (low.trans (b.mono low.size)) bb mb n a E (h.gr b) now hn m hm q c l hr hok hlen,
   fun ws b th ht => Qy.one_any ws bb mb n a E (h.gr b) now (th, m) ⟨ht, hm⟩ hn,
   fun ws b th ht => fresh_any ws bb mb n a E (h.gr b) now (th, m) ⟨ht, hm⟩ hn⟩
/-- An answer that isn't, if there is an error. -/
def orE (e : Int) (p : Int × Int) : Int × Int := if e = 0 then p else (0, e)

section
variable (w : World) (bb : Nat) (now : Int) (a : Nat) (E : List En) (m : ByteArray) (q : Option Addr) (n c : Nat) (U : List Qs.Us) (h : OfH w bb now a E m q n c U) (k t r x : Int) (tg : ByteArray)
include h
set_option maxHeartbeats 8000000 in
theorem of_row (hk : k = 0 ∨ k = 1) :
    Calls Try.prog 13 #[.pointer (some ⟨bb, 0, none⟩), .agg (metC k m t), .int .i64 now, .string tg, .slice q n c, .int .i64 r, .int .i64 x] w fun e w' => (∃ s, Hid (Qs.Sorted s ∧ Qs.Same1 U s) ∧ e = .returned (.tuple #[.int .i64 (rowA k t (s.map cv) r x).1, .int .i64 (rowA k t (s.map cv) r x).2])) ∧ Below w.heap.size w w' := by
  have mixed : Try.prog.follows .mixedOrders = true := by kernel_rfl
  obtain ⟨M, hM⟩ : ∃ M, M = metC k m t := ⟨_, rfl⟩
  have sM : M.size = 3 := by rw [hM]; rfl
  obtain ⟨w1, B, HW, Ba, y0⟩ := box1 w M
  have c0 : w1.cell? ⟨B, 0, none⟩ = some (.int .i64 k) := (cell_of_block y0 0).trans (by rw [hM]; rfl)
  have CR : Hid (∀ ws q2 c2 k2 (s : List Qs.Us), k2 = (s.map cv).length → k2 ≤ 1000000 → RowR 5 encT ws q2 (s.map cv) → Calls Try.prog 14 #[.agg M, .slice q2 k2 c2, .int .i64 r, .int .i64 x] ws fun e w' => e = .returned (.tuple #[.int .i64 (rowA k t (s.map cv) r x).1, .int .i64 (rowA k t (s.map cv) r x).2]) ∧ Below ws.heap.size ws w') := fun ws q2 c2 k2 s e1 e2 hr => by
    rw [hM, e1]
    exact pp_row ws k m t r x q2 c2 (s.map cv) hr (by omega)
  have CQ : Hid (∀ ws, Below w1.heap.size w1 ws → Calls Try.prog 15 #[.pointer (some ⟨bb, 0, none⟩), .int .i64 now, .string m, .slice q n c] ws fun e w' => (∃ q' c' k s, e = .returned (.slice q' k c') ∧ Hid (k = (s.map cv).length ∧ k ≤ 1000000 ∧ RowR 5 encT w' q' (s.map cv)) ∧ Hid (Qs.Sorted s ∧ Qs.Same1 U s)) ∧ Below ws.heap.size ws w') := fun ws b => h.row ws (Ba.trans (b.mono Ba.size))
  have KM : Hid (∀ ws : World, Below w1.heap.size w1 ws → ws.rangeAt B 0 M.toList) := fun ws b => ld_range ((b.block B (Array.getElem?_eq_some_iff.1 y0).1).trans y0)
  have KC : Hid (∀ ws : World, Below w1.heap.size w1 ws → ws.cell? ⟨B, 1, none⟩ = some (.string m)) := fun ws b => (cell_of_block ((b.block B (Array.getElem?_eq_some_iff.1 y0).1).trans y0) 1).trans (by rw [hM]; rfl)
  have iM : (Try.prog.info? MT).map (·.size) = some M.toList.length := by rw [Array.length_toList, sM]; kernel_rfl
  have HBa := Lib.hid Ba
  rw [← hM]
  clear h hM sM y0 Ba
  have WAY : ∀ (V : World → Prop), True := fun _ => trivial
  rcases hk with hk | hk
  all_goals
    rw [hk] at c0
    clear hk
    go_enter Try.func13, Try.ntmps13
    go_upto_region 1 with fail
    rw [HW.out.1, HW.out.2]
    go_upto_region 4 with fail
    refine wp_region_held_drew (S := fun ws => Below w1.heap.size w1 ws) mixed (Below.refl _ w1).drew (fun hS => ?_)
    refine wpAnyH_takeD (i := 0) (d := 25) (v := .agg M.toList.toArray) _ rfl rfl (by kernel_rfl) (by kernel_rfl) (by kernel_rfl) (fun _ _ _ h => h) (yieldsIf_load_mid (by kernel_rfl) _ _ rfl B 0 (by kernel_rfl) M.toList _ (fun ws hSw => KM.out ws hSw) Try.underlying24 rfl iM) hS ?_
    simp only [Act.put, List.setIfInBounds_toArray, List.set_cons_zero, List.set_cons_succ]
    refine wpAnyH_takeD (i := 1) (d := 26) (v := .pointer (some ⟨bb, 0, none⟩)) _ rfl rfl (by kernel_rfl) (by kernel_rfl) (by kernel_rfl) (fun _ _ _ h => h) (Or.inl ⟨by kernel_rfl, fun ws hSw => by first | (go_simp; done) | (go_simp; with_reducible rfl) | (go_simp; rfl)⟩) hS ?_
    simp only [Act.put, List.setIfInBounds_toArray, List.set_cons_zero, List.set_cons_succ]
    refine wpAnyH_takeD (i := 2) (d := 27) (v := .int .i64 now) _ rfl rfl (by kernel_rfl) (by kernel_rfl) (by kernel_rfl) (fun _ _ _ h => h) (Or.inl ⟨by kernel_rfl, fun ws hSw => by first | (go_simp; done) | (go_simp; with_reducible rfl) | (go_simp; rfl)⟩) hS ?_
    simp only [Act.put, List.setIfInBounds_toArray, List.set_cons_zero, List.set_cons_succ]
    refine wpAnyH_takeD (i := 3) (d := 28) (v := .pointer (some ⟨B, 1, none⟩)) _ rfl rfl (by kernel_rfl) (by kernel_rfl) (by kernel_rfl) (fun _ _ _ h => h) (Or.inl ⟨by kernel_rfl, fun ws hSw => by first | (go_simp; done) | (go_simp; with_reducible rfl) | (go_simp; rfl)⟩) hS ?_
    simp only [Act.put, List.setIfInBounds_toArray, List.set_cons_zero, List.set_cons_succ]
    refine wpAnyH_takeD (i := 4) (d := 29) (v := .string m) _ rfl rfl (by kernel_rfl) (by kernel_rfl) (by kernel_rfl) (fun _ _ _ h => h) (Or.inl ⟨by kernel_rfl, fun ws hSw => by have q := KC.out ws hSw; first | (go_simp; done) | (go_simp; with_reducible rfl) | (go_simp; rfl)⟩) hS ?_
    simp only [Act.put, List.setIfInBounds_toArray, List.set_cons_zero, List.set_cons_succ]
    refine wpAnyH_takeD (i := 5) (d := 30) (v := .slice q n c) _ rfl rfl (by kernel_rfl) (by kernel_rfl) (by kernel_rfl) (fun _ _ _ h => h) (Or.inl ⟨by kernel_rfl, fun ws hSw => by first | (go_simp; done) | (go_simp; with_reducible rfl) | (go_simp; rfl)⟩) hS ?_
    simp only [Act.put, List.setIfInBounds_toArray, List.set_cons_zero, List.set_cons_succ]
    refine wpAnyH_takeD (i := 7) (d := 32) (v := .int .i64 r) _ rfl rfl (by kernel_rfl) (by kernel_rfl) (by kernel_rfl) (fun _ _ _ h => h) (Or.inl ⟨by kernel_rfl, fun ws hSw => by first | (go_simp; done) | (go_simp; with_reducible rfl) | (go_simp; rfl)⟩) hS ?_
    simp only [Act.put, List.setIfInBounds_toArray, List.set_cons_zero, List.set_cons_succ]
    refine wpAnyH_takeD (i := 8) (d := 33) (v := .int .i64 x) _ rfl rfl (by kernel_rfl) (by kernel_rfl) (by kernel_rfl) (fun _ _ _ h => h) (Or.inl ⟨by kernel_rfl, fun ws hSw => by first | (go_simp; done) | (go_simp; with_reducible rfl) | (go_simp; rfl)⟩) hS ?_
    simp only [Act.put, List.setIfInBounds_toArray, List.set_cons_zero, List.set_cons_succ]
    refine wpAnyH_ready (rs := [6]) (by kernel_rfl) (by simp) ?_
    refine AllReadyH.cons rfl (fun K hK => ?_) AllReadyH.nil
    go_simp
    refine (CQ.out _ (Below.refl _ w1).drew).mono ?_
    rintro e w2 ⟨⟨q2, c2, k2, s, rfl, HS, HO⟩, b2⟩
    have b12 : Below w1.heap.size w1 w2 := (Below.refl _ w1).drew.trans b2
    have CX := Lib.hid (CR.out w2 q2 c2 k2 s HS.out.1 HS.out.2.1 HS.out.2.2)
    have B12 := Lib.hid b12
    refine hK _ _ b12 (fun hS => ?_)
    clear b12 b2
    try simp only [Act.put, List.setIfInBounds_toArray, List.set_cons_zero, List.set_cons_succ]
    obtain ⟨rv, hrv⟩ : ∃ v, v = (rowA k t (s.map cv) r x).1 := ⟨_, rfl⟩
    obtain ⟨re, hre⟩ : ∃ v, v = (rowA k t (s.map cv) r x).2 := ⟨_, rfl⟩
    rw [← hrv, ← hre] at CX
    have HE := Lib.hid (And.intro hrv hre)
    clear hrv hre
    refine wpAnyH_ready (rs := [9]) (by kernel_rfl) (by simp) ?_
    refine AllReadyH.cons rfl (fun K hK => ?_) AllReadyH.nil
    go_simp
    refine CX.out.mono ?_
    rintro e w3 ⟨rfl, b3⟩
    have b13 : Below w1.heap.size w1 w3 := B12.out.trans (b3.mono B12.out.size)
    have FIN := Lib.hid (HBa.out.trans (b13.mono HBa.out.size))
    refine hK _ _ b13 (fun hS => ?_)
    clear b13 b3
    try simp only [Act.put, List.setIfInBounds_toArray, List.set_cons_zero, List.set_cons_succ]
    refine wpAnyH_takeD (i := 10) (d := 35) (v := .int .i64 rv) _ rfl rfl (by kernel_rfl) (by kernel_rfl) (by kernel_rfl) (fun _ _ _ h => h) (Or.inl ⟨by kernel_rfl, fun ws hSw => by first | (go_simp; done) | (go_simp; with_reducible rfl) | (go_simp; rfl)⟩) hS ?_
    simp only [Act.put, List.setIfInBounds_toArray, List.set_cons_zero, List.set_cons_succ]
    refine wpAnyH_takeD (i := 11) (d := 36) (v := .int .i64 re) _ rfl rfl (by kernel_rfl) (by kernel_rfl) (by kernel_rfl) (fun _ _ _ h => h) (Or.inl ⟨by kernel_rfl, fun ws hSw => by first | (go_simp; done) | (go_simp; with_reducible rfl) | (go_simp; rfl)⟩) hS ?_
    simp only [Act.put, List.setIfInBounds_toArray, List.set_cons_zero, List.set_cons_succ]
    refine wpAnyH_takeD (i := 12) (d := 14) (v := .int .i64 rv) _ rfl rfl (by kernel_rfl) (by kernel_rfl) (by kernel_rfl) (fun _ _ _ h => h) (Or.inl ⟨by kernel_rfl, fun ws hSw => by first | (go_simp; done) | (go_simp; with_reducible rfl) | (go_simp; rfl)⟩) hS ?_
    simp only [Act.put, List.setIfInBounds_toArray, List.set_cons_zero, List.set_cons_succ]
    refine wpAnyH_takeD (i := 13) (d := 15) (v := .int .i64 re) _ rfl rfl (by kernel_rfl) (by kernel_rfl) (by kernel_rfl) (fun _ _ _ h => h) (Or.inl ⟨by kernel_rfl, fun ws hSw => by first | (go_simp; done) | (go_simp; with_reducible rfl) | (go_simp; rfl)⟩) hS ?_
    simp only [Act.put, List.setIfInBounds_toArray, List.set_cons_zero, List.set_cons_succ]
    refine wpAnyH_done (by kernel_rfl) ?_ _
    clear CX CQ CR KM KC B12 HBa hS
    go_wp2
    go_ret2
    exact ⟨⟨s, HO, by rw [← HE.out.1, ← HE.out.2]; rfl⟩, FIN.out⟩

set_option maxHeartbeats 8000000 in
theorem of_obj (hk : k = 2) (ht : tg.size ≤ maxLen) :
    Calls Try.prog 13 #[.pointer (some ⟨bb, 0, none⟩), .agg (metC k m t), .int .i64 now, .string tg, .slice q n c, .int .i64 r, .int .i64 x] w fun e w' => e = .returned (.tuple #[.int .i64 (orE (freE now a (upto now (smpsOf E (tg, m)))) (oneA t (freV now a (upto now (smpsOf E (tg, m)))) r x)).1, .int .i64 (orE (freE now a (upto now (smpsOf E (tg, m)))) (oneA t (freV now a (upto now (smpsOf E (tg, m)))) r x)).2]) ∧ Below w.heap.size w w' := by
  obtain ⟨M, hM⟩ : ∃ M, M = metC k m t := ⟨_, rfl⟩
  have sM : M.size = 3 := by rw [hM]; rfl
  obtain ⟨w1, B, HW, Ba, y0⟩ := box1 w M
  have c0 : w1.cell? ⟨B, 0, none⟩ = some (.int .i64 2) := (cell_of_block y0 0).trans (by rw [hM, hk]; rfl)
  have c1 : w1.cell? ⟨B, 1, none⟩ = some (.string m) := (cell_of_block y0 1).trans (by rw [hM]; rfl)
  have CQ := Lib.hid (h.one w1 Ba tg ht)
  obtain ⟨fv, hfv⟩ : ∃ v, v = freV now a (upto now (smpsOf E (tg, m))) := ⟨_, rfl⟩
  obtain ⟨fe, hfe⟩ : ∃ v, v = freE now a (upto now (smpsOf E (tg, m))) := ⟨_, rfl⟩
  rw [← hfv, ← hfe] at CQ
  rw [← hfv, ← hfe]
  have CO : Hid (∀ ws, Calls Try.prog 8 #[.agg M, .int .i64 fv, .int .i64 r, .int .i64 x] ws fun e w' => e = .returned (.tuple #[.int .i64 (oneA t fv r x).1, .int .i64 (oneA t fv r x).2]) ∧ Below ws.heap.size ws w') := fun ws => by rw [hM]; exact pp_one ws k m t fv r x
  have LMa : Hid (∀ w, Below w1.heap.size w1 w → (Instr.loadAt MT (.pointer (some ⟨B, 0, none⟩))).run Try.prog w = .ok (.agg M) w) := fun w b => load_met ((b.block B (Array.getElem?_eq_some_iff.1 y0).1).trans y0) sM
  have HBa := Lib.hid Ba
  have HO : Hid (∀ p, orE fe p = if fe = 0 then p else (0, fe)) := fun p => rfl
  rw [← hM]
  generalize oneA t fv r x = OA at CO ⊢
  have HV : Hid (fe = 0 → (orE fe OA).1 = OA.1 ∧ (orE fe OA).2 = OA.2) := fun e => by rw [HO.out, if_pos e]; exact ⟨rfl, rfl⟩
  have HX : Hid (fe ≠ 0 → (orE fe OA).1 = 0 ∧ (orE fe OA).2 = fe) := fun e => by rw [HO.out, if_neg e]; exact ⟨rfl, rfl⟩
  generalize (orE fe OA).1 = rv at HV HX ⊢
  generalize (orE fe OA).2 = re at HV HX ⊢
  generalize OA.1 = o1 at CO HV
  generalize OA.2 = o2 at CO HV
  clear h hM sM y0 Ba hk HO hfv hfe OA
  go_enter Try.func13, Try.ntmps13
  go_upto_region 1 with fail
  rw [HW.out.1, HW.out.2]
  go_wp2_with fail
  refine CQ.out.mono ?_
  rintro e w2 ⟨rfl, b2⟩
  have B2 := Lib.hid b2
  have LM := Lib.hid (LMa.out w2 b2)
  clear b2 CQ LMa
  by_cases h0 : fe = 0
  · have HV2 := Lib.hid (HV.out h0)
    subst h0
    clear HV HX
    go_wp2_with (refine wpList_load_by (by kernel_rfl) MT _ rfl (.pointer (some ⟨B, 0, none⟩)) (.agg M) (by rfl) LM.out ?_)
    refine (CO.out _).mono ?_
    rintro e w3 ⟨rfl, b3⟩
    have b13 : Below w1.heap.size w1 w3 := B2.out.trans (b3.mono B2.out.size)
    have FIN := Lib.hid (HBa.out.trans (b13.mono HBa.out.size))
    clear b13 b3 CO LM B2 HBa
    go_wp2
    go_ret2
    exact ⟨by rw [HV2.out.1, HV2.out.2]; rfl, FIN.out⟩
  · have HX2 := Lib.hid (HX.out h0)
    have t0 : (fe == 0) = false := by simpa using h0
    have t1 : (fe != 0) = true := by simpa using h0
    have FIN := Lib.hid (HBa.out.trans (B2.out.mono HBa.out.size))
    clear HV HX LM CO B2 HBa
    go_wp2
    go_ret2
    exact ⟨by rw [HX2.out.1, HX2.out.2]; rfl, FIN.out⟩
def exT : ByteArray := { data := #[101, 120, 116, 101, 114, 110, 97, 108] }
set_option maxHeartbeats 8000000 in
theorem of_ext (hk : k = 3) :
    Calls Try.prog 13 #[.pointer (some ⟨bb, 0, none⟩), .agg (metC k m t), .int .i64 now, .string tg, .slice q n c, .int .i64 r, .int .i64 x] w fun e w' => e = .returned (.tuple #[.int .i64 (orE (freE now a (upto now (smpsOf E (exT, m)))) (avgA t (freV now a (upto now (smpsOf E (exT, m)))) r x)).1, .int .i64 (orE (freE now a (upto now (smpsOf E (exT, m)))) (avgA t (freV now a (upto now (smpsOf E (exT, m)))) r x)).2]) ∧ Below w.heap.size w w' := by
  obtain ⟨M, hM⟩ : ∃ M, M = metC k m t := ⟨_, rfl⟩
  have sM : M.size = 3 := by rw [hM]; rfl
  obtain ⟨w1, B, HW, Ba, y0⟩ := box1 w M
  have c0 : w1.cell? ⟨B, 0, none⟩ = some (.int .i64 3) := (cell_of_block y0 0).trans (by rw [hM, hk]; rfl)
  have c1 : w1.cell? ⟨B, 1, none⟩ = some (.string m) := (cell_of_block y0 1).trans (by rw [hM]; rfl)
  have CQ0 := h.one w1 Ba exT (by decide)
  obtain ⟨fv, hfv⟩ : ∃ v, v = freV now a (upto now (smpsOf E (exT, m))) := ⟨_, rfl⟩
  obtain ⟨fe, hfe⟩ : ∃ v, v = freE now a (upto now (smpsOf E (exT, m))) := ⟨_, rfl⟩
  rw [← hfv, ← hfe] at CQ0
  rw [← hfv, ← hfe]
  have CQ : Hid (Calls Try.prog 30 #[.pointer (some ⟨bb, 0, none⟩), .int .i64 now, .string { data := #[101, 120, 116, 101, 114, 110, 97, 108] }, .string m] w1 fun e w' => e = .returned (.tuple #[.int .i64 fv, .int .i64 fe]) ∧ Below w1.heap.size w1 w') := CQ0
  have CO : Hid (∀ ws, Calls Try.prog 9 #[.agg M, .int .i64 fv, .int .i64 r, .int .i64 x] ws fun e w' => e = .returned (.tuple #[.int .i64 (avgA t fv r x).1, .int .i64 (avgA t fv r x).2]) ∧ Below ws.heap.size ws w') := fun ws => by rw [hM]; exact pp_avg ws k m t fv r x
  have LMa : Hid (∀ w, Below w1.heap.size w1 w → (Instr.loadAt MT (.pointer (some ⟨B, 0, none⟩))).run Try.prog w = .ok (.agg M) w) := fun w b => load_met ((b.block B (Array.getElem?_eq_some_iff.1 y0).1).trans y0) sM
  have HBa := Lib.hid Ba
  have HO : Hid (∀ p, orE fe p = if fe = 0 then p else (0, fe)) := fun p => rfl
  rw [← hM]
  generalize avgA t fv r x = OA at CO ⊢
  have HV : Hid (fe = 0 → (orE fe OA).1 = OA.1 ∧ (orE fe OA).2 = OA.2) := fun e => by rw [HO.out, if_pos e]; exact ⟨rfl, rfl⟩
  have HX : Hid (fe ≠ 0 → (orE fe OA).1 = 0 ∧ (orE fe OA).2 = fe) := fun e => by rw [HO.out, if_neg e]; exact ⟨rfl, rfl⟩
  generalize (orE fe OA).1 = rv at HV HX ⊢
  generalize (orE fe OA).2 = re at HV HX ⊢
  generalize OA.1 = o1 at CO HV
  generalize OA.2 = o2 at CO HV
  clear h hM sM y0 Ba hk HO hfv hfe OA CQ0
  go_enter Try.func13, Try.ntmps13
  go_upto_region 1 with fail
  rw [HW.out.1, HW.out.2]
  go_wp2_with fail
  refine CQ.out.mono ?_
  rintro e w2 ⟨rfl, b2⟩
  have B2 := Lib.hid b2
  have LM := Lib.hid (LMa.out w2 b2)
  clear b2 CQ LMa
  by_cases h0 : fe = 0
  · have HV2 := Lib.hid (HV.out h0)
    subst h0
    clear HV HX
    go_wp2_with (refine wpList_load_by (by kernel_rfl) MT _ rfl (.pointer (some ⟨B, 0, none⟩)) (.agg M) (by rfl) LM.out ?_)
    refine (CO.out _).mono ?_
    rintro e w3 ⟨rfl, b3⟩
    have b13 : Below w1.heap.size w1 w3 := B2.out.trans (b3.mono B2.out.size)
    have FIN := Lib.hid (HBa.out.trans (b13.mono HBa.out.size))
    clear b13 b3 CO LM B2 HBa
    go_wp2
    go_ret2
    exact ⟨by rw [HV2.out.1, HV2.out.2]; rfl, FIN.out⟩
  · have HX2 := Lib.hid (HX.out h0)
    have t0 : (fe == 0) = false := by simpa using h0
    have t1 : (fe != 0) = true := by simpa using h0
    have FIN := Lib.hid (HBa.out.trans (B2.out.mono HBa.out.size))
    clear HV HX LM CO B2 HBa
    go_wp2
    go_ret2
    exact ⟨by rw [HX2.out.1, HX2.out.2]; rfl, FIN.out⟩
omit h in
set_option maxHeartbeats 8000000 in
theorem of_none (h0 : k ≠ 0) (h1 : k ≠ 1) (h2 : k ≠ 2) (h3 : k ≠ 3) (V : Value) :
    Calls Try.prog 13 #[V, .agg (metC k m t), .int .i64 now, .string tg, .slice q n c, .int .i64 r, .int .i64 x] w fun e w' => e = .returned (.tuple #[.int .i64 0, .int .i64 17]) ∧ Below w.heap.size w w' := by
  obtain ⟨M, hM⟩ : ∃ M, M = metC k m t := ⟨_, rfl⟩
  obtain ⟨w1, B, HW, Ba, y0⟩ := box1 w M
  have c0 : w1.cell? ⟨B, 0, none⟩ = some (.int .i64 k) := (cell_of_block y0 0).trans (by rw [hM]; rfl)
  have t0 : (k == 0) = false := by simpa using h0
  have t1 : (k == 1) = false := by simpa using h1
  have t2 : (k == 2) = false := by simpa using h2
  have t3 : (k == 3) = false := by simpa using h3
  have HBa := Lib.hid Ba
  rw [← hM]
  clear hM y0 Ba h0 h1 h2 h3
  go_enter Try.func13, Try.ntmps13
  go_upto_region 1 with fail
  rw [HW.out.1, HW.out.2]
  go_wp2
  go_ret2
  exact ⟨rfl, HBa.out⟩
end
end Go.Proofs.Ytajkhbdniadkkaa.Pp
/- Layer 20: what comes in: a metric, a row of uses, a row of numbers. -/
namespace Go.Proofs.Ytajkhbdniadkkaa.Pp
open Go.ChangeShapes Go.WideShapes Go.ChangeAt Go.RowKit Go.Deep Go.Lib Go.Shelf
open Go.Joins (cell_of_block unfrozen_of_block block_setCell)
open Go.Proofs.Ytajkhbdniadkkaa.Ow
set_option linter.unusedVariables false
set_option maxRecDepth 20000

theorem open_met {H : Type} {enc : TypeId × Value → H} {W : World} {base : Nat} {v : Value} {d : DataW H} {p : List MemPlace} (o : Value.okWide Try.prog W .any base 24 v)
    (h : DataW.Trod enc Try.prog W 0 (fun _ => true) true 24 v d p) (wt : Wt 24 d) : ∃ k s t, v = .agg (metC k s t) ∧ I64 k ∧ ftT s = true ∧ I64 t := by
  have c3 : Try.prog.cellsOf 24 = 3 := by kernel_rfl
  obtain ⟨cs, rfl, hs⟩ := okWide_struct Try.underlying24 o
  obtain ⟨fuel, hf⟩ := h
  have hf : DataW.trod enc Try.prog W 0 (fun _ => true) true fuel 24 cs.toList = some (d, p) := hf
  rw [c3] at hs
  obtain ⟨n0, y0, t0, z0⟩ := fld (F := 3) (off := 0) (k := 1) 0 Try.underlying24 (by kernel_rfl) hf wt
  obtain ⟨v0, a0, w0⟩ := leaf_i Try.underlying3 t0
  obtain ⟨n1, y1, t1, z1⟩ := fld (F := 9) (off := 1) (k := 1) 1 Try.underlying24 (by kernel_rfl) hf wt
  obtain ⟨v1, a1, w1⟩ := leaf_s Try.underlying9 t1 z1
  obtain ⟨n2, y2, t2, z2⟩ := fld (F := 22) (off := 2) (k := 1) 2 Try.underlying24 (by kernel_rfl) hf wt
  obtain ⟨v2, a2, w2⟩ := leaf_i Try.underlying22 t2
  refine ⟨v0, v1, v2, ?_, w0, w1, w2⟩
  obtain ⟨l⟩ := cs
  match l, hs with
  | [a, b, c], _ =>
    simp at a0 a1 a2
    subst a0 a1 a2
    rfl
instance : Inhabited Ut := ⟨⟨⟨#[]⟩, false, false, 0, 0⟩⟩
def okUt (x : Ut) : Prop := ftT x.pod = true ∧ I64 x.ask ∧ I64 x.use
theorem open_uts {H : Type} {enc : TypeId × Value → H} {W : World} {base : Nat} {v : Value} {d : DataW H} {p : List MemPlace} (ok : Value.okWide Try.prog W .any base 38 v)
    (h : DataW.Trod enc Try.prog W 0 (fun _ => true) true 38 v d p) (wt : Wt 38 d) : ∃ q c l, v = .slice q l.length c ∧ RowR 5 encT W q l ∧ (∀ x ∈ l, okUt x) ∧ l.length ≤ 140737488351232 := by
  obtain ⟨a0, len, cap, rfl⟩ := okWide_slice Try.underlying38 ok
  obtain ⟨fuel, hf⟩ := h
  have hf : DataW.trod enc Try.prog W 0 (fun _ => true) true fuel 38 (([Value.slice a0 len cap].drop 0).take 1) = some (d, p) := hf
  obtain ⟨l, ⟨q, c, h1, h2⟩, h3, h4⟩ := open_rowG (k := 5) encT okUt Try.underlying38 (by kernel_rfl) (by decide) (of_decide_eq_true (by kernel_rfl)) (fun n cs y h wt => by
    obtain ⟨n0, y0, t0, z0⟩ := fld (F := 9) (off := 0) (k := 1) 0 Try.underlying52 (by kernel_rfl) h wt
    obtain ⟨v0, a0, w0⟩ := leaf_s Try.underlying9 t0 z0
    obtain ⟨n1, y1, t1, z1⟩ := fld (F := 4) (off := 1) (k := 1) 1 Try.underlying52 (by kernel_rfl) h wt
    obtain ⟨v1, a1, _⟩ := leaf_b Try.underlying4 t1
    obtain ⟨n2, y2, t2, z2⟩ := fld (F := 4) (off := 2) (k := 1) 2 Try.underlying52 (by kernel_rfl) h wt
    obtain ⟨v2, a2, _⟩ := leaf_b Try.underlying4 t2
    obtain ⟨n3, y3, t3, z3⟩ := fld (F := 22) (off := 3) (k := 1) 3 Try.underlying52 (by kernel_rfl) h wt
    obtain ⟨v3, a3, w3⟩ := leaf_i Try.underlying22 t3
    obtain ⟨n4, y4, t4, z4⟩ := fld (F := 22) (off := 4) (k := 1) 4 Try.underlying52 (by kernel_rfl) h wt
    obtain ⟨v4, a4, w4⟩ := leaf_i Try.underlying22 t4
    refine ⟨⟨v0, v1, v2, v3, v4⟩, fun t v hv => ?_, w0, w3, w4⟩
    match t, hv with
    | 0, hv => cases hv; exact a0
    | 1, hv => cases hv; exact a1
    | 2, hv => cases hv; exact a2
    | 3, hv => cases hv; exact a3
    | 4, hv => cases hv; exact a4) hf wt
  simp at h1
  obtain ⟨rfl, rfl, rfl⟩ := h1
  exact ⟨a0, cap, l, rfl, h2, h3, h4⟩
def encN (z : Int) : List Value := [.int .i64 z]
theorem open_nums {H : Type} {enc : TypeId × Value → H} {W : World} {base : Nat} {v : Value} {d : DataW H} {p : List MemPlace} (ok : Value.okWide Try.prog W .any base 45 v)
    (h : DataW.Trod enc Try.prog W 0 (fun _ => true) true 45 v d p) (wt : Wt 45 d) : ∃ q c l, v = .slice q l.length c ∧ RowR 1 encN W q l ∧ (∀ x ∈ l, I64 x) ∧ l.length ≤ 140737488351232 := by
  obtain ⟨a0, len, cap, rfl⟩ := okWide_slice Try.underlying45 ok
  obtain ⟨fuel, hf⟩ := h
  have hf : DataW.trod enc Try.prog W 0 (fun _ => true) true fuel 45 (([Value.slice a0 len cap].drop 0).take 1) = some (d, p) := hf
  obtain ⟨l, ⟨q, c, h1, h2⟩, h3, h4⟩ := open_rowG (k := 1) encN I64 Try.underlying45 (by kernel_rfl) (by decide) (of_decide_eq_true (by kernel_rfl)) (fun n cs y h wt => by
    obtain ⟨z, hz, _, wf⟩ := DataW.trod_int Try.underlying3 h
    exact ⟨z, fun t v hv => by rw [hz]; exact hv, wf_i64 wf⟩) hf wt
  simp at h1
  obtain ⟨rfl, rfl, rfl⟩ := h1
  exact ⟨a0, cap, l, rfl, h2, h3, h4⟩
theorem open_errs {H : Type} {enc : TypeId × Value → H} {W : World} {base : Nat} {v : Value} {d : DataW H} {p : List MemPlace} (ok : Value.okWide Try.prog W .any base 46 v)
    (h : DataW.Trod enc Try.prog W 0 (fun _ => true) true 46 v d p) (wt : Wt 46 d) : ∃ q c l, v = .slice q l.length c ∧ RowR 1 encN W q l ∧ (∀ x ∈ l, I64 x) ∧ l.length ≤ 140737488351232 := by
  obtain ⟨a0, len, cap, rfl⟩ := okWide_slice Try.underlying46 ok
  obtain ⟨fuel, hf⟩ := h
  have hf : DataW.trod enc Try.prog W 0 (fun _ => true) true fuel 46 (([Value.slice a0 len cap].drop 0).take 1) = some (d, p) := hf
  obtain ⟨l, ⟨q, c, h1, h2⟩, h3, h4⟩ := open_rowG (k := 1) encN I64 Try.underlying46 (by kernel_rfl) (by decide) (of_decide_eq_true (by kernel_rfl)) (fun n cs y h wt => by
    obtain ⟨z, hz, _, wf⟩ := DataW.trod_int Try.underlying26 h
    exact ⟨z, fun t v hv => by rw [hz]; exact hv, wf_i64 wf⟩) hf wt
  simp at h1
  obtain ⟨rfl, rfl, rfl⟩ := h1
  exact ⟨a0, cap, l, rfl, h2, h3, h4⟩
end Go.Proofs.Ytajkhbdniadkkaa.Pp
/- The last step of a law over plain arguments: what was there before the call reads as it did, if nothing below the heap's old end has turned. -/
namespace Go.Proofs.Ytajkhbdniadkkaa
open Go.RowKit Go.WideShapes Go.ChangeShapes

theorem post_below {H : Type} {enc : TypeId × Value → H} {P : Program} {f : Func} {s : ChangeSpec} {apart fresh handsOn again : Bool} {W W' : World} {args : Array Value} {v : Value} {ds gs : List (DataW H)} {before : List MemPlace}
    (hW : DataW.Whole enc P f.params.toList s.vars apart W args.toList ds gs before) (hb : Below W.heap.size W W')
    (hres : ∀ (b : Nat) (sp : Nat → Bool) (hd : Bool), DataW.TrodAll enc P W' b sp hd f.resultTypes.toList (v.resultList f.resultTypes.size) (s.fn H (ds ++ gs)).results [])
    (hargs : ∀ sp : Nat → Bool, (∀ p ∈ before, sp p.block = true) → DataW.TrodAll enc P W' 0 sp true f.params.toList args.toList (s.fn H (ds ++ gs)).args before)
    (hvars : ∀ sp : Nat → Bool, DataW.TrodVars enc P W' sp s.vars (s.fn H (ds ++ gs)).vars [])
    (hok : ∀ (j : Nat) (t : TypeId) (r : Value), f.resultTypes[j]? = some t → (v.resultList f.resultTypes.size)[j]? = some r → Value.okWide P W' .any 0 t r) :
    s.post enc P f apart fresh handsOn again W args v W' := by
  have hsp : ∀ p ∈ before, (fun b => decide (b < W.heap.size)) p.block = true := fun p hp => by simpa using hW.lt p hp
  refine ⟨ds, gs, before, [], before, [], hW, hres _ _ _, hargs _ hsp, hvars _, World.keptBut_mono (fun p hp => ⟨hp, .inr (.inl hp)⟩) (hb.frame (· ∈ before)), fun _ => ?_⟩
  have hlt : ∀ p ∈ before, p.block < W.heap.size := fun p hp => hW.lt p hp
  obtain ⟨_, _, _, _, _, hz, hn⟩ := hW
  refine ⟨hok, _, _, ([] ++ before) ++ [], ⟨[] ++ before, [], trodAll_append (hargs _ (fun _ _ => rfl)) (hres _ _ _), hvars _, rfl, fun b off hp => ?_, fun ha => by simpa using hn ha⟩, fun p hp _ => by simpa using hp⟩
  have hin : MemPlace.cell b off ∈ before := by simpa using hp
  rw [hb.frozen (hlt _ hin)]
  exact hz b off hin

/-- A number of 64 bits as a natural one. -/
theorem nat_of_wf {a : Int} (h : (Lit.int .u64 a).wf = true) : ∃ n : Nat, a = (n : Int) ∧ n < 18446744073709551616 := by
  have h2 : 0 ≤ a ∧ a < 18446744073709551616 := by
    simp [Lit.wf, IntKind.min, IntKind.max, IntKind.signed, IntKind.bits] at h
    omega
  exact ⟨a.toNat, by omega, by omega⟩
end Go.Proofs.Ytajkhbdniadkkaa
/- Arguments that nobody turned read again as they did: the last step of a law over arguments of whatever shape. -/
namespace Go.Proofs.Ytajkhbdniadkkaa
open Go.RowKit Go.WideShapes Go.ChangeShapes

theorem all_again {H : Type} {enc : TypeId × Value → H} {P : Program} (hl : laidOutB P = true) {W W' : World} (hb : Below W.heap.size W W') {sp : Nat → Bool} :
    ∀ (ts : List TypeId) (vs : List Value) (ds : List (DataW H)) (ps : List MemPlace), (∀ t ∈ ts, P.readableRec t = true ∧ t < P.types.size) →
      DataW.TrodAll enc P W 0 (fun _ => true) true ts vs ds ps → (∀ p ∈ ps, p.block < W.heap.size) → (∀ p ∈ ps, sp p.block = true) → DataW.TrodAll enc P W' 0 sp true ts vs ds ps := by
  intro ts
  induction ts with
  | nil =>
    intro vs ds ps _ h _ _
    cases vs <;> cases ds <;> first | exact h | exact h.elim
  | cons t ts ih =>
    intro vs ds ps ht h hlt hsp
    obtain ⟨v, vs', d, ds', p, q, rfl, rfl, rfl, h1, h2⟩ := trodAll_cons h
    refine ⟨p, q, ?_, ih _ _ _ (fun t' h' => ht t' (List.mem_cons_of_mem _ h')) h2 (fun x hx => hlt x (List.mem_append_right _ hx)) (fun x hx => hsp x (List.mem_append_right _ hx)), rfl⟩
    have h3 := ht t List.mem_cons_self
    exact WideElems.Trod_stays hl h3.1 h3.2 h1 (fun x hx => hb.same (hlt x (List.mem_append_left _ hx))) (fun x hx => hsp x (List.mem_append_left _ hx))

end Go.Proofs.Ytajkhbdniadkkaa
/- What the laws of layer 20 have in common. -/
namespace Go.Proofs.Ytajkhbdniadkkaa
theorem own : ownKnob Try.prog.godebug = none := by kernel_rfl
end Go.Proofs.Ytajkhbdniadkkaa
/- Layer 13: the law's book. -/
namespace Go.Proofs.Ytajkhbdniadkkaa.Qy
open Go.RowKit Go.Deep Go.Lib Go.Shelf Go.Sort
open Go.Joins (cell_of_block unfrozen_of_block block_setCell)
set_option linter.unusedVariables false
set_option linter.unusedSimpArgs false
set_option maxRecDepth 20000

abbrev TRul : TypeId := 31
/-- The rules' box. -/
theorem boxG (w : World) (n a : Int) : ∃ w1 P, w.alloc (.cells #[.int .i64 n, .int .i64 a] TRul) = w1 ∧ w.heap.size = P ∧ Below w.heap.size w w1 ∧ w1.heap[P]? = some (.cells #[.int .i64 n, .int .i64 a] TRul (0, 0)) ∧ w1.heap.size = P + 1 := ⟨_, _, rfl, rfl, (Below.refl _ _).alloc (Nat.le_refl _) _, heap_alloc_new w _, by simp⟩
/-- A sample's box. -/
theorem boxP (w : World) (x : Sp) : ∃ w1 P, w.alloc (.cells #[.int .i64 x.at_, .string x.s.1, .string x.s.2, .int .u64 (x.bits : Int)] SpT) = w1 ∧ w.heap.size = P ∧ Below w.heap.size w w1 ∧ w1.heap[P]? = some (.cells #[.int .i64 x.at_, .string x.s.1, .string x.s.2, .int .u64 (x.bits : Int)] SpT (0, 0)) := ⟨_, _, rfl, rfl, (Below.refl _ _).alloc (Nat.le_refl _) _, heap_alloc_new w _⟩

set_option maxHeartbeats 2000000 in
theorem book_bad (W : World) (n a : Int) (ql : Option Addr) (cl L : Nat) (h : n < 1 ∨ 32 < n ∨ a < 1 ∨ 1800 < a) :
    Calls Try.prog 12 #[.agg #[.int .i64 n, .int .i64 a], .slice ql L cl] W fun r w' => r = .returned (.pointer none) ∧ Below W.heap.size W w' := by
  obtain ⟨w1, N, e1, e2, b1, k1, z1⟩ := boxG W n a
  have HW := Lib.hid (And.intro e1 e2)
  have CN := Lib.hid (bnew_bad w1 n a h)
  have c0 : w1.cell? ⟨N, 0, none⟩ = some (.int .i64 n) := cell_of_block k1 0
  have c1 : w1.cell? ⟨N, 1, none⟩ = some (.int .i64 a) := cell_of_block k1 1
  have HB := Lib.hid b1
  clear e1 e2 b1 k1 z1 h
  go_enter Try.func12, Try.ntmps12
  go_upto_region 1 with fail
  rw [HW.out.1, HW.out.2]
  go_wp2_with fail
  refine CN.out.mono ?_
  rintro e w2 ⟨rfl, b2⟩
  have B2 := Lib.hid (HB.out.trans (b2.mono HB.out.size))
  clear b2 CN c0 c1
  go_wp2
  go_ret
  exact ⟨rfl, B2.out⟩
set_option maxHeartbeats 2000000 in
theorem book_long (W : World) (n a : Nat) (hn : 1 ≤ n ∧ n ≤ 32) (ha : 1 ≤ a ∧ a ≤ 1800) (ql : Option Addr) (cl L : Nat) (h : 100 < L) :
    Calls Try.prog 12 #[.agg #[.int .i64 (n : Int), .int .i64 (a : Int)], .slice ql L cl] W fun r w' => r = .returned (.pointer none) ∧ Below W.heap.size W w' := by
  obtain ⟨w1, N, e1, e2, b1, k1, z1⟩ := boxG W n a
  have HW := Lib.hid (And.intro e1 e2)
  have CN := Lib.hid (bnew_ok w1 n a hn ha)
  have c0 : w1.cell? ⟨N, 0, none⟩ = some (.int .i64 (n : Int)) := cell_of_block k1 0
  have c1 : w1.cell? ⟨N, 1, none⟩ = some (.int .i64 (a : Int)) := cell_of_block k1 1
  have t1 : decide ((100 : Int) < (L : Int)) = true := decide_eq_true (by omega)
  have HB := Lib.hid b1
  clear e1 e2 b1 k1 z1 hn ha
  go_enter Try.func12, Try.ntmps12
  go_upto_region 1 with fail
  rw [HW.out.1, HW.out.2]
  go_wp2_with fail
  refine CN.out.mono ?_
  rintro e w2 ⟨bb, rfl, mb, _, _, _, b2⟩
  have B2 := Lib.hid (HB.out.trans (b2.mono HB.out.size))
  clear b2 CN c0 c1
  go_wp2
  go_ret
  exact ⟨rfl, B2.out⟩

def MadeBk (W w' : World) (bb n a : Nat) : Prop := ∃ mb E, Sk W.heap.size W w' bb mb n a 100 E
set_option maxHeartbeats 4000000 in
theorem book_ok (W : World) (n a : Nat) (hn : 1 ≤ n ∧ n ≤ 32) (ha : 1 ≤ a ∧ a ≤ 1800) (ql : Option Addr) (cl : Nat) (l : List Sp) (hl : Sps W ql l) (hL : l.length ≤ 100) :
    Calls Try.prog 12 #[.agg #[.int .i64 (n : Int), .int .i64 (a : Int)], .slice ql l.length cl] W fun r w' => ∃ bb, r = .returned (.pointer (some ⟨bb, 0, none⟩)) ∧ MadeBk W w' bb n a := by
  obtain ⟨w1, N, e1, e2, b1, k1, z1⟩ := boxG W n a
  have HW := Lib.hid (And.intro e1 e2)
  have CN := Lib.hid (bnew_ok w1 n a hn ha)
  have c0 : w1.cell? ⟨N, 0, none⟩ = some (.int .i64 (n : Int)) := cell_of_block k1 0
  have c1 : w1.cell? ⟨N, 1, none⟩ = some (.int .i64 (a : Int)) := cell_of_block k1 1
  obtain ⟨L, hLl⟩ : ∃ L, L = l.length := ⟨_, rfl⟩
  rw [← hLl]
  have t1 : decide ((100 : Int) < (L : Int)) = false := decide_eq_false (by omega)
  have L100 : L ≤ 100 := by omega
  have HH := Lib.hid (And.intro b1 (And.intro e2 (And.intro hl hLl)))
  clear e1 e2 b1 k1 z1 hn ha hl hLl hL
  go_enter Try.func12, Try.ntmps12
  go_upto_region 1 with fail
  rw [HW.out.1, HW.out.2]
  go_wp2_with fail
  refine CN.out.mono ?_
  rintro e w2 ⟨bb, rfl, mb, hbb, hmb, K, b2⟩
  have S0 : Hid (∃ E, Sk N W w2 bb mb n a 0 E) := by
    obtain ⟨b1, e2, _⟩ := HH.out
    have z := b1.size
    rw [e2] at b1 z
    refine ⟨[], K, b1.trans (b2.mono z), fun g hg => ?_, (fun e he => by cases he), Nat.le_refl _⟩
    rcases foot_mem.1 hg with rfl | rfl | ⟨e, he, _⟩
    · omega
    · omega
    · cases he
  clear hbb hmb K b2 CN c0 c1
  go_wp2_with fail
  go_loopg [23] L (fun g vi wr => ∃ i : Nat, vi = .int .i64 (i : Int) ∧ i ≤ L ∧ L - i ≤ g ∧ Hid (∃ E, Sk N W wr bb mb n a i E))
  case atStart => exact ⟨0, rfl, by omega, by omega, S0⟩
  case round =>
    obtain ⟨i, rfl, hi, hg, HR⟩ := hrel
    by_cases hlt : i < L
    · obtain ⟨E, sk⟩ := HR.out
      obtain ⟨b1, e2, hl, hLl⟩ := HH.out
      obtain ⟨x, hx⟩ : ∃ x, l[i]? = some x := ⟨l[i]'(by omega), List.getElem?_eq_getElem (by omega)⟩
      obtain ⟨okx, gl, ol, rfl, hgl, a0, a1, a2, a3⟩ := hl i x hx
      have low := sk.low
      have e2 : W.heap.size = N := e2
      have a0 := (low.cell (p := ⟨gl, ol + i * 4, none⟩) (by show gl < N; omega)).trans a0
      have a1 := (low.cell (p := ⟨gl, ol + i * 4 + 1, none⟩) (by show gl < N; omega)).trans a1
      have a2 := (low.cell (p := ⟨gl, ol + i * 4 + 2, none⟩) (by show gl < N; omega)).trans a2
      have a3 := (low.cell (p := ⟨gl, ol + i * 4 + 3, none⟩) (by show gl < N; omega)).trans a3
      obtain ⟨w5, P, q1, q2, b5, k5⟩ := boxP wr x
      have HX := Lib.hid (And.intro q1 q2)
      have x0 : w5.cell? ⟨P, 0, none⟩ = some (.int .i64 x.at_) := cell_of_block k5 0
      have x1 : w5.cell? ⟨P, 1, none⟩ = some (.string x.s.1) := cell_of_block k5 1
      have x2 : w5.cell? ⟨P, 2, none⟩ = some (.string x.s.2) := cell_of_block k5 2
      have x3 : w5.cell? ⟨P, 3, none⟩ = some (.int .u64 (x.bits : Int)) := cell_of_block k5 3
      obtain ⟨V, Er, CS⟩ := scr_any (sk.gr b5) (by omega) x.at_ x.s okx.1 x.bits okx.2
      have CS := Lib.hid CS
      have i0 : (0 : Int) ≤ (i : Int) := Int.natCast_nonneg _
      have i1 : (i : Int) < (L : Int) := by omega
      obtain ⟨at_, ⟨s1, s2⟩, bits⟩ := x
      unfold ser at CS
      simp only at a0 a1 a2 a3 x0 x1 x2 x3 HX CS
      clear sk b1 e2 hl hLl hx okx hgl low q1 q2 b5 k5 HR S0
      go_upto_region 7 with fail
      rw [HX.out.1, HX.out.2]
      clear a0 a1 a2 a3
      go_wp2_with fail
      refine CS.out.mono ?_
      rintro e w6 ⟨rfl, S6⟩
      have NX := Lib.hid S6
      clear S6 CS x0 x1 x2 x3
      go_wp2_with fail
      go_roundg (L - (i + 1))
      case measure => omega
      case rel => exact ⟨i + 1, by push_cast; rfl, by omega, by omega, NX⟩
    · have hiL : i = L := by omega
      subst hiL
      have FIN : Hid (MadeBk W wr bb n a) := by
        obtain ⟨E, sk⟩ := HR.out
        obtain ⟨_, e2, _⟩ := HH.out
        have e2 : W.heap.size = N := e2
        subst e2
        exact ⟨mb, E, sk.less L100⟩
      clear HR S0
      go_wp2
      go_ret
      exact ⟨_, rfl, FIN.out⟩
end Go.Proofs.Ytajkhbdniadkkaa.Qy
