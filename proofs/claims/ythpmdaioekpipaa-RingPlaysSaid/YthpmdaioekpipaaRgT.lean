/- The law's acts that came in; a ring and its model side by side. -/
import Derived.Test.YthpmdaioekpipaaRgS
import Derived.Test.YthpmdaioekpipaaRgL
import Derived.Test.YthpmdaioekpipaaRgOI
import Derived.Test.YthpmdaioekpipaaRgPI
import Derived.Test.YthpmdaioekpipaaRgNI
import Derived.Test.YthpmdaioekpipaaRLawBase
import Derived.Deep.Strs
namespace Go.Proofs.Ythpmdaioekpipaa
open Go.ChangeShapes Go.WideShapes Go.ChangeAt Go.RowKit Go.Deep Go.Lib Go.Shelf
open Go.Joins (cell_of_block unfrozen_of_block block_setCell)
set_option linter.unusedVariables false
set_option linter.unusedSimpArgs false
set_option maxRecDepth 20000

theorem cells_threeR {w : World} {a : Addr} {cs : List Value} (h : w.cells? 0 a 3 = some cs) : ∃ u v x, cs = [u, v, x] ∧ w.cell? (a.add 0) = some u ∧ w.cell? (a.add 1) = some v ∧ w.cell? (a.add 2) = some x := by
  unfold World.cells? at h
  rw [if_pos (Nat.zero_le _)] at h
  simp only [show List.range 3 = [0, 1, 2] from rfl, List.mapM_cons, List.mapM_nil, Option.bind_eq_bind, Option.bind_eq_some_iff, Option.pure_def, Option.some.injEq] at h
  obtain ⟨u, hu, x, ⟨v, hv, y, ⟨z, hz, t, rfl, rfl⟩, rfl⟩, rfl⟩ := h
  exact ⟨u, v, z, rfl, hu, hv, hz⟩
theorem spot_noneR {w : World} {a : Addr} {u : Value} (h : w.cell? a = some u) : ∃ b off, a = ⟨b, off, none⟩ ∧ b < w.heap.size := by
  obtain ⟨b, off, s⟩ := a
  unfold World.cell? at h
  split at h
  · rename_i c t f hb
    cases s with
    | none => exact ⟨b, off, rfl, (Array.getElem?_eq_some_iff.1 hb).1⟩
    | some s => simp at h
  · cases h
theorem add_noneR (b off n : Nat) : (⟨b, off, none⟩ : Addr).add n = ⟨b, off + n, none⟩ := by unfold Addr.add; split <;> simp_all

abbrev Ac := Int × Int × Int
abbrev AcT : TypeId := 30
/-- A row of acts that came in. -/
def Acs (W : World) (q : Option Addr) (l : List Ac) : Prop := ∀ i x, l[i]? = some x → ∃ b off : Nat, q = some ⟨b, off, none⟩ ∧ b < W.heap.size ∧ W.cell? ⟨b, off + i * 3, none⟩ = some (.int .i64 x.1) ∧ W.cell? ⟨b, off + i * 3 + 1, none⟩ = some (.int .i64 x.2.1) ∧ W.cell? ⟨b, off + i * 3 + 2, none⟩ = some (.int .i64 x.2.2)
theorem open_acs {H : Type} {enc : TypeId × Value → H} {W : World} {base : Nat} {v : Value} {d : DataW H} {p : List MemPlace} (o : Value.okWide Try.prog W .any base 22 v)
    (h : DataW.Trod enc Try.prog W 0 (fun _ => true) true 22 v d p) : ∃ q c l, v = .slice q l.length c ∧ Acs W q l := by
  obtain ⟨a0, len, cap, rfl⟩ := okWide_slice Try.underlying22 o
  obtain ⟨fuel, hf⟩ := h
  have c3 : Try.prog.cellsOf AcT = 3 := by kernel_rfl
  have ci : Try.prog.cellsOf 3 = 1 := by kernel_rfl
  have cj : Try.prog.cellsOf 2 = 1 := by kernel_rfl
  rcases open_slice Try.underlying22 hf with ⟨hcs, hx⟩ | ⟨a, len', cap', m, n, D, Pl, hcs, _, hl, hm, hmm, hx, hcell⟩
  · simp [Value.cells] at hcs
    obtain ⟨rfl, rfl, rfl⟩ := hcs
    exact ⟨none, 0, [], rfl, fun i x h => by simp at h⟩
  · simp [Value.cells] at hcs
    obtain ⟨rfl, rfl, rfl⟩ := hcs
    simp only [if_true] at hmm
    have each : ∀ i, i < len → ∃ x : Ac, ∃ b off, a = ⟨b, off, none⟩ ∧ b < W.heap.size ∧ W.cell? ⟨b, off + i * 3, none⟩ = some (.int .i64 x.1) ∧ W.cell? ⟨b, off + i * 3 + 1, none⟩ = some (.int .i64 x.2.1) ∧ W.cell? ⟨b, off + i * 3 + 2, none⟩ = some (.int .i64 x.2.2) := by
      intro i hi
      obtain ⟨cs, h1, h2⟩ := hcell i (by omega)
      rw [c3] at h1
      obtain ⟨u, v, x, rfl, hu, hv, hx⟩ := cells_threeR h1
      have h0 : ∃ u0, W.cell? (a.add 0) = some u0 := by
        obtain ⟨cs, h1, _⟩ := hcell 0 (by omega)
        rw [c3] at h1
        obtain ⟨u0, v0, x0, _, hu0, _⟩ := cells_threeR h1
        exact ⟨u0, by simpa [Addr.add] using hu0⟩
      obtain ⟨u0, hu0⟩ := h0
      obtain ⟨b, off, ha, hb⟩ := spot_noneR (by simpa [Addr.add] using hu0)
      subst ha
      obtain ⟨y0, y1, y2, k, _, _, t0, t1, t2⟩ := trod_struct3 Try.underlying30 h2
      obtain ⟨z0, e0, _, _⟩ := DataW.trod_int Try.underlying3 t0
      obtain ⟨z1, e1, _, _⟩ := DataW.trod_int Try.underlying2 t1
      obtain ⟨z2, e2, _, _⟩ := DataW.trod_int Try.underlying3 t2
      simp [ci, cj] at e0 e1 e2
      subst e0 e1 e2
      rw [add_noneR, add_noneR] at hu hv hx
      exact ⟨(z0, z1, z2), b, off, rfl, hb, hu, hv, hx⟩
    obtain ⟨f, hf⟩ := choose_lt each
    refine ⟨some a, cap, (List.range len).map f, by simp, ?_⟩
    intro j x hj
    rw [List.getElem?_map, Option.map_eq_some_iff] at hj
    obtain ⟨i, hi, rfl⟩ := hj
    obtain ⟨hlt, rfl⟩ := List.getElem?_eq_some_iff.1 hi
    rw [List.getElem_range] at *
    obtain ⟨b, off, e, r⟩ := hf j (by simpa using hlt)
    exact ⟨b, off, by rw [e], r⟩

theorem rises_drop {l : List (Int × Int)} (h : Rises l) (k : Nat) : Rises (l.drop k) := List.Pairwise.sublist (List.drop_sublist k l) h
theorem rises_snoc {l : List (Int × Int)} {x : Int × Int} (h : Rises l) (hx : ∀ y, l.getLast? = some y → y.1 < x.1) : Rises (l ++ [x]) := by
  refine List.pairwise_append.2 ⟨h, List.pairwise_singleton _ _, fun a ha b hb => ?_⟩
  rw [List.mem_singleton] at hb
  subst hb
  rcases List.eq_nil_or_concat l with rfl | ⟨l1, y, rfl⟩
  · cases ha
  · rw [List.concat_eq_append] at h ha hx
    have hy := hx y (by simp)
    rcases List.mem_append.1 ha with ha | ha
    · have := (List.pairwise_append.1 h).2.2 a ha y (by simp)
      omega
    · rw [List.mem_singleton] at ha
      subst ha
      exact hy
theorem last_drop {l : List (Int × Int)} {k : Nat} {y : Int × Int} (h : (l.drop k).getLast? = some y) : l.getLast? = some y := by
  rw [List.getLast?_drop] at h
  split at h
  · cases h
  · exact h
/-- What is left of a ring's samples. -/
def keepL (n : Nat) (l : List (Int × Int)) : List (Int × Int) := if l.length = n then l.drop 1 else l
theorem rises_keep {n : Nat} {l : List (Int × Int)} {x : Int × Int} (h : Rises l) (hx : ∀ y, l.getLast? = some y → y.1 < x.1) : Rises (keepL n l ++ [x]) := by
  unfold keepL
  split
  · exact rises_snoc (rises_drop h 1) (fun y hy => hx y (last_drop hy))
  · exact rises_snoc h hx

/-- Something was done to a ring. -/
def Done (w w' : World) (rb gb n : Nat) : Prop := ∃ L, HasI w' rb gb n L ∧ Rises L ∧ Tch [rb, gb] w w'
theorem put_all (w : World) (rb gb n : Nat) (L : List (Int × Int)) (H : HasI w rb gb n L) (hr : Rises L) (xa xv : Int) :
    Calls Try.prog 7 #[.pointer (some ⟨rb, 0, none⟩), .int .i64 xa, .int .i64 xv] w fun e w' => ∃ E, e = .returned (.int .i64 E) ∧ Done w w' rb gb n := by
  by_cases h0 : xa < 0
  · have H' := H
    obtain ⟨cp, f, c, h, _⟩ := H
    exact (put_belowI w rb gb n cp f _ c h xa xv h0).mono fun e w' q => ⟨1, q.1, L, by rw [← q.2]; exact H', hr, by rw [← q.2]; exact Tch.refl _ _⟩
  · rcases List.eq_nil_or_concat L with hl | ⟨l1, y, hl⟩
    · have hx : ∀ y, L.getLast? = some y → y.1 < xa := fun y hy => by rw [hl] at hy; cases hy
      exact (put_okI w rb gb n L H xa xv (by omega) hx).mono fun e w' q => ⟨0, q.1, _, q.2.1, rises_keep hr hx, q.2.2⟩
    · rw [List.concat_eq_append] at hl
      by_cases h1 : xa ≤ y.1
      · subst hl
        exact (put_staleI w rb gb n l1 y H xa xv (by omega) h1).mono fun e w' q => ⟨13, q.1, _, H.gr q.2, hr, Tch.ofBelow q.2 _⟩
      · have hx : ∀ y, L.getLast? = some y → y.1 < xa := fun y hy => by rw [hl] at hy; simp at hy; rw [← hy]; omega
        exact (put_okI w rb gb n L H xa xv (by omega) hx).mono fun e w' q => ⟨0, q.1, _, q.2.1, rises_keep hr hx, q.2.2⟩
theorem frm_drop (at_ : Int) {l : List (Int × Int)} (hr : Rises l) : ∃ K, K ≤ l.length ∧ (∀ i x, l[i]? = some x → (i < K ↔ x.1 < at_)) ∧ frmI at_ l = l.drop K ∧ frmI at_ l = l.drop (l.length - (frmI at_ l).length) ∧ l.length - (frmI at_ l).length = K := by
  obtain ⟨K, h1, h2, h3⟩ := rise_split at_ l hr
  have e : l.length - (frmI at_ l).length = K := by rw [h3, List.length_drop]; omega
  exact ⟨K, h1, h2, h3, by rw [e]; exact h3, e⟩
theorem cut_all (w : World) (rb gb n : Nat) (L : List (Int × Int)) (H : HasI w rb gb n L) (hr : Rises L) (at_ : Int) :
    Calls Try.prog 8 #[.pointer (some ⟨rb, 0, none⟩), .int .i64 at_] w fun e w' => ∃ E, e = .returned (.int .i64 E) ∧ Done w w' rb gb n := by
  obtain ⟨K, _, _, h3, h4, _⟩ := frm_drop at_ hr
  exact (cut_someI w rb gb n L at_ H h4).mono fun e w' q => ⟨_, q.1, _, q.2.1, by rw [h3]; exact rises_drop hr K, q.2.2⟩

/-- The ring, and its model. -/
structure Sit (N : Nat) (W w : World) (rb gb n : Nat) (R : List (Int × Int)) (q : Option Addr) (c : Nat) (L : List (Int × Int)) : Prop where
  low : Below N W w
  has : HasI w rb gb n R
  mod : Mo N w q c L
  up : Rises R
  rb_ : N ≤ rb ∧ N ≤ gb
  off : ¬ ownB q rb ∧ ¬ ownB q gb
theorem Sit.gr {N : Nat} {W w w' : World} {rb gb n : Nat} {R : List (Int × Int)} {q : Option Addr} {c : Nat} {L : List (Int × Int)} (h : Sit N W w rb gb n R q c L) (hN : W.heap.size = N) (b : Below w.heap.size w w') : Sit N W w' rb gb n R q c L :=
  ⟨h.low.trans (b.mono (by have := h.low.size; omega)), h.has.gr b, h.mod.gr b, h.up, h.rb_, h.off⟩
/-- The ring alone turned. -/
theorem Sit.ring {N : Nat} {W w w' : World} {rb gb n : Nat} {R R' : List (Int × Int)} {q : Option Addr} {c : Nat} {L : List (Int × Int)} (h : Sit N W w rb gb n R q c L) (hN : W.heap.size = N) (t : Tch [rb, gb] w w') (H : HasI w' rb gb n R') (up : Rises R') : Sit N W w' rb gb n R' q c L :=
  ⟨h.low.trans (t.below (fun g hg => by simp at hg; rcases hg with rfl | rfl; exact h.rb_.1; exact h.rb_.2) (by have := h.low.size; omega)), H, h.mod.tch t (fun g hg hm => by simp at hm; rcases hm with rfl | rfl; exact h.off.1 hg; exact h.off.2 hg), up, h.rb_, h.off⟩
/-- Another ring turned, that lies behind. -/
theorem Sit.other {N : Nat} {W w0 w w' : World} {rb gb n r2 g2 : Nat} {R : List (Int × Int)} {q : Option Addr} {c : Nat} {L : List (Int × Int)} (h : Sit N W w rb gb n R q c L) (hN : W.heap.size = N) (h0 : Sit N W w0 rb gb n R q c L) (h2 : w0.heap.size ≤ r2 ∧ w0.heap.size ≤ g2) (t : Tch [r2, g2] w w') : Sit N W w' rb gb n R q c L := by
  have l0 := h0.has.lt
  have s0 := h0.low.size
  refine ⟨h.low.trans (t.below (fun g hg => by simp at hg; omega) (by have := h.low.size; omega)), h.has.tch t (by simp; omega) (by simp; omega), h.mod.tch t (fun g hg hm => ?_), h.up, h.rb_, h.off⟩
  have := (h0.mod.lt hg).2
  simp at hm
  omega
/-- The model's push. -/
theorem Sit.push {N : Nat} {W w w' : World} {rb gb n : Nat} {R : List (Int × Int)} {q : Option Addr} {c : Nat} {L : List (Int × Int)} {x : Int × Int} {v' : Value} (h : Sit N W w rb gb n R q c L) (hN : W.heap.size = N) (p : Pushed N w q L x v' w') : ∃ q' c', v' = .slice q' (L.length + 1) c' ∧ Sit N W w' rb gb n R q' c' (L ++ [x]) := by
  obtain ⟨q', c', rfl, hm, ⟨S, ht, hS⟩, hown⟩ := p
  have lt := h.has.lt
  refine ⟨q', c', rfl, h.low.trans (ht.below (fun g hg => (h.mod.lt (hS g hg)).1) (by have := h.low.size; omega)), h.has.tch ht (fun hm => h.off.1 (hS _ hm)) (fun hm => h.off.2 (hS _ hm)), hm, h.up, h.rb_, fun hm => ?_, fun hm => ?_⟩
  · rcases hown _ hm with h1 | h1
    · exact h.off.1 h1
    · omega
  · rcases hown _ hm with h1 | h1
    · exact h.off.2 h1
    · omega
/-- The model's first one goes. -/
theorem Sit.tail {N : Nat} {W w : World} {rb gb n g o : Nat} {R : List (Int × Int)} {c : Nat} {x : Int × Int} {L : List (Int × Int)} (h : Sit N W w rb gb n R (some ⟨g, o, none⟩) c (x :: L)) : Sit N W w rb gb n R (some ⟨g, if c = 1 then o else o + 2, none⟩) (c - 1) L :=
  ⟨h.low, h.has, h.mod.tail, h.up, h.rb_, fun ⟨a, ha, hk⟩ => h.off.1 (by cases ha; exact ⟨_, rfl, hk⟩), fun ⟨a, ha, hk⟩ => h.off.2 (by cases ha; exact ⟨_, rfl, hk⟩)⟩
end Go.Proofs.Ythpmdaioekpipaa
