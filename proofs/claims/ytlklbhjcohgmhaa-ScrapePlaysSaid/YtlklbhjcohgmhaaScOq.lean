/- What came in: acts, looks, rules. -/
import Derived.Test.YtlklbhjcohgmhaaScY
import Derived.ProofKit
import Derived.OpenShut
import Derived.Deep.Strs
namespace Go.Proofs.Ytlklbhjcohgmhaa
open Go.ChangeShapes Go.WideShapes Go.ChangeAt Go.RowKit Go.Deep Go.Lib Go.Shelf
open Go.Joins (cell_of_block unfrozen_of_block block_setCell)
set_option linter.unusedVariables false
set_option linter.unusedSimpArgs false
set_option maxRecDepth 20000


theorem spot_noneS {w : World} {a : Addr} {u : Value} (h : w.cell? a = some u) : ∃ b off, a = ⟨b, off, none⟩ ∧ b < w.heap.size := by
  obtain ⟨b, off, s⟩ := a
  unfold World.cell? at h
  split at h
  · rename_i c t f hb
    cases s with
    | none => exact ⟨b, off, rfl, (Array.getElem?_eq_some_iff.1 hb).1⟩
    | some s => simp at h
  · cases h
theorem add_noneS (b off n : Nat) : (⟨b, off, none⟩ : Addr).add n = ⟨b, off + n, none⟩ := by unfold Addr.add; split <;> simp_all
theorem cells_fiveS {w : World} {a : Addr} {cs : List Value} (h : w.cells? 0 a 5 = some cs) : ∃ u v x y z, cs = [u, v, x, y, z] ∧ w.cell? (a.add 0) = some u ∧ w.cell? (a.add 1) = some v ∧ w.cell? (a.add 2) = some x ∧ w.cell? (a.add 3) = some y ∧ w.cell? (a.add 4) = some z := by
  unfold World.cells? at h
  rw [if_pos (Nat.zero_le _)] at h
  simp only [show List.range 5 = [0, 1, 2, 3, 4] from rfl, List.mapM_cons, List.mapM_nil, Option.bind_eq_bind, Option.bind_eq_some_iff, Option.pure_def, Option.some.injEq] at h
  obtain ⟨u, hu, r1, ⟨v, hv, r2, ⟨x, hx, r3, ⟨y, hy, r4, ⟨z, hz, r5, rfl, rfl⟩, rfl⟩, rfl⟩, rfl⟩, rfl⟩ := h
  exact ⟨u, v, x, y, z, rfl, hu, hv, hx, hy, hz⟩
theorem cells_oneS {w : World} {a : Addr} {cs : List Value} (h : w.cells? 0 a 1 = some cs) : ∃ u, cs = [u] ∧ w.cell? (a.add 0) = some u := by
  unfold World.cells? at h
  rw [if_pos (Nat.zero_le _)] at h
  simp only [show List.range 1 = [0] from rfl, List.mapM_cons, List.mapM_nil, Option.bind_eq_bind, Option.bind_eq_some_iff, Option.pure_def, Option.some.injEq] at h
  obtain ⟨u, hu, r1, rfl, rfl⟩ := h
  exact ⟨u, rfl, hu⟩
theorem trod_struct4S {H : Type} {enc : TypeId × Value → H} {P : Program} {w : World} {base : Nat} {spare : Nat → Bool} {held : Bool} {t : TypeId} {f0 f1 f2 f3 : Field} {fuel : Nat} {cs : List Value} {x : DataW H × List MemPlace} (ht : P.underlying t = some (.struct #[f0, f1, f2, f3])) (h : DataW.trod enc P w base spare held fuel t cs = some x) :
    ∃ y0 y1 y2 y3 n, cs.length = P.cellsOf t ∧ DataW.trod enc P w base spare held n f0.type ((cs.drop f0.offset).take (P.cellsOf f0.type)) = some y0 ∧ DataW.trod enc P w base spare held n f1.type ((cs.drop f1.offset).take (P.cellsOf f1.type)) = some y1 ∧
      DataW.trod enc P w base spare held n f2.type ((cs.drop f2.offset).take (P.cellsOf f2.type)) = some y2 ∧ DataW.trod enc P w base spare held n f3.type ((cs.drop f3.offset).take (P.cellsOf f3.type)) = some y3 := by
  obtain ⟨xs, n, _, rfl, hl, hlen, hf⟩ := DataW.trod_struct ht h
  match xs, hlen with
  | [y0, y1, y2, y3], _ => exact ⟨y0, y1, y2, y3, n, hl, by simpa using hf 0 f0 rfl, by simpa using hf 1 f1 rfl, by simpa using hf 2 f2 rfl, by simpa using hf 3 f3 rfl⟩
theorem wf_u64S {n : Int} (h : (Lit.int .u64 n).wf = true) : 0 ≤ n ∧ n < 18446744073709551616 := by
  have e1 : IntKind.u64.min = 0 := rfl
  have e2 : IntKind.u64.max = 18446744073709551615 := rfl
  simp [Lit.wf, e1, e2] at h
  omega
theorem wf_i64S {n : Int} (h : (Lit.int .i64 n).wf = true) : -9223372036854775808 ≤ n ∧ n ≤ 9223372036854775807 := by
  have e1 : IntKind.i64.min = -9223372036854775808 := rfl
  have e2 : IntKind.i64.max = 9223372036854775807 := rfl
  simp [Lit.wf, e1, e2] at h
  omega
instance : Inhabited Ac := ⟨⟨0, 0, (⟨#[]⟩, ⟨#[]⟩), 0⟩⟩
def OkA (x : Ac) : Prop := OkS x.s ∧ x.bits < 18446744073709551616
/-- A row of acts that came in. -/
def Acs (W : World) (q : Option Addr) (l : List Ac) : Prop := ∀ i x, l[i]? = some x → OkA x ∧ ∃ b off : Nat, q = some ⟨b, off, none⟩ ∧ b < W.heap.size ∧ W.cell? ⟨b, off + i * 5, none⟩ = some (.int .i64 x.kind) ∧ W.cell? ⟨b, off + i * 5 + 1, none⟩ = some (.int .i64 x.at_) ∧ W.cell? ⟨b, off + i * 5 + 2, none⟩ = some (.string x.s.1) ∧ W.cell? ⟨b, off + i * 5 + 3, none⟩ = some (.string x.s.2) ∧ W.cell? ⟨b, off + i * 5 + 4, none⟩ = some (.int .u64 (x.bits : Int))
theorem open_acs {H : Type} {enc : TypeId × Value → H} {W : World} {base : Nat} {v : Value} {d : DataW H} {p : List MemPlace} (o : Value.okWide Try.prog W .any base 24 v)
    (h : DataW.Trod enc Try.prog W 0 (fun _ => true) true 24 v d p) : ∃ q c l, v = .slice q l.length c ∧ Acs W q l := by
  obtain ⟨a0, len, cap, rfl⟩ := okWide_slice Try.underlying24 o
  obtain ⟨fuel, hf⟩ := h
  have c5 : Try.prog.cellsOf AcT = 5 := by kernel_rfl
  have ci : Try.prog.cellsOf 3 = 1 := by kernel_rfl
  have cj : Try.prog.cellsOf 2 = 1 := by kernel_rfl
  have cu : Try.prog.cellsOf 34 = 1 := by kernel_rfl
  have cs1 : Try.prog.cellsOf 9 = 1 := by kernel_rfl
  have cs2 : Try.prog.cellsOf 33 = 2 := by kernel_rfl
  rcases open_slice Try.underlying24 hf with ⟨hcs, hx⟩ | ⟨a, len', cap', m, n, D, Pl, hcs, _, hl, hm, hmm, hx, hcell⟩
  · simp [Value.cells] at hcs
    obtain ⟨rfl, rfl, rfl⟩ := hcs
    exact ⟨none, 0, [], rfl, fun i x h => by simp at h⟩
  · simp [Value.cells] at hcs
    obtain ⟨rfl, rfl, rfl⟩ := hcs
    simp only [if_true] at hmm
    have each : ∀ i, i < len → ∃ x : Ac, OkA x ∧ ∃ b off, a = ⟨b, off, none⟩ ∧ b < W.heap.size ∧ W.cell? ⟨b, off + i * 5, none⟩ = some (.int .i64 x.kind) ∧ W.cell? ⟨b, off + i * 5 + 1, none⟩ = some (.int .i64 x.at_) ∧ W.cell? ⟨b, off + i * 5 + 2, none⟩ = some (.string x.s.1) ∧ W.cell? ⟨b, off + i * 5 + 3, none⟩ = some (.string x.s.2) ∧ W.cell? ⟨b, off + i * 5 + 4, none⟩ = some (.int .u64 (x.bits : Int)) := by
      intro i hi
      obtain ⟨cs, h1, h2⟩ := hcell i (by omega)
      rw [c5] at h1
      obtain ⟨u, v, x, y, z, rfl, hu, hv, hx, hy, hz⟩ := cells_fiveS h1
      have h0 : ∃ u0, W.cell? (a.add 0) = some u0 := by
        obtain ⟨cs, h1, _⟩ := hcell 0 (by omega)
        rw [c5] at h1
        obtain ⟨u0, v0, x0, _, _, _, hu0, _⟩ := cells_fiveS h1
        exact ⟨u0, by simpa [Addr.add] using hu0⟩
      obtain ⟨u0, hu0⟩ := h0
      obtain ⟨b, off, ha, hb⟩ := spot_noneS (by simpa [Addr.add] using hu0)
      subst ha
      obtain ⟨y0, y1, y2, y3, k, _, t0, t1, t2, t3⟩ := trod_struct4S Try.underlying36 h2
      obtain ⟨z0, e0, _, _⟩ := DataW.trod_int Try.underlying3 t0
      obtain ⟨z1, e1, _, _⟩ := DataW.trod_int Try.underlying2 t1
      obtain ⟨z3, e3, _, w3⟩ := DataW.trod_int Try.underlying34 t3
      obtain ⟨y4, y5, k2, _, _, t4, t5⟩ := trod_struct2 Try.underlying33 t2
      obtain ⟨s1, e4, _, l4⟩ := DataW.trod_string Try.underlying9 t4
      obtain ⟨s2, e5, _, l5⟩ := DataW.trod_string Try.underlying9 t5
      simp [ci, cj, cu, cs1, cs2] at e0 e1 e3 e4 e5
      subst e0 e1 e3 e4 e5
      have hw3 := wf_u64S w3
      rw [add_noneS, add_noneS] at hu hv hx hy hz
      refine ⟨⟨z0, z1, (s1, s2), z3.toNat⟩, ⟨⟨l4, l5⟩, by show z3.toNat < _; omega⟩, b, off, rfl, hb, hu, hv, hx, hy, ?_⟩
      have e : ((z3.toNat : Nat) : Int) = z3 := by omega
      show _ = some (Value.int .u64 ((z3.toNat : Nat) : Int))
      rw [e]
      exact hz
    obtain ⟨f, hf⟩ := choose_lt each
    refine ⟨some a, cap, (List.range len).map f, by simp, ?_⟩
    intro j x hj
    rw [List.getElem?_map, Option.map_eq_some_iff] at hj
    obtain ⟨i, hi, rfl⟩ := hj
    obtain ⟨hlt, rfl⟩ := List.getElem?_eq_some_iff.1 hi
    rw [List.getElem_range] at *
    obtain ⟨hok, b, off, e, r⟩ := hf j (by simpa using hlt)
    exact ⟨hok, b, off, by rw [e], r⟩
/-- A row of ticks that came in. -/
def Tks (W : World) (q : Option Addr) (l : List Int) : Prop := ∀ i (x : Int), l[i]? = some x → x ≤ 9223372036854775807 ∧ ∃ b off : Nat, q = some ⟨b, off, none⟩ ∧ b < W.heap.size ∧ W.cell? ⟨b, off + i, none⟩ = some (.int .i64 x)
theorem open_tks {H : Type} {enc : TypeId × Value → H} {W : World} {base : Nat} {v : Value} {d : DataW H} {p : List MemPlace} (o : Value.okWide Try.prog W .any base 25 v)
    (h : DataW.Trod enc Try.prog W 0 (fun _ => true) true 25 v d p) : ∃ q c l, v = .slice q l.length c ∧ Tks W q l := by
  obtain ⟨a0, len, cap, rfl⟩ := okWide_slice Try.underlying25 o
  obtain ⟨fuel, hf⟩ := h
  have cj : Try.prog.cellsOf 2 = 1 := by kernel_rfl
  rcases open_slice Try.underlying25 hf with ⟨hcs, hx⟩ | ⟨a, len', cap', m, n, D, Pl, hcs, _, hl, hm, hmm, hx, hcell⟩
  · simp [Value.cells] at hcs
    obtain ⟨rfl, rfl, rfl⟩ := hcs
    exact ⟨none, 0, [], rfl, fun i x h => by simp at h⟩
  · simp [Value.cells] at hcs
    obtain ⟨rfl, rfl, rfl⟩ := hcs
    simp only [if_true] at hmm
    have each : ∀ i, i < len → ∃ x : Int, x ≤ 9223372036854775807 ∧ ∃ b off, a = ⟨b, off, none⟩ ∧ b < W.heap.size ∧ W.cell? ⟨b, off + i, none⟩ = some (.int .i64 x) := by
      intro i hi
      obtain ⟨cs, h1, h2⟩ := hcell i (by omega)
      rw [cj] at h1
      obtain ⟨u, rfl, hu⟩ := cells_oneS h1
      have h0 : ∃ u0, W.cell? (a.add 0) = some u0 := by
        obtain ⟨cs, h1, _⟩ := hcell 0 (by omega)
        rw [cj] at h1
        obtain ⟨u0, _, hu0⟩ := cells_oneS h1
        exact ⟨u0, by simpa [Addr.add] using hu0⟩
      obtain ⟨u0, hu0⟩ := h0
      obtain ⟨b, off, ha, hb⟩ := spot_noneS (by simpa [Addr.add] using hu0)
      subst ha
      obtain ⟨z0, e0, _, w0⟩ := DataW.trod_int Try.underlying2 h2
      simp at e0
      subst e0
      rw [add_noneS, add_noneS, Nat.add_zero, Nat.mul_one] at hu
      exact ⟨z0, (wf_i64S w0).2, b, off, rfl, hb, hu⟩
    obtain ⟨f, hf⟩ := choose_lt each
    refine ⟨some a, cap, (List.range len).map f, by simp, ?_⟩
    intro j x hj
    rw [List.getElem?_map, Option.map_eq_some_iff] at hj
    obtain ⟨i, hi, rfl⟩ := hj
    obtain ⟨hlt, rfl⟩ := List.getElem?_eq_some_iff.1 hi
    rw [List.getElem_range] at *
    obtain ⟨hok, b, off, e, r⟩ := hf j (by simpa using hlt)
    exact ⟨hok, b, off, by rw [e], r⟩
theorem open_rules {H : Type} {enc : TypeId × Value → H} {W : World} {base : Nat} {v : Value} {d : DataW H} {p : List MemPlace} (o : Value.okWide Try.prog W .any base 23 v)
    (h : DataW.Trod enc Try.prog W 0 (fun _ => true) true 23 v d p) : ∃ n a : Int, v = .agg #[.int .i64 n, .int .i64 a] := by
  have c1 : Try.prog.cellsOf 3 = 1 := by kernel_rfl
  have c2 : Try.prog.cellsOf 23 = 2 := by kernel_rfl
  obtain ⟨cs, rfl, hs⟩ := okWide_struct Try.underlying23 o
  obtain ⟨fuel, hf⟩ := h
  have hf : DataW.trod enc Try.prog W 0 (fun _ => true) true fuel 23 cs.toList = some (d, p) := hf
  rw [c2] at hs
  obtain ⟨a, b, rfl⟩ : ∃ a b, cs = #[a, b] := by
    obtain ⟨l⟩ := cs
    match l, hs with
    | [a, b], _ => exact ⟨a, b, rfl⟩
  obtain ⟨y0, y1, k, _, _, t0, t1⟩ := trod_struct2 Try.underlying23 hf
  obtain ⟨s1, e1, _, z1⟩ := DataW.trod_int Try.underlying3 t0
  obtain ⟨s2, e2, _, z2⟩ := DataW.trod_int Try.underlying3 t1
  simp [c1] at e1 e2
  subst e1 e2
  exact ⟨s1, s2, rfl⟩
end Go.Proofs.Ytlklbhjcohgmhaa
