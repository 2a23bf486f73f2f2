/- Proved here: the law OctetWrites of layer 6 holds for every input: any numbers and texts are written as the document says, and read again, one by one. No conditions. -/
import Derived.Test.YtlajiochpdlhaaaOWriteW
import Derived.Lib.SmallJoins
import Derived.ChangeMaps5
namespace Go.Proofs.Ytlajiochpdlhaaa.octetWrites
open Go.ChangeShapes Go.WideShapes Go.ChangeAt Go.RowKit Go.ChangeMaps Go.Lib Go.Shelf Go.Sort Go.Deep
open Go.Joins (cell_of_block unfrozen_of_block block_setCell)
set_option linter.unusedVariables false
set_option linter.unusedSimpArgs false
set_option maxRecDepth 20000


theorem open_steps {H : Type} {enc : TypeId × Value → H} {W : World} {base : Nat} {v : Value} {d : DataW H} {p : List MemPlace} (o : Value.okWide Try.prog W .any base 22 v)
    (h : DataW.Trod enc Try.prog W 0 (fun _ => true) true 22 v d p) : ∃ q c l, v = .slice q l.length c ∧ RowR 4 encT W q l ∧ (∀ x ∈ l, x.2.2.1 < 18446744073709551616) ∧ l.length ≤ maxLen := by
  obtain ⟨a0, len, cap, rfl⟩ := okWide_slice Try.underlying22 o
  obtain ⟨fuel, hf⟩ := h
  have c4 : Try.prog.cellsOf 30 = 4 := by kernel_rfl
  have ci : Try.prog.cellsOf 3 = 1 := by kernel_rfl
  have cs : Try.prog.cellsOf 9 = 1 := by kernel_rfl
  have cu : Try.prog.cellsOf 28 = 1 := by kernel_rfl
  rcases open_slice Try.underlying22 hf with ⟨hcs, hx⟩ | ⟨a, len', cap', m, n, D, Pl, hcs, _, hl, hm, hmm, hx, hcell⟩
  · simp [Value.cells] at hcs
    obtain ⟨rfl, rfl, rfl⟩ := hcs
    exact ⟨none, 0, [], rfl, RowR.nil _ _ _ _, by simp, Nat.zero_le _⟩
  · simp [Value.cells] at hcs
    obtain ⟨rfl, rfl, rfl⟩ := hcs
    simp only [if_true] at hmm
    have cell4 : ∀ i, i < len → ∃ u v x y, W.cells? 0 (a.add (i * 4)) 4 = some [u, v, x, y] ∧ W.cell? ((a.add (i * 4)).add 0) = some u ∧ W.cell? ((a.add (i * 4)).add 1) = some v ∧ W.cell? ((a.add (i * 4)).add 2) = some x ∧ W.cell? ((a.add (i * 4)).add 3) = some y := by
      intro i hi
      obtain ⟨cs, h1, h2⟩ := hcell i (by omega)
      rw [c4] at h1
      have h := h1
      unfold World.cells? at h
      rw [if_pos (Nat.zero_le _)] at h
      simp only [show List.range 4 = [0, 1, 2, 3] from rfl, List.mapM_cons, List.mapM_nil, Option.bind_eq_bind, Option.bind_eq_some_iff, Option.pure_def, Option.some.injEq] at h
      obtain ⟨u, hu, x, ⟨v, hv, y, ⟨z, hz, t, ⟨s, hs, r, rfl, rfl⟩, rfl⟩, rfl⟩, rfl⟩ := h
      exact ⟨u, v, z, s, h1, hu, hv, hz, hs⟩
    have each : ∀ i, i < len → ∃ x : Stp, ∃ b off, a = ⟨b, off, none⟩ ∧ b < W.heap.size ∧ x.2.2.1 < 18446744073709551616 ∧ ∀ (t : Nat) (u : Value), (encT x)[t]? = some u → W.cell? ⟨b, off + i * 4 + t, none⟩ = some u := by
      intro i hi
      obtain ⟨u0, _, _, _, _, hu0, _⟩ := cell4 0 (by omega)
      obtain ⟨b, off, ha, hb⟩ := spot_none' (by simpa [Addr.add] using hu0)
      subst ha
      obtain ⟨u, v, x, y, hcc, hu, hv, hx, hy⟩ := cell4 i hi
      obtain ⟨cs', h1, h2⟩ := hcell i (by omega)
      rw [c4, hcc] at h1
      obtain rfl : [u, v, x, y] = cs' := Option.some.inj h1
      obtain ⟨y0, y1, y2, y3, k, _, _, t0, t1, t2, t3⟩ := Go.Joins.trod_struct4 Try.underlying30 h2
      obtain ⟨z0, e0, _, _⟩ := DataW.trod_int Try.underlying3 t0
      obtain ⟨z1, e1, _, _⟩ := DataW.trod_int Try.underlying3 t1
      obtain ⟨z2, e2, _, w2⟩ := DataW.trod_int Try.underlying28 t2
      obtain ⟨s3, e3, _, _⟩ := DataW.trod_string Try.underlying9 t3
      simp [ci, cs, cu] at e0 e1 e2 e3
      subst e0 e1 e2 e3
      obtain ⟨X, rfl, hX⟩ := nat_of_wf w2
      rw [add_none', add_none'] at hu hv hx hy
      refine ⟨(z0, z1, X, s3), b, off, rfl, hb, hX, fun t u hu' => ?_⟩
      match t, hu' with
      | 0, hu' => simp [encT] at hu'; subst hu'; exact hu
      | 1, hu' => simp [encT] at hu'; subst hu'; exact hv
      | 2, hu' => simp [encT] at hu'; subst hu'; exact hx
      | 3, hu' => simp [encT] at hu'; subst hu'; exact hy
      | t + 4, hu' => simp [encT] at hu'
    obtain ⟨f, hf⟩ := choose_lt each
    refine ⟨some a, cap, (List.range len).map f, by simp, ?_, ?_, by simp; omega⟩
    · intro j x hj
      rw [List.getElem?_map, Option.map_eq_some_iff] at hj
      obtain ⟨i, hi, rfl⟩ := hj
      obtain ⟨hlt, rfl⟩ := List.getElem?_eq_some_iff.1 hi
      rw [List.getElem_range] at *
      obtain ⟨b, off, e, h1, _, h3⟩ := hf j (by simpa using hlt)
      exact ⟨b, off, by rw [e], h1, h3⟩
    · intro x hx
      obtain ⟨i, hi, rfl⟩ := List.mem_map.1 hx
      obtain ⟨b, off, e, h1, h2, h3⟩ := hf i (by simpa using hi)
      exact h2
theorem walk {H : Type} {enc : TypeId × Value → H} {base : Nat} (W : World) (v0 : Value) (d0 : DataW H) (p0 : List MemPlace) (o0 : Value.okWide Try.prog W .any base 22 v0) (h0 : DataW.Trod enc Try.prog W 0 (fun _ => true) true 22 v0 d0 p0) :
    Calls Try.prog 3 #[v0] W fun e W' => e = .returned (.bool true) ∧ Below W.heap.size W W' := by
  obtain ⟨q, c, l, rfl, hl, hx, hm⟩ := open_steps o0 h0
  unfold maxLen at hm
  exact walk_at W q c l hl hx (by omega)

/-! ### THE ROW's STEP -/
set_option maxRecDepth 100000 in
theorem lifted (os : Os) (started : os.Started) (H : Type) (enc : TypeId × Value → H) :
    ReturnsInHanded {} Try.checked os 3 .any (Rows.octetWritesSpec.pre6 enc Try.prog Try.f3 Rows.octetWritesRow.domain false) (Rows.octetWritesSpec.post enc Try.prog Try.f3 false true false false) := by
  refine returnsInHanded_of_change (C := Try.checked) own started (by kernel_rfl) Try.func3
    (ChangeSpec.witness6 (enc := enc) (C := Try.checked) false ⟨#[], #[.slice none 0 0], []⟩ 8 (by kernel_rfl) (by kernel_rfl) (by kernel_rfl) (by kernel_rfl)) ?_
  intro W base args ds gs before hval0 hW hcnd _
  have hval : ∀ (j : Nat) t v, Try.f3.params[j]? = some t → args[j]? = some v → Value.okWide Try.prog W .any base t v := hval0
  have hW' := hW
  obtain ⟨p, q, hA0, hV, rfl, hfz, hnd⟩ := hW
  have hA : DataW.TrodAll enc Try.prog W 0 (fun _ => true) true Try.f3.params.toList args.toList ds p := hA0
  have hlt : ∀ x ∈ p, x.block < W.heap.size := fun x hx => hW'.lt x (List.mem_append_left _ hx)
  rw [Try.params3] at hA hval
  have hread : ∀ t ∈ [22], Try.prog.readableRec t = true ∧ t < Try.prog.types.size := by
    intro t ht
    simp only [List.mem_cons, List.not_mem_nil, or_false] at ht
    rcases ht with rfl <;> exact ⟨by kernel_rfl, of_decide_eq_true (by kernel_rfl)⟩
  have again : ∀ (W' : World), Below W.heap.size W W' → ∀ sp : Nat → Bool, (∀ x ∈ p, sp x.block = true) → DataW.TrodAll enc Try.prog W' 0 sp true [22] args.toList ds p :=
    fun W' hb sp hsp => all_again (by kernel_rfl) hb [22] args.toList ds p hread hA hlt hsp
  obtain ⟨v0, d0, rfl, rfl, h0⟩ := trodAll_one hA
  obtain ⟨rfl, rfl⟩ := trodVars_none hV
  clear hA0 hval0
  simp only [List.append_nil] at hW'
  refine (walk W v0 d0 _ (hval 0 22 v0 rfl rfl) h0).mono fun e W' ⟨he, hg⟩ => ?_
  subst he
  exact ⟨_, rfl, post_below hW' hg (fun _ _ _ => trodAll_mk1 (shut_bool Try.underlying4 _)) (fun sp hsp => again W' hg sp hsp) (fun _ => rfl) (ok_one (by kernel_rfl) rfl (okWide_bool_mk Try.underlying4 _))⟩

theorem over : Rows.octetWritesRow.holds Try.pinned (OpenSpec.ofChange Rows.octetWritesSpec) :=
  OpenClaim.holds_of_wide 3 Try.f3 rfl rfl rfl rfl rfl rfl rfl ⟨rfl, rfl, rfl, rfl, rfl⟩ rfl rfl rfl rfl rfl (by kernel_rfl) Try.func3 (by kernel_rfl)
    (of_decide_eq_true (by kernel_rfl)) (by unfold Func.isWrapper; first | (rw [if_pos (by decide +kernel)]; kernel_rfl) | (rw [if_neg (by decide +kernel)]; exact ⟨rfl, rfl⟩))
    (fun os started H enc _ => lifted os started H enc)

/-- The statement. -/
theorem proved : Rows.OctetWritesSaid :=
  over
#print axioms proved
end Go.Proofs.Ytlajiochpdlhaaa.octetWrites
