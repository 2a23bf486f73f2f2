/- What the laws of layer 6 have in common: bytes opened; the chapter's example; a reader that isn't there. -/
import Derived.Test.YtlajiochpdlhaaaRows
import Derived.Test.YtlajiochpdlhaaaOctPn
import Derived.Test.YtlajiochpdlhaaaOctPr
import Derived.Test.YtlajiochpdlhaaaPost
import Derived.Test.YtlajiochpdlhaaaArgs
import Derived.ProofKit
import Derived.OpenShut
import Derived.Deep.Strs
namespace Go.Proofs.Ytlajiochpdlhaaa
open Go.ChangeShapes Go.WideShapes Go.ChangeAt Go.RowKit Go.Deep Go.Lib Go.Shelf
open Go.Joins (cell_of_block unfrozen_of_block block_setCell)
set_option linter.unusedVariables false
set_option maxRecDepth 20000

theorem own : ownKnob Try.prog.godebug = none := by kernel_rfl
theorem c_u8 : Try.prog.cellsOf 5 = 1 := by kernel_rfl
theorem u8_of : ∀ zs : List Int, (∀ z ∈ zs, (Lit.int .u8 z).wf = true) → ∃ l : List UInt8, zs = l.map fun x => (x.toNat : Int)
  | [], _ => ⟨[], rfl⟩
  | z :: r, h => by
    obtain ⟨l, rfl⟩ := u8_of r (fun y hy => h y (List.mem_cons_of_mem _ hy))
    have h2 : 0 ≤ z ∧ z < 256 := by
      have := h z List.mem_cons_self
      simp [Lit.wf, IntKind.min, IntKind.max, IntKind.signed, IntKind.bits] at this
      omega
    refine ⟨UInt8.ofNat z.toNat :: l, ?_⟩
    rw [List.map_cons]
    congr 1
    simp
    omega
theorem add_none' (b off n : Nat) : (⟨b, off, none⟩ : Addr).add n = ⟨b, off + n, none⟩ := by unfold Addr.add; split <;> simp_all
theorem spot_none' {w : World} {a : Addr} {u : Value} (h : w.cell? a = some u) : ∃ b off, a = ⟨b, off, none⟩ ∧ b < w.heap.size := by
  obtain ⟨b, off, s⟩ := a
  unfold World.cell? at h
  split at h
  · rename_i c t f hb
    cases s with
    | none => exact ⟨b, off, rfl, (Array.getElem?_eq_some_iff.1 hb).1⟩
    | some s => simp at h
  · cases h
theorem open_u8s {H : Type} {enc : TypeId × Value → H} {W : World} {base : Nat} {v : Value} {d : DataW H} {p : List MemPlace} (o : Value.okWide Try.prog W .any base 25 v)
    (h : DataW.Trod enc Try.prog W 0 (fun _ => true) true 25 v d p) : ∃ q c l, v = .slice q l.length c ∧ RowR 1 encU W q l ∧ (q = none → c = 0 ∧ l = []) ∧ l.length ≤ maxLen := by
  obtain ⟨a0, len, cap, rfl⟩ := okWide_slice Try.underlying25 o
  obtain ⟨fuel, hf⟩ := h
  rcases open_ints Try.underlying25 Try.underlying5 c_u8 hf with ⟨hcs, hx⟩ | ⟨a, len', cap', zs, hcs, _, hl, hm, hz, hx, hcell, hwz⟩
  · simp [Value.cells] at hcs
    obtain ⟨rfl, rfl, rfl⟩ := hcs
    exact ⟨none, 0, [], rfl, RowR.nil _ _ _ _, fun _ => ⟨rfl, rfl⟩, Nat.zero_le _⟩
  · simp [Value.cells] at hcs
    obtain ⟨rfl, rfl, rfl⟩ := hcs
    simp only [if_true] at hz
    obtain ⟨l, hl1⟩ := u8_of (zs.take len) (fun z hz => hwz z (List.mem_of_mem_take hz))
    have hll : l.length = len := by
      have : (zs.take len).length = len := by rw [List.length_take]; omega
      rw [hl1, List.length_map] at this
      exact this
    refine ⟨some a, cap, l, by rw [hll], ?_, by simp, by omega⟩
    intro j x hj
    have hj2 : j < len := by rw [← hll]; exact (List.getElem?_eq_some_iff.1 hj).1
    have hc := hcell j (by omega)
    have hzj : zs.getD j 0 = (x.toNat : Int) := by
      have h3 : (zs.take len)[j]? = some (x.toNat : Int) := by rw [hl1, List.getElem?_map, hj]; rfl
      rw [List.getElem?_take_of_lt hj2] at h3
      rw [List.getD_eq_getElem?_getD, h3]
      rfl
    rw [hzj] at hc
    have h0 := hcell 0 (by omega)
    obtain ⟨b, off, ha, hb⟩ := spot_none' (by simpa [Addr.add] using h0)
    subst ha
    rw [add_none'] at hc
    refine ⟨b, off, rfl, hb, fun t v hv => ?_⟩
    match t, hv with
    | 0, hv =>
      simp [encU] at hv
      subst hv
      simpa using hc
    | t + 1, hv => simp [encU] at hv

/-! ### the chapter's example -/
theorem wr_new (w : World) : WrM (w.alloc (.cells #[.slice none 0 0] 27)) w.heap.size w.heap.size [] :=
  ⟨.slice none 0 0, heap_alloc_new w _, Nat.le_refl _, World.ownsRow_nil _ _ _ _, by simp [Value.ownBlock]⟩
theorem lives_any (w : World) : Calls Try.prog 7 #[] w fun e w' => e = .returned (.bool true) ∧ Below w.heap.size w w' ∧ w.heap.size < w'.heap.size := by
  obtain ⟨A, hA⟩ : ∃ A, A = w.heap.size := ⟨_, rfl⟩
  obtain ⟨wa, hwa⟩ : ∃ wa, wa = w.alloc (.cells #[.slice none 0 0] 27) := ⟨_, rfl⟩
  have hw : WrM wa A A [] := by rw [hwa, hA]; exact wr_new w
  have G : Gr w wa := hwa ▸ (Gr.refl w).alloc _
  have PC := Lib.hid (put_ok wa A A [] 258 2 (by unfold IsSz; omega) (by decide) hw (by rw [hA]; exact G.size) (by decide))
  have HW := Lib.hid (And.intro hwa (And.intro hA (And.intro G hw)))
  clear hw G hwa
  go_enter Try.func7, Try.ntmps7
  go_wp2_with fail
  rw [← HW.out.1, ← hA]
  refine PC.out.mono ?_
  rintro e w1 ⟨rfl, k1, k2⟩
  obtain ⟨l2, hl2⟩ : ∃ l, l = [] ++ le 258 2 := ⟨_, rfl⟩
  rw [← hl2] at k1
  have e1 : ((mk l2).toList == [2, 1]) = true := by rw [hl2]; decide +kernel
  have BC := Lib.hid (bytes_ok w1 A A l2 k1 (by rw [hl2]; decide))
  clear hl2
  have K := Lib.hid (And.intro k1 k2)
  clear k1 k2 PC
  subst hA
  go_wp2_with fail
  refine BC.out.mono ?_
  rintro e w2 ⟨v, rfl, k3, k4⟩
  obtain ⟨q, c, rfl, _, _, _, hr, _, _⟩ := own_lies k3
  have rs := run_str w2 q c _ hr
  have F : Hid (Below w.heap.size w w2 ∧ w.heap.size < w2.heap.size) := by
    obtain ⟨hwa, _, G, hw⟩ := HW.out
    have m := K.out.2
    have hs1 : w.heap.size < w1.heap.size := by
      have h1 := m.size
      rw [hwa] at h1
      simp at h1
      omega
    have hb : Below w.heap.size w w1 := by
      refine ⟨m.os.trans G.below.os, m.tape.trans G.below.tape, m.output.trans G.below.output, by omega, fun k hk => ?_⟩
      rw [m.blk k (Nat.lt_of_lt_of_le hk G.size) (by omega) (by omega) (by omega) (fun e => by have := (hw.yb_lo k e).1; omega)]
      exact G.heap hk
    exact ⟨hb.trans (k4.mono (by omega)), by have := k4.size; omega⟩
  clear k3 k4 hr BC
  go_wp2
  go_ret
  exact ⟨rfl, F.out⟩

/-! ### a reader that isn't there -/
theorem rd_nil (w : World) : RdM w 0 0 none none := .inl ⟨rfl, rfl, .inl rfl⟩
theorem spoil_nil (w : World) : Calls Try.prog 32 #[.pointer none] w fun e w' => e = .returned (.tuple #[]) ∧ w = w' := by
  go_enter Try.func32, Try.ntmps32
  go_wp2
  go_end0
  exact ⟨rfl, rfl⟩
theorem take_nil (w : World) (n : Int) : Calls Try.prog 33 #[.pointer none, .int .i64 n] w fun e w' => e = .returned (.slice none 0 0) ∧ w = w' := by
  have B := Lib.hid (bad_any w 0 0 none none (rd_nil w))
  have S := Lib.hid (spoil_nil w)
  go_enter Try.func33, Try.ntmps33
  go_wp2_with fail
  refine B.out.mono ?_
  rintro e w1 ⟨rfl, rfl⟩
  go_wp2_with fail
  refine S.out.mono ?_
  rintro e w2 ⟨rfl, rfl⟩
  go_wp2
  go_ret
  exact ⟨rfl, rfl⟩
theorem get_nil (w : World) (n : Nat) (hn : IsSz n) : Calls Try.prog 16 #[.pointer none, .int .i64 (n : Int)] w fun e w' => e = .returned (.int .u64 0) ∧ w = w' := by
  have C := Lib.hid (size_ok w n hn)
  have T := Lib.hid (take_nil w (n : Int))
  clear hn
  go_enter Try.func16, Try.ntmps16
  go_wp2_with fail
  refine C.out.mono ?_
  rintro e w1 ⟨rfl, rfl⟩
  go_wp2_with fail
  refine T.out.mono ?_
  rintro e w2 ⟨rfl, rfl⟩
  go_wp2_with fail
  refine wp_loop_rounds 1 ?_
  rw [rounds_succ]
  go_wp2
  go_ret
  exact ⟨rfl, rfl⟩
theorem int_nil (w : World) : Calls Try.prog 17 #[.pointer none] w fun e w' => e = .returned (.int .i64 0) ∧ w = w' := by
  have C := Lib.hid (get_nil w 8 (by unfold IsSz; omega))
  go_enter Try.func17, Try.ntmps17
  go_wp2_with fail
  refine C.out.mono ?_
  rintro e w1 ⟨rfl, rfl⟩
  go_wp2
  go_ret
  exact ⟨rfl, rfl⟩
theorem text_nil (w : World) : Calls Try.prog 18 #[.pointer none] w fun e w' => e = .returned (.string { data := #[] }) ∧ w = w' := by
  have C := Lib.hid (get_nil w 1 (by unfold IsSz; omega))
  have T := Lib.hid (take_nil w 0)
  have rs := run_str w none 0 [] (RowR.nil _ _ _ _)
  simp only [List.length_nil, ← mk_nil] at rs
  go_enter Try.func18, Try.ntmps18
  go_wp2_with fail
  refine C.out.mono ?_
  rintro e w1 ⟨rfl, rfl⟩
  go_wp2_with fail
  refine T.out.mono ?_
  rintro e w2 ⟨rfl, rfl⟩
  go_wp2
  go_ret
  exact ⟨rfl, rfl⟩

/-- A reader of the call's own, and what was there before the call. -/
def RS (W w : World) (N A : Nat) (s : Sr) : Prop := RdM w N A (some ⟨A, 0, none⟩) s ∧ N ≤ A ∧ W.heap.size ≤ N ∧ N ≤ w.heap.size ∧ (∀ b, yb w A = some b → N ≤ b ∧ b < w.heap.size) ∧ Below W.heap.size W w
theorem RS.step {W w w' : World} {N A : Nat} {s s' : Sr} (h : RS W w N A s) (r : RdM w' N A (some ⟨A, 0, none⟩) s') (m : Mv A A A w w') : RS W w' N A s' := by
  obtain ⟨h1, h2, h3, h4, h5, h6⟩ := h
  have hs := m.size
  refine ⟨r, h2, h3, by omega, fun b hb => ?_, ?_⟩
  · rcases m.core b hb with h | h
    · have := h5 b h
      omega
    · omega
  · exact h6.trans (m.below (by omega) (by omega) (by omega) (by omega) (fun b hb => by have := (h5 b hb).1; omega))
theorem RS.ofRead {W w w' : World} {A : Nat} {l : List UInt8} (h : Below W.heap.size W w) (hA : w.heap.size ≤ A) (r : RdM w' w.heap.size A (some ⟨A, 0, none⟩) (some l)) (hy : ∀ b, yb w' A = some b → w.heap.size ≤ b ∧ b < w'.heap.size) (k : Below w.heap.size w w') : RS W w' w.heap.size A (some l) :=
  ⟨r, hA, h.size, k.size, hy, h.trans (k.mono h.size)⟩
end Go.Proofs.Ytlajiochpdlhaaa
