/- All series of a book, sorted: All. -/
import Derived.Test.YtlklbhjcohgmhaaScQ
import Derived.Test.YtlklbhjcohgmhaaScH
namespace Go.Proofs.Ytlklbhjcohgmhaa
open Go.RowKit Go.Shelf Go.Lib Go.Sort
open Go.Joins (cell_of_block unfrozen_of_block block_setCell)
set_option linter.unusedVariables false
set_option linter.unusedSimpArgs false
set_option maxRecDepth 20000

abbrev fnKeys : Nat := 42
set_option maxHeartbeats 8000000 in
theorem seqS_any (w : World) (mb b : Nat) (E : List En) (h : MapS w mb E) (h1 : w.cell? ⟨b, 0, none⟩ = some (.map (some mb))) (hE : E.length ≤ 512) :
    Calls Try.prog 50 #[.slice none 0 0, .func (.func 42) #[] #[.pointer (some ⟨b, 0, none⟩)]] w fun r w' =>
      (∃ q c xs, r = .returned (.slice q E.length c) ∧ xs.Perm (E.map (·.s)) ∧ w'.ownsRow w.heap.size KS 2 (.slice q E.length c) E.length (flS xs)) ∧ Below w.heap.size w w' := by
  obtain ⟨N, hN⟩ : ∃ N, N = w.heap.size := ⟨_, rfl⟩
  obtain ⟨A, hA⟩ : ∃ A, A = N := ⟨_, rfl⟩
  obtain ⟨w1, hw1⟩ : ∃ x, x = w.alloc (.cells #[.slice none 0 0] SlS) := ⟨_, rfl⟩
  have b1 : Below w.heap.size w w1 := hw1 ▸ (Below.refl _ _).alloc (Nat.le_refl _) _
  have s1 : w1.heap[A]? = some (.cells #[.slice none 0 0] SlS (0, 0)) := by rw [hw1, hA, hN]; exact heap_alloc_new w _
  have z1 : w1.heap.size = N + 1 := by rw [hw1, hN]; simp
  have hml := h.lt
  have TN := Lib.hid (keys_tells (6 - 1) N w1 mb b E (h.keep (b1.block mb hml)) ((b1.cell (p := ⟨b, 0, none⟩) (World.block_lt_of_cell? _ _ h1)).trans h1) (by omega) (by omega))
  have I0 : Hid (∀ C, w1.heap.size ≤ C → GrowS SlS KS flS N A C w [] w1) := fun C _ => ⟨none, 0, s1, World.ownsRow_nil _ _ _ _, by rw [hN]; exact b1⟩
  have HH := Lib.hid (And.intro hN (And.intro hA (And.intro z1 hE)))
  have HW1 : Hid (w.alloc (.cells #[.slice none 0 0] SlS) = w1 ∧ w.heap.size = A) := ⟨hw1.symm, by rw [hA, hN]⟩
  obtain ⟨inf, i1, i2, i3, i4⟩ := infoS
  have HI := Lib.hid (And.intro i1 (And.intro i2 (And.intro i3 i4)))
  clear h h1 hE hN hA hw1 b1 s1 z1 hml i1 i2 i3 i4
  refine (callsIn_wide (n := 6)).1 ?_
  refine callsIn_of_wp_marks Try.func50 rfl trivial ?_ rfl
  simp only [Try.ntmps50, List.size_toArray, List.length_cons, List.length_nil, Nat.reduceAdd, Nat.reduceSub, Array.replicate_succ, Array.replicate_zero, List.push_toArray, List.append_toArray, List.nil_append, List.cons_append]
  refine wpIn_wide.2 ?_
  go_upto_region 1 with fail
  rw [HW1.out.1, HW1.out.2]
  go_wp2_with fail
  refine (wpIn_wide (n := 6)).1 ?_
  refine wpIn_toldD (α := Sr) (n := 6) (by decide) (gf := 42) (lb := #[.pointer (some ⟨b, 0, none⟩)]) rfl (enters_of Try.func42 (by kernel_rfl) rfl) TN.out (Below.refl _ _) (fun _ => rfl) (by have := HH.out.2.2.1; omega) (fun pre x A A' h f => h)
    (fun C pre W => GrowS SlS KS flS N A C w pre W) (fun _ _ _ _ => False) (fun C s B B' T h cc hT => ?_) (fun c C s A A' T h _ _ => h.elim) I0.out ?_ ?_ (fun _ _ _ _ _ _ h _ => h.elim (fun _ h => h.elim))
  · obtain ⟨hN, hA, z1, hE⟩ := HH.out
    exact GrowS.bears (B := w1.heap.size) (by omega) (by omega) () B B' T h cc hT
  · intro l' C pre x W hi hgv hlB hlC hCW
    rw [zip_oneD]
    obtain ⟨x1, x2⟩ := x
    have hgv : pre.length < E.length := hgv
    obtain ⟨O, hO⟩ : ∃ A, A = W.heap.size := ⟨_, rfl⟩
    obtain ⟨w5, hw5⟩ : ∃ w5, w5 = W.alloc (.cells #[.string x1, .string x2] KS) := ⟨_, rfl⟩
    have b5 : Below W.heap.size W w5 := hw5 ▸ (Below.refl _ _).alloc (Nat.le_refl _) _
    have k5 : w5.heap[O]? = some (.cells #[.string x1, .string x2] KS (0, 0)) := by rw [hw5, hO]; exact heap_alloc_new W _
    have HW5 : Hid (W.alloc (.cells #[.string x1, .string x2] KS) = w5 ∧ W.heap.size = O) := ⟨hw5.symm, hO.symm⟩
    have H5 := Lib.hid (And.intro hi (And.intro hgv (And.intro b5 (And.intro k5 (And.intro hlB (And.intro hlC hCW))))))
    clear hi hgv b5 k5 hO hw5 hlB hlC hCW
    refine region_roundD (by rfl) (fun ⟨a, w, h⟩ => h) ?_
    unfold ser
    go_wp2_with fail
    rw [HW5.out.1, HW5.out.2]
    obtain ⟨hi, hgv, b5, k5, hlB, hlC, hCW⟩ := H5.out
    obtain ⟨hN, hA, z1, hE⟩ := HH.out
    have hO := HW5.out.2
    refine ⟨StaysD.ofBelow b5 (by omega), fun W2 c2 f2 => ?_⟩
    have out : ∀ g o, W.heap[g]? = some o → g ≠ l' → W2.heap[g]? = some o := fun g o h1 h2 =>
      (c2.block g (Nat.lt_of_lt_of_le (Array.getElem?_eq_some_iff.1 h1).1 b5.size) (by simpa using h2)).trans ((b5.block g (Array.getElem?_eq_some_iff.1 h1).1).trans h1)
    have g2 : GrowS SlS KS flS N A C w pre W2 := by
      obtain ⟨q, c, q1, q2, q3⟩ := hi
      exact GrowS.keep ⟨q, c, q1, q2, q3⟩ ((b5.mono (by omega)).trans f2) ((out A _ q1 (by omega)).trans q1.symm) (fun g cs T fz hg hgc => (out g _ hgc (by omega)).trans hgc.symm)
    have k2 : W2.heap[O]? = some (.cells #[.string x1, .string x2] KS (0, 0)) := (c2.block O (Array.getElem?_eq_some_iff.1 k5).1 (by simp; omega)).trans k5
    have hCW2 : C ≤ W2.heap.size := by have := b5.size; have := c2.size; omega
    have d0 : W2.cell? ⟨O, 0, none⟩ = some (.string x1) := cell_of_block k2 0
    have d1 : W2.cell? ⟨O, 1, none⟩ = some (.string x2) := cell_of_block k2 1
    obtain ⟨q, c, q1, q2, q3⟩ := g2
    obtain ⟨E', hE'⟩ : ∃ E, E = W2.heap.size := ⟨_, rfl⟩
    obtain ⟨w6, hw6⟩ : ∃ x, x = W2.alloc (.cells #[.string x1, .string x2] KS) := ⟨_, rfl⟩
    have b6 : Below W2.heap.size W2 w6 := hw6 ▸ (Below.refl _ _).alloc (Nat.le_refl _) _
    have q16 : w6.heap[A]? = some (.cells #[.slice q pre.length c] SlS (0, 0)) := (b6.block A (Array.getElem?_eq_some_iff.1 q1).1).trans q1
    have m2 : W2.cell? ⟨A, 0, none⟩ = some (.slice q pre.length c) := cell_of_block q1 0
    have OW : Hid (w6.ownsRow C KS 2 (.slice q pre.length c) pre.length (flS pre)) := by show World.ownsRow _ _ _ _ _ _ _; rw [hw6]; exact q2.alloc _
    have NEW : Hid (∀ (t : Nat) u, ([.string x1, .string x2] : List Value)[t]? = some u → w6.cell? ((⟨E', 0, none⟩ : Addr).add t) = some u) := by
      have := World.news_of_block (w := w6) (B := E') (cs := #[.string x1, .string x2]) (t := KS) (fr := (0, 0)) (by rw [hw6, hE']; exact heap_alloc_new W2 _)
      exact this
    have BS : Hid (C ≤ w6.heap.size) := by have := b6.size; show _ ≤ _; omega
    have HW6 : Hid (W2.alloc (.cells #[.string x1, .string x2] KS) = w6 ∧ W2.heap.size = E') := ⟨hw6.symm, hE'.symm⟩
    have KEEP : Hid (∀ g cap w7, w7.ownsRow C KS 2 (.slice (some ⟨g, 0, none⟩) (pre.length + 1) cap) (pre.length + 1) (flS pre ++ [.string x1, .string x2]) → w6.grownBy w7 (Value.slice q pre.length c).ownBlock →
        w7.cell? ⟨A, 0, none⟩ = some (.slice q pre.length c) ∧ w7.frozen? ⟨A, 0, none⟩ = false ∧ StaysD N w1.heap.size C W2 (w7.setCell ⟨A, 0, none⟩ (.slice (some ⟨g, 0, none⟩) (pre.length + 1) cap)) ∧
        GrowS SlS KS flS N A C w (pre ++ [(x1, x2)]) (w7.setCell ⟨A, 0, none⟩ (.slice (some ⟨g, 0, none⟩) (pre.length + 1) cap))) := fun g cap w7 own hg => by
      have NX := GrowS.next (B := w1.heap.size) (fl := flS) (x := (x1, x2)) (N := N) (w := w) q16 OW.out (q3.trans (b6.mono (by have := q3.size; omega))) (by omega) (by omega) (by omega) BS.out (fl_snocS pre (x1, x2)) own hg
      obtain ⟨y1, y2, y3, y4⟩ := NX
      exact ⟨y1, y2, (StaysD.ofBelow b6 (by have := q3.size; omega)).trans y3, y4⟩
    obtain ⟨n, hn⟩ : ∃ n, n = pre.length := ⟨_, rfl⟩
    have hn512 : n ≤ 512 := by omega
    rw [← hn] at m2 OW KEEP
    clear hi hgv b5 k5 hlB hlC hCW hN hA z1 hE hO out k2 hCW2 c2 f2 q1 q2 q3 hE' hw6 b6 q16 H5 HH hn
    gi_upto_region 3 with fail
    refine region_roundD (by rfl) (fun ⟨a, w, h⟩ => h) ?_
    go_wp2_with (at_builtin; rw [HW6.out.1, HW6.out.2]; refine wpList_append_lies _ rfl _ _ SlS (by rfl) C KS inf (.agg #[.string { data := #[] }, .string { data := #[] }]) 2 32 Try.underlying47 HI.out.1 HI.out.2.1 HI.out.2.2.1 HI.out.2.2.2 rfl (by omega) (.slice q n c) n (flS pre) (by rfl) OW.out ⟨E', 0, none⟩ 1 1 [.string x1, .string x2] (by rfl) rfl NEW.out (by intro u hu; simp at hu; rcases hu with rfl | rfl <;> rfl) (by omega) (by unfold maxLen; omega) (by omega) BS.out _ rfl ?_; intro g cap w7 hown7 hgrow7 hat7 hlt7; obtain ⟨y1, y2, y3⟩ := KEEP.out g cap w7 hown7 hgrow7; have X3 := Lib.hid y3; clear y3 hown7 hgrow7 hat7 hlt7)
    exact X3.out
  · intro D xs Wd hD hS hex hdef
    obtain ⟨C, hC, hi⟩ := hex
    obtain ⟨hN, hA, z1, hE⟩ := HH.out
    have hxl : xs.length = E.length := by have := hS.length_eq; simpa using this
    have FN : Hid (∀ w', Tch [D] Wd w' → ∃ q c, Wd.heap[A]? = some (.cells #[.slice q xs.length c] SlS (0, 0)) ∧ w'.ownsRow N KS 2 (.slice q xs.length c) xs.length (flS xs) ∧ Below N w w') := fun w' t => hi.fin (by omega) (by omega) hdef (by have := hi.low.size; omega) t
    obtain ⟨q, c, h1, h2, h3⟩ := hi
    have m0 : Wd.cell? ⟨A, 0, none⟩ = some (.slice q xs.length c) := cell_of_block h1 0
    have H1 := Lib.hid (And.intro h1 (And.intro hdef (And.intro hS (And.intro hxl hN))))
    clear hD hC hN hA z1 hE h1 h2 h3 hdef TN I0 hS hxl
    go_wp2_with fail
    refine leaves_marksD (F := Fence.wide) (n := 6) (P := Try.prog) (fn := Try.f50) [D] Wd (by simp) (fun D' hD => by rw [List.mem_singleton] at hD; rw [hD]; exact H1.out.2.1) (fun w'' c'' => ?_)
    obtain ⟨q2, c2, k1, k2, k3⟩ := FN.out w'' c''
    obtain ⟨h1, hdef, hS, hxl, hN⟩ := H1.out
    rw [h1] at k1
    simp only [Option.some.injEq, Obj.cells.injEq, List.cons.injEq, Value.slice.injEq, Array.mk.injEq, and_true, true_and] at k1
    obtain ⟨rfl, rfl⟩ := k1
    refine ⟨_, results_tmp rfl _ _ _, ?_⟩
    rw [← hxl, ← hN]
    exact ⟨⟨q, c, xs, rfl, hS, k2⟩, k3⟩

set_option maxHeartbeats 1000000 in
theorem collectS_any (w : World) (mb b : Nat) (E : List En) (h : MapS w mb E) (h1 : w.cell? ⟨b, 0, none⟩ = some (.map (some mb))) (hE : E.length ≤ 512) :
    Calls Try.prog 40 #[.func (.func 42) #[] #[.pointer (some ⟨b, 0, none⟩)]] w fun r w' =>
      (∃ q c xs, r = .returned (.slice q E.length c) ∧ xs.Perm (E.map (·.s)) ∧ w'.ownsRow w.heap.size KS 2 (.slice q E.length c) E.length (flS xs)) ∧ Below w.heap.size w w' := by
  have C := Lib.hid (seqS_any w mb b E h h1 hE)
  clear h h1 hE
  go_enter Try.func40, Try.ntmps40
  go_wp2_with fail
  refine C.out.mono ?_
  rintro e w' ⟨⟨q, c, xs, rfl, hp, own⟩, bl⟩
  have FIN := Lib.hid (And.intro hp (And.intro own bl))
  clear hp own bl C
  go_wp2
  go_ret
  exact ⟨⟨q, c, xs, rfl, FIN.out.1, FIN.out.2.1⟩, FIN.out.2.2⟩
/-- Sorted, each once. -/
def Listed (E : List En) (l : List Sr) : Prop := l.Perm (E.map (·.s)) ∧ l.Pairwise (fun a b => risesS a b = true)
theorem listed_of {E : List En} {l : List Sr} (ha : ApartS E) (hp : l.Perm (E.map (·.s))) (hs : l.Pairwise (fun a b => risesS b a = false)) : Listed E l := by
  refine ⟨hp, ?_⟩
  have hn : l.Nodup := (hp.nodup_iff).2 (List.pairwise_map.2 ha)
  refine (List.Pairwise.and hs hn).imp (fun {a b} h => ?_)
  rw [risesS_iff]
  have h1 := risesS_not.1 h.1
  have h2 := cf_swapS a b
  rcases Int.lt_or_eq_of_le h1 with h3 | h3
  · omega
  · exact absurd (cf_zeroS h3.symm).symm h.2
set_option maxHeartbeats 1000000 in
theorem sortedS_any (w : World) (mb b : Nat) (E : List En) (ha : ApartS E) (h : MapS w mb E) (h1 : w.cell? ⟨b, 0, none⟩ = some (.map (some mb))) (hE : E.length ≤ 512) :
    Calls Try.prog 25 #[.func (.func 42) #[] #[.pointer (some ⟨b, 0, none⟩)], fvS] w fun r w' =>
      (∃ q c l, r = .returned (.slice q E.length c) ∧ Listed E l ∧ RowS w' w.heap.size q l) ∧ Below w.heap.size w w' := by
  have C := Lib.hid (collectS_any w mb b E h h1 hE)
  obtain ⟨m, hm⟩ : ∃ m, m = E.length := ⟨_, rfl⟩
  have HH := Lib.hid (And.intro ha (And.intro hE hm))
  rw [← hm] at C ⊢
  clear h h1 hE ha hm
  go_enter Try.func25, Try.ntmps25
  go_wp2_with fail
  refine C.out.mono ?_
  rintro e w1 ⟨⟨q, c, xs, rfl, hp, own⟩, bl⟩
  have CS : Hid (Calls Try.prog 41 #[.slice q m c, fvS] w1 fun e w' => e = .returned (.tuple #[]) ∧ Below w.heap.size w1 w' ∧ ∃ s : List Sr, s.Perm xs ∧ s.Pairwise (fun a b => risesS b a = false) ∧ RowS w' w.heap.size q s) := by
    obtain ⟨ha, hE, hm⟩ := HH.out
    have hl : xs.length = m := by have := hp.length_eq; rw [hm]; simpa using this
    have := sortS_any w1 w.heap.size q c xs (by rw [hl]; exact own) bl.size (by omega)
    rw [hl] at this
    exact this
  have HP := Lib.hid (And.intro hp bl)
  clear hp own bl C
  go_wp2_with fail
  refine CS.out.mono ?_
  rintro e w2 ⟨rfl, b2, s, sp, ss, rs⟩
  have FIN : Hid ((∃ l, Listed E l ∧ RowS w2 w.heap.size q l) ∧ Below w.heap.size w w2) := ⟨⟨s, listed_of HH.out.1 (sp.trans HP.out.1) ss, rs⟩, HP.out.2.trans b2⟩
  clear b2 sp ss rs CS
  go_wp2
  go_ret
  obtain ⟨⟨l, k1, k2⟩, k3⟩ := FIN.out
  exact ⟨⟨q, c, l, rfl, k1, k2⟩, k3⟩
set_option maxHeartbeats 1000000 in
theorem all_any (w : World) (bb mb n a : Nat) (E : List En) (h : Bk w bb mb n a E) :
    Calls Try.prog 12 #[.pointer (some ⟨bb, 0, none⟩)] w fun r w' => (∃ q c l, r = .returned (.slice q E.length c) ∧ Listed E l ∧ RowS w' w.heap.size q l) ∧ Below w.heap.size w w' := by
  have CK := Lib.hid (keys_any w mb)
  obtain ⟨N, hN⟩ : ∃ N, N = w.heap.size := ⟨_, rfl⟩
  obtain ⟨w1, hw1⟩ : ∃ w1, w1 = w.alloc (.cells #[.map (some mb)] MS) := ⟨_, rfl⟩
  have b1 : Below w.heap.size w w1 := hw1 ▸ (Below.refl _ _).alloc (Nat.le_refl _) _
  have k1 : w1.heap[N]? = some (.cells #[.map (some mb)] MS (0, 0)) := by rw [hw1, hN]; exact heap_alloc_new w _
  have h1 := h.gr b1
  have c2 := h.c2
  have CS := Lib.hid (sortedS_any w1 mb N E h.apart h1.map (cell_of_block k1 0) h.few)
  have HW : Hid (w.alloc (.cells #[.map (some mb)] MS) = w1 ∧ w.heap.size = N) := ⟨hw1.symm, hN.symm⟩
  have HB := Lib.hid b1
  obtain ⟨m, hm⟩ : ∃ m, m = E.length := ⟨_, rfl⟩
  rw [← hm] at CS ⊢
  clear h hN hw1 b1 k1 h1 hm
  go_enter Try.func12, Try.ntmps12
  go_wp2_with fail
  refine CK.out.mono ?_
  rintro e w' ⟨rfl, rfl⟩
  rw [HW.out.1, HW.out.2]
  go_wp2_with fail
  refine CS.out.mono ?_
  rintro e w2 ⟨⟨q, c, l, rfl, hl, hr⟩, b2⟩
  have FIN : Hid ((∃ l, Listed E l ∧ RowS w2 w.heap.size q l) ∧ Below w.heap.size w w2) := by
    have hz := HB.out.size
    refine ⟨⟨l, hl, fun i x hx => ?_⟩, HB.out.trans (b2.mono hz)⟩
    obtain ⟨g, g1, g2, g3⟩ := hr i x hx
    exact ⟨g, g1, by omega, g3⟩
  clear hl hr b2 CS CK
  go_wp2
  go_ret
  obtain ⟨⟨l, k1, k2⟩, k3⟩ := FIN.out
  exact ⟨⟨q, c, l, rfl, k1, k2⟩, by rw [← HW.out.2] at *; exact k3⟩
end Go.Proofs.Ytlklbhjcohgmhaa
