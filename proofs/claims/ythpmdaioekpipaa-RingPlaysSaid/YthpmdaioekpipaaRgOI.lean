/- A ring of int: one apart. -/
import Derived.Test.YthpmdaioekpipaaRgKI
import Derived.Maps.AppendAt
namespace Go.Proofs.Ythpmdaioekpipaa
open Go.RowKit Go.Lib
open Go.Joins (cell_of_block unfrozen_of_block block_setCell)
set_option linter.unusedVariables false
set_option linter.unusedSimpArgs false
set_option maxRecDepth 20000

set_option maxHeartbeats 1000000 in
theorem cloneI (w : World) (rb gb n cp f m : Nat) (c : Nat → Int × Int) (h : RgI w rb gb n cp f m c) :
    Calls Try.prog 21 #[.slice (some ⟨gb, 0, none⟩) n cp] w fun e w' => (∃ q c', e = .returned (.slice q n c') ∧ w'.ownsRow w.heap.size TSI 2 (.slice q n c') n (flI ((List.range n).map c))) ∧ Below w.heap.size w w' := by
  obtain ⟨E, hE⟩ : ∃ E, E = w.heap.size := ⟨_, rfl⟩
  obtain ⟨w1, hw1⟩ : ∃ x, x = w.alloc (.cells #[] TSI) := ⟨_, rfl⟩
  have b1 : Below w.heap.size w w1 := hw1 ▸ (Below.refl _ _).alloc (Nat.le_refl _) _
  have e1 : w1.heap[E]? = some (.cells #[] TSI (0, 0)) := by rw [hw1, hE]; exact heap_alloc_new w _
  have o1 : w1.ownsRow E TSI 2 (.slice (some ⟨E, 0, none⟩) 0 0) 0 [] := ⟨by simp, .inr ⟨E, 0, #[], rfl, Nat.le_refl _, e1, Nat.le_refl _, Nat.zero_le _, rfl, rfl⟩⟩
  have hr := h.gr b1
  obtain ⟨l, hl⟩ : ∃ l, l = (List.range n).map c := ⟨_, rfl⟩
  have hll : l.length = n := by rw [hl]; simp
  have hlc : ∀ j, j < n → l[j]? = some (c j) := fun j hj => by rw [hl, List.getElem?_map, List.getElem?_range hj]; rfl
  rw [← hl]
  have hlen : (flI l).length = n * 2 := by rw [fl_lenI, hll]
  have news : Hid (∀ (j : Nat) u, (flI l)[j]? = some u → w1.cell? ((⟨gb, 0, none⟩ : Addr).add j) = some u) := fun j u hu => by
    have hj : j < n * 2 := by rw [← hlen]; exact (List.getElem?_eq_some_iff.1 hu).1
    have hadd : (⟨gb, 0, none⟩ : Addr).add j = ⟨gb, j, none⟩ := by unfold Addr.add; split <;> simp_all
    rw [hadd]
    have h2 := fl_atI l (j / 2) (c (j / 2)) (hlc _ (by omega))
    rcases Nat.mod_two_eq_zero_or_one j with e | e
    · have ej : j / 2 * 2 = j := by omega
      rw [ej, hu] at h2
      have := hr.at0 (j := j / 2) (by omega)
      rw [ej] at this
      exact this.trans h2.1.symm
    · have ej : j / 2 * 2 + 1 = j := by omega
      have h3 := h2.2
      rw [ej, hu] at h3
      have := hr.at1 (j := j / 2) (by omega)
      rw [ej] at this
      exact this.trans h3.symm
  have one : ∀ u ∈ flI l, u.oneCell' = true := fun u hu => by
    unfold flI at hu
    rw [List.mem_flatMap] at hu
    obtain ⟨x, _, hx⟩ := hu
    simp only [List.mem_cons, List.not_mem_nil, or_false] at hx
    rcases hx with rfl | rfl <;> rfl
  have hn := h.hn
  have z1 : E ≤ w1.heap.size := by rw [hE]; exact b1.size
  have HW : Hid (w.alloc (.cells #[] TSI) = w1 ∧ w.heap.size = E) := ⟨hw1.symm, hE.symm⟩
  have HB := Lib.hid (And.intro b1 hE)
  have O1 := Lib.hid o1
  obtain ⟨xs, hxs⟩ : ∃ xs, xs = flI l := ⟨_, rfl⟩
  rw [← hxs] at news hlen one ⊢
  obtain ⟨inf, i1, i2, i3, i4⟩ := infoI
  have HI := Lib.hid (And.intro i1 (And.intro i2 (And.intro i3 i4)))
  have e0 : (binOp .eql 28 (.slice (some ⟨gb, 0, none⟩) n cp) (.slice none 0 0)).run Try.prog w = .ok (.bool false) w := by kernel_rfl
  clear hE hw1 b1 e1 o1 hr hl hll hlc hxs i1 i2 i3 i4 h
  go_enter Try.func21, Try.ntmps21
  go_upto_region 3 with fail
  go_wp2_with (first
    | (at_builtin; rw [HW.out.1, HW.out.2]; refine wpList_append_own_at w1 rfl _ _ 28 rfl E TSI inf _ 2 16 Try.underlying28 HI.out.1 HI.out.2.1 HI.out.2.2.1 HI.out.2.2.2 rfl (by decide) (.slice (some ⟨E, 0, none⟩) 0 0) 0 [] (by rfl) O1.out ⟨gb, 0, none⟩ n cp xs (by rfl) hlen news.out one (by unfold maxLen; omega) (by omega) z1 ?_; intro v5 w5 ho5 hg5 hn5 ha5; obtain ⟨q5, c5, rfl⟩ := own_sliceI ho5))
  have FIN : Hid (w5.ownsRow E TSI 2 (.slice q5 n c5) n xs ∧ Below E w w5) := by
    refine ⟨by simpa using ho5, ?_⟩
    have b1 : Below E w w1 := by rw [HB.out.2]; exact HB.out.1
    exact b1.trans ((Below.refl E w1).grown hg5 z1 (fun k e => by simp [Value.ownBlock] at e; omega))
  clear ho5 hg5 hn5 ha5 news O1 HB
  go_wp2
  go_ret
  exact ⟨⟨_, _, rfl, by rw [HW.out.2]; exact FIN.out.1⟩, by rw [HW.out.2]; exact FIN.out.2⟩

theorem copy_nilI (w : World) : Calls Try.prog 9 #[.pointer none] w fun e w' => e = .returned (.pointer none) ∧ w = w' := by
  go_enter Try.func9, Try.ntmps9
  go_wp2
  go_ret
  exact ⟨rfl, rfl⟩
/-- A ring that lies behind all that was. -/
def ApartI (w w' : World) (rb n : Nat) (L : List (Int × Int)) : Prop := ∃ gb, w.heap.size ≤ rb ∧ w.heap.size ≤ gb ∧ HasI w' rb gb n L ∧ Below w.heap.size w w'
theorem copiedI {w w1 : World} {q : Option Addr} {n c' f m : Nat} {c : Nat → Int × Int} {L : List (Int × Int)} (hn : 1 ≤ n ∧ n ≤ 32) (hf : f < n) (hm : m ≤ n) (hL : m = L.length) (hc : ∀ i x, L[i]? = some x → c (pl n f i) = x)
    (own : w1.ownsRow w.heap.size TSI 2 (.slice q n c') n (flI ((List.range n).map c))) (b : Below w.heap.size w w1) :
    ApartI w (w1.alloc (.cells #[.slice q n c', .int .i64 (f : Int), .int .i64 (m : Int)] TRI)) w1.heap.size n L := by
  rcases own.2 with ⟨h0, h1⟩ | ⟨g, cap, cur, hv, hb, hgb, hnc, hcm, hcs, hct⟩
  · omega
  · simp only [Value.slice.injEq] at hv
    obtain ⟨rfl, -, rfl⟩ := hv
    have lg := (Array.getElem?_eq_some_iff.1 hgb).1
    have hlc : ∀ j, j < n → ((List.range n).map c)[j]? = some (c j) := fun j hj => by rw [List.getElem?_map, List.getElem?_range hj]; rfl
    refine ⟨g, b.size, hb, ⟨c', f, c, ⟨?_, ⟨cur, (Below.heap_alloc w1 _ _ lg).trans hgb, by rw [hcs]; exact Nat.mul_le_mul_right _ hnc, fun j hj => ?_⟩, by omega, hn, hf, by omega⟩, hc⟩, b.alloc b.size _⟩
    · rw [← hL]; exact heap_alloc_new w1 _
    · have h2 := fl_atI _ j (c j) (hlc j hj)
      rw [← hct] at h2
      rw [List.getElem?_take_of_lt (by omega), List.getElem?_take_of_lt (by omega), Array.getElem?_toList, Array.getElem?_toList] at h2
      exact h2
set_option maxHeartbeats 1000000 in
theorem copyI (w : World) (rb gb n : Nat) (L : List (Int × Int)) (H : HasI w rb gb n L) :
    Calls Try.prog 9 #[.pointer (some ⟨rb, 0, none⟩)] w fun e w' => ∃ rb2, e = .returned (.pointer (some ⟨rb2, 0, none⟩)) ∧ ApartI w w' rb2 n L := by
  have mixed : Try.prog.follows .mixedOrders = true := by kernel_rfl
  obtain ⟨cp, f, c, h, hc⟩ := H
  obtain ⟨m, hm⟩ : ∃ m, m = L.length := ⟨_, rfl⟩
  rw [← hm] at h
  have CC := Lib.hid (cloneI (World.drew w) rb gb n cp f m c (h.drewN 1))
  have c0 := h.c0
  have c1 := h.c1
  have c2 := h.c2
  have lt := h.lt.1
  have HH := Lib.hid (And.intro h (And.intro hc hm))
  have FIN : Hid (∀ w1 q c', w1.ownsRow w.heap.size TSI 2 (.slice q n c') n (flI ((List.range n).map c)) → Below w.heap.size w w1 → ApartI w (w1.alloc (.cells #[.slice q n c', .int .i64 (f : Int), .int .i64 (m : Int)] TRI)) w1.heap.size n L) :=
    fun w1 q c' o b => copiedI h.hn h.hf h.hm hm hc o b
  clear h hc hm
  go_enter Try.func9, Try.ntmps9
  go_upto_region 3 with fail
  go_region_with (go_at_call 21; refine CC.out.mono ?_; rintro e w1 ⟨⟨q, c', rfl, own⟩, b1⟩; have b2 : Below w.heap.size w w1 := ⟨b1.os, b1.tape, b1.output, b1.size, b1.block⟩; have k1 : w1.cell? ⟨rb, 1, none⟩ = some (.int .i64 (f : Int)) := (b2.cell (p := ⟨rb, 1, none⟩) lt).trans c1; have k2 : w1.cell? ⟨rb, 2, none⟩ = some (.int .i64 (m : Int)) := (b2.cell (p := ⟨rb, 2, none⟩) lt).trans c2; have FF := Lib.hid (FIN.out w1 q c' own b2); clear own b1)
  all_goals
    go_wp2
    go_ret
    exact ⟨_, rfl, FF.out⟩
end Go.Proofs.Ythpmdaioekpipaa
