/- A ring of int: all from a tick on are told. -/
import Derived.Test.YthpmdaioekpipaaRgKI
import Derived.Test.YthpmdaioekpipaaTold
namespace Go.Proofs.Ythpmdaioekpipaa
open Go.RowKit Go.Lib Go.Shelf
open Go.Joins (cell_of_block unfrozen_of_block block_setCell)
set_option linter.unusedVariables false
set_option linter.unusedSimpArgs false
set_option maxRecDepth 20000

theorem sinceI (w : World) (p : Option Addr) (at_ : Int) : Calls Try.prog 12 #[.pointer p, .int .i64 at_] w fun e w' => e = .returned (.func (.func 22) #[] #[.pointer (some ⟨w.heap.size, 0, none⟩), .pointer (some ⟨w.heap.size + 1, 0, none⟩)]) ∧
    w' = (w.alloc (.cells #[.pointer p] 24)).alloc (.cells #[.int .i64 at_] 2) := by
  have hmf : ∀ (fn : Fn) (first cap : Array Value) (w : World), (Instr.makeFunc fn first cap).run Try.prog w = .ok (.func fn first cap) w := fun _ _ _ _ => rfl
  go_enter Try.func12, Try.ntmps12
  go_wp2
  go_ret
  exact ⟨rfl, rfl⟩

set_option maxHeartbeats 1000000 in
theorem tells_nilI (n base : Nat) (w : World) (b : Nat) (at_ : Int) (h1 : w.cell? ⟨b, 0, none⟩ = some (.pointer none)) (h2 : w.cell? ⟨b + 1, 0, none⟩ = some (.int .i64 at_)) (hb : b + 1 < w.heap.size) :
    TellsD n Try.prog 22 #[.pointer (some ⟨b, 0, none⟩), .pointer (some ⟨b + 1, 0, none⟩)] (fun x : Empty => x.elim) (fun pre x _ => x.elim) (fun xs => xs = []) (fun _ => False) base w := fun l' J Jx W hW bJ hY h0 => by
  have c1 : W.cell? ⟨b, 0, none⟩ = some (.pointer none) := (hW.cell (p := ⟨b, 0, none⟩) (by show b < _; omega)).trans h1
  have c2 : W.cell? ⟨b + 1, 0, none⟩ = some (.int .i64 at_) := (hW.cell (p := ⟨b + 1, 0, none⟩) hb).trans h2
  have CA := Lib.hid (from_nilI W at_)
  have HJ := Lib.hid (h0 _ (Nat.le_refl _))
  clear h0 hY hW h1 h2 bJ hb
  refine callsIn_wide.2 ?_
  show Calls Try.prog 22 #[.func (.yield l') #[] #[], .pointer (some ⟨b, 0, none⟩), .pointer (some ⟨b + 1, 0, none⟩)] W _
  go_enter Try.func22, Try.ntmps22
  go_wp2_with fail
  refine CA.out.mono ?_
  rintro e w' ⟨rfl, rfl⟩
  go_wp2_with fail
  go_loopg [10] 0 (fun g vi wr => vi = .int .i64 0 ∧ wr = W)
  case atStart => exact ⟨rfl, rfl⟩
  case round =>
    obtain ⟨rfl, rfl⟩ := hrel
    go_wp2
    go_end0
    exact ⟨⟨_, rfl⟩, .inl ⟨_, [], Nat.le_refl _, rfl, HJ.out⟩⟩
/-- An owned row's cells. -/
theorem own_atI {w : World} {N : Nat} {q : Option Addr} {n c : Nat} {l : List (Int × Int)} (h : w.ownsRow N TSI 2 (.slice q n c) n (flI l)) (hn : l.length = n) {j : Nat} {x : Int × Int} (hx : l[j]? = some x) :
    ∃ g : Nat, q = some ⟨g, 0, none⟩ ∧ N ≤ g ∧ g < w.heap.size ∧ w.cell? ⟨g, j * 2, none⟩ = some (.int .i64 x.1) ∧ w.cell? ⟨g, j * 2 + 1, none⟩ = some (.int .i64 x.2) := by
  have hj := (List.getElem?_eq_some_iff.1 hx).1
  rcases h.2 with ⟨h0, h1⟩ | ⟨g, cap, cur, hv, hb, hgb, hnc, hcm, hcs, hct⟩
  · omega
  · simp only [Value.slice.injEq] at hv
    obtain ⟨rfl, -, rfl⟩ := hv
    have h2 := fl_atI l j x hx
    rw [← hct] at h2
    rw [List.getElem?_take_of_lt (by omega), List.getElem?_take_of_lt (by omega), Array.getElem?_toList, Array.getElem?_toList] at h2
    refine ⟨g, rfl, hb, (Array.getElem?_eq_some_iff.1 hgb).1, ?_, ?_⟩
    · rw [cell_of_block hgb]; exact h2.1
    · rw [cell_of_block hgb]; exact h2.2

set_option maxHeartbeats 2000000 in
theorem tellsI (n base : Nat) (w : World) (rb gb nn b : Nat) (L : List (Int × Int)) (at_ : Int) (H : HasI w rb gb nn L) (h1 : w.cell? ⟨b, 0, none⟩ = some (.pointer (some ⟨rb, 0, none⟩))) (h2 : w.cell? ⟨b + 1, 0, none⟩ = some (.int .i64 at_)) (hb : b + 1 < w.heap.size) (hbase : base ≤ w.heap.size) :
    TellsD n Try.prog 22 #[.pointer (some ⟨b, 0, none⟩), .pointer (some ⟨b + 1, 0, none⟩)] (fun x : Int × Int => #[.agg #[.int .i64 x.1, (.int .i64 x.2)]]) (fun pre x _ => (frmI at_ L)[pre.length]? = some x ∧ pre = (frmI at_ L).take pre.length) (fun xs => xs = frmI at_ L) (fun pre => pre ≠ []) base w := fun l' J Jx W hW bJ hY h0 => by
  have c1 : W.cell? ⟨b, 0, none⟩ = some (.pointer (some ⟨rb, 0, none⟩)) := (hW.cell (p := ⟨b, 0, none⟩) (by show b < _; omega)).trans h1
  have c2 : W.cell? ⟨b + 1, 0, none⟩ = some (.int .i64 at_) := (hW.cell (p := ⟨b + 1, 0, none⟩) hb).trans h2
  have CA := Lib.hid (fromI W rb gb nn L at_ (H.gr hW))
  have HJ := Lib.hid (And.intro h0 (And.intro bJ hY))
  have HBW : Hid (base ≤ W.heap.size) := by have := hW.size; show _ ≤ _; omega
  obtain ⟨l, hl⟩ : ∃ l, l = frmI at_ L := ⟨_, rfl⟩
  obtain ⟨M, hM⟩ : ∃ M, M = l.length := ⟨_, rfl⟩
  rw [← hl, ← hM] at CA
  have HL : Hid (l = frmI at_ L ∧ M = l.length ∧ M ≤ 32) := ⟨hl, hM, by have := frm_fewI at_ L; have := H.few; rw [hM, hl]; omega⟩
  rw [← hl] at HJ ⊢
  clear h0 hY hW h1 h2 H bJ hb hbase hM hl
  refine callsIn_wide.2 ?_
  show Calls Try.prog 22 #[.func (.yield l') #[] #[], .pointer (some ⟨b, 0, none⟩), .pointer (some ⟨b + 1, 0, none⟩)] W _
  go_enter Try.func22, Try.ntmps22
  go_wp2_with fail
  refine CA.out.mono ?_
  rintro e w1 ⟨⟨v, rfl, own⟩, bw1⟩
  obtain ⟨q, c, rfl⟩ := own_sliceI own
  have hlM : M ≤ 32 := HL.out.2.2
  have HC := Lib.hid (And.intro own bw1)
  clear own bw1 CA c1 c2
  go_wp2_with fail
  go_loopg [10] M (fun g vi wr => ∃ j : Nat, vi = .int .i64 (j : Int) ∧ j ≤ M ∧ M - j ≤ g ∧ Hid (J w1.heap.size (l.take j) wr ∧ StaysD base W.heap.size w1.heap.size w1 wr))
  case atStart => exact ⟨0, rfl, Nat.zero_le _, by omega, HJ.out.2.1 _ _ W w1 [] (HJ.out.1 _ HC.out.2.size) (Tch.ofBelow HC.out.2 []) (fun g hg => by cases hg), StaysD.refl _ _ _ _⟩
  case round =>
    obtain ⟨j, rfl, hj1, hj2, HP⟩ := hrel
    by_cases hlt : j < M
    · obtain ⟨hj, hst⟩ := HP.out
      obtain ⟨own, bw1⟩ := HC.out
      have hlen := HL.out.2.1
      obtain ⟨x, hx⟩ : ∃ x, l[j]? = some x := ⟨l[j]'(by omega), List.getElem?_eq_getElem (by omega)⟩
      obtain ⟨g, rfl, hgB, hgl, a0, a1⟩ := own_atI own hlen.symm hx
      have e0 : wr.cell? ⟨g, j * 2, none⟩ = some (.int .i64 x.1) := (World.cell?_of_block (hst.rest g hgB hgl hgl)).trans a0
      have e1 : wr.cell? ⟨g, j * 2 + 1, none⟩ = some (.int .i64 x.2) := (World.cell?_of_block (hst.rest g hgB hgl hgl)).trans a1
      obtain ⟨w3, hw3⟩ : ∃ w3, w3 = wr.alloc (.cells #[.int .i64 x.1, (.int .i64 x.2)] TSI) := ⟨_, rfl⟩
      obtain ⟨A, hA⟩ : ∃ A, A = wr.heap.size := ⟨_, rfl⟩
      have b3 : Below wr.heap.size wr w3 := hw3 ▸ (Below.refl _ _).alloc (Nat.le_refl _) _
      have k0 : w3.heap[A]? = some (.cells #[.int .i64 x.1, (.int .i64 x.2)] TSI (0, 0)) := by rw [hw3, hA]; exact heap_alloc_new wr _
      have d0 : w3.cell? ⟨A, 0, none⟩ = some (.int .i64 x.1) := cell_of_block k0 0
      have d1 : w3.cell? ⟨A, 1, none⟩ = some (.int .i64 x.2) := cell_of_block k0 1
      have hbr : base ≤ wr.heap.size := by have := HBW.out; have := bw1.size; have := hst.fx.size; omega
      have j3 : J w1.heap.size (l.take j) w3 := HJ.out.2.1 _ _ wr w3 [] hj (Tch.ofBelow b3 []) (fun g hg => by cases hg)
      have s3 : StaysD base W.heap.size w1.heap.size w1 w3 := hst.trans (StaysD.ofBelow b3 hbr)
      have hpl : (l.take j).length = j := by rw [List.length_take]; omega
      obtain ⟨fn, tmps, assign, body, hy, hR⟩ := HJ.out.2.2 _ (l.take j) x w3 HC.out.2.size s3.fx.size j3 ⟨by rw [hpl]; exact hx, by rw [hpl]⟩
      have hnext : l.take j ++ [x] = l.take (j + 1) := by
        obtain ⟨h3, h4⟩ := List.getElem?_eq_some_iff.1 hx
        rw [List.take_succ_eq_append_getElem h3, h4]
      have HRD := Lib.hid hR
      have HN := Lib.hid (And.intro hnext s3)
      have HW3 : Hid (wr.alloc (.cells #[.int .i64 x.1, (.int .i64 x.2)] TSI) = w3 ∧ wr.heap.size = A) := ⟨hw3.symm, hA.symm⟩
      clear hj hst own bw1 hlen hx hgB hgl a0 a1 hw3 hA b3 k0 hbr j3 s3 hpl hR hnext HP
      go_upto_region 3 with fail
      rw [HW3.out.1, HW3.out.2]
      refine (wpIn_wide (n := n)).1 ?_
      gi_wp2_with fail
      refine ⟨fun e => (nomatch e), HRD.out.mono ?_⟩
      rintro e W' (⟨rfl, hJ', st'⟩ | ⟨rfl, hJx'⟩)
      · have RN : Hid (J w1.heap.size (l.take (j + 1)) W' ∧ StaysD base W.heap.size w1.heap.size w1 W') := ⟨by rw [← HN.out.1]; exact hJ', HN.out.2.trans st'⟩
        clear hJ' st' HN HRD
        gi_wp2
        go_wp2
        go_roundg (M - (j + 1))
        case measure => omega
        case rel => exact ⟨j + 1, by push_cast; rfl, by omega, by omega, RN⟩
      · have RN : Hid (∃ C pre, pre ≠ [] ∧ Jx C pre W') := ⟨_, _, by simp, hJx'⟩
        clear hJx' HN HRD
        gi_wp2
        go_wp2
        (try simp only [Exit.inBlock, Exit.then]); refine bodyPost_ret (results_none rfl _ _ _) rfl ?_
        exact ⟨⟨_, rfl⟩, .inr RN.out⟩
    · obtain ⟨hj, hst⟩ := HP.out
      have e : j = M := by omega
      have FIN : Hid (∃ C, ∃ xs : List (Int × Int), W.heap.size ≤ C ∧ xs = l ∧ J C xs wr) := ⟨_, _, HC.out.2.size, rfl, by rw [e, HL.out.2.1, List.take_length] at hj; exact hj⟩
      clear hj hst HP HC HJ
      go_wp2
      go_end0
      exact ⟨⟨_, rfl⟩, .inl FIN.out⟩
end Go.Proofs.Ythpmdaioekpipaa
