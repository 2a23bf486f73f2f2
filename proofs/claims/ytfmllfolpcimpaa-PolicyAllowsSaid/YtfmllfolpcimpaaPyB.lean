/- Layer 22 (policy): what is kept (Keep), of any row. -/
import Derived.Test.YtfmllfolpcimpaaPyA
namespace Go.Proofs.Ytfmllfolpcimpaa.Py
open Go.RowKit Go.Shelf Go.Lib Go.Sort Go.Deep
open Go.Joins (cell_of_block unfrozen_of_block block_setCell)
open Go.Proofs.Ytfmllfolpcimpaa.Ow
set_option linter.unusedVariables false
set_option linter.unusedSimpArgs false
set_option maxRecDepth 20000

/-- Is it kept? -/
def kpS (now : Int) (x : Sca) : Bool := sinB x.1 now 1800
/-- What is kept. -/
def keepL (now : Int) (l : List Sca) : List Sca := (l.filter (kpS now)).drop ((l.filter (kpS now)).length - 32)
theorem keepL_len (now : Int) (l : List Sca) : (keepL now l).length ≤ 32 := by unfold keepL; rw [List.length_drop]; omega
theorem keepL_sub {now : Int} {l : List Sca} {x : Sca} (h : x ∈ keepL now l) : x ∈ l := (List.mem_filter.1 (List.mem_of_mem_drop h)).1
/-- A slice that reads as these, in memory from N on. -/
def NewSc (N : Nat) (w : World) (q : Option Addr) (l : List Sca) : Prop := l = [] ∨ ∃ g off cs, q = some ⟨g, off, none⟩ ∧ N ≤ g ∧ w.heap[g]? = some (.cells cs ScT (0, 0)) ∧ ∀ (j : Nat) (x : Sca), l[j]? = some x → ∀ (t : Nat) (v : Value), (encS x)[t]? = some v → cs[off + j * 3 + t]? = some v
theorem NewSc.row {N : Nat} {w : World} {q : Option Addr} {l : List Sca} (h : NewSc N w q l) : RowR 3 encS w q l := by
  rcases h with rfl | ⟨g, off, cs, rfl, _, hg, hc⟩
  · exact RowR.nil _ _ _ _
  · exact fun j x hx => ⟨g, off, rfl, (Array.getElem?_eq_some_iff.1 hg).1, fun t v hv => (cell_of_block hg _).trans (hc j x hx t v hv)⟩
theorem NewSc.cut {N n c : Nat} {w : World} {q : Option Addr} {l : List Sca} (h : OwnSc N w (.slice q n c) l) (b : Nat) : NewSc N w (Option.map (fun x => x.add (b * 3)) q) (l.drop b) := by
  rcases h.2 with ⟨e, e0⟩ | ⟨g, cap, cur, e, hb, hg, hc, hm, hsz, htk⟩
  · exact .inl (by rw [List.eq_nil_of_length_eq_zero e0]; simp)
  · simp only [Value.slice.injEq] at e
    obtain ⟨rfl, _, rfl⟩ := e
    have ea : (⟨g, 0, none⟩ : Addr).add (b * 3) = ⟨g, b * 3, none⟩ := by unfold Addr.add; split <;> simp_all
    refine .inr ⟨g, b * 3, cur, by rw [Option.map_some, ea], hb, hg, fun j x hx t v hv => ?_⟩
    rw [List.getElem?_drop] at hx
    have ht : t < 3 := by have := (List.getElem?_eq_some_iff.1 hv).1; rw [lenSc] at this; exact this
    have hj : b + j < l.length := (List.getElem?_eq_some_iff.1 hx).1
    have e1 := flat_at lenSc l (b + j) t x hx ht
    rw [hv, ← htk, List.getElem?_take_of_lt (by omega), Array.getElem?_toList] at e1
    rw [show b * 3 + j * 3 + t = (b + j) * 3 + t by omega]
    exact e1

set_option maxHeartbeats 8000000 in
theorem py_keep (w : World) (q : Option Addr) (c : Nat) (l : List Sca) (hr : RowR 3 encS w q l) (hl : l.length ≤ 1000000) (hi : ∀ x ∈ l, I64 x.1) (now : Int) (hn : I64 now) :
    Calls Try.prog 7 #[.slice q l.length c, .int .i64 now] w fun e w' => (∃ q' c', e = .returned (.slice q' (keepL now l).length c') ∧ NewSc w.heap.size w' q' (keepL now l)) ∧ Below w.heap.size w w' := by
  have CS : Hid (∀ x ∈ l, ∀ W : World, Calls Try.prog 9 #[.int .i64 x.1, .int .i64 now, .int .i64 1800] W fun e w' => e = .returned (.bool (kpS now x)) ∧ W = w') := fun x hx W => py_since x.1 now 1800 W (hi x hx) hn (by omega)
  obtain ⟨n, hnl⟩ : ∃ n, n = l.length := ⟨_, rfl⟩
  rw [← hnl] at hl ⊢
  obtain ⟨N, hN⟩ : ∃ N, N = w.heap.size := ⟨_, rfl⟩
  rw [← hN]
  obtain ⟨p, hp⟩ : ∃ p, p = kpS now := ⟨_, rfl⟩
  have EK : Hid (keepL now l = (l.filter p).drop ((l.filter p).length - 32)) := by show _ = _; rw [hp]; rfl
  rw [← hp] at CS
  generalize keepL now l = K at EK ⊢
  have S0 : Hid (OwnSc N w (.slice none 0 0) [] ∧ Below N w w) := ⟨World.ownsRow_nil _ _ _ _, Below.refl _ _⟩
  have HH := Lib.hid (And.intro hr (And.intro hN hnl))
  clear hr hN hnl hp hi hn
  go_enter Try.func7, Try.ntmps7
  go_wp2_with fail
  go_loopg [5, 10] n (fun g1 v5 vi wr => ∃ (j m c5 : Nat) (q5 : Option Addr), vi = .int .i64 (j : Int) ∧ j ≤ n ∧ n - j ≤ g1 ∧ v5 = .slice q5 m c5 ∧ m ≤ j ∧ Hid (((l.take j).filter p).length = m ∧ OwnSc N wr (.slice q5 m c5) ((l.take j).filter p) ∧ Below N w wr))
  case atStart => exact ⟨0, 0, 0, none, rfl, Nat.zero_le _, by omega, rfl, Nat.le_refl _, rfl, S0.out⟩
  case round =>
    obtain ⟨j, m, c5, q5, rfl, h1, h2, rfl, hm, HS⟩ := hrel
    by_cases hlt : j < n
    · obtain ⟨hr, hN, hnl⟩ := HH.out
      obtain ⟨fl, fo, bl⟩ := HS.out
      obtain ⟨x, hx⟩ : ∃ x, l[j]? = some x := ⟨l[j]'(by omega), List.getElem?_eq_getElem (by omega)⟩
      have blt : Below w.heap.size w wr := by rw [← hN]; exact bl
      obtain ⟨gb, off, rfl, c0, c1, c2⟩ := sca_at hr blt hx
      have CX := Lib.hid (CS.out x (List.mem_of_getElem? hx))
      have FS := filter_snoc p hx
      obtain ⟨xa, xf, xt⟩ := x
      dsimp only at c0 c1 c2 CX
      obtain ⟨wb, E, HW, bb, bE, e0, e1, e2⟩ := box_sca wr xa xf xt
      have hNr : N ≤ wr.heap.size := by have := bl.size; omega
      have FB := Lib.hid (And.intro fl (And.intro (fo.below bb) (And.intro (bl.trans (bb.mono hNr)) (Nat.le_trans hNr bb.size))))
      cases hpb : p (xa, xf, xt) with
      | false =>
        rw [hpb] at FS CX
        have FS' : Hid ((l.take (j + 1)).filter p = (l.take j).filter p) := by show _ = _; rw [FS]; simp
        clear hr hN hnl fl fo bl hx blt FS bb bE hNr hpb S0
        go_upto_region 5 with fail
        rw [HW.out.1, HW.out.2]
        go_wp2_with fail
        refine (CX.out _).mono ?_
        rintro e w1 ⟨rfl, rfl⟩
        go_wp2
        go_roundg (n - (j + 1))
        case measure => omega
        case rel => exact ⟨j + 1, m, c5, q5, by push_cast; rfl, by omega, by omega, rfl, by omega, by rw [FS'.out]; exact ⟨FB.out.1, FB.out.2.1, FB.out.2.2.1⟩⟩
      | true =>
        rw [hpb] at FS CX
        have FS' : Hid ((l.take (j + 1)).filter p = (l.take j).filter p ++ [(xa, xf, xt)]) := by show _ = _; rw [FS]; simp
        obtain ⟨w7, B, HW7, b7, bB, _, _, _⟩ := box_sca wb xa xf xt
        have OU := Lib.hid (FB.out.2.1.below b7)
        have BX := Lib.hid bB
        have HB : Hid (N ≤ w7.heap.size) := Nat.le_trans FB.out.2.2.2 b7.size
        have L7 := Lib.hid (FB.out.2.2.1.trans (b7.mono FB.out.2.2.2))
        have HO := Lib.hid FB.out.1
        clear hr hN hnl fl fo bl hx blt FS bb bE hNr hpb S0 b7 bB FB
        go_upto_region 5 with fail
        rw [HW.out.1, HW.out.2]
        go_wp2_with fail
        refine (CX.out _).mono ?_
        rintro e w1 ⟨rfl, rfl⟩
        go_wp2_with (at_builtin; rw [HW7.out.1, HW7.out.2]; refine wpList_push_sca rfl _ _ (by rfl) (xa, xf, xt) HO.out (by rfl) OU.out HB.out (by omega) B (by rfl) BX.out ?_; intro q8 c8 w8 ho8 hg8)
        have NX : Hid (((l.take (j + 1)).filter p).length = m + 1 ∧ OwnSc N w8 (.slice q8 (m + 1) c8) ((l.take (j + 1)).filter p) ∧ Below N w w8) := by
          rw [FS'.out]
          exact ⟨by rw [List.length_append, HO.out]; rfl, ho8, L7.out.trans (grown_low HB.out OU.out hg8)⟩
        clear L7 HO HB BX OU HW7 ho8 hg8 FS'
        go_wp2
        go_roundg (n - (j + 1))
        case measure => omega
        case rel => exact ⟨j + 1, m + 1, c8, q8, by push_cast; rfl, by omega, by omega, rfl, by omega, NX.out⟩
    · obtain rfl : j = n := by omega
      obtain ⟨b, hb⟩ : ∃ b, b = m - 32 := ⟨_, rfl⟩
      obtain ⟨k, hk⟩ : ∃ k, k = m - b := ⟨_, rfl⟩
      obtain ⟨fl, fo, bl⟩ := HS.out
      have cap : m ≤ c5 ∧ c5 ≤ maxLen := by
        rcases fo.2 with ⟨e, e0⟩ | ⟨g, cap, cur, e, hb, hg, hc, hm, hsz, htk⟩
        · simp only [Value.slice.injEq] at e
          obtain ⟨_, _, rfl⟩ := e
          rw [fl] at e0
          exact ⟨by omega, Nat.zero_le _⟩
        · simp only [Value.slice.injEq] at e
          obtain ⟨_, h, rfl⟩ := e
          exact ⟨by omega, hm⟩
      have et : (l.take j).filter p = l.filter p := by rw [List.take_of_length_le (by have := HH.out.2.2; omega)]
      rw [et] at fl fo
      have FIN : Hid (K.length = k ∧ NewSc N wr (Option.map (fun x => x.add (b * 3)) q5) K ∧ Below N w wr) := by
        have e : K = (l.filter p).drop b := by rw [EK.out, fl, hb]
        rw [e]
        exact ⟨by rw [List.length_drop, fl, hk], NewSc.cut fo b, bl⟩
      have mx : max ((m : Int) - 32) 0 = (b : Int) := by omega
      have wm : IntKind.i64.wrap ((m : Int) - 32) = (m : Int) - 32 := by rw [IntKind.wrap_i64]; omega
      have b0 : (0 : Int) ≤ (b : Int) := by omega
      have bm : b ≤ m := by omega
      clear fl fo bl et hb EK S0 HS
      obtain ⟨cm, cx⟩ := cap
      unfold maxLen at cx
      go_wp2_with fail
      · have k0 : m - b = 0 := by omega
        have FE : Hid (K = [] ∧ Below N w wr) := by
          obtain ⟨f1, _, f3⟩ := FIN.out
          exact ⟨List.eq_nil_of_length_eq_zero (by rw [f1, hk, k0]), f3⟩
        clear FIN
        go_ret
        rw [k0, FE.out.1]
        exact ⟨⟨q5, ⟨_, rfl⟩, .inl rfl⟩, FE.out.2⟩
      · rw [hk] at FIN
        go_ret
        rw [FIN.out.1]
        exact ⟨⟨_, ⟨_, rfl⟩, FIN.out.2.1⟩, FIN.out.2.2⟩
end Go.Proofs.Ytfmllfolpcimpaa.Py
