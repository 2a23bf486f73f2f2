/- Layer 21 (window): rows of the law's notes; what the law tells of a window (Within). -/
import Derived.Test.YtcejaeeliedldaaWnL
import Derived.Test.YtcejaeeliedldaaObOp
namespace Go.Proofs.Ytcejaeeliedldaa.Wn
open Go.ChangeShapes Go.WideShapes Go.ChangeAt Go.RowKit Go.Shelf Go.Lib Go.Sort Go.Deep
open Go.Joins (cell_of_block unfrozen_of_block block_setCell)
open Go.Proofs.Ytcejaeeliedldaa.Ow
set_option linter.unusedVariables false
set_option linter.unusedSimpArgs false
set_option maxRecDepth 20000

abbrev NT : TypeId := 32
abbrev SlN : TypeId := 22
def encN (x : Nt) : List Value := [.int .i64 x.1, .int .i64 x.2]
theorem lenN (x : Nt) : (encN x).length = 2 := rfl
theorem oneN (x : Nt) : ∀ u ∈ encN x, u.oneCell' = true := by
  intro u hu
  simp [encN] at hu
  rcases hu with rfl | rfl <;> rfl
abbrev zerN : Array Value := #[.int .i64 0, .int .i64 0]
theorem flat_appN (l : List Nt) (x : Nt) : flat encN (l ++ [x]) = flat encN l ++ encN x := by simp [flat]
def okNt (x : Nt) : Prop := I64 x.1 ∧ I64 x.2
theorem open_notes {H : Type} {enc : TypeId × Value → H} {W : World} {base : Nat} {v : Value} {d : DataW H} {p : List MemPlace} (ok : Value.okWide Try.prog W .any base 22 v)
    (h : DataW.Trod enc Try.prog W 0 (fun _ => true) true 22 v d p) (wt : Wt 22 d) : ∃ q c l, v = .slice q l.length c ∧ RowR 2 encN W q l ∧ (∀ x ∈ l, okNt x) ∧ l.length ≤ 140737488351232 := by
  obtain ⟨a0, len, cap, rfl⟩ := okWide_slice Try.underlying22 ok
  obtain ⟨fuel, hf⟩ := h
  have hf : DataW.trod enc Try.prog W 0 (fun _ => true) true fuel 22 (([Value.slice a0 len cap].drop 0).take 1) = some (d, p) := hf
  obtain ⟨l, ⟨q, c, h1, h2⟩, h3, h4⟩ := open_rowG (k := 2) encN okNt Try.underlying22 (by kernel_rfl) (by decide) (of_decide_eq_true (by kernel_rfl)) (fun n cs y h wt => by
    obtain ⟨n0, y0, t0, z0⟩ := fld (F := 2) (off := 0) (k := 1) 0 Try.underlying32 (by kernel_rfl) h wt
    obtain ⟨v0, a0, w0⟩ := leaf_i Try.underlying2 t0
    obtain ⟨n1, y1, t1, z1⟩ := fld (F := 3) (off := 1) (k := 1) 1 Try.underlying32 (by kernel_rfl) h wt
    obtain ⟨v1, a1, w1⟩ := leaf_i Try.underlying3 t1
    exact ⟨(v0, v1), enc2 a0 a1, w0, w1⟩) hf wt
  simp at h1
  obtain ⟨rfl, rfl, rfl⟩ := h1
  exact ⟨a0, cap, l, rfl, h2, h3, h4⟩
theorem note_at {W w : World} {q : Option Addr} {l : List Nt} (h : RowR 2 encN W q l) (b : Below W.heap.size W w) {j : Nat} {x : Nt} (hx : l[j]? = some x) : ∃ g off, q = some ⟨g, off, none⟩ ∧ w.cell? ⟨g, off + j * 2, none⟩ = some (.int .i64 x.1) ∧ w.cell? ⟨g, off + j * 2 + 1, none⟩ = some (.int .i64 x.2) := by
  obtain ⟨g, off, e, _, hc⟩ := h.below b j x hx
  have h0 := hc 0 _ rfl
  rw [Nat.add_zero] at h0
  exact ⟨g, off, e, h0, hc 1 _ rfl⟩
/-- A note is boxed. -/
theorem box_note (wr : World) (xa xn : Int) : ∃ wb E, Hid (wr.alloc (.cells #[.int .i64 xa, .int .i64 xn] NT) = wb ∧ wr.heap.size = E) ∧ Below wr.heap.size wr wb ∧ wb.heap[E]? = some (.cells #[.int .i64 xa, .int .i64 xn] NT (0, 0)) ∧ wb.cell? ⟨E, 0, none⟩ = some (.int .i64 xa) ∧ wb.cell? ⟨E, 1, none⟩ = some (.int .i64 xn) := by
  have e : (wr.alloc (.cells #[.int .i64 xa, .int .i64 xn] NT)).heap[wr.heap.size]? = some (.cells #[.int .i64 xa, .int .i64 xn] NT (0, 0)) := heap_alloc_new _ _
  exact ⟨_, _, ⟨rfl, rfl⟩, ((Gr.refl wr).alloc _).below, e, cell_of_block e 0, cell_of_block e 1⟩

set_option maxHeartbeats 16000000 in
theorem told_any (W w : World) (low : Below W.heap.size W w) (q : Option Addr) (c : Nat) (l : List Nt) (hr : RowR 2 encN W q l) (hl : l.length ≤ 1000000) (hok : ∀ x ∈ l, 0 ≤ x.1) (now win : Int) (h0 : 0 ≤ now) (hn : now < 9223372036854775808) :
    Calls Try.prog 12 #[.slice q l.length c, .int .i64 now, .int .i64 win] w fun e w' => e = .returned (.tuple #[.int .i64 (goN now (widN win) l).1, .int .i64 (goN now (widN win) l).2.1, .bool (goN now (widN win) l).2.2]) ∧ Below w.heap.size w w' := by
  have key : Hid ((decide (win < 0) = true ∧ widN win = 0) ∨ (decide (win < 0) = false ∧ decide (win > 1800) = true ∧ widN win = 1800) ∨ (decide (win < 0) = false ∧ decide (win > 1800) = false ∧ widN win = win)) := by
    unfold widN
    by_cases h1 : win < 0
    · exact .inl ⟨decide_eq_true h1, by simp [h1]⟩
    · by_cases h2 : win > 1800
      · exact .inr (.inl ⟨decide_eq_false h1, decide_eq_true h2, by simp [h1, h2]⟩)
      · exact .inr (.inr ⟨decide_eq_false h1, decide_eq_false h2, by simp [h1]; omega⟩)
  obtain ⟨n, hnl⟩ : ∃ n, n = l.length := ⟨_, rfl⟩
  rw [← hnl] at hl ⊢
  have FG : Hid (∀ a b d, goN now (widN win) l = (a, b, d) → (goN now (widN win) l).1 = a ∧ (goN now (widN win) l).2.1 = b ∧ (goN now (widN win) l).2.2 = d) := fun a b d h => by rw [h]; exact ⟨rfl, rfl, rfl⟩
  generalize (goN now (widN win) l).1 = R1 at FG ⊢
  generalize (goN now (widN win) l).2.1 = R2 at FG ⊢
  generalize (goN now (widN win) l).2.2 = R3 at FG ⊢
  obtain ⟨wd, hwd⟩ : ∃ wd, wd = widN win := ⟨_, rfl⟩
  rw [← hwd] at FG key
  obtain ⟨G, hG⟩ : ∃ G : Nat → Int × Int × Bool, G = fun j => goN now wd (l.take j) := ⟨_, rfl⟩
  have G0 : Hid (G 0 = (0, 0, false)) := by show _ = _; rw [hG]; rfl
  have GF : Hid (∀ a b d, G n = (a, b, d) → R1 = a ∧ R2 = b ∧ R3 = d) := fun a b d h => FG.out a b d (by rw [hG, hnl] at h; simpa using h)
  have GN : Hid (∀ j x, l[j]? = some x → x.1 > now → G (j + 1) = G j) := fun j x hx h => by
    rw [hG]
    show goN now wd (l.take (j + 1)) = _
    rw [goN_take now wd hx, if_neg]
    unfold inN
    simp [h]
  have GS : Hid (∀ j x d, l[j]? = some x → ¬ x.1 > now → d = now - x.1 → (decide (x.1 < now) = true ∧ decide (d ≥ wd) = true ∧ G (j + 1) = G j) ∨ (((decide (x.1 < now) = true ∧ decide (d ≥ wd) = false) ∨ decide (x.1 < now) = false) ∧ G (j + 1) = stepN (G j) x)) := fun j x d hx h hd => by
    rw [hG, hd]
    show (_ ∧ _ ∧ goN now wd (l.take (j + 1)) = _) ∨ (_ ∧ goN now wd (l.take (j + 1)) = _)
    rw [goN_take now wd hx]
    unfold inN
    have e1 : decide (x.1 > now) = false := decide_eq_false h
    rw [e1]
    by_cases h3 : x.1 < now
    · by_cases h4 : now - x.1 ≥ wd
      · exact .inl ⟨decide_eq_true h3, decide_eq_true h4, by simp [h3, h4]⟩
      · have e2 : decide (now - x.1 ≥ wd) = false := decide_eq_false h4
        exact .inr ⟨.inl ⟨decide_eq_true h3, e2⟩, by rw [e2]; simp⟩
    · have e2 : decide (x.1 < now) = false := decide_eq_false h3
      exact .inr ⟨.inr e2, by rw [e2]; simp⟩
  have HH := Lib.hid (And.intro low (And.intro hr (And.intro hok hnl)))
  clear low hr hok hnl FG hG hwd
  rcases key.out with ⟨d1, e⟩ | ⟨d1, d2, e⟩ | ⟨d1, d2, e⟩
  all_goals
    subst e
    clear key
    go_enter Try.func12, Try.ntmps12
    go_wp2_with fail
    go_loopg [9, 10, 11, 20] n (fun g1 v9 v10 v11 vi wr => ∃ (j : Nat) (a b : Int) (m : Bool), vi = .int .i64 (j : Int) ∧ j ≤ n ∧ n - j ≤ g1 ∧ v9 = .int .i64 a ∧ v10 = .int .i64 b ∧ v11 = .bool m ∧ Hid (G j = (a, b, m)) ∧ Hid (Below w.heap.size w wr))
    case atStart => exact ⟨0, 0, 0, false, rfl, Nat.zero_le _, by omega, rfl, rfl, rfl, G0.out, Below.refl _ _⟩
    case round =>
      obtain ⟨j, a, b, m, rfl, h1, h2, rfl, rfl, rfl, HG, HB⟩ := hrel
      by_cases hlt : j < n
      · obtain ⟨low, hr, hok, hnl⟩ := HH.out
        obtain ⟨x, hx⟩ : ∃ x, l[j]? = some x := ⟨l[j]'(by omega), List.getElem?_eq_getElem (by omega)⟩
        obtain ⟨gb, off, rfl, c0, c1⟩ := note_at hr (low.trans (HB.out.mono low.size)) hx
        have hx0 := hok x (List.mem_of_getElem? hx)
        have KN := Lib.hid (GN.out j x hx)
        have KS := Lib.hid (fun d => GS.out j x d hx)
        rw [HG.out] at KN KS
        obtain ⟨xa, xn⟩ := x
        dsimp only at c0 c1 hx0 KN KS
        obtain ⟨wb, E, HW, bb, _, e0, e1⟩ := box_note wr xa xn
        have BB := Lib.hid (HB.out.trans (bb.mono HB.out.size))
        clear low hr hok hnl hx bb
        by_cases t1 : xa > now
        · have d3 : decide (xa > now) = true := decide_eq_true t1
          have NX := Lib.hid (KN.out t1)
          clear KN KS t1
          go_upto_region 9 with fail
          rw [HW.out.1, HW.out.2]
          go_wp2
          go_roundg (n - (j + 1))
          case measure => omega
          case rel => exact ⟨j + 1, a, b, m, by push_cast; rfl, by omega, by omega, rfl, rfl, rfl, NX.out, BB.out⟩
        · have d3 : decide (xa > now) = false := decide_eq_false t1
          obtain ⟨d, hd⟩ : ∃ d, d = now - xa := ⟨_, rfl⟩
          have wr' : IntKind.i64.wrap (now - xa) = d := by rw [IntKind.wrap_i64]; omega
          have main := KS.out d (by omega) hd
          clear KS KN hd t1 hx0
          rcases main with ⟨d4, d5, q⟩ | ⟨hh, q⟩
          · have NX := Lib.hid q
            clear q
            go_upto_region 9 with fail
            rw [HW.out.1, HW.out.2]
            go_wp2
            go_roundg (n - (j + 1))
            case measure => omega
            case rel => exact ⟨j + 1, a, b, m, by push_cast; rfl, by omega, by omega, rfl, rfl, rfl, NX.out, BB.out⟩
          · have NX := Lib.hid q
            have go : Hid (∃ a2 b2, G (j + 1) = (a2, b2, true) ∧ ((m = false ∧ a2 = xn ∧ b2 = xn) ∨ (m = true ∧ ((decide (xn < a) = true ∧ a2 = xn) ∨ (decide (xn < a) = false ∧ a2 = a)) ∧ ((decide (xn > b) = true ∧ b2 = xn) ∨ (decide (xn > b) = false ∧ b2 = b))))) := by
              refine ⟨(stepN (a, b, m) (xa, xn)).1, (stepN (a, b, m) (xa, xn)).2.1, NX.out, ?_⟩
              unfold stepN
              cases m with
              | false => exact .inl ⟨rfl, by simp, by simp⟩
              | true =>
                refine .inr ⟨rfl, ?_, ?_⟩
                · by_cases h : xn < a
                  · exact .inl ⟨decide_eq_true h, by simp [h]⟩
                  · exact .inr ⟨decide_eq_false h, by simp [h]⟩
                · by_cases h : xn > b
                  · exact .inl ⟨decide_eq_true h, by simp [h]⟩
                  · exact .inr ⟨decide_eq_false h, by simp [h]⟩
            clear q NX
            rcases hh with ⟨d4, d5⟩ | d4
            all_goals
              obtain ⟨a2, b2, NX, ⟨rfl, rfl, rfl⟩ | ⟨rfl, ⟨f1, rfl⟩ | ⟨f1, rfl⟩, ⟨f2, rfl⟩ | ⟨f2, rfl⟩⟩⟩ := go.out
              all_goals
                have NY := Lib.hid NX
                clear NX go
                go_upto_region 9 with fail
                rw [HW.out.1, HW.out.2]
                go_wp2
                go_roundg (n - (j + 1))
                case measure => omega
                case rel => exact ⟨j + 1, _, _, true, by push_cast; rfl, by omega, by omega, rfl, rfl, rfl, NY.out, BB.out⟩
      · obtain rfl : j = n := by omega
        obtain ⟨rfl, rfl, rfl⟩ := GF.out a b m HG.out
        clear GF G0 GN GS HG
        go_wp2
        go_ret3
        exact ⟨rfl, HB.out⟩
end Go.Proofs.Ytcejaeeliedldaa.Wn
