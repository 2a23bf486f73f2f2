/- Layer 22 (policy): how many there were at a period's start (Start), of any row. -/
import Derived.Test.YtfmllfolpcimpaaPyA
namespace Go.Proofs.Ytfmllfolpcimpaa.Py
open Go.RowKit Go.Shelf Go.Lib Go.Sort Go.Deep
open Go.Joins (cell_of_block unfrozen_of_block block_setCell)
open Go.Proofs.Ytfmllfolpcimpaa.Ow
set_option linter.unusedVariables false
set_option linter.unusedSimpArgs false
set_option maxRecDepth 20000

/-- What one thing that was done takes back. -/
def stepS (now p : Int) (up : Bool) (n : Int) (x : Sca) : Int := if sinB x.1 now p = true ∧ decide (cnt x.2.2 - cnt x.2.1 > 0) = up then cnt (n - (cnt x.2.2 - cnt x.2.1)) else n
/-- How many there were at a period's start. -/
def startS (now p there : Int) (up : Bool) (l : List Sca) : Int := l.foldl (stepS now p up) (cnt there)
theorem stepS_range {now p : Int} {up : Bool} {n : Int} (x : Sca) (h : 0 ≤ n ∧ n ≤ 1000000) : 0 ≤ stepS now p up n x ∧ stepS now p up n x ≤ 1000000 := by
  unfold stepS
  split
  · exact cnt_range _
  · exact h
theorem startS_range (now p there : Int) (up : Bool) (l : List Sca) : 0 ≤ startS now p there up l ∧ startS now p there up l ≤ 1000000 := by
  unfold startS
  have : ∀ (l : List Sca) (n : Int), 0 ≤ n ∧ n ≤ 1000000 → 0 ≤ l.foldl (stepS now p up) n ∧ l.foldl (stepS now p up) n ≤ 1000000 := by
    intro l
    induction l with
    | nil => exact fun n h => h
    | cons x r ih => exact fun n h => ih _ (stepS_range x h)
  exact this l _ (cnt_range there)
theorem startS_snoc {now p there : Int} {up : Bool} {l : List Sca} {j : Nat} {x : Sca} (h : l[j]? = some x) : startS now p there up (l.take (j + 1)) = stepS now p up (startS now p there up (l.take j)) x := by
  unfold startS
  rw [List.take_add_one, h, List.foldl_append]
  rfl

set_option maxHeartbeats 8000000 in
theorem py_start (w : World) (q : Option Addr) (c : Nat) (l : List Sca) (hr : RowR 3 encS w q l) (hl : l.length ≤ 1000000) (hi : ∀ x ∈ l, I64 x.1) (now p there : Int) (up : Bool) (hn : I64 now) (hp : p < 9223372036854775808) :
    Calls Try.prog 13 #[.slice q l.length c, .int .i64 now, .int .i64 p, .int .i64 there, .bool up] w fun e w' => e = .returned (.int .i64 (startS now p there up l)) ∧ Below w.heap.size w w' := by
  have mixed : Try.prog.follows .mixedOrders = true := by kernel_rfl
  have CS : Hid (∀ x ∈ l, ∀ W : World, Calls Try.prog 9 #[.int .i64 x.1, .int .i64 now, .int .i64 p] W fun e w' => e = .returned (.bool (sinB x.1 now p)) ∧ W = w') := fun x hx W => py_since x.1 now p W (hi x hx) hn hp
  have CC := Lib.hid (fun n W => py_cnt n W)
  obtain ⟨n, hnl⟩ : ∃ n, n = l.length := ⟨_, rfl⟩
  rw [← hnl] at hl ⊢
  obtain ⟨S, hS⟩ : ∃ S : Nat → Int, S = fun j => startS now p there up (l.take j) := ⟨_, rfl⟩
  have S0 : Hid (S 0 = cnt there) := by show _ = _; rw [hS]; rfl
  have SR : Hid (∀ j, 0 ≤ S j ∧ S j ≤ 1000000) := fun j => by rw [hS]; exact startS_range _ _ _ _ _
  have SN : Hid (∀ j x, l[j]? = some x → S (j + 1) = stepS now p up (S j) x) := fun j x hx => by rw [hS]; exact startS_snoc hx
  have SE : Hid (S n = startS now p there up l) := by show _ = _; rw [hS]; show startS _ _ _ _ (l.take n) = _; rw [List.take_of_length_le (by omega)]
  generalize startS now p there up l = R at SE ⊢
  have HH := Lib.hid (And.intro hr hnl)
  clear hr hnl hS hi hn hp
  go_enter Try.func13, Try.ntmps13
  go_wp2_with fail
  refine (CC.out _ _).mono ?_
  rintro e w0 ⟨rfl, rfl⟩
  rw [← S0.out]
  go_wp2_with fail
  go_loopg [11, 19] n (fun g1 v11 vi wr => ∃ (j : Nat), vi = .int .i64 (j : Int) ∧ j ≤ n ∧ n - j ≤ g1 ∧ v11 = .int .i64 (S j) ∧ Hid (Below w.heap.size w wr))
  case atStart => exact ⟨0, rfl, Nat.zero_le _, by omega, rfl, Below.refl _ _⟩
  case round =>
    obtain ⟨j, rfl, h1, h2, rfl, HB⟩ := hrel
    by_cases hlt : j < n
    · obtain ⟨hr, hnl⟩ := HH.out
      obtain ⟨x, hx⟩ : ∃ x, l[j]? = some x := ⟨l[j]'(by omega), List.getElem?_eq_getElem (by omega)⟩
      obtain ⟨gb, off, rfl, c0, c1, c2⟩ := sca_at hr HB.out hx
      have CX := Lib.hid (CS.out x (List.mem_of_getElem? hx))
      have SX := SN.out j x hx
      have sr := SR.out j
      obtain ⟨xa, xf, xt⟩ := x
      dsimp only at c0 c1 c2 CX
      obtain ⟨wb, E, HW, bb, bE, e0, e1, e2⟩ := box_sca wr xa xf xt
      have BB := Lib.hid (HB.out.trans (bb.mono HB.out.size))
      have BE := Lib.hid bE
      unfold stepS at SX
      dsimp only at SX
      obtain ⟨F, hF⟩ : ∃ F, F = cnt xf := ⟨_, rfl⟩
      obtain ⟨T, hT⟩ : ∃ T, T = cnt xt := ⟨_, rfl⟩
      have rF := cnt_range xf
      have rT := cnt_range xt
      have CF : Hid (∀ W : World, Calls Try.prog 10 #[.int .i64 xf] W fun e w' => e = .returned (.int .i64 F) ∧ W = w') := fun W => by rw [hF]; exact CC.out xf W
      have CT : Hid (∀ W : World, Calls Try.prog 10 #[.int .i64 xt] W fun e w' => e = .returned (.int .i64 T) ∧ W = w') := fun W => by rw [hT]; exact CC.out xt W
      rw [← hF, ← hT] at SX
      rw [← hF] at rF
      rw [← hT] at rT
      obtain ⟨D, hD⟩ : ∃ D, D = T - F := ⟨_, rfl⟩
      rw [← hD] at SX
      have wD : IntKind.i64.wrap (T - F) = D := by rw [IntKind.wrap_i64]; omega
      cases hs : sinB xa now p with
      | false =>
        rw [hs] at CX SX
        have SX' : Hid (S (j + 1) = S j) := by show _ = _; rw [SX]; simp
        clear hr hnl hx bb bE SX hF hT rF rT hD CF CT wD hs
        go_upto_region 5 with fail
        rw [HW.out.1, HW.out.2]
        go_wp2_with fail
        refine (CX.out _).mono ?_
        rintro e w1 ⟨rfl, rfl⟩
        go_wp2
        go_roundg (n - (j + 1))
        case measure => omega
        case rel => exact ⟨j + 1, by push_cast; rfl, by omega, by omega, by rw [SX'.out], BB.out⟩
      | true =>
        rw [hs] at CX SX
        obtain ⟨d, hd⟩ : ∃ d, d = S j - D := ⟨_, rfl⟩
        rw [← hd] at SX
        have wd : IntKind.i64.wrap (S j - D) = d := by rw [IntKind.wrap_i64]; omega
        have key : Hid ((decide (D > 0) == up) = true ∧ S (j + 1) = cnt d ∨ (decide (D > 0) == up) = false ∧ S (j + 1) = S j) := by
          rw [SX]
          by_cases e : decide (D > 0) = up
          · exact .inl ⟨by rw [e]; simp, by rw [if_pos ⟨rfl, e⟩]⟩
          · exact .inr ⟨by simpa using e, by rw [if_neg (fun h => e h.2)]⟩
        clear hr hnl hx bb bE SX hF hT rF rT hD hs hd
        go_upto_region 5 with fail
        rw [HW.out.1, HW.out.2]
        go_wp2_with fail
        refine (CX.out _).mono ?_
        rintro e w1 ⟨rfl, rfl⟩
        go_upto_region 6 with fail
        go_quiet (first | exact (CT.out _).mono fun _ _ q => ⟨q.1, _, q.2.symm⟩ | exact (CF.out _).mono fun _ _ q => ⟨q.1, _, q.2.symm⟩)
        have B5 : Hid (Below w.heap.size w (wb.drewN nq)) := BB.out.trans (((Gr.refl wb).drewN nq).below.mono BB.out.size)
        generalize wb.drewN nq = w5 at B5 ⊢
        clear BB BE e0 e1 e2 CT CF c0 c1 c2
        have CD := Lib.hid (fun W => CC.out d W)
        rcases key.out with ⟨k1, k2⟩ | ⟨k1, k2⟩
        · have K2 := Lib.hid k2
          clear key k2
          go_wp2_with fail
          refine (CD.out _).mono ?_
          rintro e w1 ⟨rfl, rfl⟩
          go_wp2
          go_roundg (n - (j + 1))
          case measure => omega
          case rel => exact ⟨j + 1, by push_cast; rfl, by omega, by omega, by rw [K2.out], B5.out⟩
        · have K2 := Lib.hid k2
          clear key k2
          go_wp2
          go_roundg (n - (j + 1))
          case measure => omega
          case rel => exact ⟨j + 1, by push_cast; rfl, by omega, by omega, by rw [K2.out], B5.out⟩
    · obtain rfl : j = n := by omega
      go_wp2
      go_ret
      exact ⟨by rw [← SE.out]; rfl, HB.out⟩
end Go.Proofs.Ytfmllfolpcimpaa.Py
