/- Proved here: the law ProposalMost of layer 20 holds for every input: of any proposals, some with errors, the greatest one counts, but never less than there are, if some have one; and the chapter's example. No conditions. -/
import Derived.Test.YtajkhbdniadkkaaPpL
import Derived.Test.YtajkhbdniadkkaaPpM
import Derived.Test.YtajkhbdniadkkaaHeldG
import Derived.Test.YtajkhbdniadkkaaPpLawBase
namespace Go.Proofs.Ytajkhbdniadkkaa.proposalMost
open Go.ChangeShapes Go.WideShapes Go.ChangeAt Go.RowKit Go.Lib Go.Shelf Go.Sort Go.Deep
open Go.Joins (cell_of_block unfrozen_of_block block_setCell)
open Go.Proofs.Ytajkhbdniadkkaa.Ow Go.Proofs.Ytajkhbdniadkkaa.Pp Go.Proofs.Ytajkhbdniadkkaa.Ld
set_option linter.unusedVariables false
set_option linter.unusedSimpArgs false
set_option maxRecDepth 20000

set_option maxHeartbeats 4000000 in
theorem long (W : World) (q q2 : Option Addr) (c c2 n n2 : Nat) (r : Int) (h : 20 < n ∨ 20 < n2) :
    Calls Try.prog 5 #[.slice q n c, .slice q2 n2 c2, .int .i64 r] W fun e W' => e = .returned (.bool true) ∧ Below W.heap.size W W' := by
  have CL := Lib.hid (fun w => plives w)
  have fin : ∀ {w1 w2 : World}, Below W.heap.size W w1 → Below w1.heap.size w1 w2 → Below W.heap.size W w2 := fun a b => a.trans (b.mono a.size)
  rcases Nat.lt_or_ge 20 n with h1 | h1
  · have t1 : 20 < n := h1
    clear h
    go_enter Try.func5, Try.ntmps5
    go_wp2_with fail
    refine (CL.out _).mono ?_
    rintro y w2 ⟨rfl, b2⟩
    have B2 := Lib.hid b2
    clear b2
    go_wp2_with fail
    refine (CL.out _).mono ?_
    rintro y w3 ⟨rfl, b3⟩
    have B3 := Lib.hid (B2.out.trans (b3.mono B2.out.size))
    clear b3 B2 CL fin
    go_wp2
    go_ret
    exact ⟨rfl, B3.out⟩
  · have t1 : ¬ 20 < n := by omega
    have t2 : 20 < n2 := by omega
    clear h
    go_enter Try.func5, Try.ntmps5
    go_wp2_with fail
    refine (CL.out _).mono ?_
    rintro y w2 ⟨rfl, b2⟩
    have B2 := Lib.hid b2
    clear b2
    go_wp2_with fail
    refine (CL.out _).mono ?_
    rintro y w3 ⟨rfl, b3⟩
    have B3 := Lib.hid (B2.out.trans (b3.mono B2.out.size))
    clear b3 B2 CL fin
    go_wp2
    go_ret
    exact ⟨rfl, B3.out⟩

set_option maxHeartbeats 4000000 in
theorem unlike (W : World) (q q2 : Option Addr) (c c2 n n2 : Nat) (r : Int) (h : n ≠ n2) (h1 : ¬ 20 < n) (h2 : ¬ 20 < n2) :
    Calls Try.prog 5 #[.slice q n c, .slice q2 n2 c2, .int .i64 r] W fun e W' => e = .returned (.bool true) ∧ Below W.heap.size W W' := by
  have CL := Lib.hid (fun w => plives w)
  have CM := Lib.hid (fun w => most_bad w q q2 c c2 n n2 r h)
  have t1 : ((n : Int) != (n2 : Int)) = true := by simp; omega
  have t2 : (n != n2) = true := by simpa using h
  have t3 : (n == n2) = false := by simpa using h
  go_enter Try.func5, Try.ntmps5
  go_wp2_with fail
  refine (CL.out _).mono ?_
  rintro y w2 ⟨rfl, b2⟩
  have B2 := Lib.hid b2
  clear b2 CL
  go_wp2_with fail
  refine (CM.out _).mono ?_
  rintro y w3 ⟨rfl, rfl⟩
  go_wp2
  go_ret
  exact ⟨rfl, B2.out⟩

set_option maxHeartbeats 16000000 in
theorem alike (W : World) (q q2 : Option Addr) (c c2 : Nat) (l es : List Int) (r : Int) (hr : RowR 1 encN W q l) (hr2 : RowR 1 encN W q2 es) (hlen : ¬ 20 < l.length) (he : es.length = l.length) :
    Calls Try.prog 5 #[.slice q l.length c, .slice q2 l.length c2, .int .i64 r] W fun e W' => e = .returned (.bool true) ∧ Below W.heap.size W W' := by
  have mixed : Try.prog.follows .mixedOrders = true := by kernel_rfl
  have CL := Lib.hid (fun w => plives w)
  have CM : Hid (∀ w, Below W.heap.size W w → Calls Try.prog 17 #[.slice q l.length c, .slice q2 l.length c2, .int .i64 r] w fun e w' => e = .returned (.tuple #[.int .i64 (mostV (l.zip es) r), .int .i64 (mostE (l.zip es))]) ∧ w = w') := fun w b => most_ok w q q2 c c2 l es r (hr.below b) (hr2.below b) (by omega) he
  obtain ⟨p, hp⟩ : ∃ p, p = l.zip es := ⟨_, rfl⟩
  rw [← hp] at CM
  obtain ⟨n, hn⟩ : ∃ n, n = l.length := ⟨_, rfl⟩
  rw [← hn] at hlen he CM
  rw [← hn]
  have pl : p.length = n := by rw [hp, List.length_zip, he, ← hn, Nat.min_self]
  have HV : Hid (∀ m g, goM p = (m, g) → mostV p r = (if g = 0 then 0 else if g = n then m else max m r) ∧ mostE p = if g = 0 then 7 else 0) := fun m g h => by
    unfold mostV mostE
    rw [h, pl]
    exact ⟨rfl, rfl⟩
  generalize mostV p r = MV at HV CM
  generalize mostE p = ME at HV CM
  have HH := Lib.hid (And.intro hr (And.intro hr2 (And.intro hp (And.intro hn (And.intro he pl)))))
  clear hr hr2 hp hn he pl
  go_enter Try.func5, Try.ntmps5
  go_wp2_with fail
  refine (CL.out _).mono ?_
  rintro y w2 ⟨rfl, b2⟩
  have B2 := Lib.hid b2
  have CM2 := Lib.hid (CM.out _ b2)
  clear b2 CL CM
  go_wp2_with fail
  refine CM2.out.mono ?_
  rintro y w3 ⟨rfl, rfl⟩
  clear CM2
  go_wp2_with fail
  go_loopg [9, 10, 11, 12, 46] n (fun g1 vmet vwr vb _ vi wr => ∃ (j g : Nat) (m : Int) (mb wb : Bool), vi = .int .i64 (j : Int) ∧ j ≤ n ∧ n - j ≤ g1 ∧ vmet = .bool mb ∧ vwr = .bool wb ∧ vb = .int .i64 m ∧ g ≤ j ∧ Hid (mb = decide (0 < g) ∧ wb = decide (g < j) ∧ goM (p.take j) = (m, g)) ∧ Hid (Below w2.heap.size w2 wr))
  case atStart => exact ⟨0, 0, 0, false, false, rfl, Nat.zero_le _, by omega, rfl, rfl, rfl, Nat.le_refl _, ⟨rfl, rfl, rfl⟩, Below.refl _ _⟩
  case round =>
    obtain ⟨j, g, m, mb, wb, rfl, h1, h2, rfl, rfl, rfl, hg, HG, HB⟩ := hrel
    have BR := Lib.hid (B2.out.trans (HB.out.mono B2.out.size))
    by_cases hlt : j < n
    · obtain ⟨hr, hr2, hp, hn, he, pl⟩ := HH.out
      obtain ⟨x, hx⟩ : ∃ x, l[j]? = some x := ⟨l[j]'(by omega), List.getElem?_eq_getElem (by omega)⟩
      obtain ⟨e, hee⟩ : ∃ x, es[j]? = some x := ⟨es[j]'(by omega), List.getElem?_eq_getElem (by omega)⟩
      obtain ⟨b, off, rfl, c1⟩ := row1 (hr.below BR.out) hx
      obtain ⟨b2, off2, rfl, c2⟩ := row1 (hr2.below BR.out) hee
      have hz : p[j]? = some (x, e) := by rw [hp, List.getElem?_zip_eq_some]; exact ⟨hx, hee⟩
      have TK : Hid (goM (p.take (j + 1)) = stepM (m, g) (x, e)) := by show _ = _; rw [goM_take p hz, HG.out.2.2]
      have GM : Hid (mb = decide (0 < g)) := HG.out.1
      have GW : Hid (wb = decide (g < j)) := HG.out.2.1
      have i1 : (0 : Int) ≤ (j : Int) := by omega
      have i2 : (j : Int) < (n : Int) := by omega
      clear hr hr2 hp hn he pl hx hee hz HG
      by_cases h0 : e = 0
      · subst h0
        have GW1 : Hid (wb = decide (g + 1 < j + 1)) := by show _ = _; rw [GW.out]; congr 1; simp
        clear GW
        by_cases hmx : mb = false ∨ m < x
        · have E : Hid (goM (p.take (j + 1)) = (x, g + 1)) := by
            show _ = _
            rw [TK.out]
            have hc : g = 0 ∨ m < x := by
              rcases hmx with h | h
              · left
                have := GM.out
                rw [h] at this
                have := of_decide_eq_false this.symm
                omega
              · exact .inr h
            unfold stepM
            rw [if_pos rfl]
            show (if g = 0 ∨ m < x then x else m, g + 1) = _
            rw [if_pos hc]
          have GM1 : Hid (true = decide (0 < g + 1)) := by show _ = _; rw [decide_eq_true (by omega)]
          clear TK GM
          cases hmb : mb with
          | false =>
            go_upto_region 13 with fail
            have KS : Hid (∀ ws : World, Below wr.heap.size wr ws → ws.cell? ⟨b, off + j, none⟩ = some (.int .i64 x) ∧ (0 : Int) ≤ (j : Int) ∧ (j : Int) < (n : Int)) := fun ws bb => ⟨(bb.cell (p := ⟨b, off + j, none⟩) (World.block_lt_of_cell? _ _ c1)).trans c1, i1, i2⟩
            have HB1 := Lib.hid (HB.out.drew)
            refine wp_region_held_drew (S := fun ws => Below wr.heap.size wr ws) mixed (Below.refl _ wr).drew (fun hS => ?_)
            refine wpAnyH_takeD (i := 0) (d := 64) (v := .slice (some ⟨b, off, none⟩) n c) _ rfl rfl (by kernel_rfl) (by kernel_rfl) (by kernel_rfl) (fun _ _ _ h => h) (Or.inl ⟨by kernel_rfl, fun ws hSw => by first | (go_simp; done) | (go_simp; with_reducible rfl) | (go_simp; rfl)⟩) hS ?_
            simp only [Act.put, List.setIfInBounds_toArray, List.set_cons_zero, List.set_cons_succ]
            refine wpAnyH_takeD (i := 1) (d := 65) (v := .int .i64 (j : Int)) _ rfl rfl (by kernel_rfl) (by kernel_rfl) (by kernel_rfl) (fun _ _ _ h => h) (Or.inl ⟨by kernel_rfl, fun ws hSw => by first | (go_simp; done) | (go_simp; with_reducible rfl) | (go_simp; rfl)⟩) hS ?_
            simp only [Act.put, List.setIfInBounds_toArray, List.set_cons_zero, List.set_cons_succ]
            refine wpAnyH_takeD (i := 2) (d := 66) (v := .pointer (some ⟨b, off + j, none⟩)) _ rfl rfl (by kernel_rfl) (by kernel_rfl) (by kernel_rfl) (fun _ _ _ h => h) (Or.inl ⟨by kernel_rfl, fun ws hSw => by have q := KS.out ws hSw; first | (go_simp; done) | (go_simp; with_reducible rfl) | (go_simp; rfl) | (go_simp; intro hlt; exfalso; omega) | (go_simp; omega)⟩) hS ?_
            simp only [Act.put, List.setIfInBounds_toArray, List.set_cons_zero, List.set_cons_succ]
            refine wpAnyH_takeD (i := 3) (d := 67) (v := .int .i64 x) _ rfl rfl (by kernel_rfl) (by kernel_rfl) (by kernel_rfl) (fun _ _ _ h => h) (Or.inl ⟨by kernel_rfl, fun ws hSw => by have q := KS.out ws hSw; first | (go_simp; done) | (go_simp; with_reducible rfl) | (go_simp; rfl)⟩) hS ?_
            simp only [Act.put, List.setIfInBounds_toArray, List.set_cons_zero, List.set_cons_succ]
            refine wpAnyH_takeD (i := 4) (d := 9) (v := .bool true) _ rfl rfl (by kernel_rfl) (by kernel_rfl) (by kernel_rfl) (fun _ _ _ h => h) (Or.inl ⟨by kernel_rfl, fun ws hSw => by first | (go_simp; done) | (go_simp; with_reducible rfl) | (go_simp; rfl)⟩) hS ?_
            simp only [Act.put, List.setIfInBounds_toArray, List.set_cons_zero, List.set_cons_succ]
            refine wpAnyH_takeD (i := 5) (d := 11) (v := .int .i64 x) _ rfl rfl (by kernel_rfl) (by kernel_rfl) (by kernel_rfl) (fun _ _ _ h => h) (Or.inl ⟨by kernel_rfl, fun ws hSw => by first | (go_simp; done) | (go_simp; with_reducible rfl) | (go_simp; rfl)⟩) hS ?_
            simp only [Act.put, List.setIfInBounds_toArray, List.set_cons_zero, List.set_cons_succ]
            refine wpAnyH_done (by kernel_rfl) ?_ _
            clear KS hS
            go_wp2
            go_roundg (n - (j + 1))
            case measure => omega
            case rel => exact ⟨j + 1, g + 1, x, true, wb, by push_cast; rfl, by omega, by omega, rfl, rfl, rfl, by omega, ⟨GM1.out, GW1.out, E.out⟩, HB1.out⟩
          | true =>
            have hm : m < x := by
              rcases hmx with h | h
              · rw [hmb] at h; cases h
              · exact h
            clear hmx
            go_upto_region 13 with fail
            have KS : Hid (∀ ws : World, Below wr.heap.size wr ws → ws.cell? ⟨b, off + j, none⟩ = some (.int .i64 x) ∧ (0 : Int) ≤ (j : Int) ∧ (j : Int) < (n : Int)) := fun ws bb => ⟨(bb.cell (p := ⟨b, off + j, none⟩) (World.block_lt_of_cell? _ _ c1)).trans c1, i1, i2⟩
            have HB1 := Lib.hid (HB.out.drew)
            refine wp_region_held_drew (S := fun ws => Below wr.heap.size wr ws) mixed (Below.refl _ wr).drew (fun hS => ?_)
            refine wpAnyH_takeD (i := 0) (d := 64) (v := .slice (some ⟨b, off, none⟩) n c) _ rfl rfl (by kernel_rfl) (by kernel_rfl) (by kernel_rfl) (fun _ _ _ h => h) (Or.inl ⟨by kernel_rfl, fun ws hSw => by first | (go_simp; done) | (go_simp; with_reducible rfl) | (go_simp; rfl)⟩) hS ?_
            simp only [Act.put, List.setIfInBounds_toArray, List.set_cons_zero, List.set_cons_succ]
            refine wpAnyH_takeD (i := 1) (d := 65) (v := .int .i64 (j : Int)) _ rfl rfl (by kernel_rfl) (by kernel_rfl) (by kernel_rfl) (fun _ _ _ h => h) (Or.inl ⟨by kernel_rfl, fun ws hSw => by first | (go_simp; done) | (go_simp; with_reducible rfl) | (go_simp; rfl)⟩) hS ?_
            simp only [Act.put, List.setIfInBounds_toArray, List.set_cons_zero, List.set_cons_succ]
            refine wpAnyH_takeD (i := 2) (d := 66) (v := .pointer (some ⟨b, off + j, none⟩)) _ rfl rfl (by kernel_rfl) (by kernel_rfl) (by kernel_rfl) (fun _ _ _ h => h) (Or.inl ⟨by kernel_rfl, fun ws hSw => by have q := KS.out ws hSw; first | (go_simp; done) | (go_simp; with_reducible rfl) | (go_simp; rfl) | (go_simp; intro hlt; exfalso; omega) | (go_simp; omega)⟩) hS ?_
            simp only [Act.put, List.setIfInBounds_toArray, List.set_cons_zero, List.set_cons_succ]
            refine wpAnyH_takeD (i := 3) (d := 67) (v := .int .i64 x) _ rfl rfl (by kernel_rfl) (by kernel_rfl) (by kernel_rfl) (fun _ _ _ h => h) (Or.inl ⟨by kernel_rfl, fun ws hSw => by have q := KS.out ws hSw; first | (go_simp; done) | (go_simp; with_reducible rfl) | (go_simp; rfl)⟩) hS ?_
            simp only [Act.put, List.setIfInBounds_toArray, List.set_cons_zero, List.set_cons_succ]
            refine wpAnyH_takeD (i := 4) (d := 9) (v := .bool true) _ rfl rfl (by kernel_rfl) (by kernel_rfl) (by kernel_rfl) (fun _ _ _ h => h) (Or.inl ⟨by kernel_rfl, fun ws hSw => by first | (go_simp; done) | (go_simp; with_reducible rfl) | (go_simp; rfl)⟩) hS ?_
            simp only [Act.put, List.setIfInBounds_toArray, List.set_cons_zero, List.set_cons_succ]
            refine wpAnyH_takeD (i := 5) (d := 11) (v := .int .i64 x) _ rfl rfl (by kernel_rfl) (by kernel_rfl) (by kernel_rfl) (fun _ _ _ h => h) (Or.inl ⟨by kernel_rfl, fun ws hSw => by first | (go_simp; done) | (go_simp; with_reducible rfl) | (go_simp; rfl)⟩) hS ?_
            simp only [Act.put, List.setIfInBounds_toArray, List.set_cons_zero, List.set_cons_succ]
            refine wpAnyH_done (by kernel_rfl) ?_ _
            clear KS hS
            go_wp2
            go_roundg (n - (j + 1))
            case measure => omega
            case rel => exact ⟨j + 1, g + 1, x, true, wb, by push_cast; rfl, by omega, by omega, rfl, rfl, rfl, by omega, ⟨GM1.out, GW1.out, E.out⟩, HB1.out⟩
        · have hmb : mb = true := by cases mb with
            | true => rfl
            | false => exact absurd (.inl rfl) hmx
          have hm : ¬ m < x := fun h => hmx (.inr h)
          subst hmb
          have E : Hid (goM (p.take (j + 1)) = (m, g + 1)) := by
            show _ = _
            rw [TK.out]
            have g0 : 0 < g := of_decide_eq_true GM.out.symm
            have hc : ¬ (g = 0 ∨ m < x) := by omega
            unfold stepM
            rw [if_pos rfl]
            show (if g = 0 ∨ m < x then x else m, g + 1) = _
            rw [if_neg hc]
          have GM1 : Hid (true = decide (0 < g + 1)) := by show _ = _; rw [decide_eq_true (by omega)]
          clear TK GM hmx
          go_wp2
          go_roundg (n - (j + 1))
          case measure => omega
          case rel => exact ⟨j + 1, g + 1, m, true, wb, by push_cast; rfl, by omega, by omega, rfl, rfl, rfl, by omega, ⟨GM1.out, GW1.out, E.out⟩, HB.out⟩
      · have t0 : (e == 0) = false := by simpa using h0
        have t1 : (e != 0) = true := by simpa using h0
        have E : Hid (goM (p.take (j + 1)) = (m, g)) := by show _ = _; rw [TK.out]; unfold stepM; simp [h0]
        have GW1 : Hid (true = decide (g < j + 1)) := by show _ = _; rw [decide_eq_true (by omega)]
        clear TK GW
        go_wp2
        go_roundg (n - (j + 1))
        case measure => omega
        case rel => exact ⟨j + 1, g, m, mb, true, by push_cast; rfl, by omega, by omega, rfl, rfl, rfl, by omega, ⟨GM.out, GW1.out, E.out⟩, HB.out⟩
    · obtain rfl : j = n := by omega
      have EV := Lib.hid (HV.out m g (by have := HG.out.2.2; rwa [List.take_of_length_le (by have := HH.out.2.2.2.2.2; omega)] at this))
      have GM : Hid (mb = decide (0 < g)) := HG.out.1
      have GW : Hid (wb = decide (g < j)) := HG.out.2.1
      clear HG HH HV
      cases mb with
      | false =>
        have g0 : g = 0 := by have := of_decide_eq_false GM.out.symm; omega
        have E2 : Hid (MV = 0 ∧ ME = 7) := by rw [EV.out.1, EV.out.2, if_pos g0, if_pos g0]; exact ⟨rfl, rfl⟩
        clear EV GM GW g0
        obtain ⟨rfl, rfl⟩ := E2.out
        clear E2
        go_wp2
        go_ret
        exact ⟨rfl, BR.out⟩
      | true =>
        have g0 : 0 < g := of_decide_eq_true GM.out.symm
        have E2 : Hid (MV = (if g = j then m else max m r) ∧ ME = 0) := by rw [EV.out.1, EV.out.2, if_neg (Nat.ne_of_gt g0), if_neg (Nat.ne_of_gt g0)]; exact ⟨rfl, rfl⟩
        clear EV GM
        cases wb with
        | false =>
          have gj : g = j := by have := of_decide_eq_false GW.out.symm; omega
          have E3 : Hid (MV = m ∧ ME = 0) := by rw [E2.out.1, E2.out.2, if_pos gj]; exact ⟨rfl, rfl⟩
          clear E2 GW gj
          obtain ⟨rfl, rfl⟩ := E3.out
          clear E3
          go_wp2
          go_ret
          exact ⟨rfl, BR.out⟩
        | true =>
          have gj : g < j := of_decide_eq_true GW.out.symm
          have E3 : Hid (MV = max m r ∧ ME = 0) := by rw [E2.out.1, E2.out.2, if_neg (by omega)]; exact ⟨rfl, rfl⟩
          clear E2 GW
          by_cases hm : m < r
          · have E4 : Hid (MV = r ∧ ME = 0) := by rw [E3.out.1, E3.out.2]; exact ⟨by omega, rfl⟩
            clear E3 gj g0
            obtain ⟨rfl, rfl⟩ := E4.out
            clear E4
            go_wp2
            go_ret
            exact ⟨rfl, BR.out⟩
          · have E4 : Hid (MV = m ∧ ME = 0) := by rw [E3.out.1, E3.out.2]; exact ⟨by omega, rfl⟩
            clear E3 gj g0
            obtain ⟨rfl, rfl⟩ := E4.out
            clear E4
            go_wp2
            go_ret
            exact ⟨rfl, BR.out⟩

theorem walk {H : Type} {enc : TypeId × Value → H} {base : Nat} (W : World) (v0 : Value) (d0 : DataW H) (p0 : List MemPlace) (o0 : Value.okWide Try.prog W .any base 45 v0) (h0 : DataW.Trod enc Try.prog W 0 (fun _ => true) true 45 v0 d0 p0)
    (v1 : Value) (d1 : DataW H) (p1 : List MemPlace) (o1 : Value.okWide Try.prog W .any base 46 v1) (h1 : DataW.Trod enc Try.prog W 0 (fun _ => true) true 46 v1 d1 p1)
    (v2 : Value) (d2 : DataW H) (p2 : List MemPlace) (o2 : Value.okWide Try.prog W .any base 3 v2) (h2 : DataW.Trod enc Try.prog W 0 (fun _ => true) true 3 v2 d2 p2)
    (wt0 : Wt 45 d0) (wt1 : Wt 46 d1) (wt2 : Wt 3 d2) :
    Calls Try.prog 5 #[v0, v1, v2] W fun e W' => e = .returned (.bool true) ∧ Below W.heap.size W W' := by
  obtain ⟨q, c, l, rfl, hr, _, _⟩ := open_nums o0 h0 wt0
  obtain ⟨q2, c2, es, rfl, hr2, _, _⟩ := open_errs o1 h1 wt1
  obtain ⟨r, rfl, rfl, rfl, _⟩ := open_int Try.underlying3 o2 h2
  by_cases h : 20 < l.length ∨ 20 < es.length
  · exact long W q q2 c c2 _ _ r h
  · by_cases he : es.length = l.length
    · rw [he]
      exact alike W q q2 c c2 l es r hr hr2 (fun h' => h (.inl h')) he
    · exact unlike W q q2 c c2 _ _ r (fun e => he e.symm) (fun h' => h (.inl h')) (fun h' => h (.inr h'))

/-! ### THE ROW's STEP -/
set_option maxRecDepth 100000 in
theorem lifted (os : Os) (started : os.Started) (H : Type) (enc : TypeId × Value → H) :
    ReturnsInHanded {} Try.checked os 5 .any (Rows.proposalMostSpec.pre6 enc Try.prog Try.f5 Rows.proposalMostRow.domain false) (Rows.proposalMostSpec.post enc Try.prog Try.f5 false true false false) := by
  refine returnsInHanded_of_change_sized (C := Try.checked) own started (by kernel_rfl) Try.func5
    (ChangeSpec.witness6 (enc := enc) (C := Try.checked) false ⟨#[], #[.slice none 0 0, .slice none 0 0, .int .i64 0], []⟩ 8 (by kernel_rfl) (by kernel_rfl) (by kernel_rfl) (by kernel_rfl)) ?_
  intro W base args ds gs before hval0 hW hcnd hsz0 _
  have hval : ∀ (j : Nat) t v, Try.f5.params[j]? = some t → args[j]? = some v → Value.okWide Try.prog W .any base t v := hval0
  have hW' := hW
  obtain ⟨p, q, hA0, hV, rfl, hfz, hnd⟩ := hW
  have hA : DataW.TrodAll enc Try.prog W 0 (fun _ => true) true Try.f5.params.toList args.toList ds p := hA0
  have hlt : ∀ x ∈ p, x.block < W.heap.size := fun x hx => hW'.lt x (List.mem_append_left _ hx)
  rw [Try.params5] at hA hval
  have hread : ∀ t ∈ [45, 46, 3], Try.prog.readableRec t = true ∧ t < Try.prog.types.size := by
    intro t ht
    simp only [List.mem_cons, List.not_mem_nil, or_false] at ht
    rcases ht with rfl | rfl | rfl <;> exact ⟨by kernel_rfl, of_decide_eq_true (by kernel_rfl)⟩
  have again : ∀ (W' : World), Below W.heap.size W W' → ∀ sp : Nat → Bool, (∀ x ∈ p, sp x.block = true) → DataW.TrodAll enc Try.prog W' 0 sp true [45, 46, 3] args.toList ds p :=
    fun W' hb sp hsp => all_again (by kernel_rfl) hb [45, 46, 3] args.toList ds p hread hA hlt hsp
  obtain ⟨v0, v1, v2, d0, d1, d2, p0, p1, p2, rfl, rfl, rfl, h0, h1, h2⟩ := trodAll_three hA
  obtain ⟨rfl, rfl⟩ := trodVars_none hV
  have wt0 : Wt 45 d0 := fun n hn => by
    have := List.all_eq_true.1 hsz0 n (DataW.weights_mem_each (j := 0) (t := 45) (d := d0) (by kernel_rfl) rfl n hn)
    simpa using this
  have wt1 : Wt 46 d1 := fun n hn => by
    have := List.all_eq_true.1 hsz0 n (DataW.weights_mem_each (j := 1) (t := 46) (d := d1) (by kernel_rfl) rfl n hn)
    simpa using this
  have wt2 : Wt 3 d2 := fun n hn => by
    have := List.all_eq_true.1 hsz0 n (DataW.weights_mem_each (j := 2) (t := 3) (d := d2) (by kernel_rfl) rfl n hn)
    simpa using this
  clear hA0 hval0
  simp only [List.append_nil] at hW' again
  refine (walk W v0 d0 p0 (hval 0 45 v0 rfl rfl) h0 v1 d1 p1 (hval 1 46 v1 rfl rfl) h1 v2 d2 p2 (hval 2 3 v2 rfl rfl) h2 wt0 wt1 wt2).mono fun e W' ⟨he, hg⟩ => ?_
  subst he
  exact ⟨_, rfl, post_below hW' hg (fun _ _ _ => trodAll_mk1 (shut_bool Try.underlying4 _)) (fun sp hsp => again W' hg sp hsp) (fun _ => rfl) (ok_one (by kernel_rfl) rfl (okWide_bool_mk Try.underlying4 _))⟩

theorem over : Rows.proposalMostRow.holds Try.pinned (OpenSpec.ofChange Rows.proposalMostSpec) :=
  OpenClaim.holds_of_wide 5 Try.f5 rfl rfl rfl rfl rfl rfl rfl ⟨rfl, rfl, rfl, rfl, rfl⟩ rfl rfl rfl rfl rfl (by kernel_rfl) Try.func5 (by kernel_rfl)
    (of_decide_eq_true (by kernel_rfl)) (by unfold Func.isWrapper; first | (rw [if_pos (by decide +kernel)]; kernel_rfl) | (rw [if_neg (by decide +kernel)]; exact ⟨rfl, rfl⟩))
    (fun os started H enc _ => lifted os started H enc)

/-- The statement. -/
theorem proved : Rows.ProposalMostSaid :=
  over
#print axioms proved
end Go.Proofs.Ytajkhbdniadkkaa.proposalMost


