/- Layer 20: Most of any rows. -/
import Derived.Test.YtajkhbdniadkkaaPpOp
namespace Go.Proofs.Ytajkhbdniadkkaa.Pp
open Go.RowKit Go.Shelf Go.Lib Go.Sort Go.Deep
open Go.Joins (cell_of_block unfrozen_of_block block_setCell)
open Go.Proofs.Ytajkhbdniadkkaa.Ow Go.Proofs.Ytajkhbdniadkkaa.Ld
set_option linter.unusedVariables false
set_option linter.unusedSimpArgs false
set_option maxRecDepth 20000

/-- The greatest one of those without an error; how many these are. -/
def stepM (a : Int × Nat) (p : Int × Int) : Int × Nat := if p.2 = 0 then (if a.2 = 0 ∨ a.1 < p.1 then p.1 else a.1, a.2 + 1) else a
def goM (p : List (Int × Int)) : Int × Nat := p.foldl stepM (0, 0)
theorem goM_take (p : List (Int × Int)) {j : Nat} {x : Int × Int} (hx : p[j]? = some x) : goM (p.take (j + 1)) = stepM (goM (p.take j)) x := by
  unfold goM
  rw [List.take_add_one, hx, List.foldl_append]
  rfl
theorem goM_le : ∀ (p : List (Int × Int)) (a : Int × Nat), (p.foldl stepM a).2 ≤ a.2 + p.length
  | [], a => Nat.le_refl _
  | x :: p, a => by
    have := goM_le p (stepM a x)
    rw [List.foldl_cons, List.length_cons]
    have h : (stepM a x).2 ≤ a.2 + 1 := by unfold stepM; split <;> simp
    omega
theorem goM_len (p : List (Int × Int)) : (goM p).2 ≤ p.length := by have := goM_le p (0, 0); unfold goM; simpa using this
def mostE (p : List (Int × Int)) : Int := if (goM p).2 = 0 then 7 else 0
def mostV (p : List (Int × Int)) (r : Int) : Int := if (goM p).2 = 0 then 0 else if (goM p).2 = p.length then (goM p).1 else max (goM p).1 r

theorem most_bad (w : World) (q q2 : Option Addr) (c c2 n n2 : Nat) (r : Int) (h : n ≠ n2) :
    Calls Try.prog 17 #[.slice q n c, .slice q2 n2 c2, .int .i64 r] w fun e w' => e = .returned (.tuple #[.int .i64 0, .int .i64 1]) ∧ w = w' := by
  have t1 : ((n : Int) != (n2 : Int)) = true := by simp; omega
  have t2 : (n != n2) = true := by simpa using h
  have t3 : (n == n2) = false := by simpa using h
  go_enter Try.func17, Try.ntmps17
  go_wp2
  go_ret2
  exact ⟨rfl, rfl⟩
theorem row1 {w : World} {q : Option Addr} {l : List Int} (h : RowR 1 encN w q l) {j : Nat} {x : Int} (hx : l[j]? = some x) : ∃ b off, q = some ⟨b, off, none⟩ ∧ w.cell? ⟨b, off + j, none⟩ = some (.int .i64 x) := by
  obtain ⟨b, off, e, _, hc⟩ := h j x hx
  have := hc 0 _ rfl
  rw [Nat.mul_one, Nat.add_zero] at this
  exact ⟨b, off, e, this⟩

set_option maxHeartbeats 8000000 in
theorem most_ok (w : World) (q q2 : Option Addr) (c c2 : Nat) (l es : List Int) (r : Int) (hr : RowR 1 encN w q l) (hr2 : RowR 1 encN w q2 es) (hlen : l.length ≤ 1000000) (he : es.length = l.length) :
    Calls Try.prog 17 #[.slice q l.length c, .slice q2 l.length c2, .int .i64 r] w fun e w' => e = .returned (.tuple #[.int .i64 (mostV (l.zip es) r), .int .i64 (mostE (l.zip es))]) ∧ w = w' := by
  obtain ⟨p, hp⟩ : ∃ p, p = l.zip es := ⟨_, rfl⟩
  rw [← hp]
  obtain ⟨n, hn⟩ : ∃ n, n = l.length := ⟨_, rfl⟩
  rw [← hn] at hlen he
  rw [← hn]
  have pl : p.length = n := by rw [hp, List.length_zip, he, ← hn, Nat.min_self]
  have HV : Hid (∀ m g, goM p = (m, g) → mostV p r = (if g = 0 then 0 else if g = n then m else max m r) ∧ mostE p = if g = 0 then 7 else 0) := fun m g h => by
    unfold mostV mostE
    rw [h, pl]
    exact ⟨rfl, rfl⟩
  generalize mostV p r = MV at HV ⊢
  generalize mostE p = ME at HV ⊢
  have HH := Lib.hid (And.intro hr (And.intro hr2 (And.intro hp (And.intro hn (And.intro he pl)))))
  clear hr hr2 hp hn he pl
  go_enter Try.func17, Try.ntmps17
  go_wp2_with fail
  go_loopg [8, 9, 10, 11, 19] n (fun g1 vm vg _ _ vi wr => ∃ (j g : Nat) (m : Int), vi = .int .i64 (j : Int) ∧ j ≤ n ∧ n - j ≤ g1 ∧ vm = .int .i64 m ∧ vg = .int .i64 (g : Int) ∧ g ≤ j ∧ Hid (goM (p.take j) = (m, g)) ∧ w = wr)
  case atStart => exact ⟨0, 0, 0, rfl, Nat.zero_le _, by omega, rfl, rfl, Nat.le_refl _, rfl, rfl⟩
  case round =>
    obtain ⟨j, g, m, rfl, h1, h2, rfl, rfl, hg, HG, rfl⟩ := hrel
    by_cases hlt : j < n
    · obtain ⟨hr, hr2, hp, hn, he, pl⟩ := HH.out
      obtain ⟨x, hx⟩ : ∃ x, l[j]? = some x := ⟨l[j]'(by omega), List.getElem?_eq_getElem (by omega)⟩
      obtain ⟨e, hee⟩ : ∃ x, es[j]? = some x := ⟨es[j]'(by omega), List.getElem?_eq_getElem (by omega)⟩
      obtain ⟨b, off, rfl, c1⟩ := row1 hr hx
      obtain ⟨b2, off2, rfl, c2⟩ := row1 hr2 hee
      have hz : p[j]? = some (x, e) := by rw [hp, List.getElem?_zip_eq_some]; exact ⟨hx, hee⟩
      have TK : Hid (goM (p.take (j + 1)) = stepM (m, g) (x, e)) := by show _ = _; rw [goM_take p hz, HG.out]
      have i1 : (0 : Int) ≤ (j : Int) := by omega
      have i2 : (j : Int) < (n : Int) := by omega
      clear hr hr2 hp hn he pl hx hee hz
      by_cases h0 : e = 0
      · subst h0
        have w1 : IntKind.i64.wrap ((g : Int) + 1) = ((g + 1 : Nat) : Int) := by rw [IntKind.wrap_i64]; omega
        by_cases hgz : g = 0
        · subst hgz
          have E : Hid (goM (p.take (j + 1)) = (x, 1)) := by show _ = _; rw [TK.out]; unfold stepM; simp
          clear HG TK
          go_wp2
          go_roundg (n - (j + 1))
          case measure => omega
          case rel => exact ⟨j + 1, 1, x, by push_cast; rfl, by omega, by omega, rfl, rfl, by omega, E.out, rfl⟩
        · have tg : (g == 0) = false := by simpa using hgz
          by_cases hm : m < x
          · have E : Hid (goM (p.take (j + 1)) = (x, g + 1)) := by show _ = _; rw [TK.out]; unfold stepM; simp [hm]
            clear HG TK
            go_wp2
            go_roundg (n - (j + 1))
            case measure => omega
            case rel => exact ⟨j + 1, g + 1, x, by push_cast; rfl, by omega, by omega, rfl, by push_cast; rfl, by omega, E.out, rfl⟩
          · have E : Hid (goM (p.take (j + 1)) = (m, g + 1)) := by show _ = _; rw [TK.out]; unfold stepM; simp [hm, hgz]
            clear HG TK
            go_wp2
            go_roundg (n - (j + 1))
            case measure => omega
            case rel => exact ⟨j + 1, g + 1, m, by push_cast; rfl, by omega, by omega, rfl, by push_cast; rfl, by omega, E.out, rfl⟩
      · have t0 : (e == 0) = false := by simpa using h0
        have t1 : (e != 0) = true := by simpa using h0
        have E : Hid (goM (p.take (j + 1)) = (m, g)) := by show _ = _; rw [TK.out]; unfold stepM; simp [h0]
        clear HG TK
        go_wp2
        go_roundg (n - (j + 1))
        case measure => omega
        case rel => exact ⟨j + 1, g, m, by push_cast; rfl, by omega, by omega, rfl, rfl, by omega, E.out, rfl⟩
    · obtain rfl : j = n := by omega
      have EV := Lib.hid (HV.out m g (by have := HG.out; rwa [List.take_of_length_le (by have := HH.out.2.2.2.2.2; omega)] at this))
      clear HG HH HV
      by_cases hgz : g = 0
      · subst hgz
        go_wp2
        go_ret2
        exact ⟨by rw [EV.out.1, EV.out.2]; rfl, rfl⟩
      · have tg : (g == 0) = false := by simpa using hgz
        have tg2 : ((g : Int) == 0) = false := by simpa using hgz
        by_cases hgn : g = j
        · have E2 : Hid (MV = m ∧ ME = 0) := by rw [EV.out.1, EV.out.2, if_neg hgz, if_pos hgn, if_neg hgz]; exact ⟨rfl, rfl⟩
          subst hgn
          clear EV
          go_wp2
          go_ret2
          exact ⟨by rw [E2.out.1, E2.out.2]; rfl, rfl⟩
        · have E2 : Hid (MV = max m r ∧ ME = 0) := by rw [EV.out.1, EV.out.2, if_neg hgz, if_neg hgn, if_neg hgz]; exact ⟨rfl, rfl⟩
          have tn : (g == j) = false := by simpa using hgn
          have tn2 : ((g : Int) == (j : Int)) = false := by simp; omega
          clear EV
          go_wp2
          go_ret2
          exact ⟨by rw [E2.out.1, E2.out.2]; rfl, rfl⟩
end Go.Proofs.Ytajkhbdniadkkaa.Pp
