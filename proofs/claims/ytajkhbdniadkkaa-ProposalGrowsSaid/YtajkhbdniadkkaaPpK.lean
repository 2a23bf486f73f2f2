/- Layer 20: rows of uses of a call's own; two rows put together (slices.Concat); Split of any row. -/
import Derived.Test.YtajkhbdniadkkaaPpD
import Derived.Lib.AppendZeros
import Derived.Laws.AppendOwn
namespace Go.Proofs.Ytajkhbdniadkkaa.Pp
open Go.RowKit Go.Shelf Go.Lib Go.Sort Go.Deep
open Go.Joins (cell_of_block unfrozen_of_block block_setCell)
open Go.Proofs.Ytajkhbdniadkkaa.Ow Go.Proofs.Ytajkhbdniadkkaa.Ld
set_option linter.unusedVariables false
set_option linter.unusedSimpArgs false
set_option maxRecDepth 20000

abbrev SlT : TypeId := 38
/-- The call owns the slice v, which reads as l. -/
def OwnT (N : Nat) (w : World) (v : Value) (l : List Ut) : Prop := w.ownsRow N UT 5 v l.length (flat encT l)
theorem OwnT.nil (N : Nat) (w : World) : OwnT N w (.slice none 0 0) [] := World.ownsRow_nil _ _ _ _
theorem OwnT.below {N : Nat} {w w' : World} {v : Value} {l : List Ut} (h : OwnT N w v l) (b : Below w.heap.size w w') : OwnT N w' v l := below_own h b
theorem OwnT.mono {N M : Nat} {w : World} {v : Value} {l : List Ut} (h : OwnT N w v l) (hM : M ≤ N) : OwnT M w v l := own_mono h hM
theorem OwnT.lt {N : Nat} {w : World} {v : Value} {l : List Ut} (h : OwnT N w v l) : ∀ g, v.ownBlock = some g → N ≤ g ∧ g < w.heap.size := fun g hg => lt_own h hg
theorem OwnT.row {N : Nat} {w : World} {v : Value} {l : List Ut} (h : OwnT N w v l) : ∃ q c, v = .slice q l.length c ∧ RowR 5 encT w q l ∧ (q = none → c = 0 ∧ l = []) := by
  obtain ⟨q, c, e, r, z, _⟩ := own_lies encT_len h
  refine ⟨q, c, e, r, fun hq => ⟨z hq, ?_⟩⟩
  cases l with
  | nil => rfl
  | cons x l =>
    obtain ⟨_, _, e, _⟩ := r 0 x rfl
    rw [hq] at e
    cases e
theorem encT_one (x : Ut) : ∀ u ∈ encT x, u.oneCell' = true := utA_one x
theorem flat_appT (l m : List Ut) : flat encT (l ++ m) = flat encT l ++ flat encT m := by simp [flat]

theorem wpList_append_uts {w : World} {ops : Array Oper} {rest : List Oper} {o : Oper} {a : Act} {Q : Exit → Act → World → Prop} (hgd : o.guard = none) (s x : Operand)
    (ho : o.op = .call { callee := .builtin .append, args := #[s, x], argTypes := #[SlT, SlT] })
    (N : Nat) (v : Value) (l : List Ut) (hs : a.eval s = v) (hown : OwnT N w v l)
    (q : Option Addr) (n c : Nat) (m : List Ut) (hn : n = m.length) (hx : a.eval x = .slice q n c) (hr : RowR 5 encT w q m) (hq : q = none → c = 0 ∧ m = []) (hlen : l.length + m.length ≤ 10000000) (hbase : N ≤ w.heap.size)
    (h : ∀ v' w', OwnT N w' v' (l ++ m) → w.grownBy w' v.ownBlock → wpList Try.prog ops Q rest (a.put o.dst v') w') :
    wpList Try.prog ops Q (o :: rest) a w := by
  obtain ⟨i, hi, hz0, hz1, hz2⟩ := info_UT
  subst hn
  cases q with
  | none =>
    obtain ⟨rfl, rfl⟩ := hq rfl
    refine wpList_append_own_none hgd s x _ ho N UT i 5 Try.underlying38 hi v l.length (flat encT l) hs hown hx ?_
    exact h v w (by simpa using hown) ⟨rfl, rfl, rfl, Nat.le_refl _, fun _ _ _ => rfl⟩
  | some ad =>
    have hnews : ∀ j u, (flat encT m)[j]? = some u → w.cell? (ad.add j) = some u := by
      intro j u hu
      obtain ⟨i', t, x', hx', ht', hu', rfl⟩ := flat_get encT_len (by decide) hu
      obtain ⟨b, off, e, _, hc⟩ := hr i' x' hx'
      cases e
      have ea : (⟨b, off, none⟩ : Addr).add (i' * 5 + t) = ⟨b, off + (i' * 5 + t), none⟩ := by unfold Addr.add; split <;> simp_all
      rw [ea, ← Nat.add_assoc]
      exact hc t u hu'
    refine wpList_append_own_at w hgd s x _ ho N UT i (.agg zerU) 5 i.bytes Try.underlying38 hi hz0 hz1 rfl rfl (by decide) v l.length (flat encT l) hs hown ad m.length c (flat encT m) hx
      (flat_length encT_len m) hnews (flat_one encT_one m) (by unfold maxLen; omega) (Nat.le_trans (Nat.mul_le_mul hlen hz2) (by decide)) hbase ?_
    intro v' w' h1 h2 h3 h4
    refine h v' w' ?_ h2
    unfold OwnT
    rw [flat_appT, List.length_append]
    exact h1

/-! ### Concat -/
theorem grow_uts (w : World) (n : Nat) (hn : n ≤ 10000000) : Calls Try.prog 80 #[.slice none 0 0, .int .i64 (n : Int)] w fun e w' => ∃ v, e = .returned v ∧ OwnT w.heap.size w' v [] ∧ Below w.heap.size w w' := by
  by_cases h0 : n = 0
  · subst h0
    go_enter Try.func80, Try.ntmps80
    go_wp2
    go_ret
    exact ⟨_, rfl, OwnT.nil _ _, Below.refl _ _⟩
  · obtain ⟨i, hi, hz0, hz1, hz2⟩ := info_UT
    have hn0 : 0 < n := by omega
    have hr : ∀ ty, (Builtin.append_ #[SlT, 3] ty #[.slice none 0 0, .int .i64 (n : Int)]).run Try.prog w = .ok (.slice (some ⟨w.heap.size, 0, none⟩) n (grownCap w n 0 UT)) (w.drew.alloc (.cells (Builtin.zeroCells (Value.agg zerU).cells n ++ Builtin.zeroCells (Value.agg zerU).cells (grownCap w n 0 UT - n)) UT)) :=
      fun ty => run_append_nil_zeros w SlT 3 ty UT i _ .i64 .i64 Try.underlying38 Try.underlying3 hi hz0 n hn0 (by omega) (by omega) (Nat.le_trans (Nat.mul_le_mul hn hz2) (by decide))
    have hge := grownCap_ge w n 0 UT
    have hcm := grownCap_le_maxLen w n 0 UT (by unfold maxLen; omega)
    have hO : Hid (OwnT w.heap.size (w.drew.alloc (.cells (Builtin.zeroCells (Value.agg zerU).cells n ++ Builtin.zeroCells (Value.agg zerU).cells (grownCap w n 0 UT - n)) UT)) (.slice (some ⟨w.heap.size, 0, none⟩) 0 (grownCap w n 0 UT)) []) := by
      refine ⟨rfl, .inr ⟨w.heap.size, _, _, rfl, Nat.le_refl _, heap_alloc_new w.drew _, Nat.zero_le _, hcm, ?_, rfl⟩⟩
      simp only [Array.size_append, size_zeroCells, ← Nat.add_mul]
      show (n + (grownCap w n 0 UT - n)) * 5 = _
      congr 1
      omega
    have hB : Hid (Below w.heap.size w (w.drew.alloc (.cells (Builtin.zeroCells (Value.agg zerU).cells n ++ Builtin.zeroCells (Value.agg zerU).cells (grownCap w n 0 UT - n)) UT))) :=
      ((Below.refl _ w).drew).alloc (Nat.le_refl _) _
    have HR := Lib.hid hr
    have hcz : grownCap w n 0 UT ≤ maxLen := hcm
    generalize w.drew.alloc (.cells (Builtin.zeroCells (Value.agg zerU).cells n ++ Builtin.zeroCells (Value.agg zerU).cells (grownCap w n 0 UT - n)) UT) = w1 at HR hO hB
    generalize grownCap w n 0 UT = cap at HR hO hge hcz
    unfold maxLen at hcz
    have hpos : (0 : Int) < (n : Int) := by omega
    clear hr hi hz0 hz1 hz2 hcm
    go_enter Try.func80, Try.ntmps80
    go_wp2_with (at_builtin; refine Lib.wpList_append_run _ rfl _ _ _ _ rfl _ _ rfl rfl _ _ (HR.out _) ?_)
    go_ret
    exact ⟨_, rfl, hO.out, hB.out⟩
abbrev TRw := Option Addr × Nat × List Ut
def TRows (w : World) (B o : Nat) (R : List TRw) : Prop :=
  B < w.heap.size ∧ ∀ (j : Nat) (r : TRw), R[j]? = some r → w.cell? ⟨B, o + j, none⟩ = some (.slice r.1 r.2.2.length r.2.1) ∧ RowR 5 encT w r.1 r.2.2 ∧ (r.1 = none → r.2.1 = 0 ∧ r.2.2 = [])
def catT : List TRw → List Ut
  | [] => []
  | r :: R => r.2.2 ++ catT R
theorem catT_app : ∀ R S : List TRw, catT (R ++ S) = catT R ++ catT S
  | [], S => rfl
  | r :: R, S => by simp [catT, catT_app R S]
theorem catT_take {R : List TRw} {k : Nat} {r : TRw} (h : R[k]? = some r) : catT (R.take (k + 1)) = catT (R.take k) ++ r.2.2 := by
  rw [List.take_add_one, h, catT_app]
  simp [catT]
theorem catT_le (R : List TRw) (k : Nat) : (catT (R.take k)).length ≤ (catT R).length := by
  have : catT R = catT (R.take k) ++ catT (R.drop k) := by rw [← catT_app, List.take_append_drop]
  rw [this, List.length_append]
  omega
theorem TRows.below {w w' : World} {B o : Nat} {R : List TRw} (h : TRows w B o R) (hb : Below w.heap.size w w') : TRows w' B o R := by
  refine ⟨Nat.lt_of_lt_of_le h.1 hb.size, fun j r hj => ?_⟩
  obtain ⟨h1, h2, h3⟩ := h.2 j r hj
  exact ⟨(hb.cell (p := ⟨B, o + j, none⟩) h.1).trans h1, h2.below hb, h3⟩
set_option maxHeartbeats 2000000 in
theorem concat_uts (w : World) (B o : Nat) (R : List TRw) (h : TRows w B o R) (hl : (catT R).length ≤ 5000000) (hR : R.length ≤ 1000) :
    Calls Try.prog 62 #[.slice (some ⟨B, o, none⟩) R.length R.length] w fun e w' => ∃ v, e = .returned v ∧ OwnT w.heap.size w' v (catT R) ∧ Below w.heap.size w w' := by
  have HR := Lib.hid h
  clear h
  go_enter Try.func62, Try.ntmps62
  go_wp2_with fail
  go_loopg [3, 5, 11] R.length (fun g vs _ vk wr => ∃ (k s : Nat), vs = .int .i64 (s : Int) ∧ vk = .int .i64 (k : Int) ∧ k ≤ R.length ∧ s ≤ 5000000 ∧ R.length - k ≤ g ∧ Hid (s = (catT (R.take k)).length) ∧ w = wr)
  case atStart => exact ⟨0, 0, rfl, rfl, Nat.zero_le _, by omega, Nat.le_refl _, rfl, rfl⟩
  case round =>
    obtain ⟨k, s, rfl, rfl, hk, hs, hg, HS, rfl⟩ := hrel
    by_cases hlt : k < R.length
    · obtain ⟨r, hr⟩ : ∃ r, R[k]? = some r := ⟨R[k], List.getElem?_eq_getElem hlt⟩
      have hc := (HR.out.2 k r hr).1
      obtain ⟨s2, hs2⟩ : ∃ s2, s2 = s + r.2.2.length := ⟨_, rfl⟩
      have e1 : (s : Int) + (r.2.2.length : Int) = (s2 : Int) := by omega
      have HS2 : Hid (s2 = (catT (R.take (k + 1))).length) := by show _ = _; rw [catT_take hr, List.length_append, ← HS.out, hs2]
      have hs3 : s2 ≤ 5000000 := by have := catT_le R (k + 1); have := HS2.out; omega
      have w1 : IntKind.i64.wrap (s2 : Int) = (s2 : Int) := by rw [IntKind.wrap_i64]; omega
      have hneg : decide ((s2 : Int) < 0) = false := decide_eq_false (by omega)
      clear hr hs2
      go_wp2_with fail
      go_roundg (R.length - (k + 1))
      case measure => omega
      case rel => exact ⟨k + 1, s2, rfl, by go_num, hlt, hs3, Nat.le_refl _, HS2, rfl⟩
    · obtain rfl : k = R.length := by omega
      have GR := Lib.hid (grow_uts w s (by omega))
      go_wp2_with fail
      refine GR.out.mono ?_
      rintro e w1 ⟨v, rfl, hO, hB⟩
      have HO := Lib.hid hO
      have HB := Lib.hid hB
      clear hO hB GR HS
      go_wp2_with fail
      go_loopg [6, 8, 27] R.length (fun g vn _ vk wq => ∃ (k : Nat), vk = .int .i64 (k : Int) ∧ k ≤ R.length ∧ R.length - k ≤ g ∧ Hid (OwnT w.heap.size wq vn (catT (R.take k))) ∧ Hid (Below w.heap.size w wq))
      case atStart => exact ⟨0, rfl, Nat.zero_le _, by omega, HO.out, HB.out⟩
      case round =>
        clear HO HB
        obtain ⟨k, rfl, hk2, hg2, HO, HB⟩ := hrel
        by_cases hlt2 : k < R.length
        · obtain ⟨r, hr⟩ : ∃ r, R[k]? = some r := ⟨R[k], List.getElem?_eq_getElem hlt2⟩
          obtain ⟨hc0, hL, hq⟩ := (HR.out.below HB.out).2 k r hr
          have HT : Hid (catT (R.take (k + 1)) = catT (R.take k) ++ r.2.2) := catT_take hr
          have hlen : (catT (R.take k)).length + r.2.2.length ≤ 10000000 := by
            have := catT_le R (k + 1)
            rw [catT_take hr, List.length_append] at this
            omega
          have hsz := HB.out.size
          have HQ := Lib.hid hq
          have HL := Lib.hid hL
          clear hr hq hL
          obtain ⟨q, c, l⟩ := r
          dsimp only at hc0 HQ HL HT hlen
          go_wp2_with (at_builtin; refine wpList_append_uts rfl _ _ rfl w.heap.size u6 (catT (R.take k)) rfl HO.out q l.length c l rfl rfl HL.out HQ.out hlen hsz ?_; intro v2 w2 hO2 hg2)
          have HO2 := Lib.hid hO2
          have HB2 := Lib.hid (HB.out.grown hg2 hsz (fun k e => (HO.out.lt k e).1))
          clear hO2 hg2
          go_wp2_with fail
          go_roundg (R.length - (k + 1))
          case measure => omega
          case rel => exact ⟨k + 1, by go_num, hlt2, Nat.le_refl _, by show OwnT _ _ _ _; rw [HT.out]; exact HO2.out, HB2.out⟩
        · obtain rfl : k = R.length := by omega
          go_wp2
          go_ret
          exact ⟨_, rfl, by have := HO.out; rwa [List.take_length] at this, HB.out⟩

/-! ### Split -/
def isHas (x : Ut) : Bool := x.rd && x.hs
def isMis (x : Ut) : Bool := x.rd && !x.hs
def isUn (x : Ut) : Bool := !x.rd
theorem ret_3 {a b c d e f : Value} (h : a = d) (g : b = e) (k : c = f) : Ending.returned (.tuple #[a, b, c]) = .returned (.tuple #[d, e, f]) := by rw [h, g, k]
theorem fil_take (f : Ut → Bool) (l : List Ut) {j : Nat} {x : Ut} (hx : l[j]? = some x) : (l.take (j + 1)).filter f = (l.take j).filter f ++ (if f x = true then [x] else []) := by
  rw [List.take_add_one, hx, List.filter_append]
  congr 1
  by_cases h : f x = true
  · rw [if_pos h]; simp [h]
  · rw [if_neg h]; simp [h]
/-- Three rows of the call's own, apart from each other. -/
structure Three (N : Nat) (w : World) (a b c : Value) (x y z : List Ut) : Prop where
  h1 : OwnT N w a x
  h2 : OwnT N w b y
  h3 : OwnT N w c z
  d12 : ∀ g, a.ownBlock = some g → b.ownBlock = some g → False
  d13 : ∀ g, a.ownBlock = some g → c.ownBlock = some g → False
  d23 : ∀ g, b.ownBlock = some g → c.ownBlock = some g → False
end Go.Proofs.Ytajkhbdniadkkaa.Pp
