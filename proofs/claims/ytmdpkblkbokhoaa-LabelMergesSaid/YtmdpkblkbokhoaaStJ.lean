/- What Merge of package label answers: the library's Grow and Concat at labels. -/
import Derived.Test.YtmdpkblkbokhoaaStI
import Derived.Lib.AppendZeros
namespace Go.Proofs.Ytmdpkblkbokhoaa
open Go.Shelf Go.RowKit Go.Lib Go.Sort
set_option linter.unusedVariables false

theorem grow_any (w : World) (n : Nat) (hn : n ≤ 1000000) : Calls Try.prog 30 #[.slice none 0 0, .int .i64 (n : Int)] w fun e w' => ∃ v, e = .returned v ∧ OwnL w' w.heap.size v [] ∧ Below w.heap.size w w' := by
  by_cases h0 : n = 0
  · subst h0
    go_enter Try.func30, Try.ntmps30
    go_wp2
    go_ret
    exact ⟨_, rfl, OwnL.nil _ _, Below.refl _ _⟩
  · obtain ⟨i, hi, hz0, hz1, hz2⟩ := info_label_parts
    have hn0 : 0 < n := by omega
    have hr : ∀ ty, (Builtin.append_ #[22, 3] ty #[.slice none 0 0, .int .i64 (n : Int)]).run Try.prog w = .ok (.slice (some ⟨w.heap.size, 0, none⟩) n (grownCap w n 0 33)) (w.drew.alloc (.cells (Builtin.zeroCells (Value.agg #[.string ByteArray.empty, .string ByteArray.empty]).cells n ++ Builtin.zeroCells (Value.agg #[.string ByteArray.empty, .string ByteArray.empty]).cells (grownCap w n 0 33 - n)) 33)) :=
      fun ty => run_append_nil_zeros w 22 3 ty 33 i _ .i64 .i64 Try.underlying22 Try.underlying3 hi hz0 n hn0 (by omega) (by omega) (by rw [hz2]; omega)
    have hge := grownCap_ge w n 0 33
    have hcm := grownCap_le_maxLen w n 0 33 (by unfold maxLen; omega)
    have hO : Hid (OwnL (w.drew.alloc (.cells (Builtin.zeroCells (Value.agg #[.string ByteArray.empty, .string ByteArray.empty]).cells n ++ Builtin.zeroCells (Value.agg #[.string ByteArray.empty, .string ByteArray.empty]).cells (grownCap w n 0 33 - n)) 33)) w.heap.size (.slice (some ⟨w.heap.size, 0, none⟩) 0 (grownCap w n 0 33)) []) := by
      refine ⟨rfl, .inr ⟨w.heap.size, _, _, rfl, Nat.le_refl _, heap_alloc_new w.drew _, Nat.zero_le _, hcm, ?_, rfl⟩⟩
      simp only [Array.size_append, size_zeroCells, ← Nat.add_mul]
      show (n + (grownCap w n 0 33 - n)) * 2 = _
      congr 1
      omega
    have hB : Hid (Below w.heap.size w (w.drew.alloc (.cells (Builtin.zeroCells (Value.agg #[.string ByteArray.empty, .string ByteArray.empty]).cells n ++ Builtin.zeroCells (Value.agg #[.string ByteArray.empty, .string ByteArray.empty]).cells (grownCap w n 0 33 - n)) 33))) :=
      ((Below.refl _ w).drew).alloc (Nat.le_refl _) _
    have HR := Lib.hid hr
    have hcz : grownCap w n 0 33 ≤ maxLen := hcm
    generalize w.drew.alloc (.cells (Builtin.zeroCells (Value.agg #[.string ByteArray.empty, .string ByteArray.empty]).cells n ++ Builtin.zeroCells (Value.agg #[.string ByteArray.empty, .string ByteArray.empty]).cells (grownCap w n 0 33 - n)) 33) = w1 at HR hO hB
    generalize grownCap w n 0 33 = cap at HR hO hge hcz
    unfold maxLen at hcz
    have hpos : (0 : Int) < (n : Int) := by omega
    clear hr hi hz0 hz1 hz2 hcm
    go_enter Try.func30, Try.ntmps30
    go_wp2_with (at_builtin; refine Lib.wpList_append_run _ rfl _ _ _ _ rfl _ _ rfl rfl _ _ (HR.out _) ?_)
    go_ret
    exact ⟨_, rfl, hO.out, hB.out⟩

/-- A row of slices of labels. -/
abbrev LRow := Option Addr × Nat × List Lab
def Rows_ (w : World) (B o : Nat) (R : List LRow) : Prop :=
  B < w.heap.size ∧ ∀ (j : Nat) (r : LRow), R[j]? = some r → w.cell? ⟨B, o + j, none⟩ = some (.slice r.1 r.2.2.length r.2.1) ∧ Labs w r.1 r.2.2 ∧ (r.1 = none → r.2.1 = 0 ∧ r.2.2 = [])
def cat : List LRow → List Lab
  | [] => []
  | r :: R => r.2.2 ++ cat R
theorem cat_app : ∀ R S : List LRow, cat (R ++ S) = cat R ++ cat S
  | [], S => rfl
  | r :: R, S => by simp [cat, cat_app R S]
theorem cat_take {R : List LRow} {k : Nat} {r : LRow} (h : R[k]? = some r) : cat (R.take (k + 1)) = cat (R.take k) ++ r.2.2 := by
  rw [List.take_add_one, h, cat_app]
  simp [cat]
theorem cat_le (R : List LRow) (k : Nat) : (cat (R.take k)).length ≤ (cat R).length := by
  have : cat R = cat (R.take k) ++ cat (R.drop k) := by rw [← cat_app, List.take_append_drop]
  rw [this, List.length_append]
  omega
theorem Rows_.below {w w' : World} {B o : Nat} {R : List LRow} (h : Rows_ w B o R) (hb : Below w.heap.size w w') : Rows_ w' B o R := by
  refine ⟨Nat.lt_of_lt_of_le h.1 hb.size, fun j r hj => ?_⟩
  obtain ⟨h1, h2, h3⟩ := h.2 j r hj
  exact ⟨(hb.cell (p := ⟨B, o + j, none⟩) h.1).trans h1, h2.below hb, h3⟩

set_option maxHeartbeats 1000000 in
theorem concat_any (w : World) (B o : Nat) (R : List LRow) (h : Rows_ w B o R) (hl : (cat R).length ≤ 100000) (hR : R.length ≤ 1000) :
    Calls Try.prog 26 #[.slice (some ⟨B, o, none⟩) R.length R.length] w fun e w' => ∃ v, e = .returned v ∧ OwnL w' w.heap.size v (cat R) ∧ Below w.heap.size w w' := by
  have HR := Lib.hid h
  clear h
  go_enter Try.func26, Try.ntmps26
  go_wp2_with fail
  go_loopg [3, 5, 11] R.length (fun g vs _ vk wr => ∃ (k s : Nat), vs = .int .i64 (s : Int) ∧ vk = .int .i64 (k : Int) ∧ k ≤ R.length ∧ s ≤ 100000 ∧ R.length - k ≤ g ∧ Hid (s = (cat (R.take k)).length) ∧ w = wr)
  case atStart => exact ⟨0, 0, rfl, rfl, Nat.zero_le _, by omega, Nat.le_refl _, rfl, rfl⟩
  case round =>
    obtain ⟨k, s, rfl, rfl, hk, hs, hg, HS, rfl⟩ := hrel
    by_cases hlt : k < R.length
    · obtain ⟨r, hr⟩ : ∃ r, R[k]? = some r := ⟨R[k], List.getElem?_eq_getElem hlt⟩
      have hc := (HR.out.2 k r hr).1
      obtain ⟨s2, hs2⟩ : ∃ s2, s2 = s + r.2.2.length := ⟨_, rfl⟩
      have e1 : (s : Int) + (r.2.2.length : Int) = (s2 : Int) := by omega
      have HS2 : Hid (s2 = (cat (R.take (k + 1))).length) := by show _ = _; rw [cat_take hr, List.length_append, ← HS.out, hs2]
      have hs3 : s2 ≤ 100000 := by have := cat_le R (k + 1); have := HS2.out; omega
      have w1 : IntKind.i64.wrap (s2 : Int) = (s2 : Int) := by rw [IntKind.wrap_i64]; omega
      have hneg : decide ((s2 : Int) < 0) = false := decide_eq_false (by omega)
      clear hr hs2
      go_wp2_with fail
      go_roundg (R.length - (k + 1))
      case measure => omega
      case rel => exact ⟨k + 1, s2, rfl, by go_num, hlt, hs3, Nat.le_refl _, HS2.out, rfl⟩
    · obtain rfl : k = R.length := by omega
      have GR := Lib.hid (grow_any w s (by omega))
      go_wp2_with fail
      refine GR.out.mono ?_
      rintro e w1 ⟨v, rfl, hO, hB⟩
      have HO := Lib.hid hO
      have HB := Lib.hid hB
      clear hO hB GR HS
      go_wp2_with fail
      go_loopg [6, 8, 27] R.length (fun g vn _ vk wq => ∃ (k : Nat), vk = .int .i64 (k : Int) ∧ k ≤ R.length ∧ R.length - k ≤ g ∧ Hid (OwnL wq w.heap.size vn (cat (R.take k))) ∧ Hid (Below w.heap.size w wq))
      case atStart => exact ⟨0, rfl, Nat.zero_le _, by omega, HO.out, HB.out⟩
      case round =>
        clear HO HB
        obtain ⟨k, rfl, hk2, hg2, HO, HB⟩ := hrel
        by_cases hlt2 : k < R.length
        · obtain ⟨r, hr⟩ : ∃ r, R[k]? = some r := ⟨R[k], List.getElem?_eq_getElem hlt2⟩
          obtain ⟨hc0, hL, hq⟩ := (HR.out.below HB.out).2 k r hr
          have HT : Hid (cat (R.take (k + 1)) = cat (R.take k) ++ r.2.2) := cat_take hr
          have hlen : (cat (R.take k)).length + r.2.2.length ≤ 1000000 := by
            have := cat_le R (k + 1)
            rw [cat_take hr, List.length_append] at this
            omega
          have hsz := HB.out.size
          have HQ := Lib.hid hq
          have HL := Lib.hid hL
          clear hr hq hL
          obtain ⟨q, c, l⟩ := r
          dsimp only at hc0 HQ HL HT hlen
          go_wp2_with (at_builtin; refine wpList_append_labs rfl _ _ rfl w.heap.size u6 (cat (R.take k)) rfl HO.out q c l rfl HL.out HQ.out hlen hsz ?_; intro v2 w2 hO2 hB2)
          have HO2 := Lib.hid hO2
          have HB2 := Lib.hid hB2
          clear hO2 hB2
          go_wp2_with fail
          go_roundg (R.length - (k + 1))
          case measure => omega
          case rel => exact ⟨k + 1, by go_num, hlt2, Nat.le_refl _, by show OwnL _ _ _ _; rw [HT.out]; exact HO2.out, HB.out.trans HB2.out⟩
        · obtain rfl : k = R.length := by omega
          go_wp2
          go_ret
          exact ⟨_, rfl, by have := HO.out; rwa [List.take_length] at this, HB.out⟩

theorem merge_any (w : World) (q p : Option Addr) (c d : Nat) (a b : List Lab) (ha : Labs w q a) (hb : Labs w p b) (hq : q = none → c = 0 ∧ a = []) (hp : p = none → d = 0 ∧ b = []) (hl : a.length + b.length ≤ 100000) :
    Calls Try.prog 16 #[.slice q a.length c, .slice p b.length d] w (Sorts w (b ++ a)) := by
  have b0 : Below w.heap.size w (w.alloc (.cells #[.slice p b.length d, .slice q a.length c] 22)) := bel_alloc (Below.refl _ _) _
  have hr : Rows_ (w.alloc (.cells #[.slice p b.length d, .slice q a.length c] 22)) w.heap.size 0 [(p, d, b), (q, c, a)] := by
    refine ⟨by simp, fun j r hj => ?_⟩
    match j, hj with
    | 0, hj =>
      simp at hj
      subst hj
      exact ⟨by simp, hb.below b0, hp⟩
    | 1, hj =>
      simp at hj
      subst hj
      exact ⟨by simp, ha.below b0, hq⟩
    | j + 2, hj => simp at hj
  have e : cat [(p, d, b), (q, c, a)] = b ++ a := by simp [cat]
  have C : Calls Try.prog 26 #[.slice (some ⟨w.heap.size, 0, none⟩) 2 2] (w.alloc (.cells #[.slice p b.length d, .slice q a.length c] 22)) fun e w' => ∃ v, e = .returned v ∧ OwnL w' (w.alloc (.cells #[.slice p b.length d, .slice q a.length c] 22)).heap.size v (b ++ a) ∧ Below (w.alloc (.cells #[.slice p b.length d, .slice q a.length c] 22)).heap.size (w.alloc (.cells #[.slice p b.length d, .slice q a.length c] 22)) w' := by
    have := concat_any _ _ 0 _ hr (by rw [e]; simp; omega) (by simp)
    rw [e] at this
    exact this
  have hlen : (b ++ a).length ≤ 100000 := by simp; omega
  have C := Lib.hid C
  have B0 := Lib.hid b0
  clear hr b0 e ha hb hq hp
  generalize b ++ a = ba at C hlen ⊢
  go_enter Try.func16, Try.ntmps16
  go_wp2_with fail
  refine C.out.mono ?_
  rintro e w1 ⟨v, rfl, hO, hB⟩
  obtain ⟨q1, c1, rfl, hL1, hq1⟩ : ∃ q1 c1, v = .slice q1 ba.length c1 ∧ Labs w1 q1 ba ∧ (q1 = none → c1 = 0 ∧ ba = []) := by
    rcases OwnL.lies hO with ⟨rfl, h0⟩ | ⟨g, c1, rfl, _, _, _, _, hLb⟩
    · exact ⟨none, 0, by rw [h0]; rfl, by rw [h0]; exact Labs.nil _ _, fun _ => ⟨rfl, h0⟩⟩
    · exact ⟨_, c1, rfl, hLb, fun h => by cases h⟩
  have S := Lib.hid (sort_any w1 q1 c1 ba hL1 hq1 hlen)
  have HB := Lib.hid (bel_trans B0.out hB)
  clear hO hL1 hq1 hB C
  go_wp2_with fail
  refine S.out.mono ?_
  rintro e w2 ⟨q2, c2, out, rfl, h1, h2, h3, h4, h5⟩
  have F : Hid (Strict out ∧ Same1 ba out ∧ Labs w2 q2 out ∧ (q2 = none → c2 = 0 ∧ out = []) ∧ Below w1.heap.size w1 w2) := ⟨h1, h2, h3, h4, h5⟩
  clear h1 h2 h3 h4 h5 S
  go_wp2
  go_ret
  obtain ⟨h1, h2, h3, h4, h5⟩ := F.out
  exact ⟨q2, c2, out, rfl, h1, h2, h3, h4, bel_trans HB.out h5⟩
end Go.Proofs.Ytmdpkblkbokhoaa
