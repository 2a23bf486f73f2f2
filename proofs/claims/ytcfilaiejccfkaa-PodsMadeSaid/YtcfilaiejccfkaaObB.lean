/- The document's Int, Text, truth, resources, labels, asks, behavior. -/
import Derived.Test.YtcfilaiejccfkaaObA
namespace Go.Proofs.Ytcfilaiejccfkaa
open Go.RowKit Go.Shelf Go.Lib Go.Sort
set_option linter.unusedVariables false

/-- A whole number modulo 2^64. -/
def u64 (x : Int) : Nat := (x % 18446744073709551616).toNat
theorem u64_lt (x : Int) : u64 x < 18446744073709551616 := by unfold u64; omega
theorem wrap_u64' (x : Int) : IntKind.u64.wrap x = (u64 x : Int) := by rw [IntKind.wrap_u64]; unfold u64; omega
theorem u64_nat {x : Nat} (h : x < 18446744073709551616) : u64 (x : Int) = x := by unfold u64; omega
/-- A whole number's bytes, a text's. -/
def num (x : Int) : List UInt8 := le (u64 x) 8
theorem num_len (x : Int) : (num x).length = 8 := le_len 8 _
def txt (s : ByteArray) : List UInt8 := le s.size 1 ++ by_ s
theorem txt_len (s : ByteArray) : (txt s).length = 1 + s.size := by simp [txt, le_len, by_len]
def tru (b : Bool) : List UInt8 := if b then [1] else [0]
theorem tru_len (b : Bool) : (tru b).length = 1 := by cases b <;> rfl

theorem rint_any (w : World) (x : Int) :
    Calls Try.prog 28 #[.int .i64 x] w fun e w' => e = .returned (.string (mk (num x))) ∧ Gr w w' := by
  have C := Lib.hid (fun W => rput_any W (u64 x) 8 (u64_lt x) (by decide))
  have cv := wrap_u64' x
  unfold num
  generalize u64 x = u at C cv ⊢
  go_enter Try.func28, Try.ntmps28
  go_wp2_with fail
  refine (C.out _).mono ?_
  rintro e w1 ⟨rfl, b1⟩
  go_wp2
  go_ret
  exact ⟨rfl, b1⟩

theorem rtext_any (w : World) (s : ByteArray) (hs : s.size ≤ 140737488351232) :
    Calls Try.prog 27 #[.string s] w fun e w' => e = .returned (.string (mk (txt s))) ∧ Gr w w' := by
  obtain ⟨u, hu⟩ : ∃ u, u = s.size := ⟨_, rfl⟩
  have C := Lib.hid (fun W => rput_any W u 1 (by omega) (by decide))
  have cv : IntKind.u64.wrap (s.size : Int) = (u : Int) := by rw [IntKind.wrap_u64]; omega
  have hz : (mk (le u 1)).size + s.size ≤ 9223372036854775807 := by rw [mk_size, le_len]; omega
  have hr : mk (le u 1) ++ s = mk (txt s) := by
    unfold txt
    rw [← mk_app, mk_by, hu]
  have HR := Lib.hid hr
  clear hr hu
  go_enter Try.func27, Try.ntmps27
  go_wp2_with fail
  refine (C.out _).mono ?_
  rintro e w1 ⟨rfl, b1⟩
  go_wp2
  go_ret
  exact ⟨by rw [HR.out]; rfl, b1⟩

theorem rtruth_any (w : World) (b : Bool) :
    Calls Try.prog 32 #[.bool b] w fun e w' => e = .returned (.string (mk (tru b))) ∧ Gr w w' := by
  cases b
  · have C := Lib.hid (fun W => rput_any W 0 1 (by decide) (by decide))
    go_enter Try.func32, Try.ntmps32
    go_wp2_with fail
    refine (C.out _).mono ?_
    rintro e w1 ⟨rfl, b1⟩
    go_wp2
    go_ret
    exact ⟨rfl, b1⟩
  · have C := Lib.hid (fun W => rput_any W 1 1 (by decide) (by decide))
    go_enter Try.func32, Try.ntmps32
    go_wp2_with fail
    refine (C.out _).mono ?_
    rintro e w1 ⟨rfl, b1⟩
    go_wp2
    go_ret
    exact ⟨rfl, b1⟩

/-! ### rows -/
/-- The slice at 'q' reads as the row 'l', k cells each. -/
def RowR {α : Type} (k : Nat) (enc : α → List Value) (w : World) (q : Option Addr) (l : List α) : Prop :=
  ∀ (j : Nat) (x : α), l[j]? = some x → ∃ b off, q = some ⟨b, off, none⟩ ∧ b < w.heap.size ∧ ∀ (t : Nat) (v : Value), (enc x)[t]? = some v → w.cell? ⟨b, off + j * k + t, none⟩ = some v
theorem RowR.below {α : Type} {k : Nat} {enc : α → List Value} {w w' : World} {q : Option Addr} {l : List α} (h : RowR k enc w q l) (hb : Below w.heap.size w w') : RowR k enc w' q l := by
  intro j x hj
  obtain ⟨b, off, e, h1, h2⟩ := h j x hj
  exact ⟨b, off, e, Nat.lt_of_lt_of_le h1 hb.size, fun t v hv => (hb.cell (p := ⟨b, off + j * k + t, none⟩) h1).trans (h2 t v hv)⟩
theorem RowR.gr {α : Type} {k : Nat} {enc : α → List Value} {w w' : World} {q : Option Addr} {l : List α} (h : RowR k enc w q l) (hb : Gr w w') : RowR k enc w' q l := h.below hb.below
theorem RowR.nil {α : Type} (k : Nat) (enc : α → List Value) (w : World) (q : Option Addr) : RowR k enc w q [] := fun j x hj => by simp at hj

abbrev Lab := ByteArray × ByteArray
abbrev Req := ByteArray × ByteArray × Int
abbrev Met := Int × ByteArray × Int
abbrev Pol := Bool × Int × Int
abbrev Sca := Int × Int × Int
def encL (x : Lab) : List Value := [.string x.1, .string x.2]
def encR (x : Req) : List Value := [.string x.1, .string x.2.1, .int .i64 x.2.2]
def encM (x : Met) : List Value := [.int .i64 x.1, .string x.2.1, .int .i64 x.2.2]
def encP (x : Pol) : List Value := [.bool x.1, .int .i64 x.2.1, .int .i64 x.2.2]
def encS (x : Sca) : List Value := [.int .i64 x.1, .int .i64 x.2.1, .int .i64 x.2.2]
def ftL (x : Lab) : Bool := decide (x.1.size ≤ 140737488351232) && decide (x.2.size ≤ 140737488351232)
def ftR (x : Req) : Bool := decide (x.1.size ≤ 140737488351232) && decide (x.2.1.size ≤ 140737488351232)
def ftM (x : Met) : Bool := decide (x.2.1.size ≤ 140737488351232)
def byL (x : Lab) : List UInt8 := txt x.1 ++ txt x.2
def byR (x : Req) : List UInt8 := txt x.1 ++ txt x.2.1 ++ num x.2.2
def byM (x : Met) : List UInt8 := num x.1 ++ txt x.2.1 ++ num x.2.2
def byP (x : Pol) : List UInt8 := tru x.1 ++ num x.2.1 ++ num x.2.2
def byS (x : Sca) : List UInt8 := num x.1 ++ num x.2.1 ++ num x.2.2
def rowB {α : Type} (f : α → List UInt8) (l : List α) : List UInt8 := le l.length 1 ++ l.flatMap f
theorem flat_len {α : Type} (f : α → List UInt8) (c : Nat) : ∀ (l : List α), (∀ x ∈ l, (f x).length ≤ c) → (l.flatMap f).length ≤ l.length * c
  | [], _ => by simp
  | x :: l, h => by
    rw [List.flatMap_cons, List.length_append, List.length_cons, Nat.add_mul]
    have h1 := h x List.mem_cons_self
    have h2 := flat_len f c l (fun y hy => h y (List.mem_cons_of_mem _ hy))
    omega
theorem rowB_len {α : Type} (f : α → List UInt8) (c : Nat) (l : List α) (h : ∀ x ∈ l, (f x).length ≤ c) : (rowB f l).length ≤ 1 + l.length * c := by
  have := flat_len f c l h
  simp [rowB, le_len]
  simpa using this
theorem byL_len (x : Lab) (h : ftL x = true) : (byL x).length ≤ 281474976702466 := by
  simp [ftL] at h
  simp [byL, txt_len]
  omega
theorem byR_len (x : Req) (h : ftR x = true) : (byR x).length ≤ 281474976702474 := by
  simp [ftR] at h
  simp [byR, txt_len, num_len]
  omega
theorem byM_len (x : Met) (h : ftM x = true) : (byM x).length ≤ 140737488351249 := by
  simp [ftM] at h
  simp [byM, txt_len, num_len]
  omega
theorem byP_len (x : Pol) : (byP x).length = 17 := by simp [byP, tru_len, num_len]
theorem byS_len (x : Sca) : (byS x).length = 24 := by simp [byS, num_len]
theorem drop_flat {α : Type} {l : List α} {f : α → List UInt8} {k : Nat} {x : α} (h : l[k]? = some x) : (l.drop k).flatMap f = f x ++ (l.drop (k + 1)).flatMap f := by
  obtain ⟨hk, rfl⟩ := List.getElem?_eq_some_iff.1 h
  rw [List.drop_eq_getElem_cons hk, List.flatMap_cons]

theorem len255 {n : Nat} (h : n ≤ 255) : IntKind.u64.wrap (n : Int) = (n : Int) := by rw [IntKind.wrap_u64]; omega

set_option maxHeartbeats 2000000 in
theorem rlabels_any (w : World) (q : Option Addr) (c : Nat) (l : List Lab) (h : RowR 2 encL w q l) (hl : l.length ≤ 255) (hok : l.all ftL = true) :
    Calls Try.prog 30 #[.slice q l.length c] w fun e w' => e = .returned (.string (mk (rowB byL l))) ∧ Gr w w' := by
  have mixed : Try.prog.follows .mixedOrders = true := by kernel_rfl
  have HR := Lib.hid h
  have HO := Lib.hid (List.all_eq_true.1 hok)
  have HZ := Lib.hid (flat_len byL 281474976702466 l (fun x hx => byL_len x (HO.out x hx)))
  have C := Lib.hid (fun W => rput_any W l.length 1 (by omega) (by decide))
  have cv := len255 hl
  clear h hok
  go_enter Try.func30, Try.ntmps30
  go_wp2_with fail
  refine (C.out _).mono ?_
  rintro e w1 ⟨rfl, b1⟩
  have B1 := Lib.hid b1
  clear b1
  go_wp2_with fail
  clear cv C
  go_loopg [3, 12] l.length (fun g vo vi wr => ∃ (k : Nat) (s : List UInt8), k ≤ l.length ∧ l.length - k ≤ g ∧ vo = .string (mk s) ∧ vi = .int .i64 (k : Int) ∧ s.length ≤ 1 + k * 281474976702466 ∧ Hid (s ++ (l.drop k).flatMap byL = rowB byL l) ∧ Hid (Gr w wr))
  case atStart => exact ⟨0, le l.length 1, Nat.zero_le _, by omega, rfl, rfl, by rw [le_len]; omega, rfl, B1.out⟩
  case round =>
    obtain ⟨k, s, hk, hg, rfl, rfl, hsl, HS, HG⟩ := hrel
    by_cases hlt : k < l.length
    · obtain ⟨x, hx⟩ : ∃ x, l[k]? = some x := ⟨l[k], List.getElem?_eq_getElem hlt⟩
      obtain ⟨b, off, rfl, hb, hc⟩ := (HR.out.gr HG.out) k x hx
      have c1 := hc 0 _ rfl
      have c2 := hc 1 _ rfl
      rw [Nat.add_zero] at c1
      have hok := HO.out x (List.mem_of_getElem? hx)
      have HD := Lib.hid (drop_flat (f := byL) hx)
      have HT := Lib.hid (fun y (hy : y.size ≤ 140737488351232) W => rtext_any W y hy)
      obtain ⟨x1, x2⟩ := x
      simp only [ftL, Bool.and_eq_true, decide_eq_true_eq] at hok
      obtain ⟨t1, ht1⟩ : ∃ t, t = txt x1 := ⟨_, rfl⟩
      obtain ⟨t2, ht2⟩ : ∃ t, t = txt x2 := ⟨_, rfl⟩
      have hk1 := fun (n : Nat) (os : Array Obj) => HT.out x1 hok.1 (grow ((wr.alloc (.cells #[.string x1, .string x2] 58)).drewN n) os)
      have hk2 := fun (n : Nat) (os : Array Obj) => HT.out x2 hok.2 (grow ((wr.alloc (.cells #[.string x1, .string x2] 58)).drewN n) os)
      rw [← ht1] at hk1
      rw [← ht2] at hk2
      have z1 : (mk t1).size ≤ 140737488351233 := by rw [mk_size, ht1, txt_len]; omega
      have z2 : (mk t2).size ≤ 140737488351233 := by rw [mk_size, ht2, txt_len]; omega
      have z3 : ¬ (9223372036854775807 < (mk s).size + (mk t1).size) := by rw [mk_size s]; omega
      have z4 : ¬ (9223372036854775807 < (mk s).size + (mk t1).size + (mk t2).size) := by rw [mk_size s]; omega
      have f1 : (wr.alloc (.cells #[.string x1, .string x2] 58)).cell? ⟨wr.heap.size, 0, none⟩ = some (.string x1) := by simp
      have f2 : (wr.alloc (.cells #[.string x1, .string x2] 58)).cell? ⟨wr.heap.size, 1, none⟩ = some (.string x2) := by simp
      have hz : wr.heap.size < (wr.alloc (.cells #[.string x1, .string x2] 58)).heap.size := by simp
      have g1 := cell_grown hz f1
      have g2 := cell_grown hz f2
      have HK1 := Lib.hid hk1
      have HK2 := Lib.hid hk2
      have HH := Lib.hid (And.intro ht1 ht2)
      have HL := Lib.hid (And.intro z1 (And.intro z2 hsl))
      have GA := Lib.hid (HG.out.alloc (.cells #[.string x1, .string x2] 58))
      clear hx hc hb hk1 hk2 ht1 ht2 f1 f2 hz z1 z2 hsl hok
      go_wp2_with fail
      generalize wr.alloc (.cells #[.string x1, .string x2] 58) = wa at *
      go_quiet_grown (first | (go_at_call_of 27 (Value.string x1); refine gr_of (HK1.out _ _)) | (go_at_call_of 27 (Value.string x2); refine gr_of (HK2.out _ _)))
      go_wp2
      go_roundg (l.length - (k + 1))
      case measure => omega
      case rel =>
        have hh := HH.out
        refine ⟨k + 1, s ++ (t1 ++ t2), hlt, Nat.le_refl _, by rw [← mk_app, ← mk_app, ← ByteArray.append_assoc], by go_num, ?_, ?_, (GA.out.trans (Gr.put _ _ _))⟩
        · have := HL.out
          rw [mk_size, mk_size] at this
          simp
          omega
        · show _ = _
          have h := HS.out
          rw [HD.out] at h
          rw [hh.1, hh.2]
          simpa [byL] using h
    · obtain rfl : k = l.length := by omega
      have h := HS.out
      rw [List.drop_length, List.flatMap_nil, List.append_nil] at h
      have HE := Lib.hid h
      clear h HS
      go_wp2
      go_ret
      exact ⟨by rw [← HE.out]; rfl, HG.out⟩
end Go.Proofs.Ytcfilaiejccfkaa
