/- Layer 20: rows of uses: is one none that can be; the goals of a row. -/
import Derived.Test.YtajkhbdniadkkaaPpA
import Derived.StillTailTactics
namespace Go.Proofs.Ytajkhbdniadkkaa.Pp
open Go.RowKit Go.Shelf Go.Lib Go.Sort Go.Deep
open Go.Joins (cell_of_block unfrozen_of_block block_setCell)
open Go.Proofs.Ytajkhbdniadkkaa.Ow Go.Proofs.Ytajkhbdniadkkaa.Ld
set_option linter.unusedVariables false
set_option linter.unusedSimpArgs false
set_option maxRecDepth 20000

abbrev zerU : Array Value := #[.string { data := #[] }, .bool false, .bool false, .int .i64 0, .int .i64 0]
theorem info_UT : ∃ i : TypeInfo, Try.prog.info? UT = some i ∧ i.zero = some (.agg zerU) ∧ i.size = 5 ∧ i.bytes ≤ 10000 := by
  have hinf : (Try.prog.info? UT).map (fun i => (i.zero, i.size, decide (i.bytes ≤ 10000))) = some (some (.agg zerU), 5, true) := by kernel_rfl
  cases hi : Try.prog.info? UT with
  | none => rw [hi] at hinf; cases hinf
  | some i =>
    rw [hi] at hinf
    simp only [Option.map_some, Option.some.injEq, Prod.mk.injEq] at hinf
    exact ⟨i, rfl, hinf.1, hinf.2.1, of_decide_eq_true hinf.2.2⟩
theorem encT_len (x : Ut) : (encT x).length = 5 := rfl
theorem utA_one (x : Ut) : ∀ v ∈ (utA x).toList, v.oneCell' = true := by
  intro v hv
  simp only [utA, List.mem_cons, List.not_mem_nil, or_false] at hv
  rcases hv with rfl | rfl | rfl | rfl | rfl <;> rfl
theorem utA_all (x : Ut) : (utA x).all (·.oneCell') = true := by simp [utA, Value.oneCell']
theorem load_ut {w : World} {g o : Nat} {X : Array Value} (h : w.rangeAt g o X.toList) (hs : X.size = 5) : (Instr.loadAt UT (.pointer (some ⟨g, o, none⟩))).run Try.prog w = .ok (.agg X) w := by
  have := run_loadAt_mid (P := Try.prog) w g o UT X.toList _ h Try.underlying52 rfl (by rw [Array.length_toList, hs]; kernel_rfl)
  rwa [Array.toArray_toList] at this
theorem rangeT {W w : World} {q : Option Addr} {l : List Ut} (h : RowR 5 encT W q l) {j : Nat} {x : Ut} (hx : l[j]? = some x) (low : Below W.heap.size W w) : ∃ b off, q = some ⟨b, off, none⟩ ∧ w.rangeAt b (off + j * 5) (utA x).toList := by
  obtain ⟨b, off, e, hb, hc⟩ := h.below low j x hx
  exact ⟨b, off, e, fun t v hv => hc t v hv⟩

def okU (x : Ut) : Bool := !offB x.ask x.use
theorem okU_iff {x : Ut} : okU x = true ↔ (0 ≤ x.ask ∧ x.ask ≤ 9007199254740992) ∧ (0 ≤ x.use ∧ x.use ≤ 9007199254740992) := by
  unfold okU offB okQ
  by_cases h : 0 ≤ x.ask ∧ x.ask ≤ 9007199254740992 <;> by_cases g : 0 ≤ x.use ∧ x.use ≤ 9007199254740992 <;> simp [h, g]
set_option maxHeartbeats 2000000 in
theorem off_index (w : World) (q : Option Addr) (c : Nat) (l : List Ut) (h : RowR 5 encT w q l) (hl : l.length ≤ 9223372036854775807) :
    Calls Try.prog 58 #[.slice q l.length c, .func (.func 32) #[] #[]] w fun e w' => ((∃ i : Nat, e = .returned (.int .i64 (i : Int)) ∧ l.all okU = false) ∨ (e = .returned (.int .i64 (-1)) ∧ l.all okU = true)) ∧ Gr w w' := by
  have HR := Lib.hid h
  have eg : ∀ args w, (callFunc 32 args).run Try.prog w = .ok (.enter 32 args) w := enters_of Try.func32 (by kernel_rfl) rfl
  clear h
  go_enter Try.func58, Try.ntmps58
  go_wp2_with fail
  go_loopg [8] l.length (fun g vi wr => ∃ (k : Nat), k ≤ l.length ∧ l.length - k ≤ g ∧ vi = .int .i64 (k : Int) ∧ Hid (∀ (j : Nat) (x : Ut), j < k → l[j]? = some x → okU x = true) ∧ Hid (Gr w wr))
  case atStart => exact ⟨0, Nat.zero_le _, by omega, rfl, fun j x h => absurd h (Nat.not_lt_zero _), Gr.refl _⟩
  case round =>
    obtain ⟨k, hk, hg, rfl, HP, HG⟩ := hrel
    by_cases hlt : k < l.length
    · obtain ⟨x, hx⟩ : ∃ x, l[k]? = some x := ⟨l[k], List.getElem?_eq_getElem hlt⟩
      obtain ⟨b, off, rfl, hb, hc⟩ := (HR.out.gr HG.out) k x hx
      have c1 := hc 0 _ rfl
      have c2 := hc 1 _ rfl
      have c3 := hc 2 _ rfl
      have c4 := hc 3 _ rfl
      have c5 := hc 4 _ rfl
      rw [Nat.add_zero] at c1
      have HX := Lib.hid hx
      obtain ⟨b1, hb1⟩ : ∃ b1, okU x = b1 := ⟨_, rfl⟩
      have HB1 := Lib.hid hb1
      obtain ⟨x1, x2, x3, x4, x5⟩ := x
      dsimp only at *
      have C := Lib.hid (fun (W : World) => pp_off W x1 x2 x3 x4 x5)
      have eb : offB x4 x5 = !b1 := by rw [← hb1]; exact (Bool.not_not _).symm
      rw [eb] at C
      clear hx hc hb1 eb
      cases b1 with
      | false =>
        go_wp2_with (go_at_fn 32; refine (C.out _).mono ?_; rintro e w1 ⟨rfl, g1⟩)
        go_ret
        exact ⟨.inl ⟨k, rfl, List.all_eq_false.2 ⟨_, List.mem_of_getElem? HX.out, by rw [HB1.out]; decide⟩⟩, HG.out.trans g1⟩
      | true =>
        have HP2 : Hid (∀ (j : Nat) (x : Ut), j < k + 1 → l[j]? = some x → okU x = true) := fun j x hj hx => by
          by_cases h : j = k
          · subst h
            rw [HX.out] at hx
            cases hx
            exact HB1.out
          · exact HP.out j x (by omega) hx
        go_wp2_with (go_at_fn 32; refine (C.out _).mono ?_; rintro e w1 ⟨rfl, g1⟩)
        go_roundg (l.length - (k + 1))
        case measure => omega
        case rel => exact ⟨k + 1, hlt, Nat.le_refl _, by go_num, HP2, HG.out.trans g1⟩
    · obtain rfl : k = l.length := by omega
      have HA : Hid (l.all okU = true) := List.all_eq_true.2 fun x hx => by
        obtain ⟨j, hj⟩ := List.getElem?_of_mem hx
        exact HP.out j x (List.getElem?_eq_some_iff.1 hj).1 hj
      go_wp2
      go_ret
      exact ⟨.inr ⟨rfl, HA.out⟩, HG.out⟩
theorem off_contains (w : World) (q : Option Addr) (c : Nat) (l : List Ut) (h : RowR 5 encT w q l) (hl : l.length ≤ 9223372036854775807) :
    Calls Try.prog 31 #[.slice q l.length c, .func (.func 32) #[] #[]] w fun e w' => e = .returned (.bool (!l.all okU)) ∧ Gr w w' := by
  have C := Lib.hid (off_index w q c l h hl)
  clear h
  go_enter Try.func31, Try.ntmps31
  go_wp2_with fail
  refine C.out.mono ?_
  rintro e w1 ⟨⟨i, rfl, h⟩ | ⟨rfl, h⟩, g1⟩
  · have H := Lib.hid h
    have t : (0 : Int) ≤ (i : Int) := by omega
    have G := Lib.hid g1
    clear h g1
    go_wp2
    go_ret
    exact ⟨by rw [H.out]; rfl, G.out⟩
  · have H := Lib.hid h
    have G := Lib.hid g1
    clear h g1
    go_wp2
    go_ret
    exact ⟨by rw [H.out]; rfl, G.out⟩

/-! ### goals -/
def sumG (k : Int) (t : Nat) (l : List Ut) : Nat := (l.map fun x => goalN k t x.ask.toNat).sum
theorem sumG_take (k : Int) (t : Nat) (l : List Ut) {j : Nat} {x : Ut} (hx : l[j]? = some x) : sumG k t (l.take (j + 1)) = sumG k t (l.take j) + goalN k t x.ask.toNat := by
  unfold sumG
  rw [List.take_add_one, hx, List.map_append, List.sum_append]
  simp
theorem sumG_le (k : Int) (t : Nat) (l : List Ut) (j : Nat) : sumG k t (l.take j) ≤ sumG k t l := by
  have : sumG k t l = sumG k t (l.take j) + sumG k t (l.drop j) := by
    unfold sumG
    rw [← List.sum_append, ← List.map_append, List.take_append_drop]
  omega
theorem use_new {wr : World} {b o : Nat} {x : Ut} (hra : wr.rangeAt b o (utA x).toList) :
    Hid ((Instr.loadAt UT (.pointer (some ⟨b, o, none⟩))).run Try.prog wr = .ok (.agg (utA x)) wr) ∧ Hid ((wr.alloc (.cells zerU UT)).there wr.heap.size 0 (utA x).size) ∧
    ∃ w3 O, Hid ((wr.alloc (.cells zerU UT)).setCells wr.heap.size 0 (utA x).toList = w3 ∧ wr.heap.size = O) ∧ w3.heap[O]? = some (.cells (utA x) UT (0, 0)) ∧ Below wr.heap.size wr w3 := by
  obtain ⟨th, eb, bl⟩ := cell_new wr UT zerU (utA x) rfl
  exact ⟨load_ut hra rfl, th, _, _, ⟨rfl, rfl⟩, eb, bl⟩

set_option maxHeartbeats 8000000 in
theorem pp_goals (w : World) (k : Int) (s : ByteArray) (t : Nat) (ht : t ≤ 9007199254740992) (q : Option Addr) (c : Nat) (l : List Ut) (hr : RowR 5 encT w q l) (hlen : l.length ≤ 1000000) (hok : ∀ x ∈ l, okU x = true) :
    Calls Try.prog 60 #[.agg (metC k s (t : Int)), .slice q l.length c] w fun e w' => e = .returned (.tuple #[.int .i64 (capV (sumG k t l)), .int .i64 (capE (sumG k t l))]) ∧ Below w.heap.size w w' := by
  obtain ⟨n, hn⟩ : ∃ n, n = l.length := ⟨_, rfl⟩
  rw [← hn] at hlen
  rw [← hn]
  obtain ⟨B, hB⟩ : ∃ B, B = w.heap.size := ⟨_, rfl⟩
  obtain ⟨M, hM⟩ : ∃ M, M = metC k s (t : Int) := ⟨_, rfl⟩
  rw [← hM]
  obtain ⟨wa, hwa⟩ : ∃ x, x = w.alloc (.cells M MT) := ⟨_, rfl⟩
  have Ba : Below w.heap.size w wa := by rw [hwa]; exact ((Gr.refl w).alloc _).below
  have y1 : wa.heap[B]? = some (.cells M MT (0, 0)) := by rw [hwa, hB]; exact heap_alloc_new w _
  have HW : Hid (w.alloc (.cells M MT) = wa ∧ w.heap.size = B) := ⟨hwa.symm, hB.symm⟩
  obtain ⟨T, hT⟩ : ∃ T, T = sumG k t l := ⟨_, rfl⟩
  rw [← hT]
  have HH := Lib.hid (And.intro hr (And.intro hn (And.intro hok (And.intro Ba (And.intro y1 (And.intro hM (And.intro ht hT)))))))
  clear hr hn hok hB hwa Ba y1 hM ht hT
  go_enter Try.func60, Try.ntmps60
  go_upto_region 1 with fail
  rw [HW.out.1, HW.out.2]
  go_wp2_with fail
  go_loopg [6, 13] n (fun g1 vs vi wr => ∃ j p : Nat, vi = .int .i64 (j : Int) ∧ j ≤ n ∧ n - j ≤ g1 ∧ vs = .int .i64 (p : Int) ∧ p ≤ 9007199254740992 ∧ Hid (p = sumG k t (l.take j)) ∧ Hid (Below wa.heap.size wa wr))
  case atStart => exact ⟨0, 0, rfl, Nat.zero_le _, by omega, rfl, by omega, rfl, Below.refl _ _⟩
  case round =>
    obtain ⟨j, p, rfl, h1, h2, rfl, hp, HP, HB⟩ := hrel
    by_cases hlt : j < n
    · obtain ⟨hr, hn, hok, Ba, y1, hM, ht, hT⟩ := HH.out
      obtain ⟨x, hx⟩ : ∃ x, l[j]? = some x := ⟨l[j]'(by omega), List.getElem?_eq_getElem (by omega)⟩
      have lowr : Below w.heap.size w wr := Ba.trans (HB.out.mono Ba.size)
      obtain ⟨b, off, rfl, hra⟩ := rangeT hr hx lowr
      obtain ⟨⟨a0, a1⟩, _⟩ := okU_iff.1 (hok x (List.mem_of_getElem? hx))
      obtain ⟨LD, TH, w3, O, HW3, eb, bl⟩ := use_new hra
      have IN : Hid ((Try.prog.info? UT).map (·.size) = some (utA x).size) := by show _ = _; kernel_rfl
      have ON := Lib.hid (utA_all x)
      obtain ⟨a, ha⟩ : ∃ a : Nat, x.ask = (a : Int) := ⟨x.ask.toNat, by omega⟩
      have d3 : w3.cell? ⟨O, 3, none⟩ = some (.int .i64 (a : Int)) := by rw [← ha]; exact (cell_of_block eb 3).trans rfl
      have B3 : Below wa.heap.size wa w3 := HB.out.trans (bl.mono HB.out.size)
      have y3 : w3.heap[B]? = some (.cells M MT (0, 0)) := (B3.block B (Array.getElem?_eq_some_iff.1 y1).1).trans y1
      have LM : Hid ((Instr.loadAt MT (.pointer (some ⟨B, 0, none⟩))).run Try.prog w3 = .ok (.agg M) w3) := by
        have h3 : M.toList.length = 3 := by rw [hM]; rfl
        have := run_loadAt_mid (P := Try.prog) w3 B 0 MT M.toList _ (Ld.rangeAt_block y3) Try.underlying24 rfl (by rw [h3]; kernel_rfl)
        rwa [Array.toArray_toList] at this
      have CG := Lib.hid (pp_goal w3 k s t a ht (by omega))
      rw [← hM] at CG
      obtain ⟨g, hg⟩ : ∃ g, g = goalN k t a := ⟨_, rfl⟩
      rw [← hg] at CG
      have TK : Hid (sumG k t (l.take (j + 1)) = p + g) := by
        show _ = _
        rw [sumG_take k t l hx, ha, Int.toNat_natCast, ← hg, HP.out]
      have TL : Hid (p + g ≤ T) := by
        show _ ≤ _
        have := sumG_le k t l (j + 1)
        rw [TK.out, ← hT] at this
        exact this
      obtain ⟨X, hX⟩ : ∃ X, X = utA x := ⟨_, rfl⟩
      rw [← hX] at LD TH HW3 IN ON
      have HX := Lib.hid (And.intro Ba (And.intro B3 eb))
      clear hr hn hok Ba y1 hM ht hT hx lowr hra a0 a1 ha y3 eb B3 bl hg hX
      go_upto_region 5 with (first | (refine wpList_load_by (by kernel_rfl) UT _ rfl (.pointer (some ⟨b, off + j * 5, none⟩)) (.agg X) (by rfl) LD.out ?_) | (refine wpList_store_mid rfl _ _ _ rfl wr.heap.size 0 X (by rfl) (by rfl) TH.out IN.out ON.out ?_; rw [HW3.out.1, HW3.out.2]))
      clear TH IN ON HW3 LD
      go_wp2_with (refine wpList_load_by (by kernel_rfl) MT _ rfl (.pointer (some ⟨B, 0, none⟩)) (.agg M) (by rfl) LM.out ?_)
      refine CG.out.mono ?_
      rintro e w4 ⟨rfl, b4⟩
      have B4 : Hid (Below wa.heap.size wa w4) := HX.out.2.1.trans (b4.mono HX.out.2.1.size)
      have BE : Hid (Below w.heap.size w w4) := HX.out.1.trans (B4.out.mono HX.out.1.size)
      clear b4 CG LM d3 HX
      by_cases hgo : 9007199254740992 < g
      · rw [(capV_over hgo).1, (capV_over hgo).2]
        have hTo : 9007199254740992 < T := by have := TL.out; omega
        have EQ := Lib.hid (capV_over hTo)
        clear hgo hTo
        go_wp2
        go_ret2
        exact ⟨by rw [EQ.out.1, EQ.out.2]; rfl, BE.out⟩
      · rw [(capV_in (by omega : g ≤ 9007199254740992)).1, (capV_in (by omega : g ≤ 9007199254740992)).2]
        by_cases hso : 9007199254740992 < p + g
        · have CA := Lib.hid (fun W => add_over (p : Int) (g : Int) W (by omega) (by omega) (by omega) (by omega) (by omega))
          have hTo : 9007199254740992 < T := by have := TL.out; omega
          have EQ := Lib.hid (capV_over hTo)
          clear hgo hTo hso hp
          go_wp2_with fail
          refine (CA.out _).mono ?_
          rintro e w5 ⟨rfl, rfl⟩
          go_wp2
          go_ret2
          exact ⟨by rw [EQ.out.1, EQ.out.2]; rfl, BE.out⟩
        · have CA := Lib.hid (fun W => add_within (p : Int) (g : Int) W (by omega) (by omega) (by omega) (by omega) (by omega))
          have ec : (p : Int) + (g : Int) = ((p + g : Nat) : Int) := by omega
          rw [ec] at CA
          have HS := Lib.hid (Nat.le_of_not_lt hso)
          clear hgo hso hp ec
          go_wp2_with fail
          refine (CA.out _).mono ?_
          rintro e w5 ⟨rfl, rfl⟩
          go_wp2
          go_roundg (n - (j + 1))
          case measure => omega
          case rel => exact ⟨j + 1, p + g, by push_cast; rfl, by omega, by omega, rfl, HS.out, TK.out.symm, B4.out⟩
    · obtain rfl : j = n := by omega
      have FIN : Hid (Below w.heap.size w wr) := HH.out.2.2.2.1.trans (HB.out.mono HH.out.2.2.2.1.size)
      have e : T = p := by
        obtain ⟨hr, hn, hok, Ba, y1, hM, ht, hT⟩ := HH.out
        have := HP.out
        rw [List.take_of_length_le (by omega)] at this
        rw [this, hT]
      subst e
      have EQ := Lib.hid (capV_in hp)
      clear HP HB HH
      go_wp2
      go_ret2
      exact ⟨by rw [EQ.out.1, EQ.out.2]; rfl, FIN.out⟩
end Go.Proofs.Ytajkhbdniadkkaa.Pp
