/- Layer 20: what a row's pods use, and their goals, together. -/
import Derived.Test.YtajkhbdniadkkaaPpB
namespace Go.Proofs.Ytajkhbdniadkkaa.Pp
open Go.RowKit Go.Shelf Go.Lib Go.Sort Go.Deep
open Go.Joins (cell_of_block unfrozen_of_block block_setCell)
open Go.Proofs.Ytajkhbdniadkkaa.Ow Go.Proofs.Ytajkhbdniadkkaa.Ld
set_option linter.unusedVariables false
set_option linter.unusedSimpArgs false
set_option maxRecDepth 20000

theorem res_two {P : Program} {fn : Func} {p u : Tmp} {ty : TypeId} (h : fn.results = #[.cell p ty, .tmp u]) (tmps : Array Value) (w : World) (g : Nat) (t : TypeId) (cs : Array Value) (fr : Nat × Nat) (d : TypeDesc)
    (hp : tmps.getD p undef = .pointer (some ⟨g, 0, none⟩)) (hg : w.heap[g]? = some (.cells cs t fr))
    (hu : P.underlying ty = some d) (hd : (match d with | .struct _ | .array _ _ => true | _ => false) = true) (hi : (P.info? ty).map (·.size) = some cs.size) :
    (results fn tmps).run P w = .ok (.tuple #[.agg cs, tmps.getD u undef]) w := by
  have hp' : tmps[p]?.getD undef = .pointer (some ⟨g, 0, none⟩) := by simpa using hp
  simp [results, h, hp', asAddr, run_loadVar_row w g t ty cs fr d hg hu hd hi]
theorem load_met {w : World} {B : Nat} {M : Array Value} (h : w.heap[B]? = some (.cells M MT (0, 0))) (hs : M.size = 3) : (Instr.loadAt MT (.pointer (some ⟨B, 0, none⟩))).run Try.prog w = .ok (.agg M) w := by
  have := run_loadAt_mid (P := Try.prog) w B 0 MT M.toList _ (Ld.rangeAt_block h) Try.underlying24 rfl (by rw [Array.length_toList, hs]; kernel_rfl)
  rwa [Array.toArray_toList] at this
theorem load_ld {w : World} {B : Nat} {D : Array Value} (h : w.heap[B]? = some (.cells D LT (0, 0))) (hs : D.size = 3) : (Instr.loadAt LT (.pointer (some ⟨B, 0, none⟩))).run Try.prog w = .ok (.agg D) w := by
  have := run_loadAt_mid (P := Try.prog) w B 0 LT D.toList _ (Ld.rangeAt_block h) Try.underlying74 rfl (by rw [Array.length_toList, hs]; kernel_rfl)
  rwa [Array.toArray_toList] at this
theorem info_LT : (Try.prog.info? LT).map (·.size) = some 3 := by kernel_rfl
/-- A load is written where there is one. -/
theorem put_ld {w w1 : World} {N B : Nat} {C D : Array Value} (h : w1.heap[B]? = some (.cells C LT (0, 0))) (hC : C.size = 3) (hD : D.size = 3) (b : Below N w w1) (hN : N ≤ B) :
    w1.there B 0 D.size ∧ (w1.setCells B 0 D.toList).heap[B]? = some (.cells D LT (0, 0)) ∧ Below N w (w1.setCells B 0 D.toList) :=
  ⟨Ld.there_block h (by rw [hC, hD]), Ld.laid h (by rw [hC, hD]), Ld.below_setCells _ _ _ hN b⟩
theorem loadC_all (u g n : Int) : (loadC u g n).all (·.oneCell') = true := by simp [loadC, Value.oneCell']
abbrev zerL : Array Value := #[.int .i64 0, .int .i64 0, .int .i64 0]

def sumU (l : List Ut) : Nat := (l.map fun x => x.use.toNat).sum
theorem sumU_take (l : List Ut) {j : Nat} {x : Ut} (hx : l[j]? = some x) : sumU (l.take (j + 1)) = sumU (l.take j) + x.use.toNat := by
  unfold sumU
  rw [List.take_add_one, hx, List.map_append, List.sum_append]
  simp
theorem sumU_le (l : List Ut) (j : Nat) : sumU (l.take j) ≤ sumU l := by
  have : sumU l = sumU (l.take j) + sumU (l.drop j) := by
    unfold sumU
    rw [← List.sum_append, ← List.map_append, List.take_append_drop]
  omega
/-- What is told of the load of some pods. -/
def measE (k : Int) (t : Nat) (l : List Ut) : Int := if 9007199254740992 < sumU l then 3 else capE (sumG k t l)
def measC (k : Int) (t : Nat) (l : List Ut) : Array Value := if 9007199254740992 < sumU l then loadC 0 0 0 else loadC (sumU l : Int) (capV (sumG k t l)) (l.length : Int)

set_option maxHeartbeats 8000000 in
theorem pp_measured (w : World) (k : Int) (s : ByteArray) (t : Nat) (ht : t ≤ 9007199254740992) (q : Option Addr) (c : Nat) (l : List Ut) (hr : RowR 5 encT w q l) (hlen : l.length ≤ 1000000) (hok : ∀ x ∈ l, okU x = true) :
    Calls Try.prog 34 #[.agg (metC k s (t : Int)), .slice q l.length c] w fun e w' => e = .returned (.tuple #[.agg (measC k t l), .int .i64 (measE k t l)]) ∧ Below w.heap.size w w' := by
  have CGo : Hid (∀ W, Below w.heap.size w W → Calls Try.prog 60 #[.agg (metC k s (t : Int)), .slice q l.length c] W fun e w' => e = .returned (.tuple #[.int .i64 (capV (sumG k t l)), .int .i64 (capE (sumG k t l))]) ∧ Below W.heap.size W w') := fun W b => pp_goals W k s t ht q c l (hr.below b) hlen hok
  have EM : Hid (9007199254740992 < sumU l → measC k t l = loadC 0 0 0 ∧ measE k t l = 3) := fun h => ⟨if_pos h, if_pos h⟩
  have EN : Hid (¬ 9007199254740992 < sumU l → measC k t l = loadC (sumU l : Int) (capV (sumG k t l)) (l.length : Int) ∧ measE k t l = capE (sumG k t l)) := fun h => ⟨if_neg h, if_neg h⟩
  generalize measC k t l = MC at EM EN ⊢
  generalize measE k t l = ME at EM EN ⊢
  generalize capV (sumG k t l) = gv at CGo EN
  generalize capE (sumG k t l) = ge at CGo EN
  obtain ⟨n, hn⟩ : ∃ n, n = l.length := ⟨_, rfl⟩
  rw [← hn] at hlen CGo EN
  rw [← hn]
  obtain ⟨B, hB⟩ : ∃ B, B = w.heap.size := ⟨_, rfl⟩
  obtain ⟨M, hM⟩ : ∃ M, M = metC k s (t : Int) := ⟨_, rfl⟩
  have sM : M.size = 3 := by rw [hM]; rfl
  rw [← hM] at CGo ⊢
  obtain ⟨wa, hwa⟩ : ∃ x, x = w.alloc (.cells M MT) := ⟨_, rfl⟩
  obtain ⟨wb, hwb⟩ : ∃ x, x = wa.alloc (.cells zerL LT) := ⟨_, rfl⟩
  have z1 : wa.heap.size = B + 1 := by rw [hwa, hB]; simp
  have Ba : Below w.heap.size w wb := by rw [hwb, hwa]; exact (((Gr.refl w).alloc _).alloc _).below
  have y0 : wa.heap[B]? = some (.cells M MT (0, 0)) := by rw [hwa, hB]; exact heap_alloc_new w _
  have y1 : wb.heap[B]? = some (.cells M MT (0, 0)) := by rw [hwb]; exact (Below.heap_alloc wa _ _ (by omega)).trans y0
  have y2 : wb.heap[B + 1]? = some (.cells zerL LT (0, 0)) := by rw [hwb, ← z1]; exact heap_alloc_new wa _
  have HW : Hid (w.alloc (.cells M MT) = wa ∧ wa.alloc (.cells zerL LT) = wb ∧ w.heap.size = B ∧ wa.heap.size = B + 1) := ⟨hwa.symm, hwb.symm, hB.symm, z1⟩
  obtain ⟨T, hT⟩ : ∃ T, T = sumU l := ⟨_, rfl⟩
  rw [← hT] at EM EN
  have HH := Lib.hid (And.intro hr (And.intro hn (And.intro hok (And.intro Ba (And.intro y1 (And.intro y2 (And.intro sM hT)))))))
  clear hr hn hok hB hwa hwb z1 Ba y0 y1 y2 hM sM ht hT
  go_enter Try.func34, Try.ntmps34
  go_upto_region 1 with fail
  rw [HW.out.1, HW.out.2.1, HW.out.2.2.1]
  go_wp2_with fail
  go_loopg [6, 15] n (fun g1 vs vi wr => ∃ j p : Nat, vi = .int .i64 (j : Int) ∧ j ≤ n ∧ n - j ≤ g1 ∧ vs = .int .i64 (p : Int) ∧ p ≤ 9007199254740992 ∧ Hid (p = sumU (l.take j)) ∧ Hid (Below wb.heap.size wb wr))
  case atStart => exact ⟨0, 0, rfl, Nat.zero_le _, by omega, rfl, by omega, rfl, Below.refl _ _⟩
  case round =>
    obtain ⟨j, p, rfl, h1, h2, rfl, hp, HP, HB⟩ := hrel
    by_cases hlt : j < n
    · obtain ⟨hr, hn, hok, Ba, y1, y2, sM, hT⟩ := HH.out
      obtain ⟨x, hx⟩ : ∃ x, l[j]? = some x := ⟨l[j]'(by omega), List.getElem?_eq_getElem (by omega)⟩
      have lowr : Below w.heap.size w wr := Ba.trans (HB.out.mono Ba.size)
      obtain ⟨b, off, rfl, hra⟩ := rangeT hr hx lowr
      obtain ⟨_, a0, a1⟩ := okU_iff.1 (hok x (List.mem_of_getElem? hx))
      obtain ⟨LD, TH, w3, O, HW3, eb, bl⟩ := use_new hra
      have IN : Hid ((Try.prog.info? UT).map (·.size) = some (utA x).size) := by show _ = _; kernel_rfl
      have ON := Lib.hid (utA_all x)
      obtain ⟨a, ha⟩ : ∃ a : Nat, x.use = (a : Int) := ⟨x.use.toNat, by omega⟩
      have d3 : w3.cell? ⟨O, 4, none⟩ = some (.int .i64 (a : Int)) := by rw [← ha]; exact (cell_of_block eb 4).trans rfl
      have B3 : Hid (Below wb.heap.size wb w3) := HB.out.trans (bl.mono HB.out.size)
      have TK : Hid (sumU (l.take (j + 1)) = p + a) := by
        show _ = _
        rw [sumU_take l hx, ha, Int.toNat_natCast, HP.out]
      have TL : Hid (p + a ≤ T) := by
        show _ ≤ _
        have := sumU_le l (j + 1)
        rw [TK.out, ← hT] at this
        exact this
      have BE : Hid (Below w.heap.size w w3 ∧ w3.heap[B + 1]? = some (.cells zerL LT (0, 0)) ∧ w.heap.size ≤ B + 1) := by
        have z : w.heap.size ≤ B + 1 := by rw [HW.out.2.2.1]; omega
        exact ⟨Ba.trans (B3.out.mono Ba.size), (B3.out.block (B + 1) (Array.getElem?_eq_some_iff.1 y2).1).trans y2, z⟩
      have aa : a ≤ 9007199254740992 := by omega
      obtain ⟨X, hX⟩ : ∃ X, X = utA x := ⟨_, rfl⟩
      rw [← hX] at LD TH HW3 IN ON
      clear hr hn hok Ba y1 y2 sM hT hx lowr hra a0 a1 ha eb bl hX
      go_upto_region 5 with (first | (refine wpList_load_by (by kernel_rfl) UT _ rfl (.pointer (some ⟨b, off + j * 5, none⟩)) (.agg X) (by rfl) LD.out ?_) | (refine wpList_store_mid rfl _ _ _ rfl wr.heap.size 0 X (by rfl) (by rfl) TH.out IN.out ON.out ?_; rw [HW3.out.1, HW3.out.2]))
      clear TH IN ON HW3 LD
      by_cases hso : 9007199254740992 < p + a
      · have CA := Lib.hid (fun W => add_over (p : Int) (a : Int) W (by omega) (by omega) (by omega) (by omega) (by omega))
        have EQ : Hid (MC = loadC 0 0 0 ∧ ME = 3) := EM.out (by have := TL.out; omega)
        obtain ⟨th, blk, blw⟩ := put_ld (D := zerL) BE.out.2.1 rfl rfl BE.out.1 BE.out.2.2
        have TH := Lib.hid th
        have RES := Lib.hid (And.intro blk blw)
        clear th blk blw hso hp aa HB HP BE TK TL EM EN CGo HH B3
        go_wp2_with fail
        refine (CA.out _).mono ?_
        rintro e w5 ⟨rfl, rfl⟩
        go_wp2_with (refine wpList_store_mid rfl _ _ _ rfl (B + 1) 0 zerL (by rfl) (by rfl) TH.out info_LT (loadC_all 0 0 0) ?_)
        refine bodyPost_ret (res_two rfl _ _ (B + 1) LT zerL (0, 0) _ (by rfl) RES.out.1 Try.underlying74 rfl info_LT) rfl ?_
        exact ⟨by rw [EQ.out.1, EQ.out.2]; rfl, RES.out.2⟩
      · have CA := Lib.hid (fun W => add_within (p : Int) (a : Int) W (by omega) (by omega) (by omega) (by omega) (by omega))
        have ec : (p : Int) + (a : Int) = ((p + a : Nat) : Int) := by omega
        rw [ec] at CA
        have HS := Lib.hid (Nat.le_of_not_lt hso)
        clear hso hp ec aa BE EM EN CGo
        go_wp2_with fail
        refine (CA.out _).mono ?_
        rintro e w5 ⟨rfl, rfl⟩
        go_wp2
        go_roundg (n - (j + 1))
        case measure => omega
        case rel => exact ⟨j + 1, p + a, by push_cast; rfl, by omega, by omega, rfl, HS.out, TK.out.symm, B3.out⟩
    · obtain rfl : j = n := by omega
      obtain ⟨hr, hn, hok, Ba, y1, y2, sM, hT⟩ := HH.out
      have lowr : Below w.heap.size w wr := Ba.trans (HB.out.mono Ba.size)
      have e : T = p := by
        have := HP.out
        rw [List.take_of_length_le (by omega)] at this
        rw [this, hT]
      have EQ := Lib.hid (EN.out (by omega))
      rw [e] at EQ
      have y1' : wr.heap[B]? = some (.cells M MT (0, 0)) := (HB.out.block B (Array.getElem?_eq_some_iff.1 y1).1).trans y1
      have LM := Lib.hid (load_met y1' sM)
      have CG := Lib.hid (CGo.out wr lowr)
      have BE : Hid (Below w.heap.size w wr ∧ wr.heap[B + 1]? = some (.cells zerL LT (0, 0)) ∧ w.heap.size ≤ B + 1) := by
        have z : w.heap.size ≤ B + 1 := by rw [HW.out.2.2.1]; omega
        exact ⟨lowr, (HB.out.block (B + 1) (Array.getElem?_eq_some_iff.1 y2).1).trans y2, z⟩
      clear hr hn hok Ba y1 y2 sM hT lowr e y1' HH HB HP EM EN CGo
      go_wp2_with (refine wpList_load_by (by kernel_rfl) MT _ rfl (.pointer (some ⟨B, 0, none⟩)) (.agg M) (by rfl) LM.out ?_)
      refine CG.out.mono ?_
      rintro e w5 ⟨rfl, b5⟩
      have b05 : Below w.heap.size w w5 := BE.out.1.trans (b5.mono BE.out.1.size)
      obtain ⟨th, blk, blw⟩ := put_ld (D := loadC (p : Int) gv (j : Int)) ((b5.block (B + 1) (Array.getElem?_eq_some_iff.1 BE.out.2.1).1).trans BE.out.2.1) rfl rfl b05 BE.out.2.2
      have TH := Lib.hid th
      have RES := Lib.hid (And.intro blk blw)
      clear th blk blw b05 b5 CG LM BE
      go_wp2_with (refine wpList_store_mid rfl _ _ _ rfl (B + 1) 0 (loadC (p : Int) gv (j : Int)) (by rfl) (by rfl) TH.out info_LT (loadC_all _ _ _) ?_)
      refine bodyPost_ret (res_two rfl _ _ (B + 1) LT (loadC (p : Int) gv (j : Int)) (0, 0) _ (by rfl) RES.out.1 Try.underlying74 rfl info_LT) rfl ?_
      exact ⟨by rw [EQ.out.1, EQ.out.2]; rfl, RES.out.2⟩
end Go.Proofs.Ytajkhbdniadkkaa.Pp
