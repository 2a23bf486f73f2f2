/- Layer 20: what a row's pods use, and their goals, together. -/
import Derived.Test.YtajkhbdniadkkaaPk4
import Derived.Lib.AppendZeros
import Derived.Laws.AppendOwn
namespace Go.Proofs.Ytajkhbdniadkkaa.Pp
open Go.RowKit Go.Shelf Go.Lib Go.Sort Go.Deep
open Go.Joins (cell_of_block unfrozen_of_block block_setCell)
open Go.Proofs.Ytajkhbdniadkkaa.Ow Go.Proofs.Ytajkhbdniadkkaa.Ld
set_option linter.unusedVariables false
set_option linter.unusedSimpArgs false
set_option maxRecDepth 20000

theorem res_two {P : Program} {fn : Func} {p u : Tmp} {ty : TypeId} (h : fn.results = #[.cell p ty, .tmp u]) (tmps : Array Value) (w : World) (g : Nat) (t : TypeId) (cs : Array Value) (fr : Nat × Nat) (d : TypeDesc)
    (hp : tmps.getD p undef = .pointer (some ⟨g, 0, none⟩)) (hg : w.heap[g]? = some (.cells cs t fr))
    (hu : P.underlying ty = some d) (hd : (match d with | .struct _ | .array _ _ => true | _ => false) = true) (hi : (P.info? ty).map (·.size) = some cs.size) :
    (results fn tmps).run P w = .ok (.tuple #[.agg cs, tmps.getD u undef]) w := by
  have hp' : tmps[p]?.getD undef = .pointer (some ⟨g, 0, none⟩) := by simpa using hp
  simp [results, h, hp', asAddr, run_loadVar_row w g t ty cs fr d hg hu hd hi]
theorem load_met {w : World} {B : Nat} {M : Array Value} (h : w.heap[B]? = some (.cells M MT (0, 0))) (hs : M.size = 3) : (Instr.loadAt MT (.pointer (some ⟨B, 0, none⟩))).run Try.prog w = .ok (.agg M) w := by
  have := run_loadAt_mid (P := Try.prog) w B 0 MT M.toList _ (Ld.rangeAt_block h) Try.underlying24 rfl (by rw [Array.length_toList, hs]; kernel_rfl)
  rwa [Array.toArray_toList] at this
theorem load_ld {w : World} {B : Nat} {D : Array Value} (h : w.heap[B]? = some (.cells D LT (0, 0))) (hs : D.size = 3) : (Instr.loadAt LT (.pointer (some ⟨B, 0, none⟩))).run Try.prog w = .ok (.agg D) w := by
  have := run_loadAt_mid (P := Try.prog) w B 0 LT D.toList _ (Ld.rangeAt_block h) Try.underlying74 rfl (by rw [Array.length_toList, hs]; kernel_rfl)
  rwa [Array.toArray_toList] at this
theorem info_LT : (Try.prog.info? LT).map (·.size) = some 3 := by kernel_rfl
/-- A load is written where there is one. -/
theorem put_ld {w w1 : World} {N B : Nat} {C D : Array Value} (h : w1.heap[B]? = some (.cells C LT (0, 0))) (hC : C.size = 3) (hD : D.size = 3) (b : Below N w w1) (hN : N ≤ B) :
    w1.there B 0 D.size ∧ (w1.setCells B 0 D.toList).heap[B]? = some (.cells D LT (0, 0)) ∧ Below N w (w1.setCells B 0 D.toList) :=
  ⟨Ld.there_block h (by rw [hC, hD]), Ld.laid h (by rw [hC, hD]), Ld.below_setCells _ _ _ hN b⟩
theorem loadC_all (u g n : Int) : (loadC u g n).all (·.oneCell') = true := by simp [loadC, Value.oneCell']
abbrev zerL : Array Value := #[.int .i64 0, .int .i64 0, .int .i64 0]

def sumU (l : List Ut) : Nat := (l.map fun x => x.use.toNat).sum
theorem sumU_take (l : List Ut) {j : Nat} {x : Ut} (hx : l[j]? = some x) : sumU (l.take (j + 1)) = sumU (l.take j) + x.use.toNat := by
  unfold sumU
  rw [List.take_add_one, hx, List.map_append, List.sum_append]
  simp
theorem sumU_le (l : List Ut) (j : Nat) : sumU (l.take j) ≤ sumU l := by
  have : sumU l = sumU (l.take j) + sumU (l.drop j) := by
    unfold sumU
    rw [← List.sum_append, ← List.map_append, List.take_append_drop]
  omega
/-- What is told of the load of some pods. -/
def measE (k : Int) (t : Nat) (l : List Ut) : Int := if 9007199254740992 < sumU l then 3 else capE (sumG k t l)
def measC (k : Int) (t : Nat) (l : List Ut) : Array Value := if 9007199254740992 < sumU l then loadC 0 0 0 else loadC (sumU l : Int) (capV (sumG k t l)) (l.length : Int)

set_option maxHeartbeats 8000000 in
theorem pp_measured (w : World) (k : Int) (s : ByteArray) (t : Nat) (ht : t ≤ 9007199254740992) (q : Option Addr) (c : Nat) (l : List Ut) (hr : RowR 5 encT w q l) (hlen : l.length ≤ 1000000) (hok : ∀ x ∈ l, okU x = true) :
    Calls Try.prog 34 #[.agg (metC k s (t : Int)), .slice q l.length c] w fun e w' => e = .returned (.tuple #[.agg (measC k t l), .int .i64 (measE k t l)]) ∧ Below w.heap.size w w' := by
  have CGo : Hid (∀ W, Below w.heap.size w W → Calls Try.prog 60 #[.agg (metC k s (t : Int)), .slice q l.length c] W fun e w' => e = .returned (.tuple #[.int .i64 (capV (sumG k t l)), .int .i64 (capE (sumG k t l))]) ∧ Below W.heap.size W w') := fun W b => pp_goals W k s t ht q c l (hr.below b) hlen hok
  have EM : Hid (9007199254740992 < sumU l → measC k t l = loadC 0 0 0 ∧ measE k t l = 3) := fun h => ⟨if_pos h, if_pos h⟩
  have EN : Hid (¬ 9007199254740992 < sumU l → measC k t l = loadC (sumU l : Int) (capV (sumG k t l)) (l.length : Int) ∧ measE k t l = capE (sumG k t l)) := fun h => ⟨if_neg h, if_neg h⟩
  generalize measC k t l = MC at EM EN ⊢
  generalize measE k t l = ME at EM EN ⊢
  generalize capV (sumG k t l) = gv at CGo EN
  generalize capE (sumG k t l) = ge at CGo EN
  obtain ⟨n, hn⟩ : ∃ n, n = l.length := ⟨_, rfl⟩
  rw [← hn] at hlen CGo EN
  rw [← hn]
  obtain ⟨B, hB⟩ : ∃ B, B = w.heap.size := ⟨_, rfl⟩
  obtain ⟨M, hM⟩ : ∃ M, M = metC k s (t : Int) := ⟨_, rfl⟩
  have sM : M.size = 3 := by rw [hM]; rfl
  rw [← hM] at CGo ⊢
  obtain ⟨wa, hwa⟩ : ∃ x, x = w.alloc (.cells M MT) := ⟨_, rfl⟩
  obtain ⟨wb, hwb⟩ : ∃ x, x = wa.alloc (.cells zerL LT) := ⟨_, rfl⟩
  have z1 : wa.heap.size = B + 1 := by rw [hwa, hB]; simp
  have Ba : Below w.heap.size w wb := by rw [hwb, hwa]; exact (((Gr.refl w).alloc _).alloc _).below
  have y0 : wa.heap[B]? = some (.cells M MT (0, 0)) := by rw [hwa, hB]; exact heap_alloc_new w _
  have y1 : wb.heap[B]? = some (.cells M MT (0, 0)) := by rw [hwb]; exact (Below.heap_alloc wa _ _ (by omega)).trans y0
  have y2 : wb.heap[B + 1]? = some (.cells zerL LT (0, 0)) := by rw [hwb, ← z1]; exact heap_alloc_new wa _
  have HW : Hid (w.alloc (.cells M MT) = wa ∧ wa.alloc (.cells zerL LT) = wb ∧ w.heap.size = B ∧ wa.heap.size = B + 1) := ⟨hwa.symm, hwb.symm, hB.symm, z1⟩
  obtain ⟨T, hT⟩ : ∃ T, T = sumU l := ⟨_, rfl⟩
  rw [← hT] at EM EN
  have HH := Lib.hid (And.intro hr (And.intro hn (And.intro hok (And.intro Ba (And.intro y1 (And.intro y2 (And.intro sM hT)))))))
  clear hr hn hok hB hwa hwb z1 Ba y0 y1 y2 hM sM ht hT
  go_enter Try.func34, Try.ntmps34
  go_upto_region 1 with fail
  rw [HW.out.1, HW.out.2.1, HW.out.2.2.1]
  go_wp2_with fail
  go_loopg [6, 15] n (fun g1 vs vi wr => ∃ j p : Nat, vi = .int .i64 (j : Int) ∧ j ≤ n ∧ n - j ≤ g1 ∧ vs = .int .i64 (p : Int) ∧ p ≤ 9007199254740992 ∧ Hid (p = sumU (l.take j)) ∧ Hid (Below wb.heap.size wb wr))
  case atStart => exact ⟨0, 0, rfl, Nat.zero_le _, by omega, rfl, by omega, rfl, Below.refl _ _⟩
  case round =>
    obtain ⟨j, p, rfl, h1, h2, rfl, hp, HP, HB⟩ := hrel
    by_cases hlt : j < n
    · obtain ⟨hr, hn, hok, Ba, y1, y2, sM, hT⟩ := HH.out
      obtain ⟨x, hx⟩ : ∃ x, l[j]? = some x := ⟨l[j]'(by omega), List.getElem?_eq_getElem (by omega)⟩
      have lowr : Below w.heap.size w wr := Ba.trans (HB.out.mono Ba.size)
      obtain ⟨b, off, rfl, hra⟩ := rangeT hr hx lowr
      obtain ⟨_, a0, a1⟩ := okU_iff.1 (hok x (List.mem_of_getElem? hx))
      obtain ⟨LD, TH, w3, O, HW3, eb, bl⟩ := use_new hra
      have IN : Hid ((Try.prog.info? UT).map (·.size) = some (utA x).size) := by show _ = _; kernel_rfl
      have ON := Lib.hid (utA_all x)
      obtain ⟨a, ha⟩ : ∃ a : Nat, x.use = (a : Int) := ⟨x.use.toNat, by omega⟩
      have d3 : w3.cell? ⟨O, 4, none⟩ = some (.int .i64 (a : Int)) := by rw [← ha]; exact (cell_of_block eb 4).trans rfl
      have B3 : Hid (Below wb.heap.size wb w3) := HB.out.trans (bl.mono HB.out.size)
      have TK : Hid (sumU (l.take (j + 1)) = p + a) := by
        show _ = _
        rw [sumU_take l hx, ha, Int.toNat_natCast, HP.out]
      have TL : Hid (p + a ≤ T) := by
        show _ ≤ _
        have := sumU_le l (j + 1)
        rw [TK.out, ← hT] at this
        exact this
      have BE : Hid (Below w.heap.size w w3 ∧ w3.heap[B + 1]? = some (.cells zerL LT (0, 0)) ∧ w.heap.size ≤ B + 1) := by
        have z : w.heap.size ≤ B + 1 := by rw [HW.out.2.2.1]; omega
        exact ⟨Ba.trans (B3.out.mono Ba.size), (B3.out.block (B + 1) (Array.getElem?_eq_some_iff.1 y2).1).trans y2, z⟩
      have aa : a ≤ 9007199254740992 := by omega
      obtain ⟨X, hX⟩ : ∃ X, X = utA x := ⟨_, rfl⟩
      rw [← hX] at LD TH HW3 IN ON
      clear hr hn hok Ba y1 y2 sM hT hx lowr hra a0 a1 ha eb bl hX
      go_upto_region 5 with (first | (refine wpList_load_by (by kernel_rfl) UT _ rfl (.pointer (some ⟨b, off + j * 5, none⟩)) (.agg X) (by rfl) LD.out ?_) | (refine wpList_store_mid rfl _ _ _ rfl wr.heap.size 0 X (by rfl) (by rfl) TH.out IN.out ON.out ?_; rw [HW3.out.1, HW3.out.2]))
      clear TH IN ON HW3 LD
      by_cases hso : 9007199254740992 < p + a
      · have CA := Lib.hid (fun W => add_over (p : Int) (a : Int) W (by omega) (by omega) (by omega) (by omega) (by omega))
        have EQ : Hid (MC = loadC 0 0 0 ∧ ME = 3) := EM.out (by have := TL.out; omega)
        obtain ⟨th, blk, blw⟩ := put_ld (D := zerL) BE.out.2.1 rfl rfl BE.out.1 BE.out.2.2
        have TH := Lib.hid th
        have RES := Lib.hid (And.intro blk blw)
        clear th blk blw hso hp aa HB HP BE TK TL EM EN CGo HH B3
        go_wp2_with fail
        refine (CA.out _).mono ?_
        rintro e w5 ⟨rfl, rfl⟩
        go_wp2_with (refine wpList_store_mid rfl _ _ _ rfl (B + 1) 0 zerL (by rfl) (by rfl) TH.out info_LT (loadC_all 0 0 0) ?_)
        refine bodyPost_ret (res_two rfl _ _ (B + 1) LT zerL (0, 0) _ (by rfl) RES.out.1 Try.underlying74 rfl info_LT) rfl ?_
        exact ⟨by rw [EQ.out.1, EQ.out.2]; rfl, RES.out.2⟩
      · have CA := Lib.hid (fun W => add_within (p : Int) (a : Int) W (by omega) (by omega) (by omega) (by omega) (by omega))
        have ec : (p : Int) + (a : Int) = ((p + a : Nat) : Int) := by omega
        rw [ec] at CA
        have HS := Lib.hid (Nat.le_of_not_lt hso)
        clear hso hp ec aa BE EM EN CGo
        go_wp2_with fail
        refine (CA.out _).mono ?_
        rintro e w5 ⟨rfl, rfl⟩
        go_wp2
        go_roundg (n - (j + 1))
        case measure => omega
        case rel => exact ⟨j + 1, p + a, by push_cast; rfl, by omega, by omega, rfl, HS.out, TK.out.symm, B3.out⟩
    · obtain rfl : j = n := by omega
      obtain ⟨hr, hn, hok, Ba, y1, y2, sM, hT⟩ := HH.out
      have lowr : Below w.heap.size w wr := Ba.trans (HB.out.mono Ba.size)
      have e : T = p := by
        have := HP.out
        rw [List.take_of_length_le (by omega)] at this
        rw [this, hT]
      have EQ := Lib.hid (EN.out (by omega))
      rw [e] at EQ
      have y1' : wr.heap[B]? = some (.cells M MT (0, 0)) := (HB.out.block B (Array.getElem?_eq_some_iff.1 y1).1).trans y1
      have LM := Lib.hid (load_met y1' sM)
      have CG := Lib.hid (CGo.out wr lowr)
      have BE : Hid (Below w.heap.size w wr ∧ wr.heap[B + 1]? = some (.cells zerL LT (0, 0)) ∧ w.heap.size ≤ B + 1) := by
        have z : w.heap.size ≤ B + 1 := by rw [HW.out.2.2.1]; omega
        exact ⟨lowr, (HB.out.block (B + 1) (Array.getElem?_eq_some_iff.1 y2).1).trans y2, z⟩
      clear hr hn hok Ba y1 y2 sM hT lowr e y1' HH HB HP EM EN CGo
      go_wp2_with (refine wpList_load_by (by kernel_rfl) MT _ rfl (.pointer (some ⟨B, 0, none⟩)) (.agg M) (by rfl) LM.out ?_)
      refine CG.out.mono ?_
      rintro e w5 ⟨rfl, b5⟩
      have b05 : Below w.heap.size w w5 := BE.out.1.trans (b5.mono BE.out.1.size)
      obtain ⟨th, blk, blw⟩ := put_ld (D := loadC (p : Int) gv (j : Int)) ((b5.block (B + 1) (Array.getElem?_eq_some_iff.1 BE.out.2.1).1).trans BE.out.2.1) rfl rfl b05 BE.out.2.2
      have TH := Lib.hid th
      have RES := Lib.hid (And.intro blk blw)
      clear th blk blw b05 b5 CG LM BE
      go_wp2_with (refine wpList_store_mid rfl _ _ _ rfl (B + 1) 0 (loadC (p : Int) gv (j : Int)) (by rfl) (by rfl) TH.out info_LT (loadC_all _ _ _) ?_)
      refine bodyPost_ret (res_two rfl _ _ (B + 1) LT (loadC (p : Int) gv (j : Int)) (0, 0) _ (by rfl) RES.out.1 Try.underlying74 rfl info_LT) rfl ?_
      exact ⟨by rw [EQ.out.1, EQ.out.2]; rfl, RES.out.2⟩
end Go.Proofs.Ytajkhbdniadkkaa.Pp
/- Layer 20: a load with further pods. -/
namespace Go.Proofs.Ytajkhbdniadkkaa.Pp
open Go.RowKit Go.Shelf Go.Lib Go.Sort Go.Deep
open Go.Joins (cell_of_block unfrozen_of_block block_setCell)
open Go.Proofs.Ytajkhbdniadkkaa.Ow Go.Proofs.Ytajkhbdniadkkaa.Ld
set_option linter.unusedVariables false
set_option linter.unusedSimpArgs false
set_option maxRecDepth 20000

/-- A load is told: whatever, if there is an error; else this one. -/
def LdTold (D : Array Value) (e : Int) (u g n : Nat) : Prop := D.size = 3 ∧ D.all (·.oneCell') = true ∧ (e = 0 → D = loadC (u : Int) (g : Int) (n : Int))
theorem set_ld {w : World} {B i : Nat} {C D : Array Value} {v : Value} (h : w.heap[B]? = some (.cells C LT (0, 0))) (e : C.setIfInBounds i v = D) : (w.setCell ⟨B, i, none⟩ v).heap[B]? = some (.cells D LT (0, 0)) := by
  rw [block_setCell h]
  subst e
  rfl
theorem below_set1 {N : Nat} {w w1 : World} (b : Below N w w1) {B i : Nat} (hN : N ≤ B) (v : Value) : Below N w (w1.setCell ⟨B, i, none⟩ v) :=
  Ld.below_setCells [v] B i hN b
theorem wrap_in {x : Int} (h : 0 ≤ x ∧ x ≤ 9223372036854775807) : IntKind.i64.wrap x = x := by rw [IntKind.wrap_i64]; omega

set_option maxHeartbeats 8000000 in
theorem pp_with (w : World) (u g n : Nat) (hu : u ≤ 9007199254740992) (hg : g ≤ 9007199254740992) (hn : n ≤ 1000000000) (k : Int) (s : ByteArray) (t : Nat) (ht : t ≤ 9007199254740992) (q : Option Addr) (c : Nat) (l : List Ut) (hr : RowR 5 encT w q l) (hlen : l.length ≤ 1000000) (hok : ∀ x ∈ l, okU x = true) (full : Bool) :
    Calls Try.prog 61 #[.agg (loadC (u : Int) (g : Int) (n : Int)), .agg (metC k s (t : Int)), .slice q l.length c, .bool full] w fun e w' => (∃ D, e = .returned (.tuple #[.agg D, .int .i64 (capE (g + sumG k t l))]) ∧ LdTold D (capE (g + sumG k t l)) (if full = true then u + sumG k t l else u) (g + sumG k t l) (n + l.length)) ∧ Below w.heap.size w w' := by
  have CGo : Hid (∀ W, Below w.heap.size w W → Calls Try.prog 60 #[.agg (metC k s (t : Int)), .slice q l.length c] W fun e w' => e = .returned (.tuple #[.int .i64 (capV (sumG k t l)), .int .i64 (capE (sumG k t l))]) ∧ Below W.heap.size W w') := fun W b => pp_goals W k s t ht q c l (hr.below b) hlen hok
  obtain ⟨S, hS⟩ : ∃ S, S = sumG k t l := ⟨_, rfl⟩
  rw [← hS] at CGo ⊢
  obtain ⟨m, hm⟩ : ∃ m, m = l.length := ⟨_, rfl⟩
  rw [← hm] at CGo hlen ⊢
  obtain ⟨uf, huf⟩ : ∃ x, x = (if full = true then u + S else u) := ⟨_, rfl⟩
  obtain ⟨gs, hgs⟩ : ∃ x, x = g + S := ⟨_, rfl⟩
  obtain ⟨nm, hnm⟩ : ∃ x, x = n + m := ⟨_, rfl⟩
  rw [← huf, ← hgs, ← hnm]
  have HU := Lib.hid (And.intro huf (And.intro hgs hnm))
  obtain ⟨ge, hge⟩ : ∃ x, x = capE gs := ⟨_, rfl⟩
  rw [← hge]
  have GE := Lib.hid hge
  clear huf hgs hnm hge
  obtain ⟨B, hB⟩ : ∃ B, B = w.heap.size := ⟨_, rfl⟩
  obtain ⟨M, hM⟩ : ∃ M, M = metC k s (t : Int) := ⟨_, rfl⟩
  have sM : M.size = 3 := by rw [hM]; rfl
  rw [← hM] at CGo ⊢
  obtain ⟨D, hD⟩ : ∃ D, D = loadC (u : Int) (g : Int) (n : Int) := ⟨_, rfl⟩
  rw [← hD]
  obtain ⟨wa, hwa⟩ : ∃ x, x = w.alloc (.cells D LT) := ⟨_, rfl⟩
  obtain ⟨wb, hwb⟩ : ∃ x, x = wa.alloc (.cells M MT) := ⟨_, rfl⟩
  obtain ⟨wc, hwc⟩ : ∃ x, x = wb.alloc (.cells zerL LT) := ⟨_, rfl⟩
  have z1 : wa.heap.size = B + 1 := by rw [hwa, hB]; simp
  have z2 : wb.heap.size = B + 2 := by rw [hwb]; simp; omega
  have Ba : Below w.heap.size w wc := by rw [hwc, hwb, hwa]; exact ((((Gr.refl w).alloc _).alloc _).alloc _).below
  have x0 : wa.heap[B]? = some (.cells D LT (0, 0)) := by rw [hwa, hB]; exact heap_alloc_new w _
  have x1 : wb.heap[B]? = some (.cells D LT (0, 0)) := by rw [hwb]; exact (Below.heap_alloc wa _ _ (by omega)).trans x0
  have x2 : wb.heap[B + 1]? = some (.cells M MT (0, 0)) := by rw [hwb, ← z1]; exact heap_alloc_new wa _
  have y0 : wc.heap[B]? = some (.cells D LT (0, 0)) := by rw [hwc]; exact (Below.heap_alloc wb _ _ (by omega)).trans x1
  have y1 : wc.heap[B + 1]? = some (.cells M MT (0, 0)) := by rw [hwc]; exact (Below.heap_alloc wb _ _ (by omega)).trans x2
  have y2 : wc.heap[B + 2]? = some (.cells zerL LT (0, 0)) := by rw [hwc, ← z2]; exact heap_alloc_new wb _
  have HW : Hid (w.alloc (.cells D LT) = wa ∧ wa.alloc (.cells M MT) = wb ∧ wb.alloc (.cells zerL LT) = wc ∧ w.heap.size = B ∧ wa.heap.size = B + 1 ∧ wb.heap.size = B + 2) := ⟨hwa.symm, hwb.symm, hwc.symm, hB.symm, z1, z2⟩
  have LM := Lib.hid (load_met y1 sM)
  have CG := Lib.hid (CGo.out wc Ba)
  have HH := Lib.hid (And.intro Ba (And.intro y0 (And.intro y2 hD)))
  clear hr hok hB hwa hwb hwc z1 z2 Ba x0 x1 x2 y0 y1 y2 hM sM hD hS hm ht CGo
  go_enter Try.func61, Try.ntmps61
  go_upto_region 1 with fail
  rw [HW.out.1, HW.out.2.1, HW.out.2.2.1, HW.out.2.2.2.1]
  go_wp2_with (refine wpList_load_by (by kernel_rfl) MT _ rfl (.pointer (some ⟨B + 1, 0, none⟩)) (.agg M) (by rfl) LM.out ?_)
  refine CG.out.mono ?_
  rintro e w1 ⟨rfl, b1⟩
  obtain ⟨Ba, y0, y2, hD⟩ := HH.out
  have b01 : Below w.heap.size w w1 := Ba.trans (b1.mono Ba.size)
  have k0 : w1.heap[B]? = some (.cells #[.int .i64 (u : Int), .int .i64 (g : Int), .int .i64 (n : Int)] LT (0, 0)) := by
    have := (b1.block B (Array.getElem?_eq_some_iff.1 y0).1).trans y0
    rw [hD] at this
    exact this
  have k2 : w1.heap[B + 2]? = some (.cells zerL LT (0, 0)) := (b1.block (B + 2) (Array.getElem?_eq_some_iff.1 y2).1).trans y2
  have zB : w.heap.size ≤ B := by rw [HW.out.2.2.2.1]; exact Nat.le_refl _
  have zB2 : w.heap.size ≤ B + 2 := by omega
  clear LM CG HH Ba y0 y2 hD b1
  by_cases hSo : 9007199254740992 < S
  · have E1 := capV_over hSo
    have E2 := capV_over (show 9007199254740992 < gs by have := HU.out.2.1; omega)
    rw [E1.1, E1.2]
    obtain ⟨th, blk, blw⟩ := put_ld (D := zerL) k2 rfl rfl b01 zB2
    have TH := Lib.hid th
    have EQ : Hid (ge = 3) := GE.out.trans E2.2
    have RES := Lib.hid (And.intro blk blw)
    clear th blk blw E1 E2 hSo k0 k2 b01 zB zB2 hu hg hn
    go_wp2_with (refine wpList_store_mid rfl _ _ _ rfl (B + 2) 0 zerL (by rfl) (by rfl) TH.out info_LT (loadC_all 0 0 0) ?_)
    refine bodyPost_ret (res_two rfl _ _ (B + 2) LT zerL (0, 0) _ (by rfl) RES.out.1 Try.underlying74 rfl info_LT) rfl ?_
    exact ⟨⟨zerL, by rw [EQ.out]; rfl, rfl, loadC_all 0 0 0, fun h => by rw [EQ.out] at h; exact absurd h (by decide)⟩, RES.out.2⟩
  · have E1 := capV_in (Nat.le_of_not_lt hSo)
    rw [E1.1, E1.2]
    have hS2 := Nat.le_of_not_lt hSo
    clear E1 hSo
    have ec : (n : Int) + (m : Int) = (nm : Int) := by have := HU.out.2.2; omega
    have wr1 : IntKind.i64.wrap (nm : Int) = (nm : Int) := by rw [wrap_in (by have := HU.out.2.2; omega)]
    obtain ⟨w2, hw2⟩ : ∃ x, x = w1.setCell ⟨B, 2, none⟩ (.int .i64 (nm : Int)) := ⟨_, rfl⟩
    have k02 : w2.heap[B]? = some (.cells #[.int .i64 (u : Int), .int .i64 (g : Int), .int .i64 (nm : Int)] LT (0, 0)) := by rw [hw2]; exact set_ld k0 rfl
    have k22 : w2.heap[B + 2]? = some (.cells zerL LT (0, 0)) := by rw [hw2, heap_setCell_other _ _ _ _ (show B + 2 ≠ B by omega)]; exact k2
    have b02 : Below w.heap.size w w2 := by rw [hw2]; exact below_set1 b01 zB _
    have c2 : w1.cell? ⟨B, 2, none⟩ = some (.int .i64 (n : Int)) := cell_of_block k0 2
    have f2 : w1.frozen? ⟨B, 2, none⟩ = false := unfrozen_of_block k0 2
    have HW2 : Hid (w1.setCell ⟨B, 2, none⟩ (.int .i64 (nm : Int)) = w2) := hw2.symm
    clear hw2 k0 k2 b01
    go_upto_region 5 with fail
    rw [HW2.out]
    clear c2 f2 HW2
    have CA : Hid (∀ W, Calls Try.prog 59 #[.int .i64 (g : Int), .int .i64 (S : Int)] W fun e w' => e = .returned (.tuple #[.int .i64 (capV gs), .int .i64 (capE gs)]) ∧ W = w') := fun W => by
      have hgs := HU.out.2.1
      rcases Nat.lt_or_ge 9007199254740992 gs with h | h
      · rw [(capV_over h).1, (capV_over h).2]
        exact add_over (g : Int) (S : Int) W (by omega) (by omega) (by omega) (by omega) (by omega)
      · rw [(capV_in h).1, (capV_in h).2]
        have := add_within (g : Int) (S : Int) W (by omega) (by omega) (by omega) (by omega) (by omega)
        have e : (g : Int) + (S : Int) = (gs : Int) := by omega
        rw [e] at this
        exact this
    have VE : Hid (capE gs = 0 → capV gs = (gs : Int)) := fun h => by
      rcases Nat.lt_or_ge 9007199254740992 gs with h' | h'
      · rw [(capV_over h').2] at h; exact absurd h (by decide)
      · exact (capV_in h').1
    rw [← GE.out] at CA VE
    generalize capV gs = gv at CA VE
    cases full with
    | false =>
      have c1 : w2.cell? ⟨B, 1, none⟩ = some (.int .i64 (g : Int)) := cell_of_block k02 1
      have f1 : w2.frozen? ⟨B, 1, none⟩ = false := unfrozen_of_block k02 1
      obtain ⟨w3, hw3⟩ : ∃ x, x = w2.setCell ⟨B, 1, none⟩ (.int .i64 gv) := ⟨_, rfl⟩
      have k03 : w3.heap[B]? = some (.cells (loadC (u : Int) gv (nm : Int)) LT (0, 0)) := by rw [hw3]; exact set_ld k02 rfl
      have k23 : w3.heap[B + 2]? = some (.cells zerL LT (0, 0)) := by rw [hw3, heap_setCell_other _ _ _ _ (show B + 2 ≠ B by omega)]; exact k22
      have b03 : Below w.heap.size w w3 := by rw [hw3]; exact below_set1 b02 zB _
      have HW3 : Hid (w2.setCell ⟨B, 1, none⟩ (.int .i64 gv) = w3) := hw3.symm
      have LL := Lib.hid (load_ld k03 rfl)
      obtain ⟨th, blk, blw⟩ := put_ld (D := loadC (u : Int) gv (nm : Int)) k23 rfl rfl b03 zB2
      have TH := Lib.hid th
      have RES := Lib.hid (And.intro blk blw)
      clear hw3 k02 k22 b02 k03 k23 b03 th blk blw hu hg hn zB zB2 hS2 ec wr1 hlen
      go_wp2_with fail
      refine (CA.out _).mono ?_
      rintro e w' ⟨rfl, rfl⟩
      go_upto_region 8 with fail
      rw [HW3.out]
      clear c1 f1 HW3 CA
      go_wp2_with (first | (refine wpList_load_by (by kernel_rfl) LT _ rfl (.pointer (some ⟨B, 0, none⟩)) (.agg (loadC (u : Int) gv (nm : Int))) (by rfl) LL.out ?_) | (refine wpList_store_mid rfl _ _ _ rfl (B + 2) 0 (loadC (u : Int) gv (nm : Int)) (by rfl) (by rfl) TH.out info_LT (loadC_all _ _ _) ?_))
      refine bodyPost_ret (res_two rfl _ _ (B + 2) LT (loadC (u : Int) gv (nm : Int)) (0, 0) _ (by rfl) RES.out.1 Try.underlying74 rfl info_LT) rfl ?_
      refine ⟨⟨loadC (u : Int) gv (nm : Int), rfl, rfl, loadC_all _ _ _, fun h => ?_⟩, RES.out.2⟩
      rw [VE.out h, HU.out.1]
      rfl
    | true =>
      have c0 : w2.cell? ⟨B, 0, none⟩ = some (.int .i64 (u : Int)) := cell_of_block k02 0
      have f0 : w2.frozen? ⟨B, 0, none⟩ = false := unfrozen_of_block k02 0
      have eu : (u : Int) + (S : Int) = (uf : Int) := by have := HU.out.1; rw [if_pos rfl] at this; omega
      have wr2 : IntKind.i64.wrap (uf : Int) = (uf : Int) := by rw [wrap_in (by omega)]
      obtain ⟨w3, hw3⟩ : ∃ x, x = w2.setCell ⟨B, 0, none⟩ (.int .i64 (uf : Int)) := ⟨_, rfl⟩
      have k03 : w3.heap[B]? = some (.cells #[.int .i64 (uf : Int), .int .i64 (g : Int), .int .i64 (nm : Int)] LT (0, 0)) := by rw [hw3]; exact set_ld k02 rfl
      have k23 : w3.heap[B + 2]? = some (.cells zerL LT (0, 0)) := by rw [hw3, heap_setCell_other _ _ _ _ (show B + 2 ≠ B by omega)]; exact k22
      have b03 : Below w.heap.size w w3 := by rw [hw3]; exact below_set1 b02 zB _
      have HW3 : Hid (w2.setCell ⟨B, 0, none⟩ (.int .i64 (uf : Int)) = w3) := hw3.symm
      clear hw3 k02 k22 b02
      have c1 : w3.cell? ⟨B, 1, none⟩ = some (.int .i64 (g : Int)) := cell_of_block k03 1
      have f1 : w3.frozen? ⟨B, 1, none⟩ = false := unfrozen_of_block k03 1
      obtain ⟨w4, hw4⟩ : ∃ x, x = w3.setCell ⟨B, 1, none⟩ (.int .i64 gv) := ⟨_, rfl⟩
      have k04 : w4.heap[B]? = some (.cells (loadC (uf : Int) gv (nm : Int)) LT (0, 0)) := by rw [hw4]; exact set_ld k03 rfl
      have k24 : w4.heap[B + 2]? = some (.cells zerL LT (0, 0)) := by rw [hw4, heap_setCell_other _ _ _ _ (show B + 2 ≠ B by omega)]; exact k23
      have b04 : Below w.heap.size w w4 := by rw [hw4]; exact below_set1 b03 zB _
      have HW4 : Hid (w3.setCell ⟨B, 1, none⟩ (.int .i64 gv) = w4) := hw4.symm
      have LL := Lib.hid (load_ld k04 rfl)
      obtain ⟨th, blk, blw⟩ := put_ld (D := loadC (uf : Int) gv (nm : Int)) k24 rfl rfl b04 zB2
      have TH := Lib.hid th
      have RES := Lib.hid (And.intro blk blw)
      clear hw4 k03 k23 b03 k04 k24 b04 th blk blw hu hg hn zB zB2 hS2 ec wr1 hlen
      go_upto_region 7 with fail
      rw [HW3.out]
      clear c0 f0 HW3 eu wr2
      go_wp2_with fail
      refine (CA.out _).mono ?_
      rintro e w' ⟨rfl, rfl⟩
      go_upto_region 8 with fail
      rw [HW4.out]
      clear c1 f1 HW4 CA
      go_wp2_with (first | (refine wpList_load_by (by kernel_rfl) LT _ rfl (.pointer (some ⟨B, 0, none⟩)) (.agg (loadC (uf : Int) gv (nm : Int))) (by rfl) LL.out ?_) | (refine wpList_store_mid rfl _ _ _ rfl (B + 2) 0 (loadC (uf : Int) gv (nm : Int)) (by rfl) (by rfl) TH.out info_LT (loadC_all _ _ _) ?_))
      refine bodyPost_ret (res_two rfl _ _ (B + 2) LT (loadC (uf : Int) gv (nm : Int)) (0, 0) _ (by rfl) RES.out.1 Try.underlying74 rfl info_LT) rfl ?_
      refine ⟨⟨loadC (uf : Int) gv (nm : Int), rfl, rfl, loadC_all _ _ _, fun h => ?_⟩, RES.out.2⟩
      rw [VE.out h]
end Go.Proofs.Ytajkhbdniadkkaa.Pp
/- Layer 20: rows of uses of a call's own; two rows put together (slices.Concat); Split of any row. -/
namespace Go.Proofs.Ytajkhbdniadkkaa.Pp
open Go.RowKit Go.Shelf Go.Lib Go.Sort Go.Deep
open Go.Joins (cell_of_block unfrozen_of_block block_setCell)
open Go.Proofs.Ytajkhbdniadkkaa.Ow Go.Proofs.Ytajkhbdniadkkaa.Ld
set_option linter.unusedVariables false
set_option linter.unusedSimpArgs false
set_option maxRecDepth 20000

abbrev SlT : TypeId := 38
/-- The call owns the slice v, which reads as l. -/
def OwnT (N : Nat) (w : World) (v : Value) (l : List Ut) : Prop := w.ownsRow N UT 5 v l.length (flat encT l)
theorem OwnT.nil (N : Nat) (w : World) : OwnT N w (.slice none 0 0) [] := World.ownsRow_nil _ _ _ _
theorem OwnT.below {N : Nat} {w w' : World} {v : Value} {l : List Ut} (h : OwnT N w v l) (b : Below w.heap.size w w') : OwnT N w' v l := below_own h b
theorem OwnT.mono {N M : Nat} {w : World} {v : Value} {l : List Ut} (h : OwnT N w v l) (hM : M ≤ N) : OwnT M w v l := own_mono h hM
theorem OwnT.lt {N : Nat} {w : World} {v : Value} {l : List Ut} (h : OwnT N w v l) : ∀ g, v.ownBlock = some g → N ≤ g ∧ g < w.heap.size := fun g hg => lt_own h hg
theorem OwnT.row {N : Nat} {w : World} {v : Value} {l : List Ut} (h : OwnT N w v l) : ∃ q c, v = .slice q l.length c ∧ RowR 5 encT w q l ∧ (q = none → c = 0 ∧ l = []) := by
  obtain ⟨q, c, e, r, z, _⟩ := own_lies encT_len h
  refine ⟨q, c, e, r, fun hq => ⟨z hq, ?_⟩⟩
  cases l with
  | nil => rfl
  | cons x l =>
    obtain ⟨_, _, e, _⟩ := r 0 x rfl
    rw [hq] at e
    cases e
theorem encT_one (x : Ut) : ∀ u ∈ encT x, u.oneCell' = true := utA_one x
theorem flat_appT (l m : List Ut) : flat encT (l ++ m) = flat encT l ++ flat encT m := by simp [flat]

theorem wpList_append_uts {w : World} {ops : Array Oper} {rest : List Oper} {o : Oper} {a : Act} {Q : Exit → Act → World → Prop} (hgd : o.guard = none) (s x : Operand)
    (ho : o.op = .call { callee := .builtin .append, args := #[s, x], argTypes := #[SlT, SlT] })
    (N : Nat) (v : Value) (l : List Ut) (hs : a.eval s = v) (hown : OwnT N w v l)
    (q : Option Addr) (n c : Nat) (m : List Ut) (hn : n = m.length) (hx : a.eval x = .slice q n c) (hr : RowR 5 encT w q m) (hq : q = none → c = 0 ∧ m = []) (hlen : l.length + m.length ≤ 10000000) (hbase : N ≤ w.heap.size)
    (h : ∀ v' w', OwnT N w' v' (l ++ m) → w.grownBy w' v.ownBlock → wpList Try.prog ops Q rest (a.put o.dst v') w') :
    wpList Try.prog ops Q (o :: rest) a w := by
  obtain ⟨i, hi, hz0, hz1, hz2⟩ := info_UT
  subst hn
  cases q with
  | none =>
    obtain ⟨rfl, rfl⟩ := hq rfl
    refine wpList_append_own_none hgd s x _ ho N UT i 5 Try.underlying38 hi v l.length (flat encT l) hs hown hx ?_
    exact h v w (by simpa using hown) ⟨rfl, rfl, rfl, Nat.le_refl _, fun _ _ _ => rfl⟩
  | some ad =>
    have hnews : ∀ j u, (flat encT m)[j]? = some u → w.cell? (ad.add j) = some u := by
      intro j u hu
      obtain ⟨i', t, x', hx', ht', hu', rfl⟩ := flat_get encT_len (by decide) hu
      obtain ⟨b, off, e, _, hc⟩ := hr i' x' hx'
      cases e
      have ea : (⟨b, off, none⟩ : Addr).add (i' * 5 + t) = ⟨b, off + (i' * 5 + t), none⟩ := by unfold Addr.add; split <;> simp_all
      rw [ea, ← Nat.add_assoc]
      exact hc t u hu'
    refine wpList_append_own_at w hgd s x _ ho N UT i (.agg zerU) 5 i.bytes Try.underlying38 hi hz0 hz1 rfl rfl (by decide) v l.length (flat encT l) hs hown ad m.length c (flat encT m) hx
      (flat_length encT_len m) hnews (flat_one encT_one m) (by unfold maxLen; omega) (Nat.le_trans (Nat.mul_le_mul hlen hz2) (by decide)) hbase ?_
    intro v' w' h1 h2 h3 h4
    refine h v' w' ?_ h2
    unfold OwnT
    rw [flat_appT, List.length_append]
    exact h1

/-! ### Concat -/
theorem grow_uts (w : World) (n : Nat) (hn : n ≤ 10000000) : Calls Try.prog 80 #[.slice none 0 0, .int .i64 (n : Int)] w fun e w' => ∃ v, e = .returned v ∧ OwnT w.heap.size w' v [] ∧ Below w.heap.size w w' := by
  by_cases h0 : n = 0
  · subst h0
    go_enter Try.func80, Try.ntmps80
    go_wp2
    go_ret
    exact ⟨_, rfl, OwnT.nil _ _, Below.refl _ _⟩
  · obtain ⟨i, hi, hz0, hz1, hz2⟩ := info_UT
    have hn0 : 0 < n := by omega
    have hr : ∀ ty, (Builtin.append_ #[SlT, 3] ty #[.slice none 0 0, .int .i64 (n : Int)]).run Try.prog w = .ok (.slice (some ⟨w.heap.size, 0, none⟩) n (grownCap w n 0 UT)) (w.drew.alloc (.cells (Builtin.zeroCells (Value.agg zerU).cells n ++ Builtin.zeroCells (Value.agg zerU).cells (grownCap w n 0 UT - n)) UT)) :=
      fun ty => run_append_nil_zeros w SlT 3 ty UT i _ .i64 .i64 Try.underlying38 Try.underlying3 hi hz0 n hn0 (by omega) (by omega) (Nat.le_trans (Nat.mul_le_mul hn hz2) (by decide))
    have hge := grownCap_ge w n 0 UT
    have hcm := grownCap_le_maxLen w n 0 UT (by unfold maxLen; omega)
    have hO : Hid (OwnT w.heap.size (w.drew.alloc (.cells (Builtin.zeroCells (Value.agg zerU).cells n ++ Builtin.zeroCells (Value.agg zerU).cells (grownCap w n 0 UT - n)) UT)) (.slice (some ⟨w.heap.size, 0, none⟩) 0 (grownCap w n 0 UT)) []) := by
      refine ⟨rfl, .inr ⟨w.heap.size, _, _, rfl, Nat.le_refl _, heap_alloc_new w.drew _, Nat.zero_le _, hcm, ?_, rfl⟩⟩
      simp only [Array.size_append, size_zeroCells, ← Nat.add_mul]
      show (n + (grownCap w n 0 UT - n)) * 5 = _
      congr 1
      omega
    have hB : Hid (Below w.heap.size w (w.drew.alloc (.cells (Builtin.zeroCells (Value.agg zerU).cells n ++ Builtin.zeroCells (Value.agg zerU).cells (grownCap w n 0 UT - n)) UT))) :=
      ((Below.refl _ w).drew).alloc (Nat.le_refl _) _
    have HR := Lib.hid hr
    have hcz : grownCap w n 0 UT ≤ maxLen := hcm
    generalize w.drew.alloc (.cells (Builtin.zeroCells (Value.agg zerU).cells n ++ Builtin.zeroCells (Value.agg zerU).cells (grownCap w n 0 UT - n)) UT) = w1 at HR hO hB
    generalize grownCap w n 0 UT = cap at HR hO hge hcz
    unfold maxLen at hcz
    have hpos : (0 : Int) < (n : Int) := by omega
    clear hr hi hz0 hz1 hz2 hcm
    go_enter Try.func80, Try.ntmps80
    go_wp2_with (at_builtin; refine Lib.wpList_append_run _ rfl _ _ _ _ rfl _ _ rfl rfl _ _ (HR.out _) ?_)
    go_ret
    exact ⟨_, rfl, hO.out, hB.out⟩
abbrev TRw := Option Addr × Nat × List Ut
def TRows (w : World) (B o : Nat) (R : List TRw) : Prop :=
  B < w.heap.size ∧ ∀ (j : Nat) (r : TRw), R[j]? = some r → w.cell? ⟨B, o + j, none⟩ = some (.slice r.1 r.2.2.length r.2.1) ∧ RowR 5 encT w r.1 r.2.2 ∧ (r.1 = none → r.2.1 = 0 ∧ r.2.2 = [])
def catT : List TRw → List Ut
  | [] => []
  | r :: R => r.2.2 ++ catT R
theorem catT_app : ∀ R S : List TRw, catT (R ++ S) = catT R ++ catT S
  | [], S => rfl
  | r :: R, S => by simp [catT, catT_app R S]
theorem catT_take {R : List TRw} {k : Nat} {r : TRw} (h : R[k]? = some r) : catT (R.take (k + 1)) = catT (R.take k) ++ r.2.2 := by
  rw [List.take_add_one, h, catT_app]
  simp [catT]
theorem catT_le (R : List TRw) (k : Nat) : (catT (R.take k)).length ≤ (catT R).length := by
  have : catT R = catT (R.take k) ++ catT (R.drop k) := by rw [← catT_app, List.take_append_drop]
  rw [this, List.length_append]
  omega
theorem TRows.below {w w' : World} {B o : Nat} {R : List TRw} (h : TRows w B o R) (hb : Below w.heap.size w w') : TRows w' B o R := by
  refine ⟨Nat.lt_of_lt_of_le h.1 hb.size, fun j r hj => ?_⟩
  obtain ⟨h1, h2, h3⟩ := h.2 j r hj
  exact ⟨(hb.cell (p := ⟨B, o + j, none⟩) h.1).trans h1, h2.below hb, h3⟩
set_option maxHeartbeats 2000000 in
theorem concat_uts (w : World) (B o : Nat) (R : List TRw) (h : TRows w B o R) (hl : (catT R).length ≤ 5000000) (hR : R.length ≤ 1000) :
    Calls Try.prog 62 #[.slice (some ⟨B, o, none⟩) R.length R.length] w fun e w' => ∃ v, e = .returned v ∧ OwnT w.heap.size w' v (catT R) ∧ Below w.heap.size w w' := by
  have HR := Lib.hid h
  clear h
  go_enter Try.func62, Try.ntmps62
  go_wp2_with fail
  go_loopg [3, 5, 11] R.length (fun g vs _ vk wr => ∃ (k s : Nat), vs = .int .i64 (s : Int) ∧ vk = .int .i64 (k : Int) ∧ k ≤ R.length ∧ s ≤ 5000000 ∧ R.length - k ≤ g ∧ Hid (s = (catT (R.take k)).length) ∧ w = wr)
  case atStart => exact ⟨0, 0, rfl, rfl, Nat.zero_le _, by omega, Nat.le_refl _, rfl, rfl⟩
  case round =>
    obtain ⟨k, s, rfl, rfl, hk, hs, hg, HS, rfl⟩ := hrel
    by_cases hlt : k < R.length
    · obtain ⟨r, hr⟩ : ∃ r, R[k]? = some r := ⟨R[k], List.getElem?_eq_getElem hlt⟩
      have hc := (HR.out.2 k r hr).1
      obtain ⟨s2, hs2⟩ : ∃ s2, s2 = s + r.2.2.length := ⟨_, rfl⟩
      have e1 : (s : Int) + (r.2.2.length : Int) = (s2 : Int) := by omega
      have HS2 : Hid (s2 = (catT (R.take (k + 1))).length) := by show _ = _; rw [catT_take hr, List.length_append, ← HS.out, hs2]
      have hs3 : s2 ≤ 5000000 := by have := catT_le R (k + 1); have := HS2.out; omega
      have w1 : IntKind.i64.wrap (s2 : Int) = (s2 : Int) := by rw [IntKind.wrap_i64]; omega
      have hneg : decide ((s2 : Int) < 0) = false := decide_eq_false (by omega)
      clear hr hs2
      go_wp2_with fail
      go_roundg (R.length - (k + 1))
      case measure => omega
      case rel => exact ⟨k + 1, s2, rfl, by go_num, hlt, hs3, Nat.le_refl _, HS2, rfl⟩
    · obtain rfl : k = R.length := by omega
      have GR := Lib.hid (grow_uts w s (by omega))
      go_wp2_with fail
      refine GR.out.mono ?_
      rintro e w1 ⟨v, rfl, hO, hB⟩
      have HO := Lib.hid hO
      have HB := Lib.hid hB
      clear hO hB GR HS
      go_wp2_with fail
      go_loopg [6, 8, 27] R.length (fun g vn _ vk wq => ∃ (k : Nat), vk = .int .i64 (k : Int) ∧ k ≤ R.length ∧ R.length - k ≤ g ∧ Hid (OwnT w.heap.size wq vn (catT (R.take k))) ∧ Hid (Below w.heap.size w wq))
      case atStart => exact ⟨0, rfl, Nat.zero_le _, by omega, HO.out, HB.out⟩
      case round =>
        clear HO HB
        obtain ⟨k, rfl, hk2, hg2, HO, HB⟩ := hrel
        by_cases hlt2 : k < R.length
        · obtain ⟨r, hr⟩ : ∃ r, R[k]? = some r := ⟨R[k], List.getElem?_eq_getElem hlt2⟩
          obtain ⟨hc0, hL, hq⟩ := (HR.out.below HB.out).2 k r hr
          have HT : Hid (catT (R.take (k + 1)) = catT (R.take k) ++ r.2.2) := catT_take hr
          have hlen : (catT (R.take k)).length + r.2.2.length ≤ 10000000 := by
            have := catT_le R (k + 1)
            rw [catT_take hr, List.length_append] at this
            omega
          have hsz := HB.out.size
          have HQ := Lib.hid hq
          have HL := Lib.hid hL
          clear hr hq hL
          obtain ⟨q, c, l⟩ := r
          dsimp only at hc0 HQ HL HT hlen
          go_wp2_with (at_builtin; refine wpList_append_uts rfl _ _ rfl w.heap.size u6 (catT (R.take k)) rfl HO.out q l.length c l rfl rfl HL.out HQ.out hlen hsz ?_; intro v2 w2 hO2 hg2)
          have HO2 := Lib.hid hO2
          have HB2 := Lib.hid (HB.out.grown hg2 hsz (fun k e => (HO.out.lt k e).1))
          clear hO2 hg2
          go_wp2_with fail
          go_roundg (R.length - (k + 1))
          case measure => omega
          case rel => exact ⟨k + 1, by go_num, hlt2, Nat.le_refl _, by show OwnT _ _ _ _; rw [HT.out]; exact HO2.out, HB2.out⟩
        · obtain rfl : k = R.length := by omega
          go_wp2
          go_ret
          exact ⟨_, rfl, by have := HO.out; rwa [List.take_length] at this, HB.out⟩

/-! ### Split -/
def isHas (x : Ut) : Bool := x.rd && x.hs
def isMis (x : Ut) : Bool := x.rd && !x.hs
def isUn (x : Ut) : Bool := !x.rd
theorem ret_3 {a b c d e f : Value} (h : a = d) (g : b = e) (k : c = f) : Ending.returned (.tuple #[a, b, c]) = .returned (.tuple #[d, e, f]) := by rw [h, g, k]
theorem fil_take (f : Ut → Bool) (l : List Ut) {j : Nat} {x : Ut} (hx : l[j]? = some x) : (l.take (j + 1)).filter f = (l.take j).filter f ++ (if f x = true then [x] else []) := by
  rw [List.take_add_one, hx, List.filter_append]
  congr 1
  by_cases h : f x = true
  · rw [if_pos h]; simp [h]
  · rw [if_neg h]; simp [h]
/-- Three rows of the call's own, apart from each other. -/
structure Three (N : Nat) (w : World) (a b c : Value) (x y z : List Ut) : Prop where
  h1 : OwnT N w a x
  h2 : OwnT N w b y
  h3 : OwnT N w c z
  d12 : ∀ g, a.ownBlock = some g → b.ownBlock = some g → False
  d13 : ∀ g, a.ownBlock = some g → c.ownBlock = some g → False
  d23 : ∀ g, b.ownBlock = some g → c.ownBlock = some g → False
end Go.Proofs.Ytajkhbdniadkkaa.Pp
/- One thing of a row of a call's own is written anew, for whatever layer. -/
namespace Go.Proofs.Ytajkhbdniadkkaa.Ow
open Go.RowKit Go.Shelf Go.Lib Go.Sort Go.Deep
open Go.Joins (cell_of_block unfrozen_of_block block_setCell)
set_option linter.unusedVariables false
set_option linter.unusedSimpArgs false
set_option maxRecDepth 20000

theorem setAt_beside : ∀ (vs : List Value) (L : Array Value) (i j : Nat), (j < i ∨ i + vs.length ≤ j) → (setAt L i vs)[j]? = L[j]?
  | [], L, i, j, h => rfl
  | v :: r, L, i, j, h => by
    simp only [List.length_cons] at h
    rw [setAt, setAt_beside r _ (i + 1) j (by omega), Array.getElem?_setIfInBounds_ne (by omega)]
/-- One thing of a row of the call's own is written anew. -/
theorem set_own {α : Type} {enc : α → List Value} {k base : Nat} {E : TypeId} (hk : ∀ x, (enc x).length = k) {w : World} {v : Value} {l : List α} (h : w.ownsRow base E k v l.length (flat enc l)) {p : Nat} (hp : p < l.length) (x : α) :
    ∃ g c, v = .slice (some ⟨g, 0, none⟩) l.length c ∧ base ≤ g ∧ g < w.heap.size ∧ (w.setCells g (p * k) (enc x)).ownsRow base E k v l.length (flat enc (l.set p x)) ∧ w.there g (p * k) k := by
  obtain ⟨h0, h⟩ := h
  rcases h with ⟨_, h⟩ | ⟨g, cap, cur, rfl, hb, hg, hn, hm, hc, ht⟩
  · omega
  · have hpk : p * k + k ≤ l.length * k := by rw [← Nat.succ_mul]; exact Nat.mul_le_mul_right _ hp
    have hlk : l.length * k ≤ cap * k := Nat.mul_le_mul_right _ hn
    refine ⟨g, cap, rfl, hb, (Array.getElem?_eq_some_iff.1 hg).1, ⟨by rw [flat_length hk, List.length_set], .inr ⟨g, cap, setAt cur (p * k) (enc x), rfl, hb, setCells_block _ _ _ _ _ _ _ hg, hn, hm, by rw [setAt_size, hc], ?_⟩⟩, fun t htk => ⟨?_, unfrozen_of_block hg _⟩⟩
    · apply List.ext_getElem?
      intro j
      rw [List.getElem?_take]
      split
      · rename_i hj
        rw [Array.getElem?_toList]
        have hk0 : 0 < k := by
          rcases Nat.eq_zero_or_pos k with e | e
          · subst e; omega
          · exact e
        have hi : j / k < l.length := Nat.div_lt_of_lt_mul (by rw [Nat.mul_comm]; exact hj)
        have hr : j % k < k := Nat.mod_lt _ hk0
        have ej : j = j / k * k + j % k := by rw [Nat.mul_comm]; exact (Nat.div_add_mod j k).symm
        by_cases e : j / k = p
        · rw [e] at ej
          have := flat_at hk (l.set p x) p (j % k) x (List.getElem?_set_self hp) hr
          rw [ej, this, setAt_get _ _ _ _ (by rw [hk]; exact hr) (by rw [hk]; omega)]
        · have hjj : j < p * k ∨ p * k + k ≤ j := by
            rcases Nat.lt_or_gt_of_ne e with e1 | e1
            · left
              have : (j / k + 1) * k ≤ p * k := Nat.mul_le_mul_right _ e1
              rw [Nat.add_mul] at this
              omega
            · right
              have : (p + 1) * k ≤ j / k * k := Nat.mul_le_mul_right _ e1
              rw [Nat.add_mul] at this
              omega
          rw [setAt_beside _ _ _ _ (by rw [hk]; exact hjj)]
          have a1 := flat_at hk l (j / k) (j % k) _ (List.getElem?_eq_getElem hi) hr
          have a2 := flat_at hk (l.set p x) (j / k) (j % k) l[j / k] (by rw [List.getElem?_set_ne (fun e2 => e e2.symm)]; exact List.getElem?_eq_getElem hi) hr
          rw [← ej] at a1 a2
          rw [a2, ← a1, ← ht, List.getElem?_take, if_pos hj, Array.getElem?_toList]
      · rename_i hj
        rw [List.getElem?_eq_none]
        rw [flat_length hk, List.length_set]
        omega
    · rw [cell_of_block hg]
      rw [Array.getElem?_eq_getElem (by omega)]
      rfl

theorem grown_setCells {w : World} {v : Value} {g o : Nat} (h : v.ownBlock = some g) (vs : List Value) : w.grownBy (w.setCells g o vs) v.ownBlock := by
  obtain ⟨r1, r2, r3⟩ := setCells_rest vs w g o
  exact ⟨r1, r2, r3, by rw [setCells_size]; exact Nat.le_refl _, fun k _ hk => setCells_out _ _ _ _ _ (by intro e; subst e; exact hk h.symm)⟩
theorem grown_trans {w1 w2 w3 : World} {r : Option Nat} (h : w1.grownBy w2 r) (g : w2.grownBy w3 r) : w1.grownBy w3 r :=
  ⟨g.os.trans h.os, g.tape.trans h.tape, g.output.trans h.output, Nat.le_trans h.size g.size, fun k hk hn => (g.block k (Nat.lt_of_lt_of_le hk h.size) hn).trans (h.block k hk hn)⟩
theorem grown_below {w1 w2 : World} {r : Option Nat} (h : Below w1.heap.size w1 w2) : w1.grownBy w2 r := ⟨h.os, h.tape, h.output, h.size, fun k hk _ => h.block k hk⟩
/-- A row of the call's own that is made behind a point stays, whatever is written into another one. -/
theorem own_beside {w w' : World} {N k n : Nat} {T : TypeId} {v : Value} {xs : List Value} (h : w.ownsRow N T k v n xs) {r : Option Nat} (g : w.grownBy w' r) (hr : ∀ b, r = some b → v.ownBlock ≠ some b) : w'.ownsRow N T k v n xs := by
  obtain ⟨h0, h1⟩ := h
  refine ⟨h0, ?_⟩
  rcases h1 with h1 | ⟨b, cap, cur, rfl, hb, hg, rest⟩
  · exact .inl h1
  · exact .inr ⟨b, cap, cur, rfl, hb, (g.block b (Array.getElem?_eq_some_iff.1 hg).1 (fun e => hr b e.symm rfl)).trans hg, rest⟩
/-- The thing at a place of a row of own. -/
theorem own_el {α : Type} {enc : α → List Value} {k : Nat} (hk : ∀ x, (enc x).length = k) {N : Nat} {w : World} {E : TypeId} {q : Option Addr} {n c : Nat} {s : List α} (h : w.ownsRow N E k (.slice q n c) n (flat enc s)) (hn : n = s.length) {j : Nat} {x : α} (hx : s[j]? = some x) : ∃ g, q = some ⟨g, 0, none⟩ ∧ N ≤ g ∧ g < w.heap.size ∧ w.rangeAt g (j * k) (enc x) := by
  rcases h.2 with ⟨e, e0⟩ | ⟨g, cap, cur, e, hb, hg, hc, hm, hsz, htk⟩
  · have := (List.getElem?_eq_some_iff.1 hx).1; omega
  · simp only [Value.slice.injEq] at e
    obtain ⟨rfl, _, _⟩ := e
    refine ⟨g, rfl, hb, (Array.getElem?_eq_some_iff.1 hg).1, fun t v hv => ?_⟩
    have ht : t < k := by rw [← hk x]; exact (List.getElem?_eq_some_iff.1 hv).1
    have e1 := flat_at hk s j t x hx ht
    rw [hv, ← htk] at e1
    have hj : j < s.length := (List.getElem?_eq_some_iff.1 hx).1
    have hlt : j * k + t < n * k := by
      have : (j + 1) * k ≤ n * k := Nat.mul_le_mul_right _ (by omega)
      rw [Nat.add_mul] at this
      omega
    rw [List.getElem?_take_of_lt hlt, Array.getElem?_toList] at e1
    rw [cell_of_block hg]
    exact e1
/-- What lies in a block that stays lies there. -/
theorem range_stays {w w' : World} {g o : Nat} {cs : List Value} (h : w.rangeAt g o cs) (e : w'.heap[g]? = w.heap[g]?) : w'.rangeAt g o cs := fun t v hv => (World.cell?_of_block (a := ⟨g, o + t, none⟩) e).trans (h t v hv)
theorem step_mk {P : Program} {ops : Array Oper} {Q : Exit → Act → World → Prop} {w : World} {o : Oper} {a : Act} {K : Act → World → Prop} (hw : Region.wanted o (yielded ops a.tmps) = true) (t e : TypeId) (x : Operand) (ho : o.op = .buildSlice t 1 #[(0, x)]) (z : Value) (s : Nat) (X : Array Value) (hx : a.eval x = .agg X) (hX : X.size = s) (h0 : 0 < s) (h1 : s ≤ 1000000)
    (hu : P.underlying t = some (.slice e)) (hinfo : (P.info? e).map (fun i => (i.zero, i.size)) = some (some z, s)) (k : K (a.put o.dst (.slice (some ⟨w.heap.size, 0, none⟩) 1 1)) (w.alloc (.cells X e))) :
    if Region.wanted o (yielded ops a.tmps) = true then Oper.wp P o a w K Q else K (a.put o.dst undef) w := by
  rw [if_pos hw]
  cases hie : P.info? e with
  | none => rw [hie] at hinfo; cases hinfo
  | some i =>
    rw [hie] at hinfo
    simp only [Option.map_some, Option.some.injEq, Prod.mk.injEq] at hinfo
    obtain ⟨hz, hs⟩ := hinfo
    refine wp_buildSlice t e 1 _ ho X i z hu hie hz (by rw [hs]; omega) (by rw [hs]; omega) ?_ k
    have hc : (Value.agg X).cells = X := rfl
    have := Great.fill_whole h0 [Value.agg X] ((Array.range (1 * i.size)).map (z.cells[· % z.cells.size]!)) (fun v hv => by rw [List.mem_singleton.1 hv, hc]; exact hX) (by simp [hs])
    rw [hs] at this ⊢
    simp [hx, hc] at this ⊢
    exact this
end Go.Proofs.Ytajkhbdniadkkaa.Ow
