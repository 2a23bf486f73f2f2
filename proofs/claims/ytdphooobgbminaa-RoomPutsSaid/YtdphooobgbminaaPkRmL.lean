/- Layer 17 (room): the chapter's example. -/
import Derived.Test.YtdphooobgbminaaPk6
namespace Go.Proofs.Ytdphooobgbminaa.Rm
open Go.RowKit Go.Shelf Go.Lib Go.Sort Go.Deep
open Go.Joins (cell_of_block unfrozen_of_block block_setCell)
open Go.Proofs.Ytdphooobgbminaa.Ow
set_option linter.unusedVariables false
set_option linter.unusedSimpArgs false
set_option maxRecDepth 20000

/-- The room at a place of a row of own. -/
theorem own_at {N : Nat} {w : World} {q : Option Addr} {n c : Nat} {s : List El} (h : w.ownsRow N RT 11 (.slice q n c) n (flat enc s)) (hn : n = s.length) {j : Nat} {x : El} (hx : s[j]? = some x) : ∃ g, q = some ⟨g, 0, none⟩ ∧ N ≤ g ∧ g < w.heap.size ∧ w.rangeAt g (j * 11) (enc x) := by
  rcases h.2 with ⟨e, e0⟩ | ⟨g, cap, cur, e, hb, hg, hc, hm, hsz, htk⟩
  · have := (List.getElem?_eq_some_iff.1 hx).1; omega
  · simp only [Value.slice.injEq] at e
    obtain ⟨rfl, _, _⟩ := e
    refine ⟨g, rfl, hb, (Array.getElem?_eq_some_iff.1 hg).1, fun t v hv => ?_⟩
    have ht : t < 11 := by rw [← enc_len x]; exact (List.getElem?_eq_some_iff.1 hv).1
    have e1 := flat_at enc_len s j t x hx ht
    rw [hv, ← htk] at e1
    have hj : j < s.length := (List.getElem?_eq_some_iff.1 hx).1
    have hlt : j * 11 + t < n * 11 := by omega
    rw [List.getElem?_take_of_lt hlt, Array.getElem?_toList] at e1
    rw [cell_of_block hg]
    exact e1
/-- Of one room there is nothing to be sorted. -/
theorem one_room {p s : List El} {r : Rmo} (sm : Same1 p s) (hp : p.map (·.1.2) = [r]) : ∃ y, s = [y] ∧ y.1.2 = r := by
  have h1 := congrArg List.length hp
  have h2 := sm.1.length_eq
  simp at h1
  match p, h1 with
  | [a], _ =>
    have := List.perm_singleton.1 sm.1.symm
    simp at hp
    exact ⟨a, this, hp⟩
/-- A room of a row, loaded. -/
theorem load_room {w : World} {g o : Nat} {x : El} (h : w.rangeAt g o (enc x)) : (Instr.loadAt RT (.pointer (some ⟨g, o, none⟩))).run Try.prog w = .ok (.agg x.1.1.1) w := by
  have := run_loadAt_mid (P := Try.prog) w g o RT x.1.1.1.toList _ h Try.underlying49 rfl (by rw [Array.length_toList, x.1.1.2.1]; kernel_rfl)
  rwa [Array.toArray_toList] at this

abbrev nmN : ByteArray := { data := #[110] }
def ndA : Array Value := #[.string { data := #[] }, .int .i64 1000, .int .i64 0, .slice none 0 0, .slice none 0 0, .int .i64 0, .bool false]
def pdA : Array Value := #[.string { data := #[] }, .string { data := #[110] }, .int .i64 2, .int .i64 0, .int .i64 600, .int .i64 0, .slice none 0 0, .slice none 0 0, .slice none 0 0, .int .i64 0]
def exN : Array Value := #[.int .i64 2, .string { data := #[110] }, .int .u64 0, .int .i64 0, .int .i64 0, .int .i64 0, .slice none 0 0, .slice none 0 0, .slice none 0 0, .int .i64 0, .string { data := #[] }, .string { data := #[] }, .int .i64 0, .int .i64 0, .int .i64 0, .int .i64 0, .slice none 0 0, .slice none 0 0, .slice none 0 0, .int .i64 0, .string { data := #[] }, .int .i64 1000, .int .i64 0, .slice none 0 0, .slice none 0 0, .int .i64 0, .bool false, .int .i64 0, .int .i64 0, .int .i64 0, .int .i64 0, .int .i64 0, .slice none 0 0, .slice none 0 0, .int .i64 0, .string { data := #[] }, .int .i64 0, .int .i64 0, .slice none 0 0, .int .i64 0, .int .i64 0, .int .i64 0, .slice none 0 0, .int .i64 0, .int .i64 0, .slice none 0 0, .slice none 0 0]
def exP : Array Value := #[.int .i64 1, .string { data := #[112] }, .int .u64 0, .int .i64 0, .int .i64 0, .int .i64 0, .slice none 0 0, .slice none 0 0, .slice none 0 0, .int .i64 0, .string { data := #[] }, .string { data := #[110] }, .int .i64 2, .int .i64 0, .int .i64 600, .int .i64 0, .slice none 0 0, .slice none 0 0, .slice none 0 0, .int .i64 0, .string { data := #[] }, .int .i64 0, .int .i64 0, .slice none 0 0, .slice none 0 0, .int .i64 0, .bool false, .int .i64 0, .int .i64 0, .int .i64 0, .int .i64 0, .int .i64 0, .slice none 0 0, .slice none 0 0, .int .i64 0, .string { data := #[] }, .int .i64 0, .int .i64 0, .slice none 0 0, .int .i64 0, .int .i64 0, .int .i64 0, .slice none 0 0, .int .i64 0, .int .i64 0, .slice none 0 0, .slice none 0 0]
def obN : Ob := { zerO with kind := 2, name := { data := #[110] }, n := { zerO.n with cpu := 1000 } }
def obP : Ob := { zerO with kind := 1, name := { data := #[112] }, p := { zerO.p with node := { data := #[110] }, ph := 2, cpu := 600 } }
theorem built_n1 : Try.prog.built ResT [(0, .int .i64 1000)] = some #[.int .i64 1000, .int .i64 0] := by kernel_rfl
theorem built_n2 : Try.prog.built NTy [(1, .agg #[.int .i64 1000, .int .i64 0])] = some ndA := by kernel_rfl
theorem built_n3 : Try.prog.built OTy [(0, .int .i64 2), (1, .string { data := #[110] }), (5, .agg ndA)] = some exN := by kernel_rfl
theorem built_p1 : Try.prog.built ResT [(0, .int .i64 600)] = some #[.int .i64 600, .int .i64 0] := by kernel_rfl
theorem built_p2 : Try.prog.built PTy [(1, .string { data := #[110] }), (2, .int .i64 2), (4, .agg #[.int .i64 600, .int .i64 0])] = some pdA := by kernel_rfl
theorem built_p3 : Try.prog.built OTy [(0, .int .i64 1), (1, .string { data := #[112] }), (4, .agg pdA)] = some exP := by kernel_rfl
theorem obj_N (w : World) : ObjV w exN obN := by
  have rL : SlR 2 encL w (some (.slice none 0 0)) [] := ⟨none, 0, rfl, RowR.nil _ _ _ _⟩
  have rR : SlR 3 encR w (some (.slice none 0 0)) [] := ⟨none, 0, rfl, RowR.nil _ _ _ _⟩
  have rM : SlR 3 encM w (some (.slice none 0 0)) [] := ⟨none, 0, rfl, RowR.nil _ _ _ _⟩
  have rP : SlR 3 encP w (some (.slice none 0 0)) [] := ⟨none, 0, rfl, RowR.nil _ _ _ _⟩
  have rS : SlR 3 encS w (some (.slice none 0 0)) [] := ⟨none, 0, rfl, RowR.nil _ _ _ _⟩
  exact ⟨rfl, ⟨rfl, rfl, rfl, (by decide : (0 : Nat) < 18446744073709551616)⟩, ⟨rfl, rfl, rfl, rL, rR, rL, rfl⟩, ⟨rfl, rfl, rfl, rfl, rfl, rfl, rL, rR, rL, rfl⟩, ⟨rfl, rfl, rfl, rL, rL, rfl, rfl⟩, ⟨rfl, rfl, rfl, rfl, rfl, rL, rL, rfl⟩, ⟨rfl, rfl, rfl, rM, rfl, rfl, rfl, rP, rfl, rfl, rP, rS⟩⟩
theorem obj_P (w : World) : ObjV w exP obP := by
  have rL : SlR 2 encL w (some (.slice none 0 0)) [] := ⟨none, 0, rfl, RowR.nil _ _ _ _⟩
  have rR : SlR 3 encR w (some (.slice none 0 0)) [] := ⟨none, 0, rfl, RowR.nil _ _ _ _⟩
  have rM : SlR 3 encM w (some (.slice none 0 0)) [] := ⟨none, 0, rfl, RowR.nil _ _ _ _⟩
  have rP : SlR 3 encP w (some (.slice none 0 0)) [] := ⟨none, 0, rfl, RowR.nil _ _ _ _⟩
  have rS : SlR 3 encS w (some (.slice none 0 0)) [] := ⟨none, 0, rfl, RowR.nil _ _ _ _⟩
  exact ⟨rfl, ⟨rfl, rfl, rfl, (by decide : (0 : Nat) < 18446744073709551616)⟩, ⟨rfl, rfl, rfl, rL, rR, rL, rfl⟩, ⟨rfl, rfl, rfl, rfl, rfl, rfl, rL, rR, rL, rfl⟩, ⟨rfl, rfl, rfl, rL, rL, rfl, rfl⟩, ⟨rfl, rfl, rfl, rfl, rfl, rL, rL, rfl⟩, ⟨rfl, rfl, rfl, rM, rfl, rfl, rfl, rP, rfl, rfl, rP, rS⟩⟩
def exNv : Obv := (⟨exN, rfl, objV_one (obj_N default)⟩, obN)
def exPv : Obv := (⟨exP, rfl, objV_one (obj_P default)⟩, obP)
/-- A row of one object in a block of its own. -/
theorem row_one {w : World} {M : Nat} {X : Array Value} {x : Obv} (h : w.heap[M]? = some (.cells X OTy (0, 0))) (e : X = x.1.1) : RowR 47 encOb w (some ⟨M, 0, none⟩) [x] := by
  intro j y hj
  have hj0 : j = 0 := by
    have := (List.getElem?_eq_some_iff.1 hj).1
    simp at this
    exact this
  subst hj0
  simp at hj
  subst hj
  refine ⟨M, 0, rfl, (Array.getElem?_eq_some_iff.1 h).1, fun t v hv => ?_⟩
  rw [cell_of_block h, show 0 + 0 * 47 + t = t by omega, e, ← Array.getElem?_toList]
  exact hv
theorem room_ex : roomOf [obP] obN = ⟨{ data := #[110] }, obN.n, 600, 0, 1⟩ := by
  have h1 : clamp (cpuOf obN.name [obP]) = 600 := by decide +kernel
  have h2 : clamp (memOf obN.name [obP]) = 0 := by decide +kernel
  have h3 : podsOf obN.name [obP] = 1 := by decide +kernel
  unfold roomOf
  rw [h1, h2, h3]
  rfl

set_option maxHeartbeats 8000000 in
theorem rlives (w : World) : Calls Try.prog 4 #[] w fun e w' => e = .returned (.bool true) ∧ Below w.heap.size w w' := by
  obtain ⟨CA, hCA⟩ : ∃ C, C = exN := ⟨_, rfl⟩
  obtain ⟨CB, hCB⟩ : ∃ C, C = exP := ⟨_, rfl⟩
  have sA : CA.size = 47 := by rw [hCA]; rfl
  have sB : CB.size = 47 := by rw [hCB]; rfl
  obtain ⟨tA, xA, lA⟩ := cell_new w OTy zerC CA (by rw [sA]; rfl)
  obtain ⟨wa, hwa⟩ : ∃ W, W = (w.alloc (.cells zerC OTy)).setCells w.heap.size 0 CA.toList := ⟨_, rfl⟩
  obtain ⟨B, hB⟩ : ∃ B, B = w.heap.size := ⟨_, rfl⟩
  rw [← hwa] at xA lA
  obtain ⟨tB, xB, lB⟩ := cell_new wa OTy zerC CB (by rw [sB]; rfl)
  obtain ⟨wb, hwb⟩ : ∃ W, W = (wa.alloc (.cells zerC OTy)).setCells wa.heap.size 0 CB.toList := ⟨_, rfl⟩
  obtain ⟨B', hB'⟩ : ∃ B', B' = wa.heap.size := ⟨_, rfl⟩
  rw [← hwb] at xB lB
  have xA' := (lB.block _ (Array.getElem?_eq_some_iff.1 xA).1).trans xA
  rw [← hB] at xA xA'
  rw [← hB'] at xB
  obtain ⟨wc, hwc⟩ : ∃ W, W = wb.alloc (.cells CA OTy) := ⟨_, rfl⟩
  obtain ⟨M, hM⟩ : ∃ M, M = wb.heap.size := ⟨_, rfl⟩
  obtain ⟨wd, hwd⟩ : ∃ W, W = wc.alloc (.cells CB OTy) := ⟨_, rfl⟩
  obtain ⟨M', hM'⟩ : ∃ M, M = wc.heap.size := ⟨_, rfl⟩
  have lc : Below wb.heap.size wb wc := hwc ▸ ((Gr.refl wb).alloc _).below
  have ld : Below wc.heap.size wc wd := hwd ▸ ((Gr.refl wc).alloc _).below
  have yc : wc.heap[M]? = some (.cells CA OTy (0, 0)) := by rw [hwc, hM]; exact heap_alloc_new wb _
  have yc' : wd.heap[M]? = some (.cells CA OTy (0, 0)) := (ld.block _ (Array.getElem?_eq_some_iff.1 yc).1).trans yc
  have yd : wd.heap[M']? = some (.cells CB OTy (0, 0)) := by rw [hwd, hM']; exact heap_alloc_new wc _
  have xBc := (lc.block _ (Array.getElem?_eq_some_iff.1 xB).1).trans xB
  have rN := row_one (x := exNv) yc' hCA
  have rP := row_one (x := exPv) yd hCB
  have CR := rm_rooms wd wd (Below.refl _ _) (some ⟨M, 0, none⟩) (some ⟨M', 0, none⟩) 1 1 [exNv] [exPv] rN (fun x hx => by rw [List.mem_singleton.1 hx]; exact ⟨obj_N wd, by decide⟩) (by decide) rP (fun x hx => by rw [List.mem_singleton.1 hx]; exact ⟨obj_P wd, fun _ => ⟨by unfold I64; decide, by unfold I64; decide⟩, by decide⟩) (by decide)
  have CR := Lib.hid CR
  have low : Hid (Below w.heap.size w wd) := (lA.trans (lB.mono lA.size)).trans (((lc.mono (Nat.le_trans lA.size lB.size))).trans (ld.mono (Nat.le_trans (Nat.le_trans lA.size lB.size) lc.size)))
  have TA := Lib.hid tA
  have TB := Lib.hid tB
  have IA : Hid ((Try.prog.info? OTy).map (·.size) = some CA.size) := by show _ = _; rw [sA]; exact info_ob47
  have IB : Hid ((Try.prog.info? OTy).map (·.size) = some CB.size) := by show _ = _; rw [sB]; exact info_ob47
  have OA : Hid (CA.all (·.oneCell') = true) := by show _ = _; rw [hCA]; exact objV_one (obj_N default)
  have OB : Hid (CB.all (·.oneCell') = true) := by show _ = _; rw [hCB]; exact objV_one (obj_P default)
  have LA := Lib.hid (load_ob xA' sA)
  have LB := Lib.hid (load_ob xBc sB)
  have BN3 : Hid (Try.prog.built OTy [(0, .int .i64 2), (1, .string { data := #[110] }), (5, .agg ndA)] = some CA) := by show _ = _; rw [hCA]; exact built_n3
  have BP3 : Hid (Try.prog.built OTy [(0, .int .i64 1), (1, .string { data := #[112] }), (4, .agg pdA)] = some CB) := by show _ = _; rw [hCB]; exact built_p3
  have SA := Lib.hid sA
  have SB := Lib.hid sB
  have HA : Hid ((w.alloc (.cells zerC OTy)).setCells w.heap.size 0 CA.toList = wa ∧ w.heap.size = B) := ⟨hwa.symm, hB.symm⟩
  have HB : Hid ((wa.alloc (.cells zerC OTy)).setCells wa.heap.size 0 CB.toList = wb ∧ wa.heap.size = B') := ⟨hwb.symm, hB'.symm⟩
  have HC : Hid (wb.alloc (.cells CA OTy) = wc ∧ wb.heap.size = M) := ⟨hwc.symm, hM.symm⟩
  have HD : Hid (wc.alloc (.cells CB OTy) = wd ∧ wc.heap.size = M') := ⟨hwd.symm, hM'.symm⟩
  clear hwa hwb hwc hwd hM hM' hB hB' tA xA lA tB xB lB xA' lc ld yc yc' yd xBc rN rP sA sB hCA hCB
  go_enter Try.func4, Try.ntmps4
  go_upto_region 2 with (first | (refine step_known (by kernel_rfl) (built_run rfl (by kernel_rfl) built_n1 _) ?_) | (refine step_known (by kernel_rfl) (built_run rfl (by kernel_rfl) built_n2 _) ?_) | (refine step_known (by kernel_rfl) (built_run rfl (by kernel_rfl) BN3.out _) ?_) | (refine wpList_store_mid rfl _ _ _ rfl w.heap.size 0 CA (by rfl) (by rfl) TA.out IA.out OA.out ?_; rw [HA.out.1, HA.out.2]))
  clear TA IA OA BN3
  go_upto_region 3 with (first | (refine step_known (by kernel_rfl) (built_run rfl (by kernel_rfl) built_p1 _) ?_) | (refine step_known (by kernel_rfl) (built_run rfl (by kernel_rfl) built_p2 _) ?_) | (refine step_known (by kernel_rfl) (built_run rfl (by kernel_rfl) BP3.out _) ?_) | (refine wpList_store_mid rfl _ _ _ rfl wa.heap.size 0 CB (by rfl) (by rfl) TB.out IB.out OB.out ?_; rw [HB.out.1, HB.out.2]))
  clear TB IB OB BP3
  go_wp2_with (first | (refine wpList_load_by (by kernel_rfl) OTy _ rfl (.pointer (some ⟨B, 0, none⟩)) (.agg CA) (by rfl) LA.out ?_) | (refine wpList_load_by (by kernel_rfl) OTy _ rfl (.pointer (some ⟨B', 0, none⟩)) (.agg CB) (by rfl) LB.out ?_) | (refine Ld.wpList_build (by kernel_rfl) 45 OTy _ rfl (.agg zerC) 47 CA (by rfl) SA.out (by decide) (by decide) Try.underlying45 (by kernel_rfl) ?_; rw [HC.out.1, HC.out.2]) | (refine Ld.wpList_build (by kernel_rfl) 45 OTy _ rfl (.agg zerC) 47 CB (by rfl) SB.out (by decide) (by decide) Try.underlying45 (by kernel_rfl) ?_; rw [HD.out.1, HD.out.2]))
  refine CR.out.mono ?_
  rintro e w5 ⟨⟨q5, c5, n5, rfl, HP⟩, b5⟩
  obtain ⟨p, s, hn5, own, ss, sm, hp, hv⟩ := HP.out
  obtain ⟨y, rfl, hy⟩ := one_room sm (r := ⟨{ data := #[110] }, obN.n, 600, 0, 1⟩) (by rw [hp]; exact congrArg (fun z => [z]) room_ex)
  simp at hn5
  subst hn5
  obtain ⟨g, rfl, _, hg, hra⟩ := own_at own rfl (j := 0) (x := y) rfl
  have rv := hv y (by simp)
  rw [hy] at rv
  have rv5 := rv.below b5
  have LD5 := Lib.hid (load_room (x := y) (by rw [Nat.zero_mul] at hra; exact hra))
  obtain ⟨R, hR⟩ : ∃ R, R = y.1.1.1 := ⟨_, rfl⟩
  rw [← hR] at LD5 rv rv5
  have sR := rv.one.1
  have CL := rm_left w5 R _ rv5 ⟨by unfold I64; decide, by unfold I64; decide, by unfold I64; decide, by unfold I64; decide⟩
  have e1 : leftI (Rmo.n ⟨{ data := #[110] }, obN.n, 600, 0, 1⟩).cpu (Rmo.cpu ⟨{ data := #[110] }, obN.n, 600, 0, 1⟩) = 400 := by decide +kernel
  have e2 : leftI (Rmo.n ⟨{ data := #[110] }, obN.n, 600, 0, 1⟩).mem (Rmo.mem ⟨{ data := #[110] }, obN.n, 600, 0, 1⟩) = 0 := by decide +kernel
  rw [e1, e2] at CL
  have CL' := Lib.hid CL
  have CS : Hid (∀ W, Below wd.heap.size wd W → Calls Try.prog 11 #[.agg R] W fun e w' => e = .returned (.int .i64 600) ∧ Below W.heap.size W w') := fun W b => by
    have := rm_share W R _ (rv.below b) (by decide) (by decide)
    have e3 : shareR ⟨{ data := #[110] }, obN.n, 600, 0, 1⟩ = 600 := by decide +kernel
    rw [e3] at this
    exact this
  have fr : ∀ W : World, (Instr.field ResT (.agg #[.int .i64 400, .int .i64 0]) 0).run Try.prog W = .ok (.int .i64 400) W := fun W => by kernel_rfl
  have R10 : Hid (R[10]? = some (.int .i64 1)) := by
    obtain ⟨d0, d1, d2, d3, d4, d5, d6, eR, _⟩ := rv.lit
    show _ = _
    rw [eR]
    rfl
  have HX := Lib.hid (And.intro hra (And.intro hR (And.intro b5 sR)))
  clear CL e1 e2 rv rv5 own ss sm hp hv hy HP CR LA LB SA SB HA HB HC HD hg sR hra b5 hR
  go_wp2_with (refine wpList_load_by (by kernel_rfl) RT _ rfl (.pointer (some ⟨g, 0, none⟩)) (.agg R) (by rfl) LD5.out ?_)
  refine CL'.out.mono ?_
  rintro e w6 ⟨rfl, g6⟩
  obtain ⟨hra, hR, b5, sR⟩ := HX.out
  have hra6 : w6.rangeAt g 0 (enc y) := fun t v hv => by
    have := hra t v (by simpa using hv)
    rw [Nat.zero_mul] at this
    exact g6.cell this
  have LD6 := Lib.hid (load_room hra6)
  rw [← hR] at LD6
  have CS6 := Lib.hid (CS.out w6 (b5.trans (g6.below.mono b5.size)))
  have H6 := Lib.hid (And.intro hra6 (b5.trans (g6.below.mono b5.size)))
  clear hra hR b5 sR hra6 g6 LD5 CL' CS
  go_wp2_with (refine wpList_load_by (by kernel_rfl) RT _ rfl (.pointer (some ⟨g, 0, none⟩)) (.agg R) (by rfl) LD6.out ?_)
  refine CS6.out.mono ?_
  rintro e w7 ⟨rfl, b7⟩
  have d10 : w7.cell? ⟨g, 10, none⟩ = some (.int .i64 1) := by
    have := H6.out.1 10 (.int .i64 1) (by
      show y.1.1.1.toList[10]? = _
      rw [Array.getElem?_toList, ← HX.out.2.1]
      exact R10.out)
    rw [Nat.zero_add] at this
    exact (b7.cell (World.block_lt_of_cell? _ _ this)).trans this
  have FIN := Lib.hid (low.out.trans ((H6.out.2.trans (b7.mono H6.out.2.size)).mono low.out.size))
  clear b7 LD6 CS6 H6 HX R10
  go_wp2
  go_ret
  exact ⟨rfl, FIN.out⟩
end Go.Proofs.Ytdphooobgbminaa.Rm
