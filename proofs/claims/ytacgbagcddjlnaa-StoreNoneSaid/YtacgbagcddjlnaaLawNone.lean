/- Proved here: the law StoreNone of layer 8 holds for every input: a store that isn't there has nothing, and takes nothing. No conditions. -/
import Derived.Test.YtacgbagcddjlnaaStL
import Derived.Test.YtacgbagcddjlnaaStN
import Derived.Test.YtacgbagcddjlnaaVaW
import Derived.Test.YtacgbagcddjlnaaVLawBase
import Derived.RangeFuncNested
import Derived.RangeFuncBound
import Derived.RangeFuncCalls
import Derived.RangeFuncLeaves
import Derived.RangeFuncBox
import Derived.WalkKit
import Derived.OwnWalkIn
import Derived.TacticsInMore
import Derived.LoopNIn
import Derived.LoopIn
namespace Go.Proofs.Ytacgbagcddjlnaa.storeNone
open Go.ChangeShapes Go.WideShapes Go.ChangeAt Go.RowKit Go.Lib Go.Shelf Go.Sort Go.Deep
open Go.Joins (cell_of_block unfrozen_of_block block_setCell)
set_option linter.unusedVariables false
set_option linter.unusedSimpArgs false
set_option maxRecDepth 20000

set_option maxHeartbeats 4000000 in
theorem tells_none (n : Nat) (b : Nat) (k : Int) (w : World) (n₀ : Nat) (h1 : w.cell? ⟨b, 0, none⟩ = some (.pointer none)) (h2 : w.cell? ⟨b + 1, 0, none⟩ = some (.int .i64 k)) (hb : b + 1 < w.heap.size) :
    SeqStopsK Fence.wide n Try.prog 30 #[.pointer (some ⟨b, 0, none⟩), .pointer (some ⟨b + 1, 0, none⟩)] (fun x : Empty => x.elim) (Below n₀) (fun ys => ys = []) (fun _ => False) 0 w := fun l J Jx W hW _ _ hY h0 => by
  have c1 : W.cell? ⟨b, 0, none⟩ = some (.pointer none) := (hW.cell (p := ⟨b, 0, none⟩) (by show b < _; omega)).trans h1
  have c2 : W.cell? ⟨b + 1, 0, none⟩ = some (.int .i64 k) := (hW.cell (p := ⟨b + 1, 0, none⟩) hb).trans h2
  have HJ := Lib.hid h0
  have CA := Lib.hid (fun w : World => all_nil w k)
  clear h0 hY hW h1 h2
  refine callsIn_wide.2 ?_
  show Calls Try.prog 30 #[.func (.yield l) #[] #[], .pointer (some ⟨b, 0, none⟩), .pointer (some ⟨b + 1, 0, none⟩)] W _
  go_enter Try.func30, Try.ntmps30
  go_wp2_with fail
  refine (CA.out _).mono ?_
  rintro e w' ⟨rfl, rfl⟩
  go_wp2_with fail
  go_loopg [10] 0 (fun g vi wr => vi = .int .i64 0 ∧ wr = W)
  case atStart => exact ⟨rfl, rfl⟩
  case round =>
    obtain ⟨rfl, rfl⟩ := hrel
    go_wp2
    go_end0
    exact ⟨⟨_, rfl⟩, .inl ⟨[], rfl, HJ.out⟩⟩

set_option maxHeartbeats 16000000 in
theorem walk_at (W : World) (cs : Array Value) (ob : Ob) (hv : ObjV W cs ob) (F : FitsO ob) (kind ver : Int) :
    Calls Try.prog 5 #[.agg cs, .int .i64 kind, .int .u64 ver] W fun e w' => e = .returned (.bool true) ∧ Below W.heap.size W w' := by
  have mixed : Try.prog.follows .mixedOrders = true := by kernel_rfl
  have V := Lib.hid lives_any
  obtain ⟨B, hB⟩ : ∃ B, B = W.heap.size := ⟨_, rfl⟩
  obtain ⟨wb, hwb⟩ : ∃ wb, wb = W.alloc (.cells cs OT) := ⟨_, rfl⟩
  have G0 : Gr W wb := hwb ▸ (Gr.refl W).alloc _
  have b0 : wb.heap[B]? = some (.cells cs OT (0, 0)) := by rw [hwb, hB]; exact heap_alloc_new W _
  have hlt : B < wb.heap.size := (Array.getElem?_eq_some_iff.1 b0).1
  have LO : Hid (∀ w, Below wb.heap.size wb w → (Instr.loadAt OT (.pointer (some ⟨B, 0, none⟩))).run Try.prog w = .ok (.agg cs) w) := fun w g => load_ob ((g.block B hlt).trans b0) hv.1
  have CF := Lib.hid (fun (w : World) (g : Below wb.heap.size wb w) => few_any w cs ob (hv.below (G0.below.trans (g.mono G0.below.size))) F)
  have HW := Lib.hid (And.intro hwb (And.intro hB (And.intro G0 hv.1)))
  generalize fewB ob = fw at CF
  clear hv F hB hwb G0 b0 hlt
  refine (callsIn_wide (n := 6)).1 ?_
  refine callsIn_of_wp_marks Try.func5 rfl trivial ?_ rfl
  simp only [Try.ntmps5, List.size_toArray, List.length_cons, List.length_nil, Nat.reduceAdd, Nat.reduceSub, Array.replicate_succ, Array.replicate_zero, List.push_toArray, List.append_toArray, List.nil_append, List.cons_append]
  refine wpIn_wide.2 ?_
  go_upto_region 1 with fail
  rw [← HW.out.1, ← HW.out.2.1]
  go_wp2_with fail
  refine (V.out _).mono ?_
  rintro e w1 ⟨rfl, b1⟩
  have B1 := Lib.hid b1
  have L1 := Lib.hid (LO.out _ b1)
  clear b1
  go_wp2_with (refine wpList_load_by (by kernel_rfl) OT _ rfl (.pointer (some ⟨B, 0, none⟩)) (.agg cs) (by kernel_rfl) L1.out ?_)
  refine (CF.out _ B1.out).mono ?_
  rintro e w2 ⟨rfl, g2⟩
  have B2 : Hid (Below wb.heap.size wb w2) := B1.out.trans (g2.below.mono B1.out.size)
  clear g2 L1
  cases fw with
  | false =>
    go_wp2_with fail
    refine (V.out _).mono ?_
    rintro e w3 ⟨rfl, b3⟩
    have B3 : Hid (Below W.heap.size W w3) := HW.out.2.2.1.below.trans ((B2.out.mono HW.out.2.2.1.below.size).trans (b3.mono (Nat.le_trans HW.out.2.2.1.below.size B2.out.size)))
    clear b3
    go_wp2
    exact ⟨_, results_tmp rfl _ _ _, rfl, B3.out⟩
  | true =>
    have hsz := HW.out.2.2.2
    have L2 := Lib.hid (LO.out _ B2.out)
    have C2 := Lib.hid (create_nil w2 cs hsz)
    clear hsz
    go_upto_region 4 with fail
    go_wp2_with (refine wpList_load_by (by kernel_rfl) OT _ rfl (.pointer (some ⟨B, 0, none⟩)) (.agg cs) (by kernel_rfl) L2.out ?_)
    refine C2.out.mono ?_
    rintro e w3 ⟨rfl, b3⟩
    have B3 : Hid (Below wb.heap.size wb w3) := B2.out.trans (b3.mono B2.out.size)
    have hsz := HW.out.2.2.2
    have L3 := Lib.hid (LO.out _ B3.out)
    have C3 := Lib.hid (update_nil w3 cs hsz)
    clear hsz b3 L2 C2
    go_upto_region 5 with fail
    go_wp2_with (refine wpList_load_by (by kernel_rfl) OT _ rfl (.pointer (some ⟨B, 0, none⟩)) (.agg cs) (by kernel_rfl) L3.out ?_)
    refine C3.out.mono ?_
    rintro e w4 ⟨rfl, b4⟩
    have B4 : Hid (Below wb.heap.size wb w4) := B3.out.trans (b4.mono B3.out.size)
    clear b4 L3 C3
    go_upto_region 6 with fail
    go_wp2_with fail
    refine (delete_nil w4 kind ver _).mono ?_
    rintro e w' ⟨rfl, rfl⟩
    go_upto_region 7 with fail
    go_wp2_with fail
    refine (since_nil w4 ver).mono ?_
    rintro e w' ⟨rfl, rfl⟩
    obtain ⟨Z, hZ⟩ : ∃ Z, Z = (zerC : Array Value) := ⟨_, rfl⟩
    have CG := Lib.hid (get_nil w4 kind ⟨#[97]⟩)
    rw [← hZ] at CG
    have HZ := Lib.hid hZ
    clear hZ
    go_upto_region 8 with fail
    go_wp2_with fail
    refine CG.out.mono ?_
    rintro e w8 ⟨rfl, b8⟩
    have hzs : Z.size = 47 := by rw [HZ.out]; rfl
    have z0 : (w8.alloc (.cells zerC OT)).heap[w8.heap.size]? = some (.cells zerC OT (0, 0)) := heap_alloc_new w8 _
    obtain ⟨th, n0, fx1, c1⟩ := store_ob (base := w8.heap.size) z0 rfl hzs (Nat.le_refl _)
    obtain ⟨w9, hw9⟩ : ∃ W, W = (w8.alloc (.cells zerC OT)).setCells w8.heap.size 0 Z.toList := ⟨_, rfl⟩
    rw [← hw9] at n0 fx1 c1
    have b9 : Below w8.heap.size w8 w9 := by
      have g : Gr w8 (w8.alloc (.cells zerC OT)) := (Gr.refl w8).alloc _
      exact ((Xb.ofGr g w8.heap.size).trans ⟨c1.os, c1.tape, c1.output, c1.size, fun k hk hne => c1.block k hk (by simpa using hne)⟩).below (Nat.le_refl _) (Nat.le_refl _)
    have TH := Lib.hid th
    have IN : Hid ((Try.prog.info? OT).map (·.size) = some Z.size) := by show _ = _; rw [hzs]; exact info_ob47
    have ON : Hid (Z.all (·.oneCell') = true) := by show _ = _; rw [HZ.out]; exact zer_all
    have HW9 : Hid ((w8.alloc (.cells zerC OT)).setCells w8.heap.size 0 Z.toList = w9) := hw9.symm
    have B9 : Hid (Below W.heap.size W w9) := by
      have h4 := B4.out.trans (b8.mono B4.out.size)
      exact HW.out.2.2.1.below.trans ((h4.trans (b9.mono h4.size)).mono HW.out.2.2.1.below.size)
    clear th n0 fx1 c1 hw9 b9 b8 z0 hzs B4 B3 B2 B1 CG
    go_upto_region 9 with (refine wpList_store_mid rfl _ _ _ rfl w8.heap.size 0 Z (by rfl) (by rfl) TH.out IN.out ON.out ?_; rw [HW9.out])
    go_upto_region 10 with fail
    go_wp2_with fail
    refine (list_any _ (.pointer none) kind ⟨none, rfl⟩).mono ?_
    rintro e w' ⟨rfl, rfl⟩
    go_wp2_with fail
    obtain ⟨b, hb⟩ : ∃ b, b = w9.heap.size := ⟨_, rfl⟩
    obtain ⟨wl, hwl⟩ : ∃ W, W = (((w9.alloc (.cells #[.int .i64 0] 3)).alloc (.cells #[.pointer none] 25)).alloc (.cells #[.int .i64 kind] 3)) := ⟨_, rfl⟩
    have hls : wl.heap.size = b + 3 := by rw [hwl, hb]; simp
    have hg1 : Gr w9 wl := hwl ▸ (((Gr.refl w9).alloc _).alloc _).alloc _
    have k0 : wl.cell? ⟨b, 0, none⟩ = some (.int .i64 0) := by
      have h := cell_of_block (heap_alloc_new w9 (.cells #[.int .i64 0] 3)) 0
      have g : Gr (w9.alloc (.cells #[.int .i64 0] 3)) wl := hwl ▸ ((Gr.refl _).alloc _).alloc _
      rw [hb, World.cell?_of_block (g.heap (by simp))]
      exact h
    have k1 : wl.cell? ⟨b + 1, 0, none⟩ = some (.pointer none) := by
      have h := cell_of_block (heap_alloc_new (w9.alloc (.cells #[.int .i64 0] 3)) (.cells #[.pointer none] 25)) 0
      have g : Gr ((w9.alloc (.cells #[.int .i64 0] 3)).alloc (.cells #[.pointer none] 25)) wl := hwl ▸ (Gr.refl _).alloc _
      have e : (w9.alloc (.cells #[.int .i64 0] 3)).heap.size = b + 1 := by rw [hb]; simp
      rw [e] at h
      rw [World.cell?_of_block (g.heap (by simp; omega))]
      exact h
    have k2 : wl.cell? ⟨b + 1 + 1, 0, none⟩ = some (.int .i64 kind) := by
      have h := cell_of_block (heap_alloc_new ((w9.alloc (.cells #[.int .i64 0] 3)).alloc (.cells #[.pointer none] 25)) (.cells #[.int .i64 kind] 3)) 0
      have e : ((w9.alloc (.cells #[.int .i64 0] 3)).alloc (.cells #[.pointer none] 25)).heap.size = b + 1 + 1 := by rw [hb]; simp
      rw [e, ← hwl] at h
      exact h
    have BL : Below W.heap.size W wl := B9.out.trans (hg1.below.mono B9.out.size)
    have hlW : W.heap.size ≤ wl.heap.size := BL.size
    have TN := tells_none (6 - 1) (b + 1) kind wl W.heap.size k1 k2 (by omega)
    rw [← hwl, ← hb]
    refine (wpIn_wide (n := 6)).1 ?_
    refine wpIn_rangeFunc_ownF (α := Empty) rfl (by decide) (gf := 30) (lb := #[.pointer (some ⟨b + 1, 0, none⟩), .pointer (some ⟨b + 1 + 1, 0, none⟩)]) rfl trivial (enters_of Try.func30 (by kernel_rfl) rfl) TN belowK_t (belowK_b hlW) (Below.refl _ _) (fun x => x.elim)
      (fun _ W' => W'.cell? ⟨b, 0, none⟩ = some (.int .i64 0) ∧ Below W.heap.size W W') (fun _ _ _ => False)
      (OwnFrom.and (Own.from (fun s A B row hs hg hr => cell_kept hs hg hr) _) (ownFrom_below (Nat.le_refl _) hlW)) (fun c => Own.from (fun s A B row hs hg hr => hs) _) ⟨k0, BL⟩ (fun x => x.elim) ?assign ?body ?done ?stop
    case assign => intro l x; exact x.elim
    case body => intro l pre x; exact x.elim
    case stop => rintro D c pre Wd hD h; exact h.elim
    case done =>
      rintro D ys Wd hD rfl ⟨hc, hB⟩ hK
      have hlw9 : w9.heap.size ≤ D := by have := hg1.below.size; omega
      have HD := Lib.hid (And.intro hlw9 (And.intro hB hK))
      clear hD hB hK TN BL hlW k0 k1 k2 hg1 hls hwl hb hlw9
      have C1 : Hid (∀ n os, Calls Try.prog 13 #[.pointer none] (grow (Wd.drewN n) os) fun e w' => e = .returned (.int .i64 0) ∧ Gr (grow (Wd.drewN n) os) w') := fun n os => (len_nil _).mono fun e w' h => ⟨h.1, h.2 ▸ Gr.refl _⟩
      have C2 : Hid (∀ n os, Calls Try.prog 10 #[.pointer none] (grow (Wd.drewN n) os) fun e w' => e = .returned (.int .u64 0) ∧ Gr (grow (Wd.drewN n) os) w') := fun n os => (now_nil _).mono fun e w' h => ⟨h.1, h.2 ▸ Gr.refl _⟩
      have C3 : Hid (∀ n os, Calls Try.prog 20 #[.pointer none] (grow (Wd.drewN n) os) fun e w' => e = .returned (.pointer none) ∧ Gr (grow (Wd.drewN n) os) w') := fun n os => (copy_nil _).mono fun e w' h => ⟨h.1, h.2 ▸ Gr.refl _⟩
      go_wp2_with fail
      have hcg : ∀ n os, (grow (Wd.drewN n) os).cell? ⟨b, 0, none⟩ = some (.int .i64 0) := fun n os => cell_grown (World.block_lt_of_cell? _ _ hc) hc n os
      refine wp_region_quiet_grown (by assumption) (by kernel_rfl) ?_
      repeat (quiet_step (first | (go_at_call 13; refine gr_of (C1.out _ _)) | (go_at_call 10; refine gr_of (C2.out _ _)) | (go_at_call 20; refine gr_of (C3.out _ _))))
      refine wpQuiet_nil ?_
      intro _ hw'
      obtain ⟨⟨nq, osq⟩, hw''⟩ := hw'
      subst hw''
      obtain ⟨hD, hB, hK⟩ := HD.out
      have G : Gr Wd (grow (Wd.drewN nq) osq) := Gr.put _ _ _
      obtain ⟨we, hwe⟩ : ∃ w, w = grow (Wd.drewN nq) osq := ⟨_, rfl⟩
      have hKe : we.heap[D]? = some (.deferred (some [])) := by rw [hwe, G.heap (Array.getElem?_eq_some_iff.1 hK).1]; exact hK
      have hBe : Below W.heap.size W we := by rw [hwe]; exact hB.trans (G.below.mono hB.size)
      have hDW : W.heap.size ≤ D := by have := B9.out.size; have := HD.out.1; omega
      rw [← hwe]
      have FIN := Lib.hid (And.intro hKe (And.intro hBe hDW))
      clear hD hB hK G hwe hKe hBe hDW HD
      go_wp2
      refine ⟨by simp, .inl ⟨_, _, rfl, run_takeDeferred FIN.out.1, ?_⟩⟩
      exact ⟨_, results_tmp rfl _ _ _, rfl, FIN.out.2.1.trans (belowK_b (w := W) (Nat.le_refl _) we D _ _ FIN.out.2.2 FIN.out.1 rfl rfl)⟩

theorem walk {H : Type} {enc : TypeId × Value → H} {base : Nat} (W : World) (v0 : Value) (d0 : DataW H) (p0 : List MemPlace) (o0 : Value.okWide Try.prog W .any base 56 v0) (h0 : DataW.Trod enc Try.prog W 0 (fun _ => true) true 56 v0 d0 p0)
    (v1 : Value) (d1 : DataW H) (p1 : List MemPlace) (o1 : Value.okWide Try.prog W .any base 3 v1) (h1 : DataW.Trod enc Try.prog W 0 (fun _ => true) true 3 v1 d1 p1)
    (v2 : Value) (d2 : DataW H) (p2 : List MemPlace) (o2 : Value.okWide Try.prog W .any base 31 v2) (h2 : DataW.Trod enc Try.prog W 0 (fun _ => true) true 31 v2 d2 p2) (wt : Wt 56 d0) (wt1 : Wt 3 d1) (wt2 : Wt 31 d2) :
    Calls Try.prog 5 #[v0, v1, v2] W fun e W' => e = .returned (.bool true) ∧ Below W.heap.size W W' := by
  obtain ⟨cs, o, rfl, hv, F⟩ := open_ob o0 h0 wt
  obtain ⟨n, rfl, rfl, rfl, hn⟩ := open_int Try.underlying3 o1 h1
  obtain ⟨m, rfl, rfl, rfl, hm⟩ := open_int Try.underlying31 o2 h2
  exact walk_at W cs o hv F n m

/-! ### THE ROW's STEP -/
set_option maxRecDepth 100000 in
theorem lifted (os : Os) (started : os.Started) (H : Type) (enc : TypeId × Value → H) :
    ReturnsInHanded {} Try.checked os 5 .any (Rows.storeNoneSpec.pre6 enc Try.prog Try.f5 Rows.storeNoneRow.domain false) (Rows.storeNoneSpec.post enc Try.prog Try.f5 false true false false) := by
  refine returnsInHanded_of_change_sized (C := Try.checked) own started (by kernel_rfl) Try.func5
    (ChangeSpec.witness6 (enc := enc) (C := Try.checked) false ⟨#[], #[.agg zerC, .int .i64 0, .int .u64 0], []⟩ 8 (by kernel_rfl) (by kernel_rfl) (by kernel_rfl) (by kernel_rfl)) ?_
  intro W base args ds gs before hval0 hW hcnd hsz0 _
  have hval : ∀ (j : Nat) t v, Try.f5.params[j]? = some t → args[j]? = some v → Value.okWide Try.prog W .any base t v := hval0
  have hW' := hW
  obtain ⟨p, q, hA0, hV, rfl, hfz, hnd⟩ := hW
  have hA : DataW.TrodAll enc Try.prog W 0 (fun _ => true) true Try.f5.params.toList args.toList ds p := hA0
  have hlt : ∀ x ∈ p, x.block < W.heap.size := fun x hx => hW'.lt x (List.mem_append_left _ hx)
  rw [Try.params5] at hA hval
  have hread : ∀ t ∈ [56, 3, 31], Try.prog.readableRec t = true ∧ t < Try.prog.types.size := by
    intro t ht
    simp only [List.mem_cons, List.not_mem_nil, or_false] at ht
    rcases ht with rfl | rfl | rfl <;> exact ⟨by kernel_rfl, of_decide_eq_true (by kernel_rfl)⟩
  have again : ∀ (W' : World), Below W.heap.size W W' → ∀ sp : Nat → Bool, (∀ x ∈ p, sp x.block = true) → DataW.TrodAll enc Try.prog W' 0 sp true [56, 3, 31] args.toList ds p :=
    fun W' hb sp hsp => all_again (by kernel_rfl) hb [56, 3, 31] args.toList ds p hread hA hlt hsp
  obtain ⟨v0, v1, v2, d0, d1, d2, p0, p1, p2, rfl, rfl, rfl, h0, h1, h2⟩ := trodAll_three hA
  obtain ⟨rfl, rfl⟩ := trodVars_none hV
  have wt0 : Wt 56 d0 := fun n hn => by
    have := List.all_eq_true.1 hsz0 n (DataW.weights_mem_each (j := 0) (t := 56) (d := d0) (by kernel_rfl) rfl n hn)
    simpa using this
  have wt1 : Wt 3 d1 := fun n hn => by
    have := List.all_eq_true.1 hsz0 n (DataW.weights_mem_each (j := 1) (t := 3) (d := d1) (by kernel_rfl) rfl n hn)
    simpa using this
  have wt2 : Wt 31 d2 := fun n hn => by
    have := List.all_eq_true.1 hsz0 n (DataW.weights_mem_each (j := 2) (t := 31) (d := d2) (by kernel_rfl) rfl n hn)
    simpa using this
  clear hA0 hval0
  simp only [List.append_nil] at hW'
  refine (walk W v0 d0 p0 (hval 0 56 v0 rfl rfl) h0 v1 d1 p1 (hval 1 3 v1 rfl rfl) h1 v2 d2 p2 (hval 2 31 v2 rfl rfl) h2 wt0 wt1 wt2).mono fun e W' ⟨he, hg⟩ => ?_
  subst he
  exact ⟨_, rfl, post_below hW' hg (fun _ _ _ => trodAll_mk1 (shut_bool Try.underlying4 _)) (fun sp hsp => again W' hg sp hsp) (fun _ => rfl) (ok_one (by kernel_rfl) rfl (okWide_bool_mk Try.underlying4 _))⟩

theorem over : Rows.storeNoneRow.holds Try.pinned (OpenSpec.ofChange Rows.storeNoneSpec) :=
  OpenClaim.holds_of_wide 5 Try.f5 rfl rfl rfl rfl rfl rfl rfl ⟨rfl, rfl, rfl, rfl, rfl⟩ rfl rfl rfl rfl rfl (by kernel_rfl) Try.func5 (by kernel_rfl)
    (of_decide_eq_true (by kernel_rfl)) (by unfold Func.isWrapper; first | (rw [if_pos (by decide +kernel)]; kernel_rfl) | (rw [if_neg (by decide +kernel)]; exact ⟨rfl, rfl⟩))
    (fun os started H enc _ => lifted os started H enc)

/-- The statement. -/
theorem proved : Rows.StoreNoneSaid :=
  over
#print axioms proved
end Go.Proofs.Ytacgbagcddjlnaa.storeNone
