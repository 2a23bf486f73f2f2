/- Proved here: the law StoreGone of layer 8 holds for every input: of a store with more changes than are kept the last ones are told, and no more; it takes so many objects as may be. No conditions. -/
import Derived.Test.YtacgbagcddjlnaaStL
import Derived.Test.YtacgbagcddjlnaaStS
import Derived.Test.YtacgbagcddjlnaaVLawBase
namespace Go.Proofs.Ytacgbagcddjlnaa.storeGone
open Go.ChangeShapes Go.WideShapes Go.ChangeAt Go.RowKit Go.Lib Go.Shelf Go.Sort Go.Deep
open Go.Joins (cell_of_block unfrozen_of_block block_setCell)
set_option linter.unusedVariables false
set_option linter.unusedSimpArgs false
set_option maxRecDepth 20000

abbrev n1 : ByteArray := ⟨#[110, 49]⟩
/-- Behind so many changes of the one object. -/
def At (base : Nat) (W w : World) (B : Nat) (Z : Array Value) (sp j : Nat) : Prop :=
  ∃ S hist ver, hist.length = j ∧ ver < 1000000 ∧ Z = nnC n1 ver ∧ Beside base w B Z S sp 1 [nnO n1 j] hist ∧ (∀ i e, hist[i]? = some e → e.ver = i + 1) ∧ Below base W w

theorem vers_app {hist : List Ev} {x : Ev} (h : ∀ i e, hist[i]? = some e → e.ver = i + 1) (hx : x.ver = hist.length + 1) : ∀ i e, (hist ++ [x])[i]? = some e → e.ver = i + 1 := by
  intro i e he
  by_cases hi : i < hist.length
  · rw [List.getElem?_append_left hi] at he
    exact h i e he
  · rw [List.getElem?_append_right (by omega)] at he
    by_cases hz : i - hist.length = 0
    · rw [hz] at he
      simp at he
      subst he
      omega
    · rw [List.getElem?_eq_none (by simp; omega)] at he
      cases he

set_option maxHeartbeats 16000000 in
theorem walk_at (W : World) (k : Nat) (hk : k < 256) :
    Calls Try.prog 4 #[.int .u8 (k : Int)] W fun e w' => e = .returned (.bool true) ∧ Below W.heap.size W w' := by
  have mixed : Try.prog.follows .mixedOrders = true := by kernel_rfl
  obtain ⟨base, hbase⟩ : ∃ b, b = W.heap.size := ⟨_, rfl⟩
  have V := Lib.hid (lives_any W)
  have HB := Lib.hid hbase
  clear hbase
  go_enter Try.func4, Try.ntmps4
  go_wp2_with fail
  refine V.out.mono ?_
  rintro e w0 ⟨rfl, b0⟩
  have B0 := Lib.hid b0
  have CN := Lib.hid (new_any base w0 1 (by decide) (by decide) (by have := b0.size; have := HB.out; omega))
  clear b0 V
  go_upto_region 3 with fail
  go_wp2_with fail
  refine CN.out.mono ?_
  rintro e w1 ⟨⟨S, sp, rfl, s1, p1⟩, b1⟩
  have H1 := Lib.hid (And.intro s1 (And.intro p1 b1))
  obtain ⟨Z, hZ⟩ : ∃ Z, Z = nnC n1 0 := ⟨_, rfl⟩
  have CD := Lib.hid (nn_any w1 n1)
  rw [← hZ] at CD
  have HZ := Lib.hid hZ
  clear s1 p1 b1 CN hZ
  go_upto_region 4 with fail
  go_wp2_with fail
  refine CD.out.mono ?_
  rintro e w2 ⟨rfl, b2⟩
  obtain ⟨s1, p1, b1⟩ := H1.out
  have hsz : Z.size = 47 := by rw [HZ.out]; rfl
  have z0 : (w2.alloc (.cells zerC OT)).heap[w2.heap.size]? = some (.cells zerC OT (0, 0)) := heap_alloc_new w2 _
  obtain ⟨th, n0, fx1, c1⟩ := store_ob (base := w2.heap.size) z0 rfl hsz (Nat.le_refl _)
  obtain ⟨w3, hw3⟩ : ∃ W, W = (w2.alloc (.cells zerC OT)).setCells w2.heap.size 0 Z.toList := ⟨_, rfl⟩
  obtain ⟨B, hB⟩ : ∃ B, B = w2.heap.size := ⟨_, rfl⟩
  rw [← hw3] at n0 fx1 c1
  rw [← hB] at n0 fx1 c1
  have lo : base ≤ w1.heap.size := by have := HB.out; have := B0.out.size; have := b1.size; omega
  have b3 : Below w1.heap.size w1 w3 := by
    have g : Gr w2 (w2.alloc (.cells zerC OT)) := (Gr.refl w2).alloc _
    exact ((Xb.ofBelow b2 B).trans ((Xb.ofGr g B).trans ⟨c1.os, c1.tape, c1.output, c1.size, fun k hk hne => c1.block k hk (by simpa using hne)⟩)).below (by rw [hB]; exact b2.size) (Nat.le_refl _)
  have M3 : Beside base w3 B Z S sp 1 [] [] := ⟨n0, s1.gr b3, fun hm => by have := (s1.prot B hm).2.1; have := b2.size; omega, by have := b2.size; omega⟩
  have TH := Lib.hid th
  have IN : Hid ((Try.prog.info? OT).map (·.size) = some Z.size) := by show _ = _; rw [hsz]; exact info_ob47
  have ON : Hid (Z.all (·.oneCell') = true) := by show _ = _; rw [HZ.out]; exact objV_one (nn_obj W _ 0 (by decide))
  have HW : Hid ((w2.alloc (.cells zerC OT)).setCells w2.heap.size 0 Z.toList = w3 ∧ w2.heap.size = B) := ⟨hw3.symm, hB.symm⟩
  have W3 : Hid (Below base W w3) := (B0.out.mono (by have := HB.out; omega)).trans ((b1.mono (by have := HB.out; have := B0.out.size; omega)).trans (b3.mono lo))
  have L3 := Lib.hid (M3.load hsz)
  have C3 := Lib.hid (one_create base w3 S sp 1 n1 M3.st rfl nn1_chk (by decide))
  rw [← HZ.out] at C3
  have H3 := Lib.hid M3
  clear s1 p1 b1 hB z0 th n0 fx1 c1 hw3 b3 M3 b2 H1 CD hsz lo
  go_upto_region 5 with (refine wpList_store_mid rfl _ _ _ rfl w2.heap.size 0 Z (by rfl) (by rfl) TH.out IN.out ON.out ?_; rw [HW.out.1, HW.out.2])
  go_wp2_with (refine wpList_load_by (by kernel_rfl) OT _ rfl (.pointer (some ⟨B, 0, none⟩)) (.agg Z) (by kernel_rfl) L3.out ?_)
  refine C3.out.mono ?_
  rintro e w4 ⟨rfl, a4⟩
  obtain ⟨S4, M4, b4⟩ := H3.out.after a4
  have A4 : Hid (At base W w4 B Z sp 1) := ⟨S4, [⟨0, 2, n1, 1⟩], 0, rfl, by decide, HZ.out, M4, fun i e he => by
    cases i with
    | zero => simp at he; subst he; rfl
    | succ i => simp at he, W3.out.trans b4⟩
  clear a4 M4 b4 L3 C3 TH IN ON HW H3 W3 HZ
  obtain ⟨N, hN⟩ : ∃ N, N = 1100 + k := ⟨_, rfl⟩
  have hNi : 1100 + (k : Int) = (N : Int) := by omega
  have hN1 : N < 2000 := by omega
  have HN := Lib.hid hN
  clear hN
  go_wp2_with fail
  go_loopg [6, 30] N (fun g vv vi wr => ∃ j : Nat, vi = .int .i64 (j : Int) ∧ vv = .int .u64 ((j + 1 : Nat) : Int) ∧ j ≤ N ∧ N - j ≤ g ∧ Hid (∃ Z, At base W wr B Z sp (j + 1)))
  case atStart => exact ⟨0, rfl, rfl, Nat.zero_le _, by omega, Z, A4.out⟩
  case round =>
    clear A4
    obtain ⟨j, rfl, rfl, h2, h3, HA⟩ := hrel
    by_cases hlt : j < N
    · obtain ⟨Y, S5, hist, ver, hl, hver, hY, M5, hvs, b5⟩ := HA.out
      obtain ⟨w5, hw5⟩ : ∃ W, W = wr.setCell ⟨B, 2, none⟩ (.int .u64 ((j : Int) + 1)) := ⟨_, rfl⟩
      obtain ⟨Y1, hY1⟩ : ∃ Z1, Z1 = nnC n1 (j + 1) := ⟨_, rfl⟩
      have M6 : Beside base w5 B Y1 S5 sp 1 [nnO n1 hist.length] hist := by
        have := M5.set 2 (.int .u64 ((j : Int) + 1))
        rw [hw5, hY1, hl]
        rw [hY] at this
        exact this
      have q4 : wr.cell? ⟨B, 2, none⟩ = some (.int .u64 (ver : Int)) := by rw [cell_of_block M5.blk 2, hY]; rfl
      have f4 : wr.frozen? ⟨B, 2, none⟩ = false := unfrozen_of_block M5.blk 2
      have hz1 : Y1.size = 47 := by rw [hY1]; rfl
      have L5 := Lib.hid (M6.load hz1)
      have C5 := Lib.hid (one_update base w5 S5 sp 1 n1 (j + 1) hist M6.st rfl nn1_chk (by omega) hl.symm)
      rw [← hY1] at C5
      have HW5 := Lib.hid hw5
      have b6 : Below base W w5 := by
        have := M5.lo
        rw [hw5]
        exact b5.setCell (by exact this) _
      have H5 := Lib.hid (And.intro M6 (And.intro b6 (And.intro hvs (And.intro hl hY1))))
      clear M5 hvs b5 hw5 M6 hz1 b6 hY hY1 hver HA hl
      go_upto_region 9 with fail
      rw [← HW5.out]
      go_wp2_with (refine wpList_load_by (by kernel_rfl) OT _ rfl (.pointer (some ⟨B, 0, none⟩)) (.agg Y1) (by kernel_rfl) L5.out ?_)
      refine C5.out.mono ?_
      rintro e w6 ⟨rfl, a6⟩
      have N6 : Hid (∃ Z, At base W w6 B Z sp (j + 1 + 1)) := by
        obtain ⟨M6, b6, hvs, hl, hY1⟩ := H5.out
        obtain ⟨S6, M7, b7⟩ := M6.after a6
        refine ⟨Y1, S6, _, j + 1, by rw [List.length_append, hl]; rfl, by omega, hY1, by rw [← hl]; exact M7, vers_app hvs rfl, b6.trans b7⟩
      have hlh : (hist.length : Int) = (j : Int) + 1 := by have := H5.out.2.2.2.1; omega
      clear a6 L5 C5 H5 q4 f4 HW5
      go_wp2
      go_roundg (N - (j + 1))
      case measure => omega
      case rel => exact ⟨j + 1, by push_cast; rfl, by push_cast; rfl, by omega, by omega, N6.out⟩
    · have hj : j = N := by omega
      subst hj
      have hk2 := HN.out
      obtain ⟨va, hva⟩ : ∃ v, v = j + 1 - 1024 := ⟨_, rfl⟩
      obtain ⟨vb, hvb⟩ : ∃ v, v = j + 1 - 1025 := ⟨_, rfl⟩
      obtain ⟨vc, hvc⟩ : ∃ v, v = j + 1 - 1023 := ⟨_, rfl⟩
      have ea : (j : Int) + 1 - 1024 = (va : Int) := by omega
      have eb : (j : Int) + 1 - 1025 = (vb : Int) := by omega
      have ec : (j : Int) + 1 - 1023 = (vc : Int) := by omega
      have ed : 1101 + (k : Int) = (j : Int) + 1 := by omega
      obtain ⟨Y, S5, hist, ver, hl, hver, hY, M5, hvs, b5⟩ := HA.out
      have CA := Lib.hid (since_any base wr S5 sp 1 _ hist va M5.st (by omega) (by omega) (by omega))
      have HP := Lib.hid (And.intro hl (And.intro M5 (And.intro hvs (And.intro b5 (And.intro hva (And.intro hvb (And.intro hvc hk2)))))))
      clear hl hver hY M5 hvs b5 hva hvb hvc hk2 HA hNi HN
      go_wp2_with fail
      refine CA.out.mono ?_
      rintro e w7 ⟨⟨v7, rfl, o7⟩, b7⟩
      obtain ⟨hl, M5, hvs, b5, hva, hvb, hvc, hk2⟩ := HP.out
      have hdl : (hist.drop va).length = 1024 := by rw [List.length_drop]; omega
      rw [hdl] at o7
      obtain ⟨g, cap, hv7, hgl, hd3⟩ : ∃ g cap, v7 = .slice (some ⟨g, 0, none⟩) 1024 cap ∧ g < w7.heap.size ∧ w7.cell? ⟨g, 3, none⟩ = some (.int .u64 (vc : Int)) := by
        rcases o7.2 with ⟨_, h0⟩ | ⟨g, cap, cur, e1, e2, e3, _⟩
        · cases h0
        · refine ⟨g, cap, e1, (Array.getElem?_eq_some_iff.1 e3).1, ?_⟩
          obtain ⟨x, hx⟩ : ∃ x, hist[va]? = some x := ⟨hist[va]'(by omega), List.getElem?_eq_getElem (by omega)⟩
          have hx0 : (hist.drop va)[0]? = some x := by rw [List.getElem?_drop]; exact hx
          have := o7.cells (g := g) (by rw [e1]; rfl) 3 (.int .u64 (x.ver : Int)) (by have := flat_at lenE (hist.drop va) 0 3 x hx0 (by decide); rw [Nat.zero_mul, Nat.zero_add] at this; rw [this]; rfl)
          rw [add_none', Nat.zero_add] at this
          rw [this, hvs va x hx]
          congr 2
          omega
      have M7 := M5.gr b7
      have CB := Lib.hid (since_gone base w7 S5 sp 1 _ hist vb M7.st (by omega) (by omega) (by omega))
      have H7 := Lib.hid (And.intro M7 (And.intro b7 (And.intro hgl hd3)))
      subst hv7
      clear hl M5 hvs b5 hva hvb hvc hk2 hdl hgl hd3 M7 b7 o7 CA
      go_wp2_with fail
      refine CB.out.mono ?_
      rintro e w8 ⟨rfl, g8⟩
      have G8 := Lib.hid g8
      obtain ⟨Z9, hZ9⟩ : ∃ Z, Z = nnC ⟨#[110, 50]⟩ 0 := ⟨_, rfl⟩
      have CD := Lib.hid (nn_any w8 ⟨#[110, 50]⟩)
      rw [← hZ9] at CD
      have HZ9 := Lib.hid hZ9
      clear hZ9
      clear g8 CB
      go_upto_region 13 with fail
      go_wp2_with fail
      refine CD.out.mono ?_
      rintro e w9 ⟨rfl, b9⟩
      obtain ⟨M7, b7, hgl, hd3⟩ := H7.out
      have M9 := (M7.gr G8.out.below).gr b9
      have hcr : creE (dfl (nnO ⟨#[110, 50]⟩ 0)) [nnO n1 (j + 1)] 1 = 10 := by
        rw [nn_dfl, creE, if_neg (by rw [nn2_chk]; exact fun h => h rfl), if_neg ?_, if_pos (by simp)]
        simp [hit, Key, nnO]
        decide
      have CC : Hid (Calls Try.prog 15 #[.pointer (some ⟨sp, 0, none⟩), .agg (nnC ⟨#[110, 50]⟩ 0)] w9 fun e w' => e = .returned (.tuple #[.int .u64 0, .int .i64 10]) ∧ Below w9.heap.size w9 w') := by
        refine (create_any base w9 S5 sp 1 _ hist (nnC ⟨#[110, 50]⟩ 0) (nnO ⟨#[110, 50]⟩ 0) M9.st (nn_kept base w9 _ 0 (by decide) rfl) (by have := HP.out.1; omega) (by rw [nn_dfl]; exact nn2_chk)).mono ?_
        rintro e w' (⟨h1, h2, h3⟩ | ⟨h1, _⟩)
        · rw [hcr] at h2; exact ⟨h2, h3⟩
        · rw [hcr] at h1; cases h1
      have H9 : Hid (Below w7.heap.size w7 w9 ∧ w9.heap.size = w9.heap.size) := ⟨G8.out.below.trans (b9.mono G8.out.below.size), rfl⟩
      rw [← HZ9.out] at CC
      clear M9 hcr M7 b7 hgl hd3 b9 CD
      go_wp2_with fail
      refine CC.out.mono ?_
      rintro e w10 ⟨rfl, b10⟩
      obtain ⟨M7, b7, hgl, hd3⟩ := H7.out
      have b710 : Below w7.heap.size w7 w10 := H9.out.1.trans (b10.mono H9.out.1.size)
      have q10 : w10.cell? ⟨g, 3, none⟩ = some (.int .u64 (vc : Int)) := by rw [World.cell?_of_block (b710.block g hgl)]; exact hd3
      have HZ2 : base ≤ wr.heap.size := by have := HP.out.2.2.2.1.size; have := HB.out; omega
      have FIN : Hid (Below W.heap.size W w10) := by
        have h := HP.out.2.2.2.1.trans ((b7.mono HZ2).trans (b710.mono (Nat.le_trans HZ2 b7.size)))
        rw [HB.out] at h
        exact h
      clear M7 b7 hgl hd3 b710 b10 CC H9 H7 G8 HP
      go_wp2
      go_ret
      exact ⟨rfl, FIN.out⟩

theorem walk {H : Type} {enc : TypeId × Value → H} {base : Nat} (W : World) (v0 : Value) (d0 : DataW H) (p0 : List MemPlace) (o0 : Value.okWide Try.prog W .any base 5 v0) (h0 : DataW.Trod enc Try.prog W 0 (fun _ => true) true 5 v0 d0 p0) :
    Calls Try.prog 4 #[v0] W fun e W' => e = .returned (.bool true) ∧ Below W.heap.size W W' := by
  obtain ⟨n, rfl, rfl, rfl, hn⟩ := open_int Try.underlying5 o0 h0
  obtain ⟨k, rfl⟩ : ∃ k : Nat, n = (k : Int) := by
    have e1 : IntKind.u8.min = 0 := rfl
    simp [Lit.wf, e1] at hn
    exact ⟨n.toNat, by omega⟩
  refine walk_at W k ?_
  have e2 : IntKind.u8.max = 255 := rfl
  simp [Lit.wf, e2] at hn
  omega

/-! ### THE ROW's STEP -/
set_option maxRecDepth 100000 in
theorem lifted (os : Os) (started : os.Started) (H : Type) (enc : TypeId × Value → H) :
    ReturnsInHanded {} Try.checked os 4 .any (Rows.storeGoneSpec.pre6 enc Try.prog Try.f4 Rows.storeGoneRow.domain false) (Rows.storeGoneSpec.post enc Try.prog Try.f4 false true false false) := by
  refine returnsInHanded_of_change (C := Try.checked) own started (by kernel_rfl) Try.func4
    (ChangeSpec.witness6 (enc := enc) (C := Try.checked) false ⟨#[], #[.int .u8 0], []⟩ 8 (by kernel_rfl) (by kernel_rfl) (by kernel_rfl) (by kernel_rfl)) ?_
  intro W base args ds gs before hval0 hW hcnd _
  have hval : ∀ (j : Nat) t v, Try.f4.params[j]? = some t → args[j]? = some v → Value.okWide Try.prog W .any base t v := hval0
  have hW' := hW
  obtain ⟨p, q, hA0, hV, rfl, hfz, hnd⟩ := hW
  have hA : DataW.TrodAll enc Try.prog W 0 (fun _ => true) true Try.f4.params.toList args.toList ds p := hA0
  have hlt : ∀ x ∈ p, x.block < W.heap.size := fun x hx => hW'.lt x (List.mem_append_left _ hx)
  rw [Try.params4] at hA hval
  have hread : ∀ t ∈ [5], Try.prog.readableRec t = true ∧ t < Try.prog.types.size := by
    intro t ht
    simp only [List.mem_cons, List.not_mem_nil, or_false] at ht
    rcases ht with rfl <;> exact ⟨by kernel_rfl, of_decide_eq_true (by kernel_rfl)⟩
  have again : ∀ (W' : World), Below W.heap.size W W' → ∀ sp : Nat → Bool, (∀ x ∈ p, sp x.block = true) → DataW.TrodAll enc Try.prog W' 0 sp true [5] args.toList ds p :=
    fun W' hb sp hsp => all_again (by kernel_rfl) hb [5] args.toList ds p hread hA hlt hsp
  obtain ⟨v0, d0, rfl, rfl, h0⟩ := trodAll_one hA
  obtain ⟨rfl, rfl⟩ := trodVars_none hV
  clear hA0 hval0
  simp only [List.append_nil] at hW'
  refine (walk W v0 d0 _ (hval 0 5 v0 rfl rfl) h0).mono fun e W' ⟨he, hg⟩ => ?_
  subst he
  exact ⟨_, rfl, post_below hW' hg (fun _ _ _ => trodAll_mk1 (shut_bool Try.underlying4 _)) (fun sp hsp => again W' hg sp hsp) (fun _ => rfl) (ok_one (by kernel_rfl) rfl (okWide_bool_mk Try.underlying4 _))⟩

theorem over : Rows.storeGoneRow.holds Try.pinned (OpenSpec.ofChange Rows.storeGoneSpec) :=
  OpenClaim.holds_of_wide 4 Try.f4 rfl rfl rfl rfl rfl rfl rfl ⟨rfl, rfl, rfl, rfl, rfl⟩ rfl rfl rfl rfl rfl (by kernel_rfl) Try.func4 (by kernel_rfl)
    (of_decide_eq_true (by kernel_rfl)) (by unfold Func.isWrapper; first | (rw [if_pos (by decide +kernel)]; kernel_rfl) | (rw [if_neg (by decide +kernel)]; exact ⟨rfl, rfl⟩))
    (fun os started H enc _ => lifted os started H enc)

/-- The statement. -/
theorem proved : Rows.StoreGoneSaid :=
  over
#print axioms proved
end Go.Proofs.Ytacgbagcddjlnaa.storeGone
