/- Proved here: the law ValidDefaults of layer 7 holds for every input: an object with defaults is as the document says; with them twice as with them once; what may be, may be with them. No conditions. -/
import Derived.Test.YtnfeimjidebboaaVaL
import Derived.Test.YtnfeimjidebboaaVaDp
import Derived.Test.YtnfeimjidebboaaVaSh
import Derived.Test.YtnfeimjidebboaaVaW
import Derived.Test.YtnfeimjidebboaaVLawBase
import Derived.Deep.DeepCutAuto
import Derived.BigQuiet
import Derived.Deep.RegionHeld3
namespace Go.Proofs.Ytnfeimjidebboaa.validDefaults
open Go.ChangeShapes Go.WideShapes Go.ChangeAt Go.RowKit Go.Lib Go.Shelf Go.Sort Go.Deep
open Go.Joins (cell_of_block unfrozen_of_block block_setCell)
set_option linter.unusedVariables false
set_option linter.unusedSimpArgs false
set_option maxRecDepth 20000


theorem row_new {w : World} {g : Nat} {m : List Pol} (h : w.heap[g]? = some (.cells (flat encP m).toArray 51 (0, 0))) (hm : m.length ≤ 1000) : RowR 3 encP w (some ⟨g, 0, none⟩) m := by
  have ow : w.ownsRow 0 51 3 (.slice (some ⟨g, 0, none⟩) m.length m.length) m.length (flat encP m) :=
    ⟨flat_length lenP m, .inr ⟨g, m.length, (flat encP m).toArray, rfl, Nat.zero_le _, h, Nat.le_refl _, Nat.le_trans hm (by decide), by simp [flat_length lenP], by rw [← flat_length lenP m]; simp⟩⟩
  obtain ⟨q, c, e, hr, _⟩ := own_lies lenP ow
  cases e
  exact hr
theorem step_new {u : World} {d p : Nat} {L : Array Value} {T : TypeId} (m : List Pol) (hB : u.heap[d]? = some (.cells L T (0, 0))) : ∀ w', w' = (u.alloc (.cells (flat encP m).toArray 51)).setCell ⟨d, p, none⟩ (.slice (some ⟨u.heap.size, 0, none⟩) m.length m.length) →
    w'.heap[d]? = some (.cells (L.setIfInBounds p (.slice (some ⟨u.heap.size, 0, none⟩) m.length m.length)) T (0, 0)) ∧ Xb d u w' ∧ w'.heap[u.heap.size]? = some (.cells (flat encP m).toArray 51 (0, 0)) ∧ u.heap.size < w'.heap.size := by
  intro w' hw
  have hlt : d < u.heap.size := (Array.getElem?_eq_some_iff.1 hB).1
  have g : Gr u (u.alloc (.cells (flat encP m).toArray 51)) := (Gr.refl u).alloc _
  have e : w'.heap[u.heap.size]? = some (.cells (flat encP m).toArray 51 (0, 0)) := by
    rw [hw, Below.heap_setCell _ _ _ _ (by show u.heap.size ≠ d; omega)]
    exact heap_alloc_new u _
  refine ⟨by rw [hw, block_setCell ((g.heap hlt).trans hB)], by rw [hw]; exact (Xb.ofGr g d).setCell _ _, e, (Array.getElem?_eq_some_iff.1 e).1⟩
theorem set_obj_h {w : World} {L D : Array Value} {o : Ob} {up dn : List Pol} (hv : ObjV w L o) (hs : D.size = L.size) (ho : ∀ i, i ≠ 42 → i ≠ 45 → D[i]? = L[i]?) (hu : SlR 3 encP w D[42]? up) (hd : SlR 3 encP w D[45]? dn) : ObjV w D (setH o up dn) := by
  obtain ⟨hsz, ⟨c0, c1, c2, hver⟩, hW, hP, hN, hG, hH⟩ := hv
  obtain ⟨c3, c4, c5, c6, c7, c8, c9⟩ := hW
  obtain ⟨c10, c11, c12, c13, c14, c15, c16, c17, c18, c19⟩ := hP
  obtain ⟨c20, c21, c22, c23, c24, c25, c26⟩ := hN
  obtain ⟨c27, c28, c29, c30, c31, c32, c33, c34⟩ := hG
  obtain ⟨c35, c36, c37, c38, c39, c40, c41, c42, c43, c44, c45, c46⟩ := hH
  exact ⟨hs.trans hsz, ⟨(by rw [ho 0 (by decide) (by decide)]; exact c0), (by rw [ho 1 (by decide) (by decide)]; exact c1), (by rw [ho 2 (by decide) (by decide)]; exact c2), hver⟩, ⟨(by rw [ho 3 (by decide) (by decide)]; exact c3), (by rw [ho 4 (by decide) (by decide)]; exact c4), (by rw [ho 5 (by decide) (by decide)]; exact c5), (by rw [ho 6 (by decide) (by decide)]; exact c6), (by rw [ho 7 (by decide) (by decide)]; exact c7), (by rw [ho 8 (by decide) (by decide)]; exact c8), (by rw [ho 9 (by decide) (by decide)]; exact c9)⟩, ⟨(by rw [ho 10 (by decide) (by decide)]; exact c10), (by rw [ho 11 (by decide) (by decide)]; exact c11), (by rw [ho 12 (by decide) (by decide)]; exact c12), (by rw [ho 13 (by decide) (by decide)]; exact c13), (by rw [ho 14 (by decide) (by decide)]; exact c14), (by rw [ho 15 (by decide) (by decide)]; exact c15), (by rw [ho 16 (by decide) (by decide)]; exact c16), (by rw [ho 17 (by decide) (by decide)]; exact c17), (by rw [ho 18 (by decide) (by decide)]; exact c18), (by rw [ho 19 (by decide) (by decide)]; exact c19)⟩, ⟨(by rw [ho 20 (by decide) (by decide)]; exact c20), (by rw [ho 21 (by decide) (by decide)]; exact c21), (by rw [ho 22 (by decide) (by decide)]; exact c22), (by rw [ho 23 (by decide) (by decide)]; exact c23), (by rw [ho 24 (by decide) (by decide)]; exact c24), (by rw [ho 25 (by decide) (by decide)]; exact c25), (by rw [ho 26 (by decide) (by decide)]; exact c26)⟩, ⟨(by rw [ho 27 (by decide) (by decide)]; exact c27), (by rw [ho 28 (by decide) (by decide)]; exact c28), (by rw [ho 29 (by decide) (by decide)]; exact c29), (by rw [ho 30 (by decide) (by decide)]; exact c30), (by rw [ho 31 (by decide) (by decide)]; exact c31), (by rw [ho 32 (by decide) (by decide)]; exact c32), (by rw [ho 33 (by decide) (by decide)]; exact c33), (by rw [ho 34 (by decide) (by decide)]; exact c34)⟩, ⟨(by rw [ho 35 (by decide) (by decide)]; exact c35), (by rw [ho 36 (by decide) (by decide)]; exact c36), (by rw [ho 37 (by decide) (by decide)]; exact c37), (by rw [ho 38 (by decide) (by decide)]; exact c38), (by rw [ho 39 (by decide) (by decide)]; exact c39), (by rw [ho 40 (by decide) (by decide)]; exact c40), (by rw [ho 41 (by decide) (by decide)]; exact c41), hu, (by rw [ho 43 (by decide) (by decide)]; exact c43), (by rw [ho 44 (by decide) (by decide)]; exact c44), hd, (by rw [ho 46 (by decide) (by decide)]; exact c46)⟩⟩
set_option maxHeartbeats 8000000 in
theorem walk_at (W : World) (cs : Array Value) (ob : Ob) (hv : ObjV W cs ob) (F : FitsO ob) (hn : NilO cs) :
    Calls Try.prog 4 #[.agg cs] W fun e w' => e = .returned (.bool true) ∧ Below W.heap.size W w' := by
  have mixed : Try.prog.follows .mixedOrders = true := by kernel_rfl
  have V := Lib.hid lives_any
  obtain ⟨B, hB⟩ : ∃ B, B = W.heap.size := ⟨_, rfl⟩
  obtain ⟨wb, hwb⟩ : ∃ wb, wb = W.alloc (.cells cs 44) := ⟨_, rfl⟩
  have G0 : Gr W wb := hwb ▸ (Gr.refl W).alloc _
  have b0 : wb.heap[B]? = some (.cells cs 44 (0, 0)) := by rw [hwb, hB]; exact heap_alloc_new W _
  have HL : Hid (∀ w, Gr wb w → (Instr.loadAt 44 (.pointer (some ⟨B, 0, none⟩))).run Try.prog w = .ok (.agg cs) w) := fun w g => load_ob ((g.heap (Array.getElem?_eq_some_iff.1 b0).1).trans b0) hv.1
  have CF := Lib.hid (fun (w : World) (g : Gr wb w) => few_any w cs ob (hv.below (G0.trans g).below) F)
  have HW := Lib.hid (And.intro hwb (And.intro hB (And.intro G0 (And.intro b0 (And.intro hv (And.intro F hn))))))
  have HT : Hid (fewB ob = true → TinyO ob) := tiny_few
  generalize fewB ob = fw at CF HT
  clear hv F hn hB hwb G0 b0
  go_enter Try.func4, Try.ntmps4
  go_upto_region 1 with fail
  rw [← HW.out.1, ← HW.out.2.1]
  go_wp2_with fail
  refine (V.out _).mono ?_
  rintro e w1 ⟨rfl, g1⟩
  have K1 := Lib.hid g1
  have L1 := Lib.hid (HL.out _ g1)
  clear g1
  go_wp2_with (refine wpList_load_by (by kernel_rfl) 44 _ rfl (.pointer (some ⟨B, 0, none⟩)) (.agg cs) (by kernel_rfl) L1.out ?_)
  refine (CF.out _ K1.out).mono ?_
  rintro e w2 ⟨rfl, g2⟩
  have K2 := Lib.hid (K1.out.trans g2)
  have L2 := Lib.hid (HL.out _ K2.out)
  clear g2 L1
  cases fw with
  | false =>
    go_wp2_with fail
    refine (V.out _).mono ?_
    rintro e w3 ⟨rfl, g3⟩
    have K3 := Lib.hid (HW.out.2.2.1.trans (K2.out.trans g3))
    clear g3
    go_wp2
    go_ret
    exact ⟨rfl, K3.out.below⟩
  | true =>
    have TI := Lib.hid (HT.out rfl)
    have HV2 : Hid (ObjV w2 cs ob) := HW.out.2.2.2.2.1.below (HW.out.2.2.1.trans K2.out).below
    have CD := Lib.hid (default_any w2 cs ob HV2.out HW.out.2.2.2.2.2.2 TI.out.small)
    go_wp2_with (refine wpList_load_by (by kernel_rfl) 44 _ rfl (.pointer (some ⟨B, 0, none⟩)) (.agg cs) (by kernel_rfl) L2.out ?_)
    refine CD.out.mono ?_
    rintro e w3 ⟨⟨E, rfl, vD, nD⟩, bD⟩
    -- the object with defaults in a block of its own
    obtain ⟨d3, hd3⟩ : ∃ d, d = w3.heap.size := ⟨_, rfl⟩
    have TH : Hid ((w3.alloc (.cells zerC 44)).there w3.heap.size 0 E.size) := zer_there w3 vD.1
    have IN : Hid ((Try.prog.info? 44).map (·.size) = some E.size) := by show _ = _; rw [vD.1]; exact info_ob47
    have ON := Lib.hid (objV_one vD)
    obtain ⟨ld, gd⟩ := laid_ob w3 vD.1
    obtain ⟨wd, hwd⟩ : ∃ wd, wd = (w3.alloc (.cells zerC 44)).setCells w3.heap.size 0 E.toList := ⟨_, rfl⟩
    rw [← hwd] at ld gd
    -- the wanted one
    obtain ⟨d4, hd4⟩ : ∃ d, d = wd.heap.size := ⟨_, rfl⟩
    have hsz := HV2.out.1
    have TH4 : Hid ((wd.alloc (.cells zerC 44)).there wd.heap.size 0 cs.size) := zer_there wd hsz
    have IN4 : Hid ((Try.prog.info? 44).map (·.size) = some cs.size) := by show _ = _; rw [hsz]; exact info_ob47
    have ON4 := Lib.hid (objV_one HV2.out)
    obtain ⟨l4, g4⟩ := laid_ob wd hsz
    obtain ⟨we, hwe⟩ : ∃ we, we = (wd.alloc (.cells zerC 44)).setCells wd.heap.size 0 cs.toList := ⟨_, rfl⟩
    rw [← hwe] at l4 g4
    have B2 : w2.heap[B]? = some (.cells cs 44 (0, 0)) := (K2.out.heap (Array.getElem?_eq_some_iff.1 HW.out.2.2.2.1).1).trans HW.out.2.2.2.1
    have B3 : w3.heap[B]? = some (.cells cs 44 (0, 0)) := (bD.block B (Array.getElem?_eq_some_iff.1 B2).1).trans B2
    have Bd : wd.heap[B]? = some (.cells cs 44 (0, 0)) := (gd.heap (Array.getElem?_eq_some_iff.1 B3).1).trans B3
    have Be : we.heap[B]? = some (.cells cs 44 (0, 0)) := (g4.heap (Array.getElem?_eq_some_iff.1 Bd).1).trans Bd
    have L4 := Lib.hid (load_ob Bd hsz)
    have HD := Lib.hid (And.intro hwd hd3)
    have HE := Lib.hid (And.intro hwe hd4)
    have d3lt : d3 < wd.heap.size := by rw [hd3]; exact (Array.getElem?_eq_some_iff.1 ld).1
    have Blt : B < w3.heap.size := (Array.getElem?_eq_some_iff.1 B3).1
    have NEQ : Hid (d3 ≠ d4 ∧ B ≠ d4 ∧ B ≠ d3 ∧ w3.heap.size ≤ d4) := ⟨by omega, by have := gd.size; omega, by omega, by have := gd.size; omega⟩
    have E3 : Hid (we.heap[d3]? = some (.cells E 44 (0, 0))) := by show _ = _; rw [g4.heap d3lt, hd3]; exact ld
    have E4 : Hid (we.heap[d4]? = some (.cells cs 44 (0, 0))) := by show _ = _; rw [hd4]; exact l4
    have EB := Lib.hid Be
    have GE : Hid (Gr w3 we) := gd.trans g4
    have V3 : Hid (ObjV w3 cs ob) := HV2.out.below bD
    have VD3 : Hid (ObjV w3 E (dfl ob) ∧ NilO E) := ⟨vD, nD⟩
    have TO : Hid (∀ wy, Xb d4 we wy → Below w3.heap.size w3 wy) := fun wy x => ((Xb.ofGr GE.out d4).trans x).below (by omega) (Nat.le_refl _)
    have BW : Hid (Below W.heap.size W we) := by
      have h2 := HW.out.2.2.1.trans K2.out
      have x : Xb W.heap.size W we := (Xb.ofGr h2 _).trans ((Xb.ofBelow bD _).trans (Xb.ofGr GE.out _))
      exact x.below (Nat.le_refl _) (Nat.le_refl _)
    have WLE : Hid (W.heap.size ≤ d4) := by
      have a1 := HW.out.2.2.1.size
      have a2 := K2.out.size
      have a3 := bD.size
      have a4 := gd.size
      show _ ≤ _
      omega
    clear hsz vD nD bD ld gd l4 g4 B2 B3 Bd Be hwd hwe hd3 hd4 d3lt Blt CD L2
    go_upto_region 4 with (refine wpList_store_mid rfl _ _ _ rfl w3.heap.size 0 E (by rfl) (by rfl) TH.out IN.out ON.out ?_)
    rw [← HD.out.1, ← HD.out.2]
    go_upto_region 5 with (first | (refine wpList_load_by (by kernel_rfl) 44 _ rfl (.pointer (some ⟨B, 0, none⟩)) (.agg cs) (by kernel_rfl) L4.out ?_) | (refine wpList_store_mid rfl _ _ _ rfl wd.heap.size 0 cs (by rfl) (by rfl) TH4.out IN4.out ON4.out ?_))
    rw [← HE.out.1, ← HE.out.2]
    clear TH IN ON TH4 IN4 ON4 L4 HD HE HL CF
    have ov := V3.out
    obtain ⟨hsz, ⟨c0, c1, c2, hver⟩, hW_, hP_, hN_, ⟨c27, c28, c29, _⟩, ⟨_, _, _, _, _, _, c41, ⟨q42, k42, c42, _⟩, _, c44, ⟨q45, k45, c45, _⟩, _⟩⟩ := ov
    have k0 : we.cell? ⟨B, 0, none⟩ = some (.int .i64 ob.kind) := by rw [cell_of_block EB.out]; exact c0
    have m27 : we.cell? ⟨B, 27, none⟩ = some (.int .i64 ob.g.mn) := by rw [cell_of_block EB.out]; exact c27
    have m28 : we.cell? ⟨B, 28, none⟩ = some (.int .i64 ob.g.mx) := by rw [cell_of_block EB.out]; exact c28
    have m29 : we.cell? ⟨B, 29, none⟩ = some (.int .i64 ob.g.tg) := by rw [cell_of_block EB.out]; exact c29
    have m41 : we.cell? ⟨B, 41, none⟩ = some (.int .i64 ob.h.up) := by rw [cell_of_block EB.out]; exact c41
    have m42 : we.cell? ⟨B, 42, none⟩ = some (.slice q42 ob.h.upol.length k42) := by rw [cell_of_block EB.out]; exact c42
    have m44 : we.cell? ⟨B, 44, none⟩ = some (.int .i64 ob.h.dp) := by rw [cell_of_block EB.out]; exact c44
    have m45 : we.cell? ⟨B, 45, none⟩ = some (.slice q45 ob.h.dpol.length k45) := by rw [cell_of_block EB.out]; exact c45
    have u29 := unfrozen_of_block E4.out 29
    have u42 := unfrozen_of_block E4.out 42
    have u45 := unfrozen_of_block E4.out 45
    have d29 : we.cell? ⟨d4, 29, none⟩ = some (.int .i64 ob.g.tg) := by rw [cell_of_block E4.out]; exact c29
    have d42 : we.cell? ⟨d4, 42, none⟩ = some (.slice q42 ob.h.upol.length k42) := by rw [cell_of_block E4.out]; exact c42
    have d45 : we.cell? ⟨d4, 45, none⟩ = some (.slice q45 ob.h.dpol.length k45) := by rw [cell_of_block E4.out]; exact c45
    clear hsz c0 c1 c2 hver hW_ hP_ hN_ c27 c28 c29 c41 c42 c44 c45
    obtain ⟨kk, hk⟩ : ∃ k, k = ob.kind := ⟨_, rfl⟩
    rw [← hk] at k0
    by_cases hx : kk = 3 ∧ ¬ ob.g.mn ≤ ob.g.mx
    · obtain ⟨rfl, hle⟩ := hx
      clear hk
      go_wp2
      go_ret
      exact ⟨rfl, BW.out⟩
    simp only [Act.put]
    have KEEP : Hid (∀ wy, Xb d4 we wy → ObjV wy cs ob) := fun wy x => V3.out.below (TO.out wy x)

    by_cases h3 : kk = 3
    · have hle : ob.g.mn ≤ ob.g.mx := Classical.byContradiction fun h => hx ⟨h3, h⟩
      have HD : Hid (dfl ob = setT ob (inB ob.g.tg ob.g.mn ob.g.mx)) := if_pos (hk ▸ h3)
      have HK : Hid (ob.kind = 3) := hk ▸ h3
      subst h3
      have HT3 : Hid (∀ t wy, wy = we.setCell ⟨d4, 29, none⟩ (.int .i64 t) → inB ob.g.tg ob.g.mn ob.g.mx = t → (∃ Wn : Array Value, wy.heap[d4]? = some (.cells Wn 44 (0, 0)) ∧ ObjV wy Wn (dfl ob)) ∧ Xb d4 we wy) := fun t wy h e => by
        have x : Xb d4 we wy := h ▸ (Xb.refl d4 we).setCell _ _
        exact ⟨⟨_, by rw [h, block_setCell E4.out], by rw [HD.out, e]; exact set_obj_t (KEEP.out wy x)⟩, x⟩
      clear hx hk
      have tle : decide (ob.g.mn ≤ ob.g.mx) = true := decide_eq_true hle
      go_upto_if 28 with fail
      go_cut [2] from 29 to 55 (fun v wy => v = .bool false ∧ Hid (∃ Wn : Array Value, wy.heap[d4]? = some (.cells Wn 44 (0, 0)) ∧ ObjV wy Wn (dfl ob)) ∧ Hid (Xb d4 we wy))
      case first =>
        by_cases h1 : ob.g.tg < ob.g.mn
        · have hn2 : ¬ ob.g.mx < ob.g.tg := by omega
          have t1 : decide (ob.g.tg < ob.g.mn) = true := decide_eq_true h1
          have t2 : decide (ob.g.mx < ob.g.tg) = false := decide_eq_false hn2
          have HI : Hid (inB ob.g.tg ob.g.mn ob.g.mx = ob.g.mn) := by show _ = _; unfold inB; rw [if_pos h1, if_neg (by omega)]
          clear h1 hn2
          go_upto_region 8 with fail
          obtain ⟨wq, hwq⟩ : ∃ wq, wq = we.setCell ⟨d4, 29, none⟩ (.int .i64 ob.g.mn) := ⟨_, rfl⟩
          rw [← hwq]
          have xs : Xb d4 we wq := hwq ▸ (Xb.refl d4 we).setCell _ _
          have m28s := xs.cell m28 NEQ.out.2.1
          have m29s := xs.cell m29 NEQ.out.2.1
          have FT := Lib.hid (HT3.out _ wq hwq HI.out)
          clear hwq xs
          go_wp2
          go_meet
          case rel => exact ⟨rfl, FT.out.1, FT.out.2⟩
        · by_cases h2 : ob.g.mx < ob.g.tg
          · have HI : Hid (inB ob.g.tg ob.g.mn ob.g.mx = ob.g.mx) := by show _ = _; unfold inB; rw [if_neg h1, if_pos h2]
            have t1 : decide (ob.g.tg < ob.g.mn) = false := decide_eq_false h1
            have t2 : decide (ob.g.mx < ob.g.tg) = true := decide_eq_true h2
            clear h1 h2
            go_wp2
            go_meet
            case rel => exact ⟨rfl, (HT3.out _ _ rfl HI.out).1, (HT3.out _ _ rfl HI.out).2⟩
          · have HI : Hid (inB ob.g.tg ob.g.mn ob.g.mx = ob.g.tg) := by show _ = _; unfold inB; rw [if_neg h1, if_neg h2]
            have HZ : Hid ((∃ Wn : Array Value, we.heap[d4]? = some (.cells Wn 44 (0, 0)) ∧ ObjV we Wn (dfl ob)) ∧ Xb d4 we we) := ⟨⟨cs, E4.out, by rw [HD.out, HI.out]; exact KEEP.out we (Xb.refl _ _)⟩, Xb.refl _ _⟩
            go_wp2
            go_meet
            case rel => exact ⟨rfl, HZ.out.1, HZ.out.2⟩
      case rest =>
        obtain ⟨-, HW1, HX1⟩ := hcut
        have HZ : Hid ((∃ Wn : Array Value, wc.heap[d4]? = some (.cells Wn 44 (0, 0)) ∧ ObjV wc Wn (dfl ob)) ∧ Xb d4 we wc) := ⟨HW1.out, HX1.out⟩
        have k0w : wc.cell? ⟨B, 0, none⟩ = some (.int .i64 3) := HX1.out.cell k0 NEQ.out.2.1
        clear HT3 HW1 HX1 tle hle
        go_upto_region 17 with fail
        obtain ⟨⟨Wn, hWn, vWn⟩, xWn0⟩ := HZ.out
        obtain ⟨wy, hwy⟩ : ∃ wy, wy = wc := ⟨_, rfl⟩
        have xWn : Xb d4 we wy := hwy ▸ xWn0
        clear xWn0
        rw [← hwy] at hWn vWn ⊢
        have e3 : wy.heap[d3]? = some (.cells E 44 (0, 0)) := (xWn.block d3 (Array.getElem?_eq_some_iff.1 E3.out).1 NEQ.out.1).trans E3.out
        have vE : ObjV wy E (dfl ob) := VD3.out.1.below (TO.out wy xWn)
        have eB : wy.heap[B]? = some (.cells cs 44 (0, 0)) := (xWn.block B (Array.getElem?_eq_some_iff.1 EB.out).1 NEQ.out.2.1).trans EB.out
        have FD := Lib.hid (fits_dfl HW.out.2.2.2.2.2.1 TI.out)
        have TD := Lib.hid (tiny_dfl TI.out)
        have KS : Hid (∀ w', Below wy.heap.size wy w' → w'.rangeAt d3 0 E.toList ∧ w'.rangeAt d4 0 Wn.toList) := fun w' b => ⟨rangeAt_block ((b.block d3 (Array.getElem?_eq_some_iff.1 e3).1).trans e3), rangeAt_block ((b.block d4 (Array.getElem?_eq_some_iff.1 hWn).1).trans hWn)⟩
        have S1 : Hid (∀ w', Below wy.heap.size wy w' → Calls Try.prog 11 #[.agg E, .agg Wn] w' fun e w'' => e = .returned (.bool true) ∧ Below wy.heap.size wy w'') := fun w' b =>
          (same_any w' E Wn (dfl ob) (vE.below b) (vWn.below b) FD.out TD.out).mono fun e w'' h => ⟨h.1, (Xb.ofBelow b wy.heap.size |>.trans (Xb.ofGr h.2 _)).below (Nat.le_refl _) (Nat.le_refl _)⟩
        have S2 : Hid (∀ w', Below wy.heap.size wy w' → Calls Try.prog 10 #[.agg E] w' fun e w'' => (∃ E2, e = .returned (.agg E2) ∧ ObjV w'' E2 (dfl ob)) ∧ Below wy.heap.size wy w'') := fun w' b =>
          (default_any w' E (dfl ob) (vE.below b) VD3.out.2 TD.out.small).mono fun e w'' h => by
            obtain ⟨⟨E2, h1, h2, _⟩, h3⟩ := h
            rw [dfl_again] at h2
            exact ⟨⟨E2, h1, h2⟩, (Xb.ofBelow b wy.heap.size |>.trans (Xb.ofBelow h3 _)).below (Nat.le_refl _) (Nat.le_refl _)⟩
        have S3 : Hid (∀ w' E2, Below wy.heap.size wy w' → ObjV w' E2 (dfl ob) → Calls Try.prog 11 #[.agg E2, .agg E] w' fun e w'' => e = .returned (.bool true) ∧ Below wy.heap.size wy w'') := fun w' E2 b v2 =>
          (same_any w' E2 E (dfl ob) v2 (vE.below b) FD.out TD.out).mono fun e w'' h => ⟨h.1, (Xb.ofBelow b wy.heap.size |>.trans (Xb.ofGr h.2 _)).below (Nat.le_refl _) (Nat.le_refl _)⟩
        have hu := Try.underlying44
        have hi3 : (Try.prog.info? 44).map (·.size) = some E.toList.length := by rw [Array.length_toList, vE.1]; exact info_ob47
        have hi4 : (Try.prog.info? 44).map (·.size) = some Wn.toList.length := by rw [Array.length_toList, vWn.1]; exact info_ob47
        have K0 : Hid (Below wy.heap.size wy wy.drew) := ((Gr.refl wy).drewN 1).below
        have TYY := Lib.hid (And.intro e3 (And.intro vE (And.intro hWn (And.intro vWn (And.intro xWn eB)))))
        clear e3 vE hWn vWn xWn hwy eB HZ
        refine wp_region_held_drew (S := fun w' => Below wy.heap.size wy w') mixed K0.out (fun hHeld => ?_)
        refine wpAnyH_take (i := 0) (v := .agg E.toList.toArray) rfl (by kernel_rfl) (by kernel_rfl) (by kernel_rfl) (fun _ _ _ h => h) (yieldsIf_load_mid (by kernel_rfl) _ _ rfl d3 0 (by kernel_rfl) E.toList _ (fun ws hSw => (KS.out ws hSw).1) hu rfl hi3) hHeld ?_
        simp only [Act.put, List.setIfInBounds_toArray, List.set_cons_zero, List.set_cons_succ]
        refine wpAnyH_take (i := 1) (v := .agg Wn.toList.toArray) rfl (by kernel_rfl) (by kernel_rfl) (by kernel_rfl) (fun _ _ _ h => h) (yieldsIf_load_mid (by kernel_rfl) _ _ rfl d4 0 (by kernel_rfl) Wn.toList _ (fun ws hSw => (KS.out ws hSw).2) hu rfl hi4) hHeld ?_
        simp only [Act.put, List.setIfInBounds_toArray, List.set_cons_zero, List.set_cons_succ]
        refine wpAnyH_ready (rs := [2]) (by kernel_rfl) (by simp) ?_
        refine AllReadyH.cons rfl (fun K hK => ?_) AllReadyH.nil
        go_simp
        refine (S1.out _ K0.out).mono ?_
        rintro e w5 ⟨rfl, b5⟩
        refine hK _ _ b5 (fun _ => ?_)
        try (simp only [Act.put, List.setIfInBounds_toArray, List.set_cons_zero, List.set_cons_succ])
        refine wpAnyH_takeD (i := 3) (d := 99) (v := .bool false) _ rfl rfl (by kernel_rfl) (by kernel_rfl) (by kernel_rfl) (fun _ _ _ h => h) (Or.inl ⟨by kernel_rfl, fun ws hSw => by first | (go_simp; done) | (go_simp; with_reducible rfl) | (go_simp; rfl)⟩) b5 ?_
        simp only [Act.put, List.setIfInBounds_toArray, List.set_cons_zero, List.set_cons_succ]
        refine wpAnyH_takeD (i := 4) (d := 100) (v := .bool false) _ rfl rfl (by kernel_rfl) (by kernel_rfl) (by kernel_rfl) (fun _ _ _ h => h) (Or.inl ⟨by kernel_rfl, fun ws hSw => by first | (go_simp; done) | (go_simp; with_reducible rfl) | (go_simp; rfl)⟩) b5 ?_
        simp only [Act.put, List.setIfInBounds_toArray, List.set_cons_zero, List.set_cons_succ]
        refine wpAnyH_take (i := 5) (v := .agg E.toList.toArray) rfl (by kernel_rfl) (by kernel_rfl) (by kernel_rfl) (fun _ _ _ h => h) (yieldsIf_load_mid (by kernel_rfl) _ _ rfl d3 0 (by kernel_rfl) E.toList _ (fun ws hSw => (KS.out ws hSw).1) hu rfl hi3) b5 ?_
        simp only [Act.put, List.setIfInBounds_toArray, List.set_cons_zero, List.set_cons_succ]
        refine wpAnyH_take (i := 7) (v := .agg E.toList.toArray) rfl (by kernel_rfl) (by kernel_rfl) (by kernel_rfl) (fun _ _ _ h => h) (yieldsIf_load_mid (by kernel_rfl) _ _ rfl d3 0 (by kernel_rfl) E.toList _ (fun ws hSw => (KS.out ws hSw).1) hu rfl hi3) b5 ?_
        simp only [Act.put, List.setIfInBounds_toArray, List.set_cons_zero, List.set_cons_succ]
        refine wpAnyH_ready (rs := [6]) (by kernel_rfl) (by simp) ?_
        refine AllReadyH.cons rfl (fun K hK => ?_) AllReadyH.nil
        go_simp
        refine (S2.out _ b5).mono ?_
        rintro e w6 ⟨⟨E2, rfl, v6⟩, b6⟩
        refine hK _ _ b6 (fun _ => ?_)
        try (simp only [Act.put, List.setIfInBounds_toArray, List.set_cons_zero, List.set_cons_succ])
        refine wpAnyH_ready (rs := [8]) (by kernel_rfl) (by simp) ?_
        refine AllReadyH.cons rfl (fun K hK => ?_) AllReadyH.nil
        go_simp
        refine (S3.out _ E2 b6 v6).mono ?_
        rintro e w7 ⟨rfl, b7⟩
        refine hK _ _ b7 (fun _ => ?_)
        try (simp only [Act.put, List.setIfInBounds_toArray, List.set_cons_zero, List.set_cons_succ])
        refine wpAnyH_takeD (i := 9) (d := 105) (v := .bool false) _ rfl rfl (by kernel_rfl) (by kernel_rfl) (by kernel_rfl) (fun _ _ _ h => h) (Or.inl ⟨by kernel_rfl, fun ws hSw => by first | (go_simp; done) | (go_simp; with_reducible rfl) | (go_simp; rfl)⟩) b7 ?_
        simp only [Act.put, List.setIfInBounds_toArray, List.set_cons_zero, List.set_cons_succ]
        refine wpAnyH_takeD (i := 10) (d := 106) (v := .bool false) _ rfl rfl (by kernel_rfl) (by kernel_rfl) (by kernel_rfl) (fun _ _ _ h => h) (Or.inl ⟨by kernel_rfl, fun ws hSw => by first | (go_simp; done) | (go_simp; with_reducible rfl) | (go_simp; rfl)⟩) b7 ?_
        simp only [Act.put, List.setIfInBounds_toArray, List.set_cons_zero, List.set_cons_succ]
        refine wpAnyH_done (by kernel_rfl) ?_ _
        -- behind region 17
        have X7 : Hid (Xb d4 we w7) := TYY.out.2.2.2.2.1.trans (Xb.ofBelow b7 d4)
        have V7 : Hid (ObjV w7 cs ob) := KEEP.out w7 X7.out
        have VE7 : Hid (ObjV w7 E (dfl ob)) := TYY.out.2.1.below b7
        have VW7 : Hid (ObjV w7 Wn (dfl ob)) := TYY.out.2.2.2.1.below b7
        have e37 : Hid (w7.heap[d3]? = some (.cells E 44 (0, 0))) := (b7.block d3 (Array.getElem?_eq_some_iff.1 TYY.out.1).1).trans TYY.out.1
        have e47 : Hid (w7.heap[d4]? = some (.cells Wn 44 (0, 0))) := (b7.block d4 (Array.getElem?_eq_some_iff.1 TYY.out.2.2.1).1).trans TYY.out.2.2.1
        have eB7 : Hid (w7.heap[B]? = some (.cells cs 44 (0, 0))) := (b7.block B (Array.getElem?_eq_some_iff.1 TYY.out.2.2.2.2.2).1).trans TYY.out.2.2.2.2.2
        clear b7 b6 b5 v6 S1 S2 S3 KS K0 TYY hi3 hi4 hHeld hK
        go_upto_region 19 with fail
        go_cut [5] from 107 to 114 (fun v wx => ∃ d5, v = .pointer (some ⟨d5, 0, none⟩) ∧ Hid (∃ SH, wx.heap[d5]? = some (.cells SH 44 (0, 0)) ∧ ObjV wx SH (shp ob)) ∧ Hid (Below w7.heap.size w7 wx))
        case first =>
          have hsz := V7.out.1
          have hver := V7.out.2.1.2.2.2
          have HX := ext_hp V7.out
          have NX := ext_nil hsz HW.out.2.2.2.2.2.2
          have ts := TI.out
          have CS : Hid (∀ w', Below w7.heap.size w7 w' → Calls Try.prog 12 #[.agg (cs.extract 35 47)] w' fun e w'' => (∃ D, e = .returned (.agg D) ∧ HpS w'' D (fillH ob.h) ∧ HpO w'.heap.size w'' D (fillH ob.h)) ∧ Below w'.heap.size w' w'') := fun w' b =>
            shape_any w' _ ob.h (ext_hp (V7.out.below b)) NX (by unfold TinyO at ts; omega)
          have K7 : Hid (Below w7.heap.size w7 w7.drew) := ((Gr.refl w7).drewN 1).below
          have KB : Hid (∀ w', Below w7.heap.size w7 w' → w'.cell? ⟨B, 1, none⟩ = some (.string ob.name) ∧ w'.cell? ⟨B, 2, none⟩ = some (.int .u64 (ob.ver : Int)) ∧ w'.rangeAt B 35 (cs.extract 35 47).toList) := fun w' b => by
            have hb := (b.block B (Array.getElem?_eq_some_iff.1 eB7.out).1).trans eB7.out
            exact ⟨by rw [cell_of_block hb]; exact V7.out.2.1.2.1, by rw [cell_of_block hb]; exact V7.out.2.1.2.2.1, ext_range hsz hb⟩
          have hiH : (Try.prog.info? 42).map (·.size) = some (cs.extract 35 47).toList.length := by rw [Array.length_toList, ext_size hsz]; exact info_hp
          have huH := Try.underlying42
          have HVV := Lib.hid hver
          clear HX NX ts hsz hver
          generalize cs.extract 35 47 = cx at CS KB hiH
          refine wp_region_held_drew (S := fun w' => Below w7.heap.size w7 w') mixed K7.out (fun hHeld => ?_)
          refine wpAnyH_takeD (i := 0) (d := 107) (v := .pointer (some ⟨B, 1, none⟩)) _ rfl rfl (by kernel_rfl) (by kernel_rfl) (by kernel_rfl) (fun _ _ _ h => h) (Or.inl ⟨by kernel_rfl, fun ws hSw => by first | (go_simp; done) | (go_simp; with_reducible rfl) | (go_simp; rfl)⟩) hHeld ?_
          simp only [Act.put, List.setIfInBounds_toArray, List.set_cons_zero, List.set_cons_succ]
          refine wpAnyH_takeD (i := 1) (d := 108) (v := .string ob.name) _ rfl rfl (by kernel_rfl) (by kernel_rfl) (by kernel_rfl) (fun _ _ _ h => h) (Or.inl ⟨by kernel_rfl, fun ws hSw => by have h1 := (KB.out ws hSw).1; first | (go_simp; done) | (go_simp; with_reducible rfl) | (go_simp; rfl)⟩) hHeld ?_
          simp only [Act.put, List.setIfInBounds_toArray, List.set_cons_zero, List.set_cons_succ]
          refine wpAnyH_takeD (i := 2) (d := 109) (v := .pointer (some ⟨B, 2, none⟩)) _ rfl rfl (by kernel_rfl) (by kernel_rfl) (by kernel_rfl) (fun _ _ _ h => h) (Or.inl ⟨by kernel_rfl, fun ws hSw => by first | (go_simp; done) | (go_simp; with_reducible rfl) | (go_simp; rfl)⟩) hHeld ?_
          simp only [Act.put, List.setIfInBounds_toArray, List.set_cons_zero, List.set_cons_succ]
          refine wpAnyH_takeD (i := 3) (d := 110) (v := .int .u64 (ob.ver : Int)) _ rfl rfl (by kernel_rfl) (by kernel_rfl) (by kernel_rfl) (fun _ _ _ h => h) (Or.inl ⟨by kernel_rfl, fun ws hSw => by have h1 := (KB.out ws hSw).2.1; first | (go_simp; done) | (go_simp; with_reducible rfl) | (go_simp; rfl)⟩) hHeld ?_
          simp only [Act.put, List.setIfInBounds_toArray, List.set_cons_zero, List.set_cons_succ]
          refine wpAnyH_takeD (i := 4) (d := 111) (v := .pointer (some ⟨B, 35, none⟩)) _ rfl rfl (by kernel_rfl) (by kernel_rfl) (by kernel_rfl) (fun _ _ _ h => h) (Or.inl ⟨by kernel_rfl, fun ws hSw => by first | (go_simp; done) | (go_simp; with_reducible rfl) | (go_simp; rfl)⟩) hHeld ?_
          simp only [Act.put, List.setIfInBounds_toArray, List.set_cons_zero, List.set_cons_succ]
          refine wpAnyH_takeD (i := 5) (d := 112) (v := .agg cx.toList.toArray) _ rfl rfl (by kernel_rfl) (by kernel_rfl) (by kernel_rfl) (fun _ _ _ h => h) (yieldsIf_load_mid (by kernel_rfl) _ _ rfl B 35 (by kernel_rfl) cx.toList _ (fun ws hSw => (KB.out ws hSw).2.2) huH rfl hiH) hHeld ?_
          simp only [Act.put, List.setIfInBounds_toArray, List.set_cons_zero, List.set_cons_succ]
          refine wpAnyH_ready (rs := [6, 8]) (by kernel_rfl) (by simp) ?_
          refine AllReadyH.cons rfl (fun K hK => ?_) (AllReadyH.cons rfl (fun K hK => ?_) AllReadyH.nil)
          · go_simp
            refine (CS.out _ hHeld).mono ?_
            rintro e w8 ⟨⟨D, rfl, hD, hO⟩, b8⟩
            have B8 : Below w7.heap.size w7 w8 := ((Xb.ofBelow hHeld w7.heap.size).trans (Xb.ofBelow b8 _)).below (Nat.le_refl _) (Nat.le_refl _)
            have FIN := Lib.hid (shp_a B8 hD HVV.out)
            have ONE := Lib.hid (shp_ones hD HVV.out)
            refine hK _ _ B8 (fun _ => ?_)
            try (simp only [Act.put, List.setIfInBounds_toArray, List.set_cons_zero, List.set_cons_succ])
            refine wpAnyH_takeD (i := 7) (d := 114) (v := .agg (shpC ob.name (ob.ver : Int) D)) _ rfl rfl (by kernel_rfl) (by kernel_rfl) (by kernel_rfl) (fun _ _ _ h => h) (Or.inl ⟨by kernel_rfl, fun ws hSw => run_shp rfl (by kernel_rfl) hD.1 ws⟩) B8 ?_
            simp only [Act.put, List.setIfInBounds_toArray, List.set_cons_zero, List.set_cons_succ]
            refine wpAnyH_one (i := 8) (by kernel_rfl) ?_
            refine Mk5.step (d := 5) (Z := .cells zerC 44) ⟨⟨_, rfl, rfl, fun _ => rfl, fun a ws => by first | (go_simp; done) | (go_simp; rfl)⟩⟩ ⟨B8.alloc B8.size _, ?_⟩
            simp only [Act.put, List.setIfInBounds_toArray, List.set_cons_zero, List.set_cons_succ]
            refine wpAnyH_one (i := 9) (by kernel_rfl) ?_
            refine St5.step (d := 5) (t := 114) (n := 47) (b := w8.heap.size) (l := (shpC ob.name (ob.ver : Int) D).toList) ⟨⟨_, _, rfl, rfl, fun _ => rfl, rfl, by kernel_rfl⟩⟩ (by kernel_rfl) (by kernel_rfl) ONE.out.1 (zer_there w8 rfl) ONE.out.2 ⟨FIN.out.2, ?_⟩
            refine wpAnyH_done (by kernel_rfl) ?_ _
            go_wp2_with fail
            go_meet
            case rel => exact ⟨_, rfl, FIN.out.1, FIN.out.2⟩
          · go_simp
            obtain ⟨w8, hw8⟩ : ∃ w8, w8 = (w7.alloc (.cells zerC 44)).drew := ⟨_, rfl⟩
            rw [← hw8]
            have B8 : Below w7.heap.size w7 w8 := by rw [hw8]; exact ((Below.refl _ _).alloc (Nat.le_refl _) _).drew
            have h5 : w8.heap[w7.heap.size]? = some (.cells zerC 44 (0, 0)) := by rw [hw8]; exact heap_alloc_new w7 _
            clear hw8
            refine hK _ _ B8 (fun _ => ?_)
            try (simp only [Act.put, List.setIfInBounds_toArray, List.set_cons_zero, List.set_cons_succ])
            refine wpAnyH_ready (rs := [6]) (by kernel_rfl) (by simp) ?_
            refine AllReadyH.cons rfl (fun K hK => ?_) AllReadyH.nil
            go_simp
            refine (CS.out _ B8).mono ?_
            rintro e w9 ⟨⟨D, rfl, hD, hO⟩, b9⟩
            have B9 : Below w7.heap.size w7 w9 := ((Xb.ofBelow B8 w7.heap.size).trans (Xb.ofBelow b9 _)).below (Nat.le_refl _) (Nat.le_refl _)
            have FIN := Lib.hid (shp_b B8 (Nat.le_refl _) h5 b9 hD hO HVV.out)
            have ONE := Lib.hid (shp_ones hD HVV.out)
            have TH5 := Lib.hid (there_block ((b9.block _ (Array.getElem?_eq_some_iff.1 h5).1).trans h5))
            clear h5 hO
            refine hK _ _ B9 (fun _ => ?_)
            try (simp only [Act.put, List.setIfInBounds_toArray, List.set_cons_zero, List.set_cons_succ])
            refine wpAnyH_takeD (i := 7) (d := 114) (v := .agg (shpC ob.name (ob.ver : Int) D)) _ rfl rfl (by kernel_rfl) (by kernel_rfl) (by kernel_rfl) (fun _ _ _ h => h) (Or.inl ⟨by kernel_rfl, fun ws hSw => run_shp rfl (by kernel_rfl) hD.1 ws⟩) B9 ?_
            simp only [Act.put, List.setIfInBounds_toArray, List.set_cons_zero, List.set_cons_succ]
            refine wpAnyH_one (i := 9) (by kernel_rfl) ?_
            refine St5.step (d := 5) (t := 114) (n := 47) (b := w7.heap.size) (l := (shpC ob.name (ob.ver : Int) D).toList) ⟨⟨_, _, rfl, rfl, fun _ => rfl, rfl, by kernel_rfl⟩⟩ (by kernel_rfl) (by kernel_rfl) ONE.out.1 TH5.out ONE.out.2 ⟨FIN.out.2, ?_⟩
            refine wpAnyH_done (by kernel_rfl) ?_ _
            go_wp2_with fail
            go_meet
            case rel => exact ⟨_, rfl, FIN.out.1, FIN.out.2⟩

        case rest =>
          obtain ⟨d5, rfl, HS5, HB5⟩ := hcut
          have b5 := HB5.out
          have k0c : wc.cell? ⟨B, 0, none⟩ = some (.int .i64 3) := by rw [cell_of_block ((b5.block B (Array.getElem?_eq_some_iff.1 eB7.out).1).trans eB7.out)]; exact (by have := V7.out.2.1.1; rw [this, HK.out])
          have VC : Hid (ObjV wc cs ob) := V7.out.below b5
          have VEC : Hid (ObjV wc E (dfl ob)) := VE7.out.below b5
          have eBc : Hid (wc.heap[B]? = some (.cells cs 44 (0, 0))) := (b5.block B (Array.getElem?_eq_some_iff.1 eB7.out).1).trans eB7.out
          have e3c : Hid (wc.heap[d3]? = some (.cells E 44 (0, 0))) := (b5.block d3 (Array.getElem?_eq_some_iff.1 e37.out).1).trans e37.out
          have e4c : Hid (wc.heap[d4]? = some (.cells Wn 44 (0, 0))) := (b5.block d4 (Array.getElem?_eq_some_iff.1 e47.out).1).trans e47.out
          have XC : Hid (Xb d4 we wc) := X7.out.trans (Xb.ofBelow b5 d4)
          have VWC : Hid (ObjV wc Wn (dfl ob)) := VW7.out.below b5
          have BWC : Hid (∀ wz, Gr wc wz → Below W.heap.size W wz) := fun wz g => by
            have x : Xb d4 W wz := (Xb.ofBelow BW.out d4).trans (XC.out.trans (Xb.ofGr g d4))
            exact x.below WLE.out (Nat.le_refl _)
          have LBc := Lib.hid (fun (w' : World) (g : Gr wc w') => load_ob ((g.heap (Array.getElem?_eq_some_iff.1 eBc.out).1).trans eBc.out) VC.out.1)
          have L3c := Lib.hid (fun (w' : World) (g : Gr wc w') => load_ob ((g.heap (Array.getElem?_eq_some_iff.1 e3c.out).1).trans e3c.out) VEC.out.1)
          have CK1 := Lib.hid (fun (w' : World) (g : Gr wc w') => check_any w' cs ob (VC.out.below g.below) HW.out.2.2.2.2.2.1)
          have CK2 := Lib.hid (fun (w' : World) (g : Gr wc w') => check_any w' E (dfl ob) (VEC.out.below g.below) FD.out)
          have CH : Hid (chkE ob = 0 → chkE (dfl ob) = 0) := chk_dfl
          clear b5 HB5 X7 V7 VE7 VW7 e37 e47 eB7
          have HGZ := Lib.hid (Gr.refl wc)
          go_wp2_with (refine wpList_load_by (by kernel_rfl) 44 _ rfl (.pointer (some ⟨B, 0, none⟩)) (.agg cs) (by rfl) (LBc.out _ HGZ.out) ?_)
          refine (CK1.out _ HGZ.out).mono ?_
          rintro e w11 ⟨rfl, g11⟩
          have G11 := Lib.hid (HGZ.out.trans g11)
          clear g11
          by_cases hce : chkE ob = 0
          · have hde := CH.out hce
            rw [hce]
            rw [hde] at CK2
            go_wp2_with (refine wpList_load_by (by kernel_rfl) 44 _ rfl (.pointer (some ⟨d3, 0, none⟩)) (.agg E) (by rfl) (L3c.out _ G11.out) ?_)
            refine (CK2.out _ G11.out).mono ?_
            rintro e w12 ⟨rfl, g12⟩
            have G12 := Lib.hid (G11.out.trans g12)
            clear g12
            go_wp2
            go_ret
            exact ⟨rfl, BWC.out _ G12.out⟩
          · have tce : (chkE ob != 0) = true := by simp [hce]
            generalize chkE ob = ce at tce ⊢
            clear hce CH CK1 CK2
            go_wp2
            go_ret
            exact ⟨rfl, BWC.out _ G11.out⟩
    · by_cases h4 : kk = 4
      · have HD : Hid (dfl ob = setH ob (wayR ob.h.upol ob.h.up [dblP, fourP]) (wayR ob.h.dpol ob.h.dp [dblP])) := (if_neg (by rw [← hk]; exact h3)).trans (if_pos (hk ▸ h4))
        have HK : Hid (ob.kind = 4) := hk ▸ h4
        subst h4
        clear hx hk h3
        obtain ⟨u1, hu1⟩ : ∃ u, u = wayR ob.h.upol ob.h.up [dblP, fourP] := ⟨_, rfl⟩
        obtain ⟨n1, hn1⟩ : ∃ n, n = ob.h.upol.length := ⟨_, rfl⟩
        obtain ⟨n2, hn2⟩ : ∃ n, n = ob.h.dpol.length := ⟨_, rfl⟩
        rw [← hn1] at m42 d42
        rw [← hn2] at m45 d45
        obtain ⟨b1, hb1⟩ : ∃ b, b = decide (n1 = 0 ∧ ob.h.up ≠ 2) := ⟨_, rfl⟩
        obtain ⟨b2, hb2⟩ : ∃ b, b = decide (n2 = 0 ∧ ob.h.dp ≠ 2) := ⟨_, rfl⟩
        have lz : ∀ l : List Pol, l = [] ↔ l.length = 0 := fun l => List.length_eq_zero_iff.symm
        obtain ⟨F1, hF1⟩ : ∃ F : World → Prop, F = fun wx => ∃ W1 : Array Value, wx.heap[d4]? = some (.cells W1 44 (0, 0)) ∧ W1.size = cs.size ∧ (∀ i, i ≠ 42 → W1[i]? = cs[i]?) ∧ (∀ wz, Xb d4 wx wz → SlR 3 encP wz W1[42]? u1) ∧ Xb d4 we wx := ⟨_, rfl⟩
        obtain ⟨F2, hF2⟩ : ∃ F : World → Prop, F = fun wx => (∃ Wn : Array Value, wx.heap[d4]? = some (.cells Wn 44 (0, 0)) ∧ ObjV wx Wn (dfl ob)) ∧ Xb d4 we wx := ⟨_, rfl⟩
        have hlt4 : d4 < we.heap.size := (Array.getElem?_eq_some_iff.1 E4.out).1
        have hz47 : cs.size = 47 := V3.out.1
        have F1N : Hid (b1 = false → F1 we) := fun e => by
          have hc : ¬ (n1 = 0 ∧ ob.h.up ≠ 2) := of_decide_eq_false (hb1 ▸ e)
          have e1 : u1 = ob.h.upol := hu1.trans (if_neg (fun h => hc ⟨hn1.trans ((lz _).1 h.1), h.2⟩))
          rw [hF1]
          exact ⟨cs, E4.out, rfl, fun _ _ => rfl, fun wz x => by rw [e1]; exact (KEEP.out wz x).2.2.2.2.2.2.2.2.2.2.2.2.2.1, Xb.refl _ _⟩
        have F1Y : Hid (b1 = true → ∀ wx, wx = (we.setCell ⟨d4, 42, none⟩ (.slice (some ⟨we.heap.size, 0, none⟩) 2 2)).alloc (.cells (flat encP [dblP, fourP]).toArray 51) → F1 wx) := fun e wx h => by
          have h := h.trans (set_alloc we hlt4 42 _ _)
          have hc : n1 = 0 ∧ ob.h.up ≠ 2 := of_decide_eq_true (hb1 ▸ e)
          have e1 : u1 = [dblP, fourP] := hu1.trans (if_pos ⟨(lz _).2 (hn1 ▸ hc.1), hc.2⟩)
          obtain ⟨g1, g2, g3, g4⟩ := step_new [dblP, fourP] (p := 42) E4.out wx h
          rw [hF1]
          refine ⟨_, g1, by simp, fun i hi => Array.getElem?_setIfInBounds_ne (fun e => hi e.symm), fun wz x => ?_, g2⟩
          rw [e1, Array.getElem?_setIfInBounds_self_of_lt (by omega)]
          exact ⟨_, _, rfl, row_new ((x.block _ g4 (by omega)).trans g3) (by decide)⟩
        have F2N : Hid (b2 = false → ∀ wx, F1 wx → F2 wx) := fun e wx h => by
          have hc : ¬ (n2 = 0 ∧ ob.h.dp ≠ 2) := of_decide_eq_false (hb2 ▸ e)
          have e1 : wayR ob.h.dpol ob.h.dp [dblP] = ob.h.dpol := if_neg (fun h => hc ⟨hn2.trans ((lz _).1 h.1), h.2⟩)
          rw [hF1] at h
          obtain ⟨W1, g1, g2, g3, g4, g5⟩ := h
          rw [hF2]
          refine ⟨⟨W1, g1, ?_⟩, g5⟩
          rw [HD.out, ← hu1, e1]
          have K := KEEP.out wx g5
          exact set_obj_h K g2 (fun i h1 _ => g3 i h1) (g4 wx (Xb.refl _ _)) (by rw [g3 45 (by decide)]; exact K.2.2.2.2.2.2.2.2.2.2.2.2.2.2.2.2.1)
        have F2Y : Hid (b2 = true → ∀ wx, F1 wx → ∀ wz, wz = (wx.setCell ⟨d4, 45, none⟩ (.slice (some ⟨wx.heap.size, 0, none⟩) 1 1)).alloc (.cells (flat encP [dblP]).toArray 51) → F2 wz) := fun e wx h wz hz => by
          have hc : n2 = 0 ∧ ob.h.dp ≠ 2 := of_decide_eq_true (hb2 ▸ e)
          have e1 : wayR ob.h.dpol ob.h.dp [dblP] = [dblP] := if_pos ⟨(lz _).2 (hn2 ▸ hc.1), hc.2⟩
          rw [hF1] at h
          obtain ⟨W1, g1, g2, g3, g4, g5⟩ := h
          have hl1 : d4 < wx.heap.size := (Array.getElem?_eq_some_iff.1 g1).1
          have hz := hz.trans (set_alloc wx hl1 45 _ _)
          obtain ⟨k1, k2, k3, k4⟩ := step_new [dblP] (p := 45) g1 wz hz
          rw [hF2]
          refine ⟨⟨_, k1, ?_⟩, g5.trans k2⟩
          rw [HD.out, ← hu1, e1]
          refine set_obj_h (KEEP.out wz (g5.trans k2)) (by simp [g2]) (fun i h1 h2 => by rw [Array.getElem?_setIfInBounds_ne (fun e => h2 e.symm)]; exact g3 i h1) (by rw [Array.getElem?_setIfInBounds_ne (by decide)]; exact g4 wz k2) ?_
          rw [Array.getElem?_setIfInBounds_self_of_lt (by omega)]
          exact ⟨_, _, rfl, row_new k3 (by decide)⟩
        have FX : Hid (∀ wx, F1 wx → Xb d4 we wx ∧ (∀ i, wx.frozen? ⟨d4, i, none⟩ = false) ∧ wx.cell? ⟨d4, 45, none⟩ = some (.slice q45 n2 k45)) := fun wx h => by
          rw [hF1] at h
          obtain ⟨W1, g1, g2, g3, g4, g5⟩ := h
          exact ⟨g5, unfrozen_of_block g1, by rw [cell_of_block g1, g3 45 (by decide), ← cell_of_block E4.out]; exact d45⟩
        have FZ : Hid (∀ wx, F2 wx → (∃ Wn : Array Value, wx.heap[d4]? = some (.cells Wn 44 (0, 0)) ∧ ObjV wx Wn (dfl ob)) ∧ Xb d4 we wx) := fun wx h => by rw [hF2] at h; exact h
        have HB1 := Lib.hid hb1
        have HB2 := Lib.hid hb2
        generalize ob.h.up = p1 at m41 HB1
        generalize ob.h.dp = p2 at m44 HB2
        clear hF1 hF2 hu1 hn1 hn2 hb1 hb2 lz hz47
        go_upto_region 13 with fail
        go_cut [71] from 59 to 71 (fun v wx => v = .bool b1 ∧ wx = we)
        case first =>
          by_cases h0 : n1 = 0
          · have hn0 : ((n1 : Int) == 0) = true := by rw [h0]; rfl
            by_cases h2 : p1 = 2
            · have HE : Hid (b1 = false) := by show _ = _; rw [HB1.out]; exact decide_eq_false (fun h => h.2 h2)
              subst h2
              clear h0
              go_wp2
              go_meet
              case rel => exact ⟨by rw [HE.out], rfl⟩
            · have HE : Hid (b1 = true) := by show _ = _; rw [HB1.out]; exact decide_eq_true ⟨h0, h2⟩
              have tp : (p1 != 2) = true := by simp [h2]
              clear h0
              go_wp2
              go_meet
              case rel => exact ⟨by rw [HE.out], rfl⟩
          · have HE : Hid (b1 = false) := by show _ = _; rw [HB1.out]; exact decide_eq_false (fun h => h0 h.1)
            have hn0 : ((n1 : Int) == 0) = false := by rw [beq_eq_false_iff_ne]; omega
            clear h0
            go_wp2
            go_meet
            case rel => exact ⟨by rw [HE.out], rfl⟩
        case rest =>
          obtain ⟨rfl, hwx⟩ := hcut
          have hwy := hwx.symm
          clear hwx
          subst hwy
          go_upto_if 71 with fail
          go_cut [2] from 72 to 77 (fun v wx => v = .bool false ∧ Hid (F1 wx))
          case first =>
            cases b1 with
            | false =>
              go_wp2
              go_meet
              case rel => exact ⟨rfl, F1N.out (by first | rfl | trivial)⟩
            | true =>
              go_wp2
              go_meet
              case rel => exact ⟨rfl, F1Y.out (by first | rfl | trivial) _ rfl⟩
          case rest =>
            obtain ⟨rfl, HF1⟩ := hcut
            have hx := FX.out _ HF1.out
            have m44c := hx.1.cell m44 NEQ.out.2.1
            have m45c := hx.1.cell m45 NEQ.out.2.1
            have k0c := hx.1.cell k0 NEQ.out.2.1
            have u45c := hx.2.1 45
            have d45c := hx.2.2
            have hlt4c : d4 < wc.heap.size := Nat.lt_of_lt_of_le hlt4 hx.1.size
            clear hx
            go_upto_region 15 with fail
            go_cut [90] from 78 to 90 (fun v wx => v = .bool b2 ∧ wx = wc)
            case first =>
              by_cases h0 : n2 = 0
              · have hn0 : ((n2 : Int) == 0) = true := by rw [h0]; rfl
                by_cases h2 : p2 = 2
                · have HE : Hid (b2 = false) := by show _ = _; rw [HB2.out]; exact decide_eq_false (fun h => h.2 h2)
                  subst h2
                  clear h0
                  go_wp2
                  go_meet
                  case rel => exact ⟨by rw [HE.out], rfl⟩
                · have HE : Hid (b2 = true) := by show _ = _; rw [HB2.out]; exact decide_eq_true ⟨h0, h2⟩
                  have tp : (p2 != 2) = true := by simp [h2]
                  clear h0
                  go_wp2
                  go_meet
                  case rel => exact ⟨by rw [HE.out], rfl⟩
              · have HE : Hid (b2 = false) := by show _ = _; rw [HB2.out]; exact decide_eq_false (fun h => h0 h.1)
                have hn0 : ((n2 : Int) == 0) = false := by rw [beq_eq_false_iff_ne]; omega
                clear h0
                go_wp2
                go_meet
                case rel => exact ⟨by rw [HE.out], rfl⟩
            case rest =>
              obtain ⟨rfl, hwx⟩ := hcut
              have hwy := hwx.symm
              clear hwx
              subst hwy
              go_upto_if 90 with fail
              go_cut [2] from 91 to 95 (fun v wx => v = .bool false ∧ Hid (F2 wx))
              case first =>
                cases b2 with
                | false =>
                  go_wp2
                  go_meet
                  case rel => exact ⟨rfl, F2N.out (by first | rfl | trivial) _ HF1.out⟩
                | true =>
                  go_wp2
                  go_meet
                  case rel => exact ⟨rfl, F2Y.out (by first | rfl | trivial) _ HF1.out _ rfl⟩
              case rest =>
                obtain ⟨rfl, HF2⟩ := hcut
                have HZ := Lib.hid (FZ.out _ HF2.out)
                clear HF1 HF2 F1N F1Y F2N F2Y FX FZ HB1 HB2 m44c m45c k0c u45c d45c hlt4 hlt4c
                go_upto_region 17 with fail
                obtain ⟨⟨Wn, hWn, vWn⟩, xWn0⟩ := HZ.out
                obtain ⟨wy, hwy⟩ : ∃ wy, wy = wc := ⟨_, rfl⟩
                have xWn : Xb d4 we wy := hwy ▸ xWn0
                clear xWn0
                rw [← hwy] at hWn vWn ⊢
                have e3 : wy.heap[d3]? = some (.cells E 44 (0, 0)) := (xWn.block d3 (Array.getElem?_eq_some_iff.1 E3.out).1 NEQ.out.1).trans E3.out
                have vE : ObjV wy E (dfl ob) := VD3.out.1.below (TO.out wy xWn)
                have eB : wy.heap[B]? = some (.cells cs 44 (0, 0)) := (xWn.block B (Array.getElem?_eq_some_iff.1 EB.out).1 NEQ.out.2.1).trans EB.out
                have FD := Lib.hid (fits_dfl HW.out.2.2.2.2.2.1 TI.out)
                have TD := Lib.hid (tiny_dfl TI.out)
                have KS : Hid (∀ w', Below wy.heap.size wy w' → w'.rangeAt d3 0 E.toList ∧ w'.rangeAt d4 0 Wn.toList) := fun w' b => ⟨rangeAt_block ((b.block d3 (Array.getElem?_eq_some_iff.1 e3).1).trans e3), rangeAt_block ((b.block d4 (Array.getElem?_eq_some_iff.1 hWn).1).trans hWn)⟩
                have S1 : Hid (∀ w', Below wy.heap.size wy w' → Calls Try.prog 11 #[.agg E, .agg Wn] w' fun e w'' => e = .returned (.bool true) ∧ Below wy.heap.size wy w'') := fun w' b =>
                  (same_any w' E Wn (dfl ob) (vE.below b) (vWn.below b) FD.out TD.out).mono fun e w'' h => ⟨h.1, (Xb.ofBelow b wy.heap.size |>.trans (Xb.ofGr h.2 _)).below (Nat.le_refl _) (Nat.le_refl _)⟩
                have S2 : Hid (∀ w', Below wy.heap.size wy w' → Calls Try.prog 10 #[.agg E] w' fun e w'' => (∃ E2, e = .returned (.agg E2) ∧ ObjV w'' E2 (dfl ob)) ∧ Below wy.heap.size wy w'') := fun w' b =>
                  (default_any w' E (dfl ob) (vE.below b) VD3.out.2 TD.out.small).mono fun e w'' h => by
                    obtain ⟨⟨E2, h1, h2, _⟩, h3⟩ := h
                    rw [dfl_again] at h2
                    exact ⟨⟨E2, h1, h2⟩, (Xb.ofBelow b wy.heap.size |>.trans (Xb.ofBelow h3 _)).below (Nat.le_refl _) (Nat.le_refl _)⟩
                have S3 : Hid (∀ w' E2, Below wy.heap.size wy w' → ObjV w' E2 (dfl ob) → Calls Try.prog 11 #[.agg E2, .agg E] w' fun e w'' => e = .returned (.bool true) ∧ Below wy.heap.size wy w'') := fun w' E2 b v2 =>
                  (same_any w' E2 E (dfl ob) v2 (vE.below b) FD.out TD.out).mono fun e w'' h => ⟨h.1, (Xb.ofBelow b wy.heap.size |>.trans (Xb.ofGr h.2 _)).below (Nat.le_refl _) (Nat.le_refl _)⟩
                have hu := Try.underlying44
                have hi3 : (Try.prog.info? 44).map (·.size) = some E.toList.length := by rw [Array.length_toList, vE.1]; exact info_ob47
                have hi4 : (Try.prog.info? 44).map (·.size) = some Wn.toList.length := by rw [Array.length_toList, vWn.1]; exact info_ob47
                have K0 : Hid (Below wy.heap.size wy wy.drew) := ((Gr.refl wy).drewN 1).below
                have TYY := Lib.hid (And.intro e3 (And.intro vE (And.intro hWn (And.intro vWn (And.intro xWn eB)))))
                clear e3 vE hWn vWn xWn hwy eB HZ
                refine wp_region_held_drew (S := fun w' => Below wy.heap.size wy w') mixed K0.out (fun hHeld => ?_)
                refine wpAnyH_take (i := 0) (v := .agg E.toList.toArray) rfl (by kernel_rfl) (by kernel_rfl) (by kernel_rfl) (fun _ _ _ h => h) (yieldsIf_load_mid (by kernel_rfl) _ _ rfl d3 0 (by kernel_rfl) E.toList _ (fun ws hSw => (KS.out ws hSw).1) hu rfl hi3) hHeld ?_
                simp only [Act.put, List.setIfInBounds_toArray, List.set_cons_zero, List.set_cons_succ]
                refine wpAnyH_take (i := 1) (v := .agg Wn.toList.toArray) rfl (by kernel_rfl) (by kernel_rfl) (by kernel_rfl) (fun _ _ _ h => h) (yieldsIf_load_mid (by kernel_rfl) _ _ rfl d4 0 (by kernel_rfl) Wn.toList _ (fun ws hSw => (KS.out ws hSw).2) hu rfl hi4) hHeld ?_
                simp only [Act.put, List.setIfInBounds_toArray, List.set_cons_zero, List.set_cons_succ]
                refine wpAnyH_ready (rs := [2]) (by kernel_rfl) (by simp) ?_
                refine AllReadyH.cons rfl (fun K hK => ?_) AllReadyH.nil
                go_simp
                refine (S1.out _ K0.out).mono ?_
                rintro e w5 ⟨rfl, b5⟩
                refine hK _ _ b5 (fun _ => ?_)
                try (simp only [Act.put, List.setIfInBounds_toArray, List.set_cons_zero, List.set_cons_succ])
                refine wpAnyH_takeD (i := 3) (d := 99) (v := .bool false) _ rfl rfl (by kernel_rfl) (by kernel_rfl) (by kernel_rfl) (fun _ _ _ h => h) (Or.inl ⟨by kernel_rfl, fun ws hSw => by first | (go_simp; done) | (go_simp; with_reducible rfl) | (go_simp; rfl)⟩) b5 ?_
                simp only [Act.put, List.setIfInBounds_toArray, List.set_cons_zero, List.set_cons_succ]
                refine wpAnyH_takeD (i := 4) (d := 100) (v := .bool false) _ rfl rfl (by kernel_rfl) (by kernel_rfl) (by kernel_rfl) (fun _ _ _ h => h) (Or.inl ⟨by kernel_rfl, fun ws hSw => by first | (go_simp; done) | (go_simp; with_reducible rfl) | (go_simp; rfl)⟩) b5 ?_
                simp only [Act.put, List.setIfInBounds_toArray, List.set_cons_zero, List.set_cons_succ]
                refine wpAnyH_take (i := 5) (v := .agg E.toList.toArray) rfl (by kernel_rfl) (by kernel_rfl) (by kernel_rfl) (fun _ _ _ h => h) (yieldsIf_load_mid (by kernel_rfl) _ _ rfl d3 0 (by kernel_rfl) E.toList _ (fun ws hSw => (KS.out ws hSw).1) hu rfl hi3) b5 ?_
                simp only [Act.put, List.setIfInBounds_toArray, List.set_cons_zero, List.set_cons_succ]
                refine wpAnyH_take (i := 7) (v := .agg E.toList.toArray) rfl (by kernel_rfl) (by kernel_rfl) (by kernel_rfl) (fun _ _ _ h => h) (yieldsIf_load_mid (by kernel_rfl) _ _ rfl d3 0 (by kernel_rfl) E.toList _ (fun ws hSw => (KS.out ws hSw).1) hu rfl hi3) b5 ?_
                simp only [Act.put, List.setIfInBounds_toArray, List.set_cons_zero, List.set_cons_succ]
                refine wpAnyH_ready (rs := [6]) (by kernel_rfl) (by simp) ?_
                refine AllReadyH.cons rfl (fun K hK => ?_) AllReadyH.nil
                go_simp
                refine (S2.out _ b5).mono ?_
                rintro e w6 ⟨⟨E2, rfl, v6⟩, b6⟩
                refine hK _ _ b6 (fun _ => ?_)
                try (simp only [Act.put, List.setIfInBounds_toArray, List.set_cons_zero, List.set_cons_succ])
                refine wpAnyH_ready (rs := [8]) (by kernel_rfl) (by simp) ?_
                refine AllReadyH.cons rfl (fun K hK => ?_) AllReadyH.nil
                go_simp
                refine (S3.out _ E2 b6 v6).mono ?_
                rintro e w7 ⟨rfl, b7⟩
                refine hK _ _ b7 (fun _ => ?_)
                try (simp only [Act.put, List.setIfInBounds_toArray, List.set_cons_zero, List.set_cons_succ])
                refine wpAnyH_takeD (i := 9) (d := 105) (v := .bool false) _ rfl rfl (by kernel_rfl) (by kernel_rfl) (by kernel_rfl) (fun _ _ _ h => h) (Or.inl ⟨by kernel_rfl, fun ws hSw => by first | (go_simp; done) | (go_simp; with_reducible rfl) | (go_simp; rfl)⟩) b7 ?_
                simp only [Act.put, List.setIfInBounds_toArray, List.set_cons_zero, List.set_cons_succ]
                refine wpAnyH_takeD (i := 10) (d := 106) (v := .bool false) _ rfl rfl (by kernel_rfl) (by kernel_rfl) (by kernel_rfl) (fun _ _ _ h => h) (Or.inl ⟨by kernel_rfl, fun ws hSw => by first | (go_simp; done) | (go_simp; with_reducible rfl) | (go_simp; rfl)⟩) b7 ?_
                simp only [Act.put, List.setIfInBounds_toArray, List.set_cons_zero, List.set_cons_succ]
                refine wpAnyH_done (by kernel_rfl) ?_ _
                -- behind region 17
                have X7 : Hid (Xb d4 we w7) := TYY.out.2.2.2.2.1.trans (Xb.ofBelow b7 d4)
                have V7 : Hid (ObjV w7 cs ob) := KEEP.out w7 X7.out
                have VE7 : Hid (ObjV w7 E (dfl ob)) := TYY.out.2.1.below b7
                have VW7 : Hid (ObjV w7 Wn (dfl ob)) := TYY.out.2.2.2.1.below b7
                have e37 : Hid (w7.heap[d3]? = some (.cells E 44 (0, 0))) := (b7.block d3 (Array.getElem?_eq_some_iff.1 TYY.out.1).1).trans TYY.out.1
                have e47 : Hid (w7.heap[d4]? = some (.cells Wn 44 (0, 0))) := (b7.block d4 (Array.getElem?_eq_some_iff.1 TYY.out.2.2.1).1).trans TYY.out.2.2.1
                have eB7 : Hid (w7.heap[B]? = some (.cells cs 44 (0, 0))) := (b7.block B (Array.getElem?_eq_some_iff.1 TYY.out.2.2.2.2.2).1).trans TYY.out.2.2.2.2.2
                clear b7 b6 b5 v6 S1 S2 S3 KS K0 TYY hi3 hi4 hHeld hK
                go_upto_region 19 with fail
                go_cut [5] from 107 to 114 (fun v wx => ∃ d5, v = .pointer (some ⟨d5, 0, none⟩) ∧ Hid (∃ SH, wx.heap[d5]? = some (.cells SH 44 (0, 0)) ∧ ObjV wx SH (shp ob)) ∧ Hid (Below w7.heap.size w7 wx))
                case first =>
                  have hsz := V7.out.1
                  have hver := V7.out.2.1.2.2.2
                  have HX := ext_hp V7.out
                  have NX := ext_nil hsz HW.out.2.2.2.2.2.2
                  have ts := TI.out
                  have CS : Hid (∀ w', Below w7.heap.size w7 w' → Calls Try.prog 12 #[.agg (cs.extract 35 47)] w' fun e w'' => (∃ D, e = .returned (.agg D) ∧ HpS w'' D (fillH ob.h) ∧ HpO w'.heap.size w'' D (fillH ob.h)) ∧ Below w'.heap.size w' w'') := fun w' b =>
                    shape_any w' _ ob.h (ext_hp (V7.out.below b)) NX (by unfold TinyO at ts; omega)
                  have K7 : Hid (Below w7.heap.size w7 w7.drew) := ((Gr.refl w7).drewN 1).below
                  have KB : Hid (∀ w', Below w7.heap.size w7 w' → w'.cell? ⟨B, 1, none⟩ = some (.string ob.name) ∧ w'.cell? ⟨B, 2, none⟩ = some (.int .u64 (ob.ver : Int)) ∧ w'.rangeAt B 35 (cs.extract 35 47).toList) := fun w' b => by
                    have hb := (b.block B (Array.getElem?_eq_some_iff.1 eB7.out).1).trans eB7.out
                    exact ⟨by rw [cell_of_block hb]; exact V7.out.2.1.2.1, by rw [cell_of_block hb]; exact V7.out.2.1.2.2.1, ext_range hsz hb⟩
                  have hiH : (Try.prog.info? 42).map (·.size) = some (cs.extract 35 47).toList.length := by rw [Array.length_toList, ext_size hsz]; exact info_hp
                  have huH := Try.underlying42
                  have HVV := Lib.hid hver
                  clear HX NX ts hsz hver
                  generalize cs.extract 35 47 = cx at CS KB hiH
                  refine wp_region_held_drew (S := fun w' => Below w7.heap.size w7 w') mixed K7.out (fun hHeld => ?_)
                  refine wpAnyH_takeD (i := 0) (d := 107) (v := .pointer (some ⟨B, 1, none⟩)) _ rfl rfl (by kernel_rfl) (by kernel_rfl) (by kernel_rfl) (fun _ _ _ h => h) (Or.inl ⟨by kernel_rfl, fun ws hSw => by first | (go_simp; done) | (go_simp; with_reducible rfl) | (go_simp; rfl)⟩) hHeld ?_
                  simp only [Act.put, List.setIfInBounds_toArray, List.set_cons_zero, List.set_cons_succ]
                  refine wpAnyH_takeD (i := 1) (d := 108) (v := .string ob.name) _ rfl rfl (by kernel_rfl) (by kernel_rfl) (by kernel_rfl) (fun _ _ _ h => h) (Or.inl ⟨by kernel_rfl, fun ws hSw => by have h1 := (KB.out ws hSw).1; first | (go_simp; done) | (go_simp; with_reducible rfl) | (go_simp; rfl)⟩) hHeld ?_
                  simp only [Act.put, List.setIfInBounds_toArray, List.set_cons_zero, List.set_cons_succ]
                  refine wpAnyH_takeD (i := 2) (d := 109) (v := .pointer (some ⟨B, 2, none⟩)) _ rfl rfl (by kernel_rfl) (by kernel_rfl) (by kernel_rfl) (fun _ _ _ h => h) (Or.inl ⟨by kernel_rfl, fun ws hSw => by first | (go_simp; done) | (go_simp; with_reducible rfl) | (go_simp; rfl)⟩) hHeld ?_
                  simp only [Act.put, List.setIfInBounds_toArray, List.set_cons_zero, List.set_cons_succ]
                  refine wpAnyH_takeD (i := 3) (d := 110) (v := .int .u64 (ob.ver : Int)) _ rfl rfl (by kernel_rfl) (by kernel_rfl) (by kernel_rfl) (fun _ _ _ h => h) (Or.inl ⟨by kernel_rfl, fun ws hSw => by have h1 := (KB.out ws hSw).2.1; first | (go_simp; done) | (go_simp; with_reducible rfl) | (go_simp; rfl)⟩) hHeld ?_
                  simp only [Act.put, List.setIfInBounds_toArray, List.set_cons_zero, List.set_cons_succ]
                  refine wpAnyH_takeD (i := 4) (d := 111) (v := .pointer (some ⟨B, 35, none⟩)) _ rfl rfl (by kernel_rfl) (by kernel_rfl) (by kernel_rfl) (fun _ _ _ h => h) (Or.inl ⟨by kernel_rfl, fun ws hSw => by first | (go_simp; done) | (go_simp; with_reducible rfl) | (go_simp; rfl)⟩) hHeld ?_
                  simp only [Act.put, List.setIfInBounds_toArray, List.set_cons_zero, List.set_cons_succ]
                  refine wpAnyH_takeD (i := 5) (d := 112) (v := .agg cx.toList.toArray) _ rfl rfl (by kernel_rfl) (by kernel_rfl) (by kernel_rfl) (fun _ _ _ h => h) (yieldsIf_load_mid (by kernel_rfl) _ _ rfl B 35 (by kernel_rfl) cx.toList _ (fun ws hSw => (KB.out ws hSw).2.2) huH rfl hiH) hHeld ?_
                  simp only [Act.put, List.setIfInBounds_toArray, List.set_cons_zero, List.set_cons_succ]
                  refine wpAnyH_ready (rs := [6, 8]) (by kernel_rfl) (by simp) ?_
                  refine AllReadyH.cons rfl (fun K hK => ?_) (AllReadyH.cons rfl (fun K hK => ?_) AllReadyH.nil)
                  · go_simp
                    refine (CS.out _ hHeld).mono ?_
                    rintro e w8 ⟨⟨D, rfl, hD, hO⟩, b8⟩
                    have B8 : Below w7.heap.size w7 w8 := ((Xb.ofBelow hHeld w7.heap.size).trans (Xb.ofBelow b8 _)).below (Nat.le_refl _) (Nat.le_refl _)
                    have FIN := Lib.hid (shp_a B8 hD HVV.out)
                    have ONE := Lib.hid (shp_ones hD HVV.out)
                    refine hK _ _ B8 (fun _ => ?_)
                    try (simp only [Act.put, List.setIfInBounds_toArray, List.set_cons_zero, List.set_cons_succ])
                    refine wpAnyH_takeD (i := 7) (d := 114) (v := .agg (shpC ob.name (ob.ver : Int) D)) _ rfl rfl (by kernel_rfl) (by kernel_rfl) (by kernel_rfl) (fun _ _ _ h => h) (Or.inl ⟨by kernel_rfl, fun ws hSw => run_shp rfl (by kernel_rfl) hD.1 ws⟩) B8 ?_
                    simp only [Act.put, List.setIfInBounds_toArray, List.set_cons_zero, List.set_cons_succ]
                    refine wpAnyH_one (i := 8) (by kernel_rfl) ?_
                    refine Mk5.step (d := 5) (Z := .cells zerC 44) ⟨⟨_, rfl, rfl, fun _ => rfl, fun a ws => by first | (go_simp; done) | (go_simp; rfl)⟩⟩ ⟨B8.alloc B8.size _, ?_⟩
                    simp only [Act.put, List.setIfInBounds_toArray, List.set_cons_zero, List.set_cons_succ]
                    refine wpAnyH_one (i := 9) (by kernel_rfl) ?_
                    refine St5.step (d := 5) (t := 114) (n := 47) (b := w8.heap.size) (l := (shpC ob.name (ob.ver : Int) D).toList) ⟨⟨_, _, rfl, rfl, fun _ => rfl, rfl, by kernel_rfl⟩⟩ (by kernel_rfl) (by kernel_rfl) ONE.out.1 (zer_there w8 rfl) ONE.out.2 ⟨FIN.out.2, ?_⟩
                    refine wpAnyH_done (by kernel_rfl) ?_ _
                    go_wp2_with fail
                    go_meet
                    case rel => exact ⟨_, rfl, FIN.out.1, FIN.out.2⟩
                  · go_simp
                    obtain ⟨w8, hw8⟩ : ∃ w8, w8 = (w7.alloc (.cells zerC 44)).drew := ⟨_, rfl⟩
                    rw [← hw8]
                    have B8 : Below w7.heap.size w7 w8 := by rw [hw8]; exact ((Below.refl _ _).alloc (Nat.le_refl _) _).drew
                    have h5 : w8.heap[w7.heap.size]? = some (.cells zerC 44 (0, 0)) := by rw [hw8]; exact heap_alloc_new w7 _
                    clear hw8
                    refine hK _ _ B8 (fun _ => ?_)
                    try (simp only [Act.put, List.setIfInBounds_toArray, List.set_cons_zero, List.set_cons_succ])
                    refine wpAnyH_ready (rs := [6]) (by kernel_rfl) (by simp) ?_
                    refine AllReadyH.cons rfl (fun K hK => ?_) AllReadyH.nil
                    go_simp
                    refine (CS.out _ B8).mono ?_
                    rintro e w9 ⟨⟨D, rfl, hD, hO⟩, b9⟩
                    have B9 : Below w7.heap.size w7 w9 := ((Xb.ofBelow B8 w7.heap.size).trans (Xb.ofBelow b9 _)).below (Nat.le_refl _) (Nat.le_refl _)
                    have FIN := Lib.hid (shp_b B8 (Nat.le_refl _) h5 b9 hD hO HVV.out)
                    have ONE := Lib.hid (shp_ones hD HVV.out)
                    have TH5 := Lib.hid (there_block ((b9.block _ (Array.getElem?_eq_some_iff.1 h5).1).trans h5))
                    clear h5 hO
                    refine hK _ _ B9 (fun _ => ?_)
                    try (simp only [Act.put, List.setIfInBounds_toArray, List.set_cons_zero, List.set_cons_succ])
                    refine wpAnyH_takeD (i := 7) (d := 114) (v := .agg (shpC ob.name (ob.ver : Int) D)) _ rfl rfl (by kernel_rfl) (by kernel_rfl) (by kernel_rfl) (fun _ _ _ h => h) (Or.inl ⟨by kernel_rfl, fun ws hSw => run_shp rfl (by kernel_rfl) hD.1 ws⟩) B9 ?_
                    simp only [Act.put, List.setIfInBounds_toArray, List.set_cons_zero, List.set_cons_succ]
                    refine wpAnyH_one (i := 9) (by kernel_rfl) ?_
                    refine St5.step (d := 5) (t := 114) (n := 47) (b := w7.heap.size) (l := (shpC ob.name (ob.ver : Int) D).toList) ⟨⟨_, _, rfl, rfl, fun _ => rfl, rfl, by kernel_rfl⟩⟩ (by kernel_rfl) (by kernel_rfl) ONE.out.1 TH5.out ONE.out.2 ⟨FIN.out.2, ?_⟩
                    refine wpAnyH_done (by kernel_rfl) ?_ _
                    go_wp2_with fail
                    go_meet
                    case rel => exact ⟨_, rfl, FIN.out.1, FIN.out.2⟩

                case rest =>
                  obtain ⟨d5, rfl, HS5, HB5⟩ := hcut
                  have b5 := HB5.out
                  have k0c : wc.cell? ⟨B, 0, none⟩ = some (.int .i64 4) := by rw [cell_of_block ((b5.block B (Array.getElem?_eq_some_iff.1 eB7.out).1).trans eB7.out)]; exact (by have := V7.out.2.1.1; rw [this, HK.out])
                  have VC : Hid (ObjV wc cs ob) := V7.out.below b5
                  have VEC : Hid (ObjV wc E (dfl ob)) := VE7.out.below b5
                  have eBc : Hid (wc.heap[B]? = some (.cells cs 44 (0, 0))) := (b5.block B (Array.getElem?_eq_some_iff.1 eB7.out).1).trans eB7.out
                  have e3c : Hid (wc.heap[d3]? = some (.cells E 44 (0, 0))) := (b5.block d3 (Array.getElem?_eq_some_iff.1 e37.out).1).trans e37.out
                  have e4c : Hid (wc.heap[d4]? = some (.cells Wn 44 (0, 0))) := (b5.block d4 (Array.getElem?_eq_some_iff.1 e47.out).1).trans e47.out
                  have XC : Hid (Xb d4 we wc) := X7.out.trans (Xb.ofBelow b5 d4)
                  have VWC : Hid (ObjV wc Wn (dfl ob)) := VW7.out.below b5
                  have BWC : Hid (∀ wz, Gr wc wz → Below W.heap.size W wz) := fun wz g => by
                    have x : Xb d4 W wz := (Xb.ofBelow BW.out d4).trans (XC.out.trans (Xb.ofGr g d4))
                    exact x.below WLE.out (Nat.le_refl _)
                  have LBc := Lib.hid (fun (w' : World) (g : Gr wc w') => load_ob ((g.heap (Array.getElem?_eq_some_iff.1 eBc.out).1).trans eBc.out) VC.out.1)
                  have L3c := Lib.hid (fun (w' : World) (g : Gr wc w') => load_ob ((g.heap (Array.getElem?_eq_some_iff.1 e3c.out).1).trans e3c.out) VEC.out.1)
                  have CK1 := Lib.hid (fun (w' : World) (g : Gr wc w') => check_any w' cs ob (VC.out.below g.below) HW.out.2.2.2.2.2.1)
                  have CK2 := Lib.hid (fun (w' : World) (g : Gr wc w') => check_any w' E (dfl ob) (VEC.out.below g.below) FD.out)
                  have CH : Hid (chkE ob = 0 → chkE (dfl ob) = 0) := chk_dfl
                  clear b5 HB5 X7 V7 VE7 VW7 e37 e47 eB7
                  obtain ⟨SH, h5, v5⟩ := HS5.out
                  have L5 := Lib.hid (load_ob h5 v5.1)
                  have L4 := Lib.hid (load_ob e4c.out VWC.out.1)
                  have SS := Lib.hid (same_shp wc SH Wn ob HK.out v5 VWC.out HW.out.2.2.2.2.2.1 TI.out)
                  clear h5 v5
                  go_wp2_with (first | (refine wpList_load_by (by kernel_rfl) 44 _ rfl (.pointer (some ⟨d5, 0, none⟩)) (.agg SH) (by rfl) L5.out ?_) | (refine wpList_load_by (by kernel_rfl) 44 _ rfl (.pointer (some ⟨d4, 0, none⟩)) (.agg Wn) (by rfl) L4.out ?_))
                  refine SS.out.mono ?_
                  rintro e wq ⟨rfl, gq⟩
                  have HGZ := Lib.hid gq
                  clear gq
                  go_wp2_with (refine wpList_load_by (by kernel_rfl) 44 _ rfl (.pointer (some ⟨B, 0, none⟩)) (.agg cs) (by rfl) (LBc.out _ HGZ.out) ?_)
                  refine (CK1.out _ HGZ.out).mono ?_
                  rintro e w11 ⟨rfl, g11⟩
                  have G11 := Lib.hid (HGZ.out.trans g11)
                  clear g11
                  by_cases hce : chkE ob = 0
                  · have hde := CH.out hce
                    rw [hce]
                    rw [hde] at CK2
                    go_wp2_with (refine wpList_load_by (by kernel_rfl) 44 _ rfl (.pointer (some ⟨d3, 0, none⟩)) (.agg E) (by rfl) (L3c.out _ G11.out) ?_)
                    refine (CK2.out _ G11.out).mono ?_
                    rintro e w12 ⟨rfl, g12⟩
                    have G12 := Lib.hid (G11.out.trans g12)
                    clear g12
                    go_wp2
                    go_ret
                    exact ⟨rfl, BWC.out _ G12.out⟩
                  · have tce : (chkE ob != 0) = true := by simp [hce]
                    generalize chkE ob = ce at tce ⊢
                    clear hce CH CK1 CK2
                    go_wp2
                    go_ret
                    exact ⟨rfl, BWC.out _ G11.out⟩
      · have HD : Hid (dfl ob = ob) := (if_neg (by rw [← hk]; exact h3)).trans (if_neg (by rw [← hk]; exact h4))
        have HZ : Hid ((∃ Wn : Array Value, we.heap[d4]? = some (.cells Wn 44 (0, 0)) ∧ ObjV we Wn (dfl ob)) ∧ Xb d4 we we) := ⟨⟨cs, E4.out, by rw [HD.out]; exact KEEP.out we (Xb.refl _ _)⟩, Xb.refl _ _⟩
        have t3 : (kk == 3) = false := by rw [beq_eq_false_iff_ne]; exact h3
        have t4 : (kk == 4) = false := by rw [beq_eq_false_iff_ne]; exact h4
        have HK : Hid (ob.kind = kk) := hk.symm
        clear hk hx
        go_upto_region 17 with fail
        obtain ⟨⟨Wn, hWn, vWn⟩, xWn0⟩ := HZ.out
        obtain ⟨wy, hwy⟩ : ∃ wy, wy = we := ⟨_, rfl⟩
        have xWn : Xb d4 we wy := hwy ▸ xWn0
        clear xWn0
        rw [← hwy] at hWn vWn ⊢
        have e3 : wy.heap[d3]? = some (.cells E 44 (0, 0)) := (xWn.block d3 (Array.getElem?_eq_some_iff.1 E3.out).1 NEQ.out.1).trans E3.out
        have vE : ObjV wy E (dfl ob) := VD3.out.1.below (TO.out wy xWn)
        have eB : wy.heap[B]? = some (.cells cs 44 (0, 0)) := (xWn.block B (Array.getElem?_eq_some_iff.1 EB.out).1 NEQ.out.2.1).trans EB.out
        have FD := Lib.hid (fits_dfl HW.out.2.2.2.2.2.1 TI.out)
        have TD := Lib.hid (tiny_dfl TI.out)
        have KS : Hid (∀ w', Below wy.heap.size wy w' → w'.rangeAt d3 0 E.toList ∧ w'.rangeAt d4 0 Wn.toList) := fun w' b => ⟨rangeAt_block ((b.block d3 (Array.getElem?_eq_some_iff.1 e3).1).trans e3), rangeAt_block ((b.block d4 (Array.getElem?_eq_some_iff.1 hWn).1).trans hWn)⟩
        have S1 : Hid (∀ w', Below wy.heap.size wy w' → Calls Try.prog 11 #[.agg E, .agg Wn] w' fun e w'' => e = .returned (.bool true) ∧ Below wy.heap.size wy w'') := fun w' b =>
          (same_any w' E Wn (dfl ob) (vE.below b) (vWn.below b) FD.out TD.out).mono fun e w'' h => ⟨h.1, (Xb.ofBelow b wy.heap.size |>.trans (Xb.ofGr h.2 _)).below (Nat.le_refl _) (Nat.le_refl _)⟩
        have S2 : Hid (∀ w', Below wy.heap.size wy w' → Calls Try.prog 10 #[.agg E] w' fun e w'' => (∃ E2, e = .returned (.agg E2) ∧ ObjV w'' E2 (dfl ob)) ∧ Below wy.heap.size wy w'') := fun w' b =>
          (default_any w' E (dfl ob) (vE.below b) VD3.out.2 TD.out.small).mono fun e w'' h => by
            obtain ⟨⟨E2, h1, h2, _⟩, h3⟩ := h
            rw [dfl_again] at h2
            exact ⟨⟨E2, h1, h2⟩, (Xb.ofBelow b wy.heap.size |>.trans (Xb.ofBelow h3 _)).below (Nat.le_refl _) (Nat.le_refl _)⟩
        have S3 : Hid (∀ w' E2, Below wy.heap.size wy w' → ObjV w' E2 (dfl ob) → Calls Try.prog 11 #[.agg E2, .agg E] w' fun e w'' => e = .returned (.bool true) ∧ Below wy.heap.size wy w'') := fun w' E2 b v2 =>
          (same_any w' E2 E (dfl ob) v2 (vE.below b) FD.out TD.out).mono fun e w'' h => ⟨h.1, (Xb.ofBelow b wy.heap.size |>.trans (Xb.ofGr h.2 _)).below (Nat.le_refl _) (Nat.le_refl _)⟩
        have hu := Try.underlying44
        have hi3 : (Try.prog.info? 44).map (·.size) = some E.toList.length := by rw [Array.length_toList, vE.1]; exact info_ob47
        have hi4 : (Try.prog.info? 44).map (·.size) = some Wn.toList.length := by rw [Array.length_toList, vWn.1]; exact info_ob47
        have K0 : Hid (Below wy.heap.size wy wy.drew) := ((Gr.refl wy).drewN 1).below
        have TYY := Lib.hid (And.intro e3 (And.intro vE (And.intro hWn (And.intro vWn (And.intro xWn eB)))))
        clear e3 vE hWn vWn xWn hwy eB HZ
        refine wp_region_held_drew (S := fun w' => Below wy.heap.size wy w') mixed K0.out (fun hHeld => ?_)
        refine wpAnyH_take (i := 0) (v := .agg E.toList.toArray) rfl (by kernel_rfl) (by kernel_rfl) (by kernel_rfl) (fun _ _ _ h => h) (yieldsIf_load_mid (by kernel_rfl) _ _ rfl d3 0 (by kernel_rfl) E.toList _ (fun ws hSw => (KS.out ws hSw).1) hu rfl hi3) hHeld ?_
        simp only [Act.put, List.setIfInBounds_toArray, List.set_cons_zero, List.set_cons_succ]
        refine wpAnyH_take (i := 1) (v := .agg Wn.toList.toArray) rfl (by kernel_rfl) (by kernel_rfl) (by kernel_rfl) (fun _ _ _ h => h) (yieldsIf_load_mid (by kernel_rfl) _ _ rfl d4 0 (by kernel_rfl) Wn.toList _ (fun ws hSw => (KS.out ws hSw).2) hu rfl hi4) hHeld ?_
        simp only [Act.put, List.setIfInBounds_toArray, List.set_cons_zero, List.set_cons_succ]
        refine wpAnyH_ready (rs := [2]) (by kernel_rfl) (by simp) ?_
        refine AllReadyH.cons rfl (fun K hK => ?_) AllReadyH.nil
        go_simp
        refine (S1.out _ K0.out).mono ?_
        rintro e w5 ⟨rfl, b5⟩
        refine hK _ _ b5 (fun _ => ?_)
        try (simp only [Act.put, List.setIfInBounds_toArray, List.set_cons_zero, List.set_cons_succ])
        refine wpAnyH_takeD (i := 3) (d := 99) (v := .bool false) _ rfl rfl (by kernel_rfl) (by kernel_rfl) (by kernel_rfl) (fun _ _ _ h => h) (Or.inl ⟨by kernel_rfl, fun ws hSw => by first | (go_simp; done) | (go_simp; with_reducible rfl) | (go_simp; rfl)⟩) b5 ?_
        simp only [Act.put, List.setIfInBounds_toArray, List.set_cons_zero, List.set_cons_succ]
        refine wpAnyH_takeD (i := 4) (d := 100) (v := .bool false) _ rfl rfl (by kernel_rfl) (by kernel_rfl) (by kernel_rfl) (fun _ _ _ h => h) (Or.inl ⟨by kernel_rfl, fun ws hSw => by first | (go_simp; done) | (go_simp; with_reducible rfl) | (go_simp; rfl)⟩) b5 ?_
        simp only [Act.put, List.setIfInBounds_toArray, List.set_cons_zero, List.set_cons_succ]
        refine wpAnyH_take (i := 5) (v := .agg E.toList.toArray) rfl (by kernel_rfl) (by kernel_rfl) (by kernel_rfl) (fun _ _ _ h => h) (yieldsIf_load_mid (by kernel_rfl) _ _ rfl d3 0 (by kernel_rfl) E.toList _ (fun ws hSw => (KS.out ws hSw).1) hu rfl hi3) b5 ?_
        simp only [Act.put, List.setIfInBounds_toArray, List.set_cons_zero, List.set_cons_succ]
        refine wpAnyH_take (i := 7) (v := .agg E.toList.toArray) rfl (by kernel_rfl) (by kernel_rfl) (by kernel_rfl) (fun _ _ _ h => h) (yieldsIf_load_mid (by kernel_rfl) _ _ rfl d3 0 (by kernel_rfl) E.toList _ (fun ws hSw => (KS.out ws hSw).1) hu rfl hi3) b5 ?_
        simp only [Act.put, List.setIfInBounds_toArray, List.set_cons_zero, List.set_cons_succ]
        refine wpAnyH_ready (rs := [6]) (by kernel_rfl) (by simp) ?_
        refine AllReadyH.cons rfl (fun K hK => ?_) AllReadyH.nil
        go_simp
        refine (S2.out _ b5).mono ?_
        rintro e w6 ⟨⟨E2, rfl, v6⟩, b6⟩
        refine hK _ _ b6 (fun _ => ?_)
        try (simp only [Act.put, List.setIfInBounds_toArray, List.set_cons_zero, List.set_cons_succ])
        refine wpAnyH_ready (rs := [8]) (by kernel_rfl) (by simp) ?_
        refine AllReadyH.cons rfl (fun K hK => ?_) AllReadyH.nil
        go_simp
        refine (S3.out _ E2 b6 v6).mono ?_
        rintro e w7 ⟨rfl, b7⟩
        refine hK _ _ b7 (fun _ => ?_)
        try (simp only [Act.put, List.setIfInBounds_toArray, List.set_cons_zero, List.set_cons_succ])
        refine wpAnyH_takeD (i := 9) (d := 105) (v := .bool false) _ rfl rfl (by kernel_rfl) (by kernel_rfl) (by kernel_rfl) (fun _ _ _ h => h) (Or.inl ⟨by kernel_rfl, fun ws hSw => by first | (go_simp; done) | (go_simp; with_reducible rfl) | (go_simp; rfl)⟩) b7 ?_
        simp only [Act.put, List.setIfInBounds_toArray, List.set_cons_zero, List.set_cons_succ]
        refine wpAnyH_takeD (i := 10) (d := 106) (v := .bool false) _ rfl rfl (by kernel_rfl) (by kernel_rfl) (by kernel_rfl) (fun _ _ _ h => h) (Or.inl ⟨by kernel_rfl, fun ws hSw => by first | (go_simp; done) | (go_simp; with_reducible rfl) | (go_simp; rfl)⟩) b7 ?_
        simp only [Act.put, List.setIfInBounds_toArray, List.set_cons_zero, List.set_cons_succ]
        refine wpAnyH_done (by kernel_rfl) ?_ _
        -- behind region 17
        have X7 : Hid (Xb d4 we w7) := TYY.out.2.2.2.2.1.trans (Xb.ofBelow b7 d4)
        have V7 : Hid (ObjV w7 cs ob) := KEEP.out w7 X7.out
        have VE7 : Hid (ObjV w7 E (dfl ob)) := TYY.out.2.1.below b7
        have VW7 : Hid (ObjV w7 Wn (dfl ob)) := TYY.out.2.2.2.1.below b7
        have e37 : Hid (w7.heap[d3]? = some (.cells E 44 (0, 0))) := (b7.block d3 (Array.getElem?_eq_some_iff.1 TYY.out.1).1).trans TYY.out.1
        have e47 : Hid (w7.heap[d4]? = some (.cells Wn 44 (0, 0))) := (b7.block d4 (Array.getElem?_eq_some_iff.1 TYY.out.2.2.1).1).trans TYY.out.2.2.1
        have eB7 : Hid (w7.heap[B]? = some (.cells cs 44 (0, 0))) := (b7.block B (Array.getElem?_eq_some_iff.1 TYY.out.2.2.2.2.2).1).trans TYY.out.2.2.2.2.2
        clear b7 b6 b5 v6 S1 S2 S3 KS K0 TYY hi3 hi4 hHeld hK
        go_upto_region 19 with fail
        go_cut [5] from 107 to 114 (fun v wx => ∃ d5, v = .pointer (some ⟨d5, 0, none⟩) ∧ Hid (∃ SH, wx.heap[d5]? = some (.cells SH 44 (0, 0)) ∧ ObjV wx SH (shp ob)) ∧ Hid (Below w7.heap.size w7 wx))
        case first =>
          have hsz := V7.out.1
          have hver := V7.out.2.1.2.2.2
          have HX := ext_hp V7.out
          have NX := ext_nil hsz HW.out.2.2.2.2.2.2
          have ts := TI.out
          have CS : Hid (∀ w', Below w7.heap.size w7 w' → Calls Try.prog 12 #[.agg (cs.extract 35 47)] w' fun e w'' => (∃ D, e = .returned (.agg D) ∧ HpS w'' D (fillH ob.h) ∧ HpO w'.heap.size w'' D (fillH ob.h)) ∧ Below w'.heap.size w' w'') := fun w' b =>
            shape_any w' _ ob.h (ext_hp (V7.out.below b)) NX (by unfold TinyO at ts; omega)
          have K7 : Hid (Below w7.heap.size w7 w7.drew) := ((Gr.refl w7).drewN 1).below
          have KB : Hid (∀ w', Below w7.heap.size w7 w' → w'.cell? ⟨B, 1, none⟩ = some (.string ob.name) ∧ w'.cell? ⟨B, 2, none⟩ = some (.int .u64 (ob.ver : Int)) ∧ w'.rangeAt B 35 (cs.extract 35 47).toList) := fun w' b => by
            have hb := (b.block B (Array.getElem?_eq_some_iff.1 eB7.out).1).trans eB7.out
            exact ⟨by rw [cell_of_block hb]; exact V7.out.2.1.2.1, by rw [cell_of_block hb]; exact V7.out.2.1.2.2.1, ext_range hsz hb⟩
          have hiH : (Try.prog.info? 42).map (·.size) = some (cs.extract 35 47).toList.length := by rw [Array.length_toList, ext_size hsz]; exact info_hp
          have huH := Try.underlying42
          have HVV := Lib.hid hver
          clear HX NX ts hsz hver
          generalize cs.extract 35 47 = cx at CS KB hiH
          refine wp_region_held_drew (S := fun w' => Below w7.heap.size w7 w') mixed K7.out (fun hHeld => ?_)
          refine wpAnyH_takeD (i := 0) (d := 107) (v := .pointer (some ⟨B, 1, none⟩)) _ rfl rfl (by kernel_rfl) (by kernel_rfl) (by kernel_rfl) (fun _ _ _ h => h) (Or.inl ⟨by kernel_rfl, fun ws hSw => by first | (go_simp; done) | (go_simp; with_reducible rfl) | (go_simp; rfl)⟩) hHeld ?_
          simp only [Act.put, List.setIfInBounds_toArray, List.set_cons_zero, List.set_cons_succ]
          refine wpAnyH_takeD (i := 1) (d := 108) (v := .string ob.name) _ rfl rfl (by kernel_rfl) (by kernel_rfl) (by kernel_rfl) (fun _ _ _ h => h) (Or.inl ⟨by kernel_rfl, fun ws hSw => by have h1 := (KB.out ws hSw).1; first | (go_simp; done) | (go_simp; with_reducible rfl) | (go_simp; rfl)⟩) hHeld ?_
          simp only [Act.put, List.setIfInBounds_toArray, List.set_cons_zero, List.set_cons_succ]
          refine wpAnyH_takeD (i := 2) (d := 109) (v := .pointer (some ⟨B, 2, none⟩)) _ rfl rfl (by kernel_rfl) (by kernel_rfl) (by kernel_rfl) (fun _ _ _ h => h) (Or.inl ⟨by kernel_rfl, fun ws hSw => by first | (go_simp; done) | (go_simp; with_reducible rfl) | (go_simp; rfl)⟩) hHeld ?_
          simp only [Act.put, List.setIfInBounds_toArray, List.set_cons_zero, List.set_cons_succ]
          refine wpAnyH_takeD (i := 3) (d := 110) (v := .int .u64 (ob.ver : Int)) _ rfl rfl (by kernel_rfl) (by kernel_rfl) (by kernel_rfl) (fun _ _ _ h => h) (Or.inl ⟨by kernel_rfl, fun ws hSw => by have h1 := (KB.out ws hSw).2.1; first | (go_simp; done) | (go_simp; with_reducible rfl) | (go_simp; rfl)⟩) hHeld ?_
          simp only [Act.put, List.setIfInBounds_toArray, List.set_cons_zero, List.set_cons_succ]
          refine wpAnyH_takeD (i := 4) (d := 111) (v := .pointer (some ⟨B, 35, none⟩)) _ rfl rfl (by kernel_rfl) (by kernel_rfl) (by kernel_rfl) (fun _ _ _ h => h) (Or.inl ⟨by kernel_rfl, fun ws hSw => by first | (go_simp; done) | (go_simp; with_reducible rfl) | (go_simp; rfl)⟩) hHeld ?_
          simp only [Act.put, List.setIfInBounds_toArray, List.set_cons_zero, List.set_cons_succ]
          refine wpAnyH_takeD (i := 5) (d := 112) (v := .agg cx.toList.toArray) _ rfl rfl (by kernel_rfl) (by kernel_rfl) (by kernel_rfl) (fun _ _ _ h => h) (yieldsIf_load_mid (by kernel_rfl) _ _ rfl B 35 (by kernel_rfl) cx.toList _ (fun ws hSw => (KB.out ws hSw).2.2) huH rfl hiH) hHeld ?_
          simp only [Act.put, List.setIfInBounds_toArray, List.set_cons_zero, List.set_cons_succ]
          refine wpAnyH_ready (rs := [6, 8]) (by kernel_rfl) (by simp) ?_
          refine AllReadyH.cons rfl (fun K hK => ?_) (AllReadyH.cons rfl (fun K hK => ?_) AllReadyH.nil)
          · go_simp
            refine (CS.out _ hHeld).mono ?_
            rintro e w8 ⟨⟨D, rfl, hD, hO⟩, b8⟩
            have B8 : Below w7.heap.size w7 w8 := ((Xb.ofBelow hHeld w7.heap.size).trans (Xb.ofBelow b8 _)).below (Nat.le_refl _) (Nat.le_refl _)
            have FIN := Lib.hid (shp_a B8 hD HVV.out)
            have ONE := Lib.hid (shp_ones hD HVV.out)
            refine hK _ _ B8 (fun _ => ?_)
            try (simp only [Act.put, List.setIfInBounds_toArray, List.set_cons_zero, List.set_cons_succ])
            refine wpAnyH_takeD (i := 7) (d := 114) (v := .agg (shpC ob.name (ob.ver : Int) D)) _ rfl rfl (by kernel_rfl) (by kernel_rfl) (by kernel_rfl) (fun _ _ _ h => h) (Or.inl ⟨by kernel_rfl, fun ws hSw => run_shp rfl (by kernel_rfl) hD.1 ws⟩) B8 ?_
            simp only [Act.put, List.setIfInBounds_toArray, List.set_cons_zero, List.set_cons_succ]
            refine wpAnyH_one (i := 8) (by kernel_rfl) ?_
            refine Mk5.step (d := 5) (Z := .cells zerC 44) ⟨⟨_, rfl, rfl, fun _ => rfl, fun a ws => by first | (go_simp; done) | (go_simp; rfl)⟩⟩ ⟨B8.alloc B8.size _, ?_⟩
            simp only [Act.put, List.setIfInBounds_toArray, List.set_cons_zero, List.set_cons_succ]
            refine wpAnyH_one (i := 9) (by kernel_rfl) ?_
            refine St5.step (d := 5) (t := 114) (n := 47) (b := w8.heap.size) (l := (shpC ob.name (ob.ver : Int) D).toList) ⟨⟨_, _, rfl, rfl, fun _ => rfl, rfl, by kernel_rfl⟩⟩ (by kernel_rfl) (by kernel_rfl) ONE.out.1 (zer_there w8 rfl) ONE.out.2 ⟨FIN.out.2, ?_⟩
            refine wpAnyH_done (by kernel_rfl) ?_ _
            go_wp2_with fail
            go_meet
            case rel => exact ⟨_, rfl, FIN.out.1, FIN.out.2⟩
          · go_simp
            obtain ⟨w8, hw8⟩ : ∃ w8, w8 = (w7.alloc (.cells zerC 44)).drew := ⟨_, rfl⟩
            rw [← hw8]
            have B8 : Below w7.heap.size w7 w8 := by rw [hw8]; exact ((Below.refl _ _).alloc (Nat.le_refl _) _).drew
            have h5 : w8.heap[w7.heap.size]? = some (.cells zerC 44 (0, 0)) := by rw [hw8]; exact heap_alloc_new w7 _
            clear hw8
            refine hK _ _ B8 (fun _ => ?_)
            try (simp only [Act.put, List.setIfInBounds_toArray, List.set_cons_zero, List.set_cons_succ])
            refine wpAnyH_ready (rs := [6]) (by kernel_rfl) (by simp) ?_
            refine AllReadyH.cons rfl (fun K hK => ?_) AllReadyH.nil
            go_simp
            refine (CS.out _ B8).mono ?_
            rintro e w9 ⟨⟨D, rfl, hD, hO⟩, b9⟩
            have B9 : Below w7.heap.size w7 w9 := ((Xb.ofBelow B8 w7.heap.size).trans (Xb.ofBelow b9 _)).below (Nat.le_refl _) (Nat.le_refl _)
            have FIN := Lib.hid (shp_b B8 (Nat.le_refl _) h5 b9 hD hO HVV.out)
            have ONE := Lib.hid (shp_ones hD HVV.out)
            have TH5 := Lib.hid (there_block ((b9.block _ (Array.getElem?_eq_some_iff.1 h5).1).trans h5))
            clear h5 hO
            refine hK _ _ B9 (fun _ => ?_)
            try (simp only [Act.put, List.setIfInBounds_toArray, List.set_cons_zero, List.set_cons_succ])
            refine wpAnyH_takeD (i := 7) (d := 114) (v := .agg (shpC ob.name (ob.ver : Int) D)) _ rfl rfl (by kernel_rfl) (by kernel_rfl) (by kernel_rfl) (fun _ _ _ h => h) (Or.inl ⟨by kernel_rfl, fun ws hSw => run_shp rfl (by kernel_rfl) hD.1 ws⟩) B9 ?_
            simp only [Act.put, List.setIfInBounds_toArray, List.set_cons_zero, List.set_cons_succ]
            refine wpAnyH_one (i := 9) (by kernel_rfl) ?_
            refine St5.step (d := 5) (t := 114) (n := 47) (b := w7.heap.size) (l := (shpC ob.name (ob.ver : Int) D).toList) ⟨⟨_, _, rfl, rfl, fun _ => rfl, rfl, by kernel_rfl⟩⟩ (by kernel_rfl) (by kernel_rfl) ONE.out.1 TH5.out ONE.out.2 ⟨FIN.out.2, ?_⟩
            refine wpAnyH_done (by kernel_rfl) ?_ _
            go_wp2_with fail
            go_meet
            case rel => exact ⟨_, rfl, FIN.out.1, FIN.out.2⟩

        case rest =>
          obtain ⟨d5, rfl, HS5, HB5⟩ := hcut
          have b5 := HB5.out
          have k0c : wc.cell? ⟨B, 0, none⟩ = some (.int .i64 kk) := by rw [cell_of_block ((b5.block B (Array.getElem?_eq_some_iff.1 eB7.out).1).trans eB7.out)]; exact (by have := V7.out.2.1.1; rw [this, HK.out])
          have VC : Hid (ObjV wc cs ob) := V7.out.below b5
          have VEC : Hid (ObjV wc E (dfl ob)) := VE7.out.below b5
          have eBc : Hid (wc.heap[B]? = some (.cells cs 44 (0, 0))) := (b5.block B (Array.getElem?_eq_some_iff.1 eB7.out).1).trans eB7.out
          have e3c : Hid (wc.heap[d3]? = some (.cells E 44 (0, 0))) := (b5.block d3 (Array.getElem?_eq_some_iff.1 e37.out).1).trans e37.out
          have e4c : Hid (wc.heap[d4]? = some (.cells Wn 44 (0, 0))) := (b5.block d4 (Array.getElem?_eq_some_iff.1 e47.out).1).trans e47.out
          have XC : Hid (Xb d4 we wc) := X7.out.trans (Xb.ofBelow b5 d4)
          have VWC : Hid (ObjV wc Wn (dfl ob)) := VW7.out.below b5
          have BWC : Hid (∀ wz, Gr wc wz → Below W.heap.size W wz) := fun wz g => by
            have x : Xb d4 W wz := (Xb.ofBelow BW.out d4).trans (XC.out.trans (Xb.ofGr g d4))
            exact x.below WLE.out (Nat.le_refl _)
          have LBc := Lib.hid (fun (w' : World) (g : Gr wc w') => load_ob ((g.heap (Array.getElem?_eq_some_iff.1 eBc.out).1).trans eBc.out) VC.out.1)
          have L3c := Lib.hid (fun (w' : World) (g : Gr wc w') => load_ob ((g.heap (Array.getElem?_eq_some_iff.1 e3c.out).1).trans e3c.out) VEC.out.1)
          have CK1 := Lib.hid (fun (w' : World) (g : Gr wc w') => check_any w' cs ob (VC.out.below g.below) HW.out.2.2.2.2.2.1)
          have CK2 := Lib.hid (fun (w' : World) (g : Gr wc w') => check_any w' E (dfl ob) (VEC.out.below g.below) FD.out)
          have CH : Hid (chkE ob = 0 → chkE (dfl ob) = 0) := chk_dfl
          clear b5 HB5 X7 V7 VE7 VW7 e37 e47 eB7
          have HGZ := Lib.hid (Gr.refl wc)
          go_wp2_with (refine wpList_load_by (by kernel_rfl) 44 _ rfl (.pointer (some ⟨B, 0, none⟩)) (.agg cs) (by rfl) (LBc.out _ HGZ.out) ?_)
          refine (CK1.out _ HGZ.out).mono ?_
          rintro e w11 ⟨rfl, g11⟩
          have G11 := Lib.hid (HGZ.out.trans g11)
          clear g11
          by_cases hce : chkE ob = 0
          · have hde := CH.out hce
            rw [hce]
            rw [hde] at CK2
            go_wp2_with (refine wpList_load_by (by kernel_rfl) 44 _ rfl (.pointer (some ⟨d3, 0, none⟩)) (.agg E) (by rfl) (L3c.out _ G11.out) ?_)
            refine (CK2.out _ G11.out).mono ?_
            rintro e w12 ⟨rfl, g12⟩
            have G12 := Lib.hid (G11.out.trans g12)
            clear g12
            go_wp2
            go_ret
            exact ⟨rfl, BWC.out _ G12.out⟩
          · have tce : (chkE ob != 0) = true := by simp [hce]
            generalize chkE ob = ce at tce ⊢
            clear hce CH CK1 CK2
            go_wp2
            go_ret
            exact ⟨rfl, BWC.out _ G11.out⟩

theorem walk {H : Type} {enc : TypeId × Value → H} {base : Nat} (W : World) (v0 : Value) (d0 : DataW H) (p0 : List MemPlace) (o0 : Value.okWide Try.prog W .any base 44 v0) (h0 : DataW.Trod enc Try.prog W 0 (fun _ => true) true 44 v0 d0 p0) (wt : Wt 44 d0) :
    Calls Try.prog 4 #[v0] W fun e W' => e = .returned (.bool true) ∧ Below W.heap.size W W' := by
  obtain ⟨cs, o, rfl, hv, F⟩ := open_ob o0 h0 wt
  exact walk_at W cs o hv F (open_nil h0 wt)

/-! ### THE ROW's STEP -/
set_option maxRecDepth 100000 in
theorem lifted (os : Os) (started : os.Started) (H : Type) (enc : TypeId × Value → H) :
    ReturnsInHanded {} Try.checked os 4 .any (Rows.validDefaultsSpec.pre6 enc Try.prog Try.f4 Rows.validDefaultsRow.domain false) (Rows.validDefaultsSpec.post enc Try.prog Try.f4 false true false false) := by
  refine returnsInHanded_of_change_sized (C := Try.checked) own started (by kernel_rfl) Try.func4
    (ChangeSpec.witness6 (enc := enc) (C := Try.checked) false ⟨#[], #[.agg zerC], []⟩ 8 (by kernel_rfl) (by kernel_rfl) (by kernel_rfl) (by kernel_rfl)) ?_
  intro W base args ds gs before hval0 hW hcnd hsz0 _
  have hval : ∀ (j : Nat) t v, Try.f4.params[j]? = some t → args[j]? = some v → Value.okWide Try.prog W .any base t v := hval0
  have hW' := hW
  obtain ⟨p, q, hA0, hV, rfl, hfz, hnd⟩ := hW
  have hA : DataW.TrodAll enc Try.prog W 0 (fun _ => true) true Try.f4.params.toList args.toList ds p := hA0
  have hlt : ∀ x ∈ p, x.block < W.heap.size := fun x hx => hW'.lt x (List.mem_append_left _ hx)
  rw [Try.params4] at hA hval
  have hread : ∀ t ∈ [44], Try.prog.readableRec t = true ∧ t < Try.prog.types.size := by
    intro t ht
    simp only [List.mem_cons, List.not_mem_nil, or_false] at ht
    rcases ht with rfl <;> exact ⟨by kernel_rfl, of_decide_eq_true (by kernel_rfl)⟩
  have again : ∀ (W' : World), Below W.heap.size W W' → ∀ sp : Nat → Bool, (∀ x ∈ p, sp x.block = true) → DataW.TrodAll enc Try.prog W' 0 sp true [44] args.toList ds p :=
    fun W' hb sp hsp => all_again (by kernel_rfl) hb [44] args.toList ds p hread hA hlt hsp
  obtain ⟨v0, d0, rfl, rfl, h0⟩ := trodAll_one hA
  obtain ⟨rfl, rfl⟩ := trodVars_none hV
  have wt : Wt 44 d0 := fun n hn => by
    have := List.all_eq_true.1 hsz0 n (DataW.weights_mem_each (j := 0) (t := 44) (d := d0) (by kernel_rfl) rfl n hn)
    simpa using this
  clear hA0 hval0
  simp only [List.append_nil] at hW'
  refine (walk W v0 d0 _ (hval 0 44 v0 rfl rfl) h0 wt).mono fun e W' ⟨he, hg⟩ => ?_
  subst he
  exact ⟨_, rfl, post_below hW' hg (fun _ _ _ => trodAll_mk1 (shut_bool Try.underlying4 _)) (fun sp hsp => again W' hg sp hsp) (fun _ => rfl) (ok_one (by kernel_rfl) rfl (okWide_bool_mk Try.underlying4 _))⟩

theorem over : Rows.validDefaultsRow.holds Try.pinned (OpenSpec.ofChange Rows.validDefaultsSpec) :=
  OpenClaim.holds_of_wide 4 Try.f4 rfl rfl rfl rfl rfl rfl rfl ⟨rfl, rfl, rfl, rfl, rfl⟩ rfl rfl rfl rfl rfl (by kernel_rfl) Try.func4 (by kernel_rfl)
    (of_decide_eq_true (by kernel_rfl)) (by unfold Func.isWrapper; first | (rw [if_pos (by decide +kernel)]; kernel_rfl) | (rw [if_neg (by decide +kernel)]; exact ⟨rfl, rfl⟩))
    (fun os started H enc _ => lifted os started H enc)

/-- The statement. -/
theorem proved : Rows.ValidDefaultsSaid :=
  over
#print axioms proved

end Go.Proofs.Ytnfeimjidebboaa.validDefaults
