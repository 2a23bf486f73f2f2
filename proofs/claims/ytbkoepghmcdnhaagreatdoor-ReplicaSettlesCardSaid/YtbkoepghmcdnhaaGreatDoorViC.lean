/- Layer 15 (victim): a row's objects that are asked for (sift); an owner's pods (Live). -/
import Derived.Test.YtbkoepghmcdnhaaGreatDoorViB
namespace Go.Proofs.YtbkoepghmcdnhaaGreatDoor.Vi
open Go.RowKit Go.Shelf Go.Lib Go.Sort Go.Deep
open Go.Joins (cell_of_block unfrozen_of_block block_setCell)
open Go.Proofs.YtbkoepghmcdnhaaGreatDoor.Ow
set_option linter.unusedVariables false
set_option linter.unusedSimpArgs false
set_option maxRecDepth 20000

/-- It reads so as long as the row's own block alone is written into. -/
def Firm (v : Value) (w : World) (x : Obv) : Prop := ∀ w'', w.grownBy w'' v.ownBlock → ObjV w'' x.1.1 x.2 ∧ NilO x.1.1
/-- A row of objects of a call's own. -/
structure Row (N : Nat) (w : World) (v : Value) (l : List Obv) : Prop where
  own : w.ownsRow N OT 47 v l.length (flat encOb l)
  firm : ∀ x ∈ l, Firm v w x
theorem Firm.below {v : Value} {w w' : World} {x : Obv} (h : Firm v w x) (b : Below w.heap.size w w') : Firm v w' x := fun w'' g =>
  h w'' ⟨g.os.trans b.os, g.tape.trans b.tape, g.output.trans b.output, Nat.le_trans b.size g.size, fun k hk hn => (g.block k (Nat.lt_of_lt_of_le hk b.size) hn).trans (b.block k hk)⟩
theorem Firm.obj {v : Value} {w : World} {x : Obv} (h : Firm v w x) : ObjV w x.1.1 x.2 ∧ NilO x.1.1 := h w ⟨rfl, rfl, rfl, Nat.le_refl _, fun _ _ _ => rfl⟩
theorem own_below {N n k : Nat} {w w' : World} {E : TypeId} {v : Value} {xs : List Value} (h : w.ownsRow N E k v n xs) (b : Below w.heap.size w w') : w'.ownsRow N E k v n xs := own_stays h fun g _ hg => b.block g hg
theorem Row.below {N : Nat} {w w' : World} {v : Value} {l : List Obv} (h : Row N w v l) (b : Below w.heap.size w w') : Row N w' v l := ⟨own_below h.own b, fun x hx => (h.firm x hx).below b⟩
theorem Row.nil (N : Nat) (w : World) : Row N w (.slice none 0 0) [] := ⟨World.ownsRow_nil _ _ _ _, by simp⟩
theorem own_lt {N n k : Nat} {w : World} {E : TypeId} {v : Value} {xs : List Value} (h : w.ownsRow N E k v n xs) {g : Nat} (hg : v.ownBlock = some g) : N ≤ g ∧ g < w.heap.size := by
  rcases h.2 with ⟨rfl, _⟩ | ⟨g', cap, cur, rfl, hb, hh, _⟩
  · simp [Value.ownBlock] at hg
  · simp [Value.ownBlock] at hg
    subst hg
    exact ⟨hb, (Array.getElem?_eq_some_iff.1 hh).1⟩
/-- One more. -/
theorem Row.push {N : Nat} {wr w4 w5 w6 w7 W : World} {v v' : Value} {l : List Obv} {x : Obv} {D : Cs} (h : Row N wr v l) (b4 : Below wr.heap.size wr w4) (b5 : Below w4.heap.size w4 w5) (b6 : Below w5.heap.size w5 w6) (hg : w6.grownBy w7 v.ownBlock)
    (own : w7.ownsRow N OT 47 v' (l.length + 1) (flat encOb l ++ D.1.toList)) (hat : v'.ownBlock = v.ownBlock ∨ v'.ownBlock = some w6.heap.size) (cp : CopyH w4.heap.size w5 x.1.1 D.1 x.2) (hW : Below W.heap.size W wr) (hN : W.heap.size ≤ N) (hv : ObjV W x.1.1 x.2) (hn : NilO x.1.1) :
    Row N w7 v' (l ++ [(D, x.2)]) := by
  have z4 := b4.size
  have z5 := b5.size
  have z6 := b6.size
  have old : ∀ w'', w7.grownBy w'' v'.ownBlock → ∀ k, k < w6.heap.size → some k ≠ v.ownBlock → w''.heap[k]? = w6.heap[k]? := by
    intro w'' g k hk hne
    refine (g.block k (Nat.lt_of_lt_of_le hk hg.size) ?_).trans (hg.block k hk hne)
    rcases hat with e | e
    · rw [e]; exact hne
    · rw [e]
      intro e2
      have := Option.some.inj e2
      omega
  refine ⟨by simpa [flat, encOb] using own, fun y hy => ?_⟩
  rw [List.mem_append, List.mem_singleton] at hy
  intro w'' g
  rcases hy with hy | rfl
  · refine h.firm y hy w'' ⟨?_, ?_, ?_, ?_, fun k hk hne => ?_⟩
    · exact g.os.trans (hg.os.trans (b6.os.trans (b5.os.trans b4.os)))
    · exact g.tape.trans (hg.tape.trans (b6.tape.trans (b5.tape.trans b4.tape)))
    · exact g.output.trans (hg.output.trans (b6.output.trans (b5.output.trans b4.output)))
    · have := hg.size; have := g.size; omega
    · rw [old w'' g k (by omega) hne, b6.block k (by omega), b5.block k (by omega), b4.block k hk]
  · have c2 : CopyH w4.heap.size w'' x.1.1 D.1 x.2 := cp.keep fun k h1 h2 => by
      rw [old w'' g k (by omega) (fun e => by have := (own_lt h.own e.symm).2; omega), b6.block k h2]
    have bW : Below W.heap.size W w'' := by
      refine ⟨?_, ?_, ?_, ?_, fun k hk => ?_⟩
      · exact g.os.trans (hg.os.trans (b6.os.trans (b5.os.trans (b4.os.trans hW.os))))
      · exact g.tape.trans (hg.tape.trans (b6.tape.trans (b5.tape.trans (b4.tape.trans hW.tape))))
      · exact g.output.trans (hg.output.trans (b6.output.trans (b5.output.trans (b4.output.trans hW.output))))
      · have := hg.size; have := g.size; have := hW.size; omega
      · have := hW.size
        rw [old w'' g k (by omega) (fun e => by have := (own_lt h.own e.symm).1; omega), b6.block k (by omega), b5.block k (by omega), b4.block k (by omega), hW.block k hk]
    exact ⟨c2.obj (w0 := W) (hv.below bW), c2.nil hn⟩

theorem info_OT : ∃ i : TypeInfo, Tryz.prog.info? OT = some i ∧ i.zero = some (.agg zerC) ∧ i.size = 47 ∧ i.bytes ≤ 10000 := by
  have hinf : (Tryz.prog.info? OT).map (fun i => (i.zero, i.size, decide (i.bytes ≤ 10000))) = some (some (.agg zerC), 47, true) := by kernel_rfl
  cases hi : Tryz.prog.info? OT with
  | none => rw [hi] at hinf; cases hinf
  | some i =>
    rw [hi] at hinf
    simp only [Option.map_some, Option.some.injEq, Prod.mk.injEq] at hinf
    exact ⟨i, rfl, hinf.1, hinf.2.1, of_decide_eq_true hinf.2.2⟩

set_option maxHeartbeats 8000000 in
theorem sift_any (W w : World) (N : Nat) (hN : N = w.heap.size) (low : Below W.heap.size W w) (q : Option Addr) (c : Nat) (l : List Obv) (hr : RowR 47 encOb W q l) (hok : ∀ x ∈ l, ObjV W x.1.1 x.2 ∧ NilO x.1.1 ∧ FitO x.2) (hlen : l.length ≤ 1000000)
    (g : Nat) (cb : Array Value) (p : Ob → Bool) (eg : ∀ args w, (callFunc g args).run Tryz.prog w = .ok (.enter g args) w)
    (ask : ∀ (ws : World) (X : Array Value) (o : Ob), Below N w ws → ObjV ws X o → Calls Tryz.prog g (#[.agg X] ++ cb) ws fun e w' => e = .returned (.bool (p o)) ∧ Gr ws w') :
    Calls Tryz.prog 43 #[.slice q l.length c, .func (.func g) #[] cb] w fun e w' => (∃ q' c' l', e = .returned (.slice q' l'.length c') ∧ Row N w' (.slice q' l'.length c') l' ∧ l'.map (·.2) = (l.map (·.2)).filter p) ∧ Below N w w' := by
  obtain ⟨inf, i1, i2, i3, i4⟩ := info_OT
  have HI := Lib.hid (And.intro i1 (And.intro i2 (And.intro i3 i4)))
  obtain ⟨n, hn⟩ : ∃ n, n = l.length := ⟨_, rfl⟩
  rw [← hn] at hlen ⊢
  have HH := Lib.hid (And.intro hN (And.intro low (And.intro hr (And.intro hok hn))))
  have HA := Lib.hid ask
  clear hr hok hn low ask hN i1 i2 i3 i4
  go_enter Tryz.func43, Tryz.ntmps43
  go_wp2_with fail
  go_loopg [5, 10] n (fun g1 v5 vi wr => ∃ j : Nat, vi = .int .i64 (j : Int) ∧ j ≤ n ∧ n - j ≤ g1 ∧ (∃ q' c' m, v5 = .slice q' m c' ∧ m ≤ j ∧ Hid (∃ l', l'.length = m ∧ Row N wr (.slice q' m c') l' ∧ l'.map (·.2) = ((l.take j).map (·.2)).filter p)) ∧ Hid (Below N w wr))
  case atStart => exact ⟨0, rfl, Nat.zero_le _, by omega, ⟨none, 0, 0, rfl, Nat.le_refl _, ⟨[], rfl, Row.nil _ _, by simp⟩⟩, Below.refl _ _⟩
  case round =>
    obtain ⟨j, rfl, h1, h2, ⟨q', c', m, rfl, hm, HP⟩, HB⟩ := hrel
    by_cases hlt : j < n
    · obtain ⟨hN, low, hr, hok, hn⟩ := HH.out
      obtain ⟨x, hx⟩ : ∃ x, l[j]? = some x := ⟨l[j]'(by omega), List.getElem?_eq_getElem (by omega)⟩
      obtain ⟨b, off, rfl, _, _⟩ := hr j x hx
      obtain ⟨hbl, hra⟩ := rangeAt_obs hr hx
      have hNW : W.heap.size ≤ N := by have := low.size; omega
      have lowr : Below W.heap.size W wr := low.trans (HB.out.mono hNW)
      have LD := Lib.hid (load_at (x := x) (rangeAt_below hra lowr hbl))
      obtain ⟨okv, okn, okf⟩ := hok x (List.mem_of_getElem? hx)
      obtain ⟨X, hX⟩ : ∃ X, X = x.1.1 := ⟨_, rfl⟩
      obtain ⟨o, ho⟩ : ∃ o, o = x.2 := ⟨_, rfl⟩
      have HX0 : Hid (X = x.1.1 ∧ o = x.2) := ⟨hX, ho⟩
      rw [← hX] at LD okv okn
      rw [← ho] at okv okf
      have hXs : X.size = 47 := okv.1
      have z0 : (wr.alloc (.cells zerC OT)).heap[wr.heap.size]? = some (.cells zerC OT (0, 0)) := heap_alloc_new wr _
      obtain ⟨w3, hw3⟩ : ∃ W', W' = (wr.alloc (.cells zerC OT)).setCells wr.heap.size 0 X.toList := ⟨_, rfl⟩
      obtain ⟨O, hO⟩ : ∃ A, A = wr.heap.size := ⟨_, rfl⟩
      have th := Ld.there_block z0 (n := X.size) (by rw [hXs]; rfl)
      have o3 : w3.heap[O]? = some (.cells X OT (0, 0)) := by rw [hw3, hO]; exact Ld.laid z0 (by rw [hXs]; rfl)
      have b3 : Below O wr w3 := by rw [hw3, hO]; exact Ld.below_setCells _ _ _ (Nat.le_refl _) (((Gr.refl wr).alloc _).below)
      have TH := Lib.hid th
      have IN : Hid ((Tryz.prog.info? OT).map (·.size) = some X.size) := by show _ = _; rw [hXs]; exact info_ob47
      have ON := Lib.hid (objV_one okv)
      have HW3 : Hid ((wr.alloc (.cells zerC OT)).setCells wr.heap.size 0 X.toList = w3 ∧ wr.heap.size = O) := ⟨hw3.symm, hO.symm⟩
      have hON : N ≤ O := by have := HB.out.size; omega
      have low3 : Below N w w3 := HB.out.trans (b3.mono hON)
      have lowW3 : Below W.heap.size W w3 := low.trans (low3.mono hNW)
      have LV := Lib.hid (load_ob o3 hXs)
      have CF := Lib.hid (HA.out w3 X o low3 (okv.below lowW3))
      obtain ⟨pb, hpb⟩ : ∃ b, b = p o := ⟨_, rfl⟩
      rw [← hpb] at CF
      have HX := Lib.hid (And.intro okv (And.intro okn (And.intro okf (And.intro o3 (And.intro b3 (And.intro low3 (And.intro lowW3 (And.intro hpb (And.intro hNW (And.intro hO hx))))))))))
      clear hN low hr hok hn hx hbl hra lowr okv okn okf hX ho hXs z0 th o3 b3 hw3 hO low3 lowW3 hpb hNW hON
      go_upto_region 5 with (first | (refine wpList_load_by (by kernel_rfl) OT _ rfl (.pointer (some ⟨b, off + j * 47, none⟩)) (.agg X) (by rfl) LD.out ?_) | (refine wpList_store_mid rfl _ _ _ rfl wr.heap.size 0 X (by rfl) (by rfl) TH.out IN.out ON.out ?_; rw [HW3.out.1, HW3.out.2]))
      clear TH IN ON HW3 LD
      go_wp2_with (refine wpList_load_by (by kernel_rfl) OT _ rfl (.pointer (some ⟨O, 0, none⟩)) (.agg X) (by kernel_rfl) LV.out ?_)
      refine CF.out.mono ?_
      rintro e w4 ⟨rfl, g4⟩
      have K4 : Hid (Below wr.heap.size wr w4 ∧ Below N w w4 ∧ w4.heap[O]? = some (.cells X OT (0, 0)) ∧ Below W.heap.size W w4) := by
        obtain ⟨okv, okn, okf, o3, b3, low3, lowW3, hpb, hNW, hO, hx⟩ := HX.out
        rw [← hO]
        exact ⟨b3.trans (g4.below.mono b3.size |>.mono (by rw [hO]; exact Nat.le_refl _)), low3.trans (g4.below.mono low3.size |>.mono (by rw [HH.out.1]; exact Nat.le_refl _)), (g4.heap (Array.getElem?_eq_some_iff.1 o3).1).trans o3, lowW3.trans (g4.below.mono lowW3.size)⟩
      cases pb with
      | false =>
        have FIN : Hid (∃ q'' c'' m', (Value.slice q' m c') = .slice q'' m' c'' ∧ m' ≤ j + 1 ∧ Hid (∃ l', l'.length = m' ∧ Row N w4 (.slice q'' m' c'') l' ∧ l'.map (·.2) = ((l.take (j + 1)).map (·.2)).filter p)) := by
          obtain ⟨l', e1, e2, e3⟩ := HP.out
          obtain ⟨okv, okn, okf, o3, b3, low3, lowW3, hpb, hNW, hO, hx⟩ := HX.out
          refine ⟨q', c', m, rfl, by omega, l', e1, e2.below K4.out.1, ?_⟩
          rw [List.take_add_one, hx, List.map_append, List.filter_append, ← e3]
          rw [HX0.out.2] at hpb
          simp [← hpb]
        have K42 := Lib.hid K4.out.2.1
        clear CF LV HX HP HB K4 HX0
        go_wp2
        go_roundg (n - (j + 1))
        case measure => omega
        case rel => exact ⟨j + 1, by push_cast; rfl, by omega, by omega, FIN.out, K42.out⟩
      | true =>
        have LV4 := Lib.hid (load_ob K4.out.2.2.1 HX.out.1.1)
        have CA := Lib.hid (apart_any w4 X o (HX.out.1.below K4.out.2.2.2) HX.out.2.1 HX.out.2.2.1)
        clear CF LV
        go_wp2_with (refine wpList_load_by (by kernel_rfl) OT _ rfl (.pointer (some ⟨O, 0, none⟩)) (.agg X) (by kernel_rfl) LV4.out ?_)
        refine CA.out.mono ?_
        rintro e w5 ⟨⟨D, rfl, cp⟩, b5⟩
        obtain ⟨w6, hw6⟩ : ∃ w6, w6 = w5.alloc (.cells D OT) := ⟨_, rfl⟩
        obtain ⟨M, hM⟩ : ∃ M, M = w5.heap.size := ⟨_, rfl⟩
        have b6 : Below w5.heap.size w5 w6 := by rw [hw6]; exact ((Gr.refl w5).alloc _).below
        have hD : D.size = 47 := cp.1.trans HX.out.1.1
        have ovD : ObjV w5 D o := cp.obj (w0 := w5) (HX.out.1.below (K4.out.2.2.2.trans (b5.mono K4.out.2.2.2.size)))
        have oneD : D.all (·.oneCell') = true := objV_one ovD
        have XS : Hid (D.size = 47) := hD
        have XO : Hid (∀ u ∈ D.toList, u.oneCell' = true) := fun u hu => by
          rw [← Array.all_toList] at oneD
          exact List.all_eq_true.1 oneD u hu
        have NEW : Hid (∀ (t : Nat) u, D.toList[t]? = some u → w6.cell? ((⟨M, 0, none⟩ : Addr).add t) = some u) := by
          have := World.news_of_block (w := w6) (B := M) (cs := D) (t := OT) (fr := (0, 0)) (by rw [hw6, hM]; exact heap_alloc_new w5 _)
          exact this
        have HW6 : Hid (w5.alloc (.cells D OT) = w6 ∧ w5.heap.size = M) := ⟨hw6.symm, hM.symm⟩
        have FX := Lib.hid (And.intro b5 (And.intro b6 (And.intro cp oneD)))
        obtain ⟨l', e1, e2, e3⟩ := HP.out
        have low6 : Below wr.heap.size wr w6 := K4.out.1.trans ((b5.mono K4.out.1.size).trans (b6.mono (Nat.le_trans K4.out.1.size b5.size)))
        have OW : Hid (w6.ownsRow N OT 47 (.slice q' m c') m (flat encOb l')) := by have := (e2.below low6).own; rw [e1] at this; exact this
        have BS : Hid (N ≤ w6.heap.size) := by
          have := HB.out.size
          have := low6.size
          have := HH.out.1
          show _ ≤ _
          omega
        have HE := Lib.hid (And.intro e1 (And.intro e2 e3))
        have hby : (m + 1) * inf.bytes ≤ 140737488355328 := Nat.le_trans (Nat.mul_le_mul (show m + 1 ≤ 1000001 by omega) HI.out.2.2.2) (by decide)
        clear hw6 hM b6 hD ovD oneD cp b5 e1 e2 e3 low6 CA LV4
        go_wp2_with (first | (refine Ld.wpList_build (by kernel_rfl) 22 OT _ rfl (.agg zerC) 47 D (by rfl) XS.out (by decide) (by decide) Tryz.underlying22 (by kernel_rfl) ?_; rw [HW6.out.1, HW6.out.2]) | (at_builtin; refine wpList_append_own_at w6 rfl _ _ 22 rfl N OT inf (.agg zerC) 47 inf.bytes Tryz.underlying22 HI.out.1 HI.out.2.1 HI.out.2.2.1 rfl rfl (by decide) (.slice q' m c') m (flat encOb l') (by rfl) OW.out ⟨M, 0, none⟩ 1 1 D.toList (by rfl) (by rw [Array.length_toList, XS.out]) NEW.out XO.out (by unfold maxLen; omega) hby BS.out ?_; intro v7 w7 ho7 hg7 hn7 ha7; obtain ⟨q7, c7, rfl⟩ := own_slc ho7))
        have FIN : Hid (∃ q'' c'' m', (Value.slice q7 (m + 1) c7) = .slice q'' m' c'' ∧ m' ≤ j + 1 ∧ Hid (∃ l', l'.length = m' ∧ Row N w7 (.slice q'' m' c'') l' ∧ l'.map (·.2) = ((l.take (j + 1)).map (·.2)).filter p)) := by
          obtain ⟨f1, f2, f3, f4⟩ := FX.out
          obtain ⟨e1, e2, e3⟩ := HE.out
          obtain ⟨okv, okn, okf, o3, b3, low3, lowW3, hpb, hNW, hO, hx⟩ := HX.out
          obtain ⟨x1, x2⟩ := HX0.out
          refine ⟨q7, c7, m + 1, rfl, by omega, l' ++ [(⟨D, XS.out, f4⟩, o)], by simp [e1], ?_, ?_⟩
          · have rw1 : Row N wr (.slice q' m c') l' := e2
            have := Row.push (x := x) (D := ⟨D, XS.out, f4⟩) rw1 K4.out.1 f1 f2 hg7 (by rw [e1]; exact ho7) ha7 (by rw [← x1, ← x2]; exact f3) (HH.out.2.1.trans (HB.out.mono hNW)) hNW (by rw [← x1, ← x2]; exact okv) (by rw [← x1]; exact okn)
            rw [x2]
            exact this
          · rw [List.take_add_one, hx, List.map_append, List.map_append, List.filter_append, ← e3]
            rw [x2] at hpb ⊢
            simp [← hpb]
        have K72 : Hid (Below N w w7) := by
          obtain ⟨f1, f2, f3, f4⟩ := FX.out
          have k4 := K4.out.2.1
          have hz := BS.out
          have z4 := k4.size
          rw [← HH.out.1] at z4
          refine ((k4.trans (f1.mono z4)).trans (f2.mono (Nat.le_trans z4 f1.size))).grown hg7 hz (fun k e => ?_)
          exact (own_lt OW.out e).1
        clear ho7 hg7 hn7 ha7 FX HE OW BS NEW XO K4 HX HX0 HP HB
        go_wp2_with fail
        go_roundg (n - (j + 1))
        case measure => omega
        case rel => exact ⟨j + 1, by push_cast; rfl, by omega, by omega, FIN.out, K72.out⟩
    · have FIN : Hid ((∃ q'' c'' l', (Ending.returned (.slice q' m c')) = .returned (.slice q'' l'.length c'') ∧ Row N wr (.slice q'' l'.length c'') l' ∧ l'.map (·.2) = (l.map (·.2)).filter p) ∧ Below N w wr) := by
        obtain ⟨l', e1, e2, e3⟩ := HP.out
        have hn := HH.out.2.2.2.2
        rw [List.take_of_length_le (by omega)] at e3
        exact ⟨⟨q', c', l', by rw [e1], by rw [e1]; exact e2, e3⟩, HB.out⟩
      clear HP HB HH
      go_wp2
      go_ret
      exact FIN.out
end Go.Proofs.YtbkoepghmcdnhaaGreatDoor.Vi
