/- Proved here: the law WindowTells of layer 21 holds for every input: whatever proposals come, what is least and greatest within any window, of how many ticks there is something, and the stable number are what the document says; a copy goes on by itself; and the chapter's example. No conditions. -/
import Derived.Test.YtcejaeeliedldaaWnQ
import Derived.Test.YtcejaeeliedldaaWnLawBase
namespace Go.Proofs.Ytcejaeeliedldaa.windowTells
open Go.ChangeShapes Go.WideShapes Go.ChangeAt Go.RowKit Go.Lib Go.Shelf Go.Sort Go.Deep Go.Maps
open Go.Joins (cell_of_block unfrozen_of_block block_setCell)
open Go.Proofs.Ytcejaeeliedldaa.Ow Go.Proofs.Ytcejaeeliedldaa.Wn
set_option linter.unusedVariables false
set_option linter.unusedSimpArgs false
set_option maxRecDepth 20000

set_option maxHeartbeats 4000000 in
theorem long (W : World) (q : Option Addr) (c n : Nat) (now there up down : Int) (h : 100 < n) :
    Calls Try.prog 3 #[.slice q n c, .int .i64 now, .int .i64 there, .int .i64 up, .int .i64 down] W fun e W' => e = .returned (.bool true) ∧ Below W.heap.size W W' := by
  have CL := Lib.hid (fun w => wlives w)
  go_enter Try.func3, Try.ntmps3
  go_wp2_with fail
  refine (CL.out _).mono ?_
  rintro y w2 ⟨rfl, b2⟩
  have B2 := Lib.hid b2
  clear b2
  go_wp2_with fail
  refine (CL.out _).mono ?_
  rintro y w3 ⟨rfl, b3⟩
  have B3 := Lib.hid (B2.out.trans (b3.mono B2.out.size))
  clear b3 B2 CL
  go_wp2
  go_ret
  exact ⟨rfl, B3.out⟩

set_option maxHeartbeats 32000000 in
theorem short (W : World) (q : Option Addr) (c : Nat) (l : List Nt) (hr : RowR 2 encN W q l) (hl : l.length ≤ 100) (now there up down : Int) (hnow : now < 9223372036854775808) :
    Calls Try.prog 3 #[.slice q l.length c, .int .i64 now, .int .i64 there, .int .i64 up, .int .i64 down] W fun e W' => e = .returned (.bool true) ∧ Below W.heap.size W W' := by
  have mixed : Try.prog.follows .mixedOrders = true := by kernel_rfl
  have hmm := @run_makeMap Try.prog
  have CL := Lib.hid (fun w => wlives w)
  have CN := Lib.hid (fun w => new_any w)
  have CK : Hid (∀ (w : World) (N mb : Nat) (v : Value), Below W.heap.size W w → Mem N w mb v [] → W.heap.size ≤ N → Calls Try.prog 8 #[.pointer (some ⟨mb, 0, none⟩), .slice q l.length c] w fun e w' => (∃ q' c' vo o v' L, e = .returned (.tuple #[.slice q' (leftN o).length c', .bool true]) ∧ Kp N mb w w' vo o v' L ∧ L.length ≤ 100 ∧ o.length ≤ 100 ∧ RowR 2 encN w' q' (leftN o)) ∧ Below N w w') := fun w N mb v b m hN => kept_any W w b N mb v m hN q c l hr hl
  obtain ⟨n, hn⟩ : ∃ n, n = l.length := ⟨_, rfl⟩
  rw [← hn] at CK hl ⊢
  have t1 : ¬ 100 < n := by omega
  clear hr hn
  go_enter Try.func3, Try.ntmps3
  go_wp2_with fail
  refine (CL.out _).mono ?_
  rintro y w1 ⟨rfl, b1⟩
  have B1 := Lib.hid b1
  clear b1 CL
  go_wp2_with fail
  refine (CN.out _).mono ?_
  rintro y w2 ⟨⟨v, rfl, m2⟩, b2⟩
  obtain ⟨mb, hmb⟩ : ∃ mb, mb = w1.heap.size := ⟨_, rfl⟩
  rw [← hmb] at m2
  rw [← hmb]
  have C2 := Lib.hid (CK.out w2 mb mb v (B1.out.trans (b2.mono B1.out.size)) m2 (by have := B1.out.size; omega))
  have B2 : Hid (Below W.heap.size W w2 ∧ W.heap.size ≤ mb) := ⟨B1.out.trans (b2.mono B1.out.size), by have := B1.out.size; omega⟩
  clear CN CK m2 b2 hmb B1
  go_wp2_with fail
  refine C2.out.mono ?_
  rintro y w3 ⟨⟨q', c', vo, o, v', L, rfl, kp, hL, ho, rr⟩, b3⟩
  have B3 : Hid (Below W.heap.size W w3) := B2.out.1.trans (b3.mono B2.out.2)
  have CC := Lib.hid (copy_any mb w3 mb v' L kp.mem (by omega))
  obtain ⟨m, hm⟩ : ∃ m, m = (leftN o).length := ⟨_, rfl⟩
  have HM : Hid (m = (leftN o).length ∧ m ≤ 100) := ⟨hm, by have := left_len o; omega⟩
  have hm9 := HM.out.2
  rw [← hm]
  clear hm
  have HK := Lib.hid (And.intro kp (And.intro hL (And.intro ho rr)))
  clear C2 b3 kp hL ho rr
  go_wp2_with fail
  refine CC.out.mono ?_
  rintro y w4 ⟨⟨cb, vc, rfl, mc⟩, b4⟩
  have CT : Hid (Calls Try.prog 10 #[.pointer (some ⟨cb, 0, none⟩), .int .i64 4611686018427387904, .int .i64 9] w4 fun e w' => e = .returned (.int .i64 0) ∧ Below w3.heap.size w4 w') := by
    have hr := HK.out.1.rep
    refine (note_ok w3.heap.size w4 cb vc L mc (by have := HK.out.2.1; omega) hr.ris 4611686018427387904 9 (by unfold badN; omega) (by have := hr.top; rw [hr.last]; omega)).mono (fun e w' q => ⟨q.1, foot_below mc q.2.2⟩)
  have B4 := Lib.hid b4
  clear CC mc b4
  go_wp2_with fail
  refine CT.out.mono ?_
  rintro y w5 ⟨rfl, b5⟩
  have B5 : Hid (Below w3.heap.size w3 w5) := B4.out.trans b5
  clear CT B4 b5
  obtain ⟨M, hM⟩ : ∃ M, M = w5.heap.size := ⟨_, rfl⟩
  obtain ⟨w6, hw6⟩ : ∃ w6, w6 = w5.alloc (.map #[] 0) := ⟨_, rfl⟩
  have HW6 : Hid (w5.alloc (.map #[] 0) = w6 ∧ w5.heap.size = M) := ⟨hw6.symm, hM.symm⟩
  have C6 : Hid (KsIs w6 M 0 []) := by rw [hw6, hM]; exact KsIs.made w5
  have b56 : Below w5.heap.size w5 w6 := by rw [hw6]; exact ((Gr.refl w5).alloc _).below
  have B6 := Lib.hid (B5.out.trans (b56.mono B5.out.size))
  have M3 : Hid (w3.heap.size ≤ M) := by show _ ≤ _; rw [hM]; exact B5.out.size
  clear hw6 hM b56
  go_wp2_with fail
  rw [HW6.out.1, HW6.out.2]
  clear HW6
  go_loopg [53] m (fun g1 vi wr => ∃ j : Nat, vi = .int .i64 (j : Int) ∧ j ≤ m ∧ m - j ≤ g1 ∧ Hid (KsIs wr M j (keysOf ((leftN o).take j)) ∧ Below w3.heap.size w3 wr))
  case atStart => exact ⟨0, rfl, Nat.zero_le _, by omega, C6.out, B6.out⟩
  case round =>
    clear C6 B6 B5
    obtain ⟨j, rfl, h1, h2, HR⟩ := hrel
    by_cases hlt : j < m
    · obtain ⟨ks, bw⟩ := HR.out
      obtain ⟨kp, hL, ho, rr⟩ := HK.out
      obtain ⟨x, hx⟩ : ∃ x, (leftN o)[j]? = some x := ⟨(leftN o)[j]'(by have := HM.out.1; omega), List.getElem?_eq_getElem (by have := HM.out.1; omega)⟩
      obtain ⟨g, off, rfl, c0, c1⟩ := note_at rr bw hx
      have KT := keysOf_take hx
      have okx : I64 x.1 := by
        have h3 := kp.rep.ok x (List.mem_filter.1 (List.mem_of_getElem? hx)).1
        have h4 := kp.rep.top
        unfold I64
        omega
      obtain ⟨xa, xn⟩ := x
      dsimp only at c0 c1 okx KT
      obtain ⟨wb, E, HW, bb, _, e0, e1⟩ := box_note wr xa xn
      have hM3 : w3.heap.size ≤ wr.heap.size := bw.size
      obtain ⟨w7, p1, p2, p3⟩ := (ks.below bb).put (by have := HM.out.2; unfold maxLen; omega) okx
      have NX : Hid (KsIs w7 M (j + 1) (keysOf ((leftN o).take (j + 1))) ∧ Below w3.heap.size w3 w7) := by
        rw [KT]
        refine ⟨p2, ?_⟩
        have b1 : Below w3.heap.size w3 wb := bw.trans (bb.mono hM3)
        exact b1.grown p3 (by have := b1.size; omega) (fun k e => by cases e; exact M3.out)
      clear ks bw kp hL ho rr hx KT okx bb hM3 p2 p3 HR
      go_upto_region 13 with fail
      rw [HW.out.1, HW.out.2]
      go_wp2
      go_roundg (m - (j + 1))
      case measure => omega
      case rel => exact ⟨j + 1, by push_cast; rfl, by omega, by omega, NX.out⟩
    · obtain rfl : j = m := by omega
      rename World => w7
      obtain ⟨kp, hL, ho, rr⟩ := HK.out
      obtain ⟨ks, b7⟩ := HR.out
      have et : (leftN o).take j = leftN o := List.take_of_length_le (by have := HM.out.1; omega)
      rw [et] at ks
      obtain ⟨k, hk⟩ : ∃ k, k = L.length := ⟨_, rfl⟩
      have ln := ks.len
      rw [kp.rep.keys, ← hk] at ln
      have CLn := Lib.hid (len_any mb w7 mb v' L (kp.mem.below b7))
      rw [← hk] at CLn
      have HT : Hid (∀ win, (anyT L now win = false ∧ (goN now (widN win) (leftN o)).2.2 = false ∧ leV L now win = 0 ∧ grV L now win = 0) ∨ (anyT L now win = true ∧ (goN now (widN win) (leftN o)).2.2 = true ∧ leV L now win = (goN now (widN win) (leftN o)).1 ∧ grV L now win = (goN now (widN win) (leftN o)).2.1)) := fun win => kp.rep.tells now win
      have B7 : Hid (Below W.heap.size W w7) := B3.out.trans (b7.mono B3.out.size)
      have mem7 := kp.mem.below b7
      have rr7 := rr.below b7
      have HF : Hid (0 ≤ now → ∀ w, Below w7.heap.size w7 w →
          (∀ win, Calls Try.prog 12 #[.slice q' j c', .int .i64 now, .int .i64 win] w fun e w' => e = .returned (.tuple #[.int .i64 (goN now (widN win) (leftN o)).1, .int .i64 (goN now (widN win) (leftN o)).2.1, .bool (goN now (widN win) (leftN o)).2.2]) ∧ Below w.heap.size w w') ∧
          (∀ win, Calls Try.prog 13 #[.pointer (some ⟨mb, 0, none⟩), .int .i64 now, .int .i64 win] w fun e w' => e = .returned (.tuple #[.int .i64 (leV L now win), .bool (anyT L now win)]) ∧ Below w.heap.size w w') ∧
          (∀ win, Calls Try.prog 14 #[.pointer (some ⟨mb, 0, none⟩), .int .i64 now, .int .i64 win] w fun e w' => e = .returned (.tuple #[.int .i64 (grV L now win), .bool (anyT L now win)]) ∧ Below w.heap.size w w') ∧
          Calls Try.prog 15 #[.pointer (some ⟨mb, 0, none⟩), .int .i64 now, .int .i64 there, .int .i64 up, .int .i64 down] w fun e w' => e = .returned (.int .i64 (stab (anyT L now up) (leV L now up) (anyT L now down) (grV L now down) there)) ∧ Below w.heap.size w w') := fun h0 w b =>
        ⟨fun win => by
          rw [HM.out.1]
          exact told_any w7 w b q' c' (leftN o) rr7 (by have := left_len o; omega) kp.rep.leftOk now win h0 hnow,
        fun win => leastF_any mb w mb v' L (mem7.below b) (by omega) kp.rep.ris now win hnow,
        fun win => greatestF_any mb w mb v' L (mem7.below b) (by omega) kp.rep.ris now win hnow,
        stable_any mb w mb v' L (mem7.below b) (by omega) kp.rep.ris now there up down hnow⟩
      clear kp hL ho rr ks b7 et hk HR HK mem7 rr7 B3 M3 HM hlt
      go_wp2_with fail
      refine CLn.out.mono ?_
      rintro y w8 ⟨rfl, rfl⟩
      clear CLn
      by_cases h0 : now < 0
      · clear HF HT
        go_wp2
        go_ret
        exact ⟨rfl, B7.out⟩
      · have d0 : decide (now < 0) = false := decide_eq_false h0
        have HG := Lib.hid (HF.out (by omega))
        have FU : Hid ((anyT L now up = false ∧ (goN now (widN up) (leftN o)).2.2 = false ∧ leV L now up = 0) ∨ (anyT L now up = true ∧ (goN now (widN up) (leftN o)).2.2 = true ∧ leV L now up = (goN now (widN up) (leftN o)).1)) := (HT.out up).imp (fun h => ⟨h.1, h.2.1, h.2.2.1⟩) (fun h => ⟨h.1, h.2.1, h.2.2.1⟩)
        have FD : Hid ((anyT L now down = false ∧ (goN now (widN down) (leftN o)).2.2 = false ∧ grV L now down = 0) ∨ (anyT L now down = true ∧ (goN now (widN down) (leftN o)).2.2 = true ∧ grV L now down = (goN now (widN down) (leftN o)).2.1)) := (HT.out down).imp (fun h => ⟨h.1, h.2.1, h.2.2.2⟩) (fun h => ⟨h.1, h.2.1, h.2.2.2⟩)
        have CW1 := Lib.hid (fun w b => (HG.out w b).1 up)
        have CW2 := Lib.hid (fun w b => (HG.out w b).1 down)
        have CL1 := Lib.hid (fun w b => (HG.out w b).2.1 up)
        have CG2 := Lib.hid (fun w b => (HG.out w b).2.2.1 down)
        have CS := Lib.hid (fun w b => (HG.out w b).2.2.2)
        clear HG HF HT
        generalize (goN now (widN up) (leftN o)).1 = low at CW1 FU
        generalize (goN now (widN up) (leftN o)).2.1 = hiU at CW1
        generalize (goN now (widN up) (leftN o)).2.2 = xs at CW1 FU
        generalize (goN now (widN down) (leftN o)).1 = loD at CW2
        generalize (goN now (widN down) (leftN o)).2.1 = high at CW2 FD
        generalize (goN now (widN down) (leftN o)).2.2 = ys at CW2 FD
        generalize leV L now up = a at CL1 CS FU
        generalize grV L now down = b at CG2 CS FD
        generalize anyT L now up = xa at CL1 CS FU
        generalize anyT L now down = ya at CG2 CS FD
        have ES : Hid (stab xa a ya b there = if xa = true ∧ there < a then a else if ya = true ∧ there > b then b else there) := rfl
        generalize stab xa a ya b there = S at CS ES
        have key : Hid ((xs = true ∧ xa = true ∧ a = low ∧ decide (there < low) = true ∧ S = low ∧ ((ys = false ∧ ya = false ∧ b = 0) ∨ (ys = true ∧ ya = true ∧ b = high))) ∨
            (((xs = true ∧ xa = true ∧ a = low ∧ decide (there < low) = false) ∨ (xs = false ∧ xa = false ∧ a = 0)) ∧ ((ys = true ∧ ya = true ∧ b = high ∧ decide (there > high) = true ∧ S = high) ∨ (ys = true ∧ ya = true ∧ b = high ∧ decide (there > high) = false ∧ S = there) ∨ (ys = false ∧ ya = false ∧ b = 0 ∧ S = there)))) := by
          have es := ES.out
          rcases FU.out with ⟨u1, u2, u3⟩ | ⟨u1, u2, u3⟩ <;> rcases FD.out with ⟨e1, e2, e3⟩ | ⟨e1, e2, e3⟩ <;> subst u1 u2 u3 e1 e2 e3
          · right
            refine ⟨.inr ⟨rfl, rfl, rfl⟩, .inr (.inr ⟨rfl, rfl, rfl, by rw [es]; simp⟩)⟩
          · right
            refine ⟨.inr ⟨rfl, rfl, rfl⟩, ?_⟩
            by_cases h : there > b
            · exact .inl ⟨rfl, rfl, rfl, decide_eq_true h, by rw [es]; simp; omega⟩
            · exact .inr (.inl ⟨rfl, rfl, rfl, decide_eq_false h, by rw [es]; simp; omega⟩)
          · by_cases h : there < a
            · exact .inl ⟨rfl, rfl, rfl, decide_eq_true h, by rw [es]; simp [h], .inl ⟨rfl, rfl, rfl⟩⟩
            · exact .inr ⟨.inl ⟨rfl, rfl, rfl, decide_eq_false h⟩, .inr (.inr ⟨rfl, rfl, rfl, by rw [es]; simp [h]⟩)⟩
          · by_cases h : there < a
            · exact .inl ⟨rfl, rfl, rfl, decide_eq_true h, by rw [es]; simp [h], .inr ⟨rfl, rfl, rfl⟩⟩
            · refine .inr ⟨.inl ⟨rfl, rfl, rfl, decide_eq_false h⟩, ?_⟩
              by_cases h2 : there > b
              · exact .inl ⟨rfl, rfl, rfl, decide_eq_true h2, by rw [es, if_neg (fun q => h q.2), if_pos ⟨rfl, h2⟩]⟩
              · exact .inr (.inl ⟨rfl, rfl, rfl, decide_eq_false h2, by rw [es, if_neg (fun q => h q.2), if_neg (fun q => h2 q.2)]⟩)
        clear FU FD ES h0
        have X1 := Lib.hid (CW1.out w7 (Below.refl _ _))
        clear CW1
        go_wp2_with fail
        refine X1.out.mono ?_
        rintro y w9 ⟨rfl, b9⟩
        have X2 := Lib.hid (CW2.out w9 b9)
        have B9 := Lib.hid b9
        clear X1 CW2 b9
        go_wp2_with fail
        refine X2.out.mono ?_
        rintro y wA ⟨rfl, bA⟩
        have bA' := B9.out.trans (bA.mono B9.out.size)
        have X3 := Lib.hid (CL1.out wA bA')
        have BA := Lib.hid bA'
        clear X2 CL1 bA bA' B9
        go_wp2_with fail
        refine X3.out.mono ?_
        rintro y wB ⟨rfl, bB⟩
        have bB' := BA.out.trans (bB.mono BA.out.size)
        have X4 := Lib.hid (CG2.out wB bB')
        have BB := Lib.hid bB'
        clear X3 CG2 bB bB' BA
        go_wp2_with fail
        refine X4.out.mono ?_
        rintro y wC ⟨rfl, bC⟩
        have bC' := BB.out.trans (bC.mono BB.out.size)
        have X5 := Lib.hid (CS.out wC bC')
        have BC := Lib.hid bC'
        clear X4 CS bC bC' BB
        rcases key.out with ⟨rfl, rfl, rfl, e1, rfl, ⟨rfl, rfl, rfl⟩ | ⟨rfl, rfl, rfl⟩⟩ | ⟨⟨rfl, rfl, rfl, e1⟩ | ⟨rfl, rfl, rfl⟩, ⟨rfl, rfl, rfl, e2, rfl⟩ | ⟨rfl, rfl, rfl, e2, rfl⟩ | ⟨rfl, rfl, rfl, rfl⟩⟩
        all_goals
          clear key
          go_wp2_with fail
          refine X5.out.mono ?_
          rintro y wD ⟨rfl, bD⟩
          have BD : Hid (Below W.heap.size W wD) := B7.out.trans ((BC.out.trans (bD.mono BC.out.size)).mono B7.out.size)
          clear X5 BC bD
          go_wp2
          go_ret
          exact ⟨rfl, BD.out⟩

theorem walk {H : Type} {enc : TypeId × Value → H} {base : Nat} (W : World) (v0 : Value) (d0 : DataW H) (p0 : List MemPlace) (o0 : Value.okWide Try.prog W .any base 22 v0) (h0 : DataW.Trod enc Try.prog W 0 (fun _ => true) true 22 v0 d0 p0)
    (v1 : Value) (d1 : DataW H) (p1 : List MemPlace) (o1 : Value.okWide Try.prog W .any base 2 v1) (h1 : DataW.Trod enc Try.prog W 0 (fun _ => true) true 2 v1 d1 p1)
    (v2 : Value) (d2 : DataW H) (p2 : List MemPlace) (o2 : Value.okWide Try.prog W .any base 3 v2) (h2 : DataW.Trod enc Try.prog W 0 (fun _ => true) true 3 v2 d2 p2)
    (v3 : Value) (d3 : DataW H) (p3 : List MemPlace) (o3 : Value.okWide Try.prog W .any base 3 v3) (h3 : DataW.Trod enc Try.prog W 0 (fun _ => true) true 3 v3 d3 p3)
    (v4 : Value) (d4 : DataW H) (p4 : List MemPlace) (o4 : Value.okWide Try.prog W .any base 3 v4) (h4 : DataW.Trod enc Try.prog W 0 (fun _ => true) true 3 v4 d4 p4)
    (wt0 : Wt 22 d0) (wt1 : Wt 2 d1) (wt2 : Wt 3 d2) (wt3 : Wt 3 d3) (wt4 : Wt 3 d4) :
    Calls Try.prog 3 #[v0, v1, v2, v3, v4] W fun e W' => e = .returned (.bool true) ∧ Below W.heap.size W W' := by
  obtain ⟨q, c, l, rfl, hr, _, _⟩ := open_notes o0 h0 wt0
  obtain ⟨n, rfl, rfl, rfl, hn⟩ := open_int Try.underlying2 o1 h1
  obtain ⟨b, rfl, rfl, rfl, _⟩ := open_int Try.underlying3 o2 h2
  obtain ⟨u, rfl, rfl, rfl, _⟩ := open_int Try.underlying3 o3 h3
  obtain ⟨d, rfl, rfl, rfl, _⟩ := open_int Try.underlying3 o4 h4
  have hn2 : n < 9223372036854775808 := (wf_i64 hn).2
  rcases Nat.lt_or_ge 100 l.length with h | h
  · exact long W q c _ n b u d h
  · exact short W q c l hr h n b u d hn2

/-! ### THE ROW's STEP -/
set_option maxRecDepth 100000 in
theorem lifted (os : Os) (started : os.Started) (H : Type) (enc : TypeId × Value → H) :
    ReturnsInHanded {} Try.checked os 3 .any (Rows.windowTellsSpec.pre6 enc Try.prog Try.f3 Rows.windowTellsRow.domain false) (Rows.windowTellsSpec.post enc Try.prog Try.f3 false true false false) := by
  refine returnsInHanded_of_change_sized (C := Try.checked) own started (by kernel_rfl) Try.func3
    (ChangeSpec.witness6 (enc := enc) (C := Try.checked) false ⟨#[], #[.slice none 0 0, .int .i64 0, .int .i64 0, .int .i64 0, .int .i64 0], []⟩ 8 (by kernel_rfl) (by kernel_rfl) (by kernel_rfl) (by kernel_rfl)) ?_
  intro W base args ds gs before hval0 hW hcnd hsz0 _
  have hval : ∀ (j : Nat) t v, Try.f3.params[j]? = some t → args[j]? = some v → Value.okWide Try.prog W .any base t v := hval0
  have hW' := hW
  obtain ⟨p, q, hA0, hV, rfl, hfz, hnd⟩ := hW
  have hA : DataW.TrodAll enc Try.prog W 0 (fun _ => true) true Try.f3.params.toList args.toList ds p := hA0
  have hlt : ∀ x ∈ p, x.block < W.heap.size := fun x hx => hW'.lt x (List.mem_append_left _ hx)
  rw [Try.params3] at hA hval
  have hread : ∀ t ∈ [22, 2, 3, 3, 3], Try.prog.readableRec t = true ∧ t < Try.prog.types.size := by
    intro t ht
    simp only [List.mem_cons, List.not_mem_nil, or_false] at ht
    rcases ht with rfl | rfl | rfl | rfl | rfl <;> exact ⟨by kernel_rfl, of_decide_eq_true (by kernel_rfl)⟩
  have again : ∀ (W' : World), Below W.heap.size W W' → ∀ sp : Nat → Bool, (∀ x ∈ p, sp x.block = true) → DataW.TrodAll enc Try.prog W' 0 sp true [22, 2, 3, 3, 3] args.toList ds p :=
    fun W' hb sp hsp => all_again (by kernel_rfl) hb [22, 2, 3, 3, 3] args.toList ds p hread hA hlt hsp
  obtain ⟨v0, vs0, d0, ds0, p0, q0, hargs, rfl, rfl, h0, r0⟩ := trodAll_cons hA
  obtain ⟨v1, vs1, d1, ds1, p1, q1, rfl, rfl, rfl, h1, r1⟩ := trodAll_cons r0
  obtain ⟨v2, vs2, d2, ds2, p2, q2, rfl, rfl, rfl, h2, r2⟩ := trodAll_cons r1
  obtain ⟨v3, vs3, d3, ds3, p3, q3, rfl, rfl, rfl, h3, r3⟩ := trodAll_cons r2
  obtain ⟨v4, vs4, d4, ds4, p4, q4, rfl, rfl, rfl, h4, r4⟩ := trodAll_cons r3
  obtain ⟨rfl, rfl, rfl⟩ := trodAll_nil r4
  obtain rfl : args = #[v0, v1, v2, v3, v4] := by cases args; simp_all
  obtain ⟨rfl, rfl⟩ := trodVars_none hV
  have wt0 : Wt 22 d0 := fun n hn => by
    have := List.all_eq_true.1 hsz0 n (DataW.weights_mem_each (j := 0) (t := 22) (d := d0) (by kernel_rfl) rfl n hn)
    simpa using this
  have wt1 : Wt 2 d1 := fun n hn => by
    have := List.all_eq_true.1 hsz0 n (DataW.weights_mem_each (j := 1) (t := 2) (d := d1) (by kernel_rfl) rfl n hn)
    simpa using this
  have wt2 : Wt 3 d2 := fun n hn => by
    have := List.all_eq_true.1 hsz0 n (DataW.weights_mem_each (j := 2) (t := 3) (d := d2) (by kernel_rfl) rfl n hn)
    simpa using this
  have wt3 : Wt 3 d3 := fun n hn => by
    have := List.all_eq_true.1 hsz0 n (DataW.weights_mem_each (j := 3) (t := 3) (d := d3) (by kernel_rfl) rfl n hn)
    simpa using this
  have wt4 : Wt 3 d4 := fun n hn => by
    have := List.all_eq_true.1 hsz0 n (DataW.weights_mem_each (j := 4) (t := 3) (d := d4) (by kernel_rfl) rfl n hn)
    simpa using this
  clear hA0 hval0
  simp only [List.append_nil] at hW' again
  refine (walk W v0 d0 p0 (hval 0 22 v0 rfl rfl) h0 v1 d1 p1 (hval 1 2 v1 rfl rfl) h1 v2 d2 p2 (hval 2 3 v2 rfl rfl) h2 v3 d3 p3 (hval 3 3 v3 rfl rfl) h3 v4 d4 p4 (hval 4 3 v4 rfl rfl) h4 wt0 wt1 wt2 wt3 wt4).mono fun e W' ⟨he, hg⟩ => ?_
  subst he
  exact ⟨_, rfl, post_below hW' hg (fun _ _ _ => trodAll_mk1 (shut_bool Try.underlying4 _)) (fun sp hsp => again W' hg sp hsp) (fun _ => rfl) (ok_one (by kernel_rfl) rfl (okWide_bool_mk Try.underlying4 _))⟩

theorem over : Rows.windowTellsRow.holds Try.pinned (OpenSpec.ofChange Rows.windowTellsSpec) :=
  OpenClaim.holds_of_wide 3 Try.f3 rfl rfl rfl rfl rfl rfl rfl ⟨rfl, rfl, rfl, rfl, rfl⟩ rfl rfl rfl rfl rfl (by kernel_rfl) Try.func3 (by kernel_rfl)
    (of_decide_eq_true (by kernel_rfl)) (by unfold Func.isWrapper; first | (rw [if_pos (by decide +kernel)]; kernel_rfl) | (rw [if_neg (by decide +kernel)]; exact ⟨rfl, rfl⟩))
    (fun os started H enc _ => lifted os started H enc)

/-- The statement. -/
theorem proved : Rows.WindowTellsSaid :=
  over
#print axioms proved
end Go.Proofs.Ytcejaeeliedldaa.windowTells


