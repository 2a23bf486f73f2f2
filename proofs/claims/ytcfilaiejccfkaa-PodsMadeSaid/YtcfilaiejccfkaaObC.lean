/- The document's asks, resources, behavior; what is short. -/
import Derived.Test.YtcfilaiejccfkaaObB
namespace Go.Proofs.Ytcfilaiejccfkaa
open Go.RowKit Go.Shelf Go.Lib Go.Sort
set_option linter.unusedVariables false

set_option maxHeartbeats 2000000 in
theorem rasks_any (w : World) (q : Option Addr) (c : Nat) (l : List Req) (h : RowR 3 encR w q l) (hl : l.length ≤ 255) (hok : l.all ftR = true) :
    Calls Try.prog 31 #[.slice q l.length c] w fun e w' => e = .returned (.string (mk (rowB byR l))) ∧ Gr w w' := by
  have mixed : Try.prog.follows .mixedOrders = true := by kernel_rfl
  have HR := Lib.hid h
  have HO := Lib.hid (List.all_eq_true.1 hok)
  have C := Lib.hid (fun W => rput_any W l.length 1 (by omega) (by decide))
  have cv := len255 hl
  clear h hok
  go_enter Try.func31, Try.ntmps31
  go_wp2_with fail
  refine (C.out _).mono ?_
  rintro e w1 ⟨rfl, b1⟩
  have B1 := Lib.hid b1
  clear b1
  go_wp2_with fail
  clear cv C
  go_loopg [3, 12] l.length (fun g vo vi wr => ∃ (k : Nat) (s : List UInt8), k ≤ l.length ∧ l.length - k ≤ g ∧ vo = .string (mk s) ∧ vi = .int .i64 (k : Int) ∧ s.length ≤ 1 + k * 281474976702474 ∧ Hid (s ++ (l.drop k).flatMap byR = rowB byR l) ∧ Hid (Gr w wr))
  case atStart => exact ⟨0, le l.length 1, Nat.zero_le _, by omega, rfl, rfl, by rw [le_len]; omega, rfl, B1.out⟩
  case round =>
    obtain ⟨k, s, hk, hg, rfl, rfl, hsl, HS, HG⟩ := hrel
    by_cases hlt : k < l.length
    · obtain ⟨x, hx⟩ : ∃ x, l[k]? = some x := ⟨l[k], List.getElem?_eq_getElem hlt⟩
      obtain ⟨b, off, rfl, hb, hc⟩ := (HR.out.gr HG.out) k x hx
      have c1 := hc 0 _ rfl
      have c2 := hc 1 _ rfl
      have c3 := hc 2 _ rfl
      rw [Nat.add_zero] at c1
      have hok := HO.out x (List.mem_of_getElem? hx)
      have HD := Lib.hid (drop_flat (f := byR) hx)
      have HN := Lib.hid (fun y W => rint_any W y)
      have HT := Lib.hid (fun y (hy : y.size ≤ 140737488351232) W => rtext_any W y hy)
      obtain ⟨x1, x2, x3⟩ := x
      simp only [ftR, Bool.and_eq_true, decide_eq_true_eq] at hok
      obtain ⟨t1, ht1⟩ : ∃ t, t = txt x1 := ⟨_, rfl⟩
      have hk1 := fun (n : Nat) (os : Array Obj) => HT.out x1 hok.1 (grow ((wr.alloc (.cells #[.string x1, .string x2, .int .i64 x3] 60)).drewN n) os)
      rw [← ht1] at hk1
      have z1 : (mk t1).size ≤ 140737488351233 := by rw [mk_size, ht1, txt_len]; omega
      obtain ⟨t2, ht2⟩ : ∃ t, t = txt x2 := ⟨_, rfl⟩
      have hk2 := fun (n : Nat) (os : Array Obj) => HT.out x2 hok.2 (grow ((wr.alloc (.cells #[.string x1, .string x2, .int .i64 x3] 60)).drewN n) os)
      rw [← ht2] at hk2
      have z2 : (mk t2).size ≤ 140737488351233 := by rw [mk_size, ht2, txt_len]; omega
      obtain ⟨t3, ht3⟩ : ∃ t, t = num x3 := ⟨_, rfl⟩
      have hk3 := fun (n : Nat) (os : Array Obj) => HN.out x3 (grow ((wr.alloc (.cells #[.string x1, .string x2, .int .i64 x3] 60)).drewN n) os)
      rw [← ht3] at hk3
      have z3 : (mk t3).size ≤ 8 := by rw [mk_size, ht3, num_len]; omega
      have y1 : ¬ (9223372036854775807 < (mk s).size + (mk t1).size) := by rw [mk_size s]; omega
      have y2 : ¬ (9223372036854775807 < (mk s).size + (mk t1).size + (mk t2).size) := by rw [mk_size s]; omega
      have y3 : ¬ (9223372036854775807 < (mk s).size + (mk t1).size + (mk t2).size + (mk t3).size) := by rw [mk_size s]; omega
      have hz : wr.heap.size < (wr.alloc (.cells #[.string x1, .string x2, .int .i64 x3] 60)).heap.size := by simp
      have f1 : (wr.alloc (.cells #[.string x1, .string x2, .int .i64 x3] 60)).cell? ⟨wr.heap.size, 0, none⟩ = some (.string x1) := by simp
      have g1 := cell_grown hz f1
      have HK1 := Lib.hid hk1
      have f2 : (wr.alloc (.cells #[.string x1, .string x2, .int .i64 x3] 60)).cell? ⟨wr.heap.size, 1, none⟩ = some (.string x2) := by simp
      have g2 := cell_grown hz f2
      have HK2 := Lib.hid hk2
      have f3 : (wr.alloc (.cells #[.string x1, .string x2, .int .i64 x3] 60)).cell? ⟨wr.heap.size, 2, none⟩ = some (.int .i64 x3) := by simp
      have g3 := cell_grown hz f3
      have HK3 := Lib.hid hk3
      have HH := Lib.hid (And.intro ht1 (And.intro ht2 ht3))
      have HL := Lib.hid (And.intro z1 (And.intro z2 (And.intro z3 hsl)))
      have GA := Lib.hid (HG.out.alloc (.cells #[.string x1, .string x2, .int .i64 x3] 60))
      clear hx hc hb hk1 hk2 hk3 ht1 ht2 ht3 f1 f2 f3 hz z1 z2 z3 hsl hok
      go_wp2_with fail
      generalize wr.alloc (.cells #[.string x1, .string x2, .int .i64 x3] 60) = wa at *
      go_quiet_grown (first | (go_at_call_of 27 (Value.string x1); refine gr_of (HK1.out _ _)) | (go_at_call_of 27 (Value.string x2); refine gr_of (HK2.out _ _)) | (go_at_call_of 28 (Value.int .i64 x3); refine gr_of (HK3.out _ _)))
      go_wp2
      go_roundg (l.length - (k + 1))
      case measure => omega
      case rel =>
        have hh := HH.out
        refine ⟨k + 1, s ++ (t1 ++ (t2 ++ t3)), hlt, Nat.le_refl _, by simp only [← mk_app, ← ByteArray.append_assoc], by go_num, ?_, ?_, (GA.out.trans (Gr.put _ _ _))⟩
        · have := HL.out
          simp only [mk_size] at this
          simp
          omega
        · show _ = _
          have h := HS.out
          rw [HD.out] at h
          rw [hh.1, hh.2.1, hh.2.2]
          simpa [byR] using h
    · obtain rfl : k = l.length := by omega
      have h := HS.out
      rw [List.drop_length, List.flatMap_nil, List.append_nil] at h
      have HE := Lib.hid h
      clear h HS
      go_wp2
      go_ret
      exact ⟨by rw [← HE.out]; rfl, HG.out⟩

set_option maxHeartbeats 2000000 in
theorem rres_any (w : World) (x y : Int) :
    Calls Try.prog 29 #[.agg #[.int .i64 x, .int .i64 y]] w fun e w' => e = .returned (.string (mk (num x ++ num y))) ∧ Gr w w' := by
  have mixed : Try.prog.follows .mixedOrders = true := by kernel_rfl
  rw [← mk_app]
  have hk1 := fun (n : Nat) (os : Array Obj) => rint_any (grow ((w.alloc (.cells #[.int .i64 x, .int .i64 y] 24)).drewN n) os) x
  have hk2 := fun (n : Nat) (os : Array Obj) => rint_any (grow ((w.alloc (.cells #[.int .i64 x, .int .i64 y] 24)).drewN n) os) y
  have z : ¬ (9223372036854775807 < (mk (num x)).size + (mk (num y)).size) := by rw [mk_size, mk_size, num_len, num_len]; omega
  have f1 : (w.alloc (.cells #[.int .i64 x, .int .i64 y] 24)).cell? ⟨w.heap.size, 0, none⟩ = some (.int .i64 x) := by simp
  have f2 : (w.alloc (.cells #[.int .i64 x, .int .i64 y] 24)).cell? ⟨w.heap.size, 1, none⟩ = some (.int .i64 y) := by simp
  have hz : w.heap.size < (w.alloc (.cells #[.int .i64 x, .int .i64 y] 24)).heap.size := by simp
  have g1 := cell_grown hz f1
  have g2 := cell_grown hz f2
  have GA := Lib.hid ((Gr.refl w).alloc (.cells #[.int .i64 x, .int .i64 y] 24))
  have HK1 := Lib.hid hk1
  have HK2 := Lib.hid hk2
  clear hk1 hk2 f1 f2 hz
  generalize mk (num x) = t1 at *
  generalize mk (num y) = t2 at *
  go_enter Try.func29, Try.ntmps29
  go_wp2_with fail
  generalize w.alloc (.cells #[.int .i64 x, .int .i64 y] 24) = wa at *
  go_quiet_grown (first | (go_at_call_of 28 (Value.int .i64 x); refine gr_of (HK1.out _ _)) | (go_at_call_of 28 (Value.int .i64 y); refine gr_of (HK2.out _ _)))
  go_wp2
  go_ret
  exact ⟨rfl, GA.out.trans (Gr.put _ _ _)⟩

/-! ### behavior -/
def behB (w p : Int) (l : List Pol) : List UInt8 := num w ++ num p ++ rowB byP l
set_option maxHeartbeats 2000000 in
theorem rbeh_any (w : World) (q : Option Addr) (c : Nat) (a1 a2 : Int) (l : List Pol) (h : RowR 3 encP w q l) (hl : l.length ≤ 255) :
    Calls Try.prog 33 #[.agg #[.int .i64 a1, .int .i64 a2, .slice q l.length c]] w fun e w' => e = .returned (.string (mk (behB a1 a2 l))) ∧ Gr w w' := by
  have mixed : Try.prog.follows .mixedOrders = true := by kernel_rfl
  have cv := len255 hl
  obtain ⟨wb, hwb⟩ : ∃ wb, wb = w.alloc (.cells #[.int .i64 a1, .int .i64 a2, .slice q l.length c] 41) := ⟨_, rfl⟩
  have GB : Gr w wb := hwb ▸ (Gr.refl w).alloc _
  have HR := Lib.hid (h.gr GB)
  have hk1 := fun (n : Nat) (os : Array Obj) => rint_any (grow (wb.drewN n) os) a1
  have hk2 := fun (n : Nat) (os : Array Obj) => rint_any (grow (wb.drewN n) os) a2
  have hk3 := fun (n : Nat) (os : Array Obj) => rput_any (grow (wb.drewN n) os) l.length 1 (by omega) (by decide)
  obtain ⟨t1, ht1⟩ : ∃ t, t = num a1 := ⟨_, rfl⟩
  obtain ⟨t2, ht2⟩ : ∃ t, t = num a2 := ⟨_, rfl⟩
  obtain ⟨t3, ht3⟩ : ∃ t, t = le l.length 1 := ⟨_, rfl⟩
  rw [← ht1] at hk1
  rw [← ht2] at hk2
  rw [← ht3] at hk3
  have z1 : (mk t1).size = 8 := by rw [mk_size, ht1, num_len]
  have z2 : (mk t2).size = 8 := by rw [mk_size, ht2, num_len]
  have z3 : (mk t3).size = 1 := by rw [mk_size, ht3, le_len]
  have y1 : ¬ (9223372036854775807 < (mk t1).size + (mk t2).size) := by omega
  have y2 : ¬ (9223372036854775807 < (mk t1).size + (mk t2).size + (mk t3).size) := by omega
  have f1 : wb.cell? ⟨w.heap.size, 0, none⟩ = some (.int .i64 a1) := by rw [hwb]; simp
  have f2 : wb.cell? ⟨w.heap.size, 1, none⟩ = some (.int .i64 a2) := by rw [hwb]; simp
  have f3 : wb.cell? ⟨w.heap.size, 2, none⟩ = some (.slice q l.length c) := by rw [hwb]; simp
  have hz : w.heap.size < wb.heap.size := by rw [hwb]; simp
  have g1 := cell_grown hz f1
  have g2 := cell_grown hz f2
  have g3 := cell_grown hz f3
  have HK1 := Lib.hid hk1
  have HK2 := Lib.hid hk2
  have HK3 := Lib.hid hk3
  have HH := Lib.hid (And.intro ht1 (And.intro ht2 (And.intro ht3 (And.intro z1 (And.intro z2 z3)))))
  have GW := Lib.hid hwb
  have GB' := Lib.hid GB
  clear hk1 hk2 hk3 f1 f2 f3 hz h ht1 ht2 ht3 z1 z2 z3 GB hwb
  go_enter Try.func33, Try.ntmps33
  go_wp2_with fail
  rw [← GW.out]
  go_quiet_grown (first | (go_at_call_of 28 (Value.int .i64 a1); refine gr_of (HK1.out _ _)) | (go_at_call_of 28 (Value.int .i64 a2); refine gr_of (HK2.out _ _)) | (go_at_call 26; refine gr_of (HK3.out _ _)))
  go_wp2_with fail
  have G0 : Hid (Gr w (grow (wb.drewN nq) osq)) := GB'.out.trans (Gr.put _ _ _)
  have HR2 : Hid (RowR 3 encP (grow (wb.drewN nq) osq) q l) := HR.out.gr (Gr.put _ _ _)
  generalize grow (wb.drewN nq) osq = w1 at *
  clear y1 y2 g1 g2 g3 cv
  have hbe : mk t1 ++ mk t2 ++ mk t3 = mk (t1 ++ t2 ++ t3) := by rw [mk_app, mk_app]
  go_loopg [3, 22] l.length (fun g vo vi wr => ∃ (k : Nat) (s : List UInt8), k ≤ l.length ∧ l.length - k ≤ g ∧ vo = .string (mk s) ∧ vi = .int .i64 (k : Int) ∧ s.length ≤ 17 + k * 17 ∧ Hid (s ++ (l.drop k).flatMap byP = behB a1 a2 l) ∧ Hid (Gr w1 wr))
  case atStart =>
    have hh := HH.out
    refine ⟨0, t1 ++ t2 ++ t3, Nat.zero_le _, by omega, by rw [hbe], rfl, ?_, ?_, Gr.refl _⟩
    · have := hh.2.2.2
      simp only [mk_size] at this
      simp
      omega
    · show _ = _
      rw [hh.1, hh.2.1, hh.2.2.1]
      simp [behB, rowB]
  case round =>
    clear hbe
    obtain ⟨k, s, hk, hg, rfl, rfl, hsl, HS, HG⟩ := hrel
    by_cases hlt : k < l.length
    · obtain ⟨x, hx⟩ : ∃ x, l[k]? = some x := ⟨l[k], List.getElem?_eq_getElem hlt⟩
      obtain ⟨b, off, rfl, hb, hc⟩ := (HR2.out.gr HG.out) k x hx
      have c1 := hc 0 _ rfl
      have c2 := hc 1 _ rfl
      have c3 := hc 2 _ rfl
      rw [Nat.add_zero] at c1
      have HD := Lib.hid (drop_flat (f := byP) hx)
      have HB := Lib.hid (fun y W => rtruth_any W y)
      have HN := Lib.hid (fun y W => rint_any W y)
      obtain ⟨x1, x2, x3⟩ := x
      obtain ⟨t1, ht1⟩ : ∃ t, t = tru x1 := ⟨_, rfl⟩
      have hk1 := fun (n : Nat) (os : Array Obj) => HB.out x1 (grow ((wr.alloc (.cells #[.bool x1, .int .i64 x2, .int .i64 x3] 87)).drewN n) os)
      rw [← ht1] at hk1
      have z1 : (mk t1).size ≤ 1 := by rw [mk_size, ht1, tru_len]; omega
      obtain ⟨t2, ht2⟩ : ∃ t, t = num x2 := ⟨_, rfl⟩
      have hk2 := fun (n : Nat) (os : Array Obj) => HN.out x2 (grow ((wr.alloc (.cells #[.bool x1, .int .i64 x2, .int .i64 x3] 87)).drewN n) os)
      rw [← ht2] at hk2
      have z2 : (mk t2).size ≤ 8 := by rw [mk_size, ht2, num_len]; omega
      obtain ⟨t3, ht3⟩ : ∃ t, t = num x3 := ⟨_, rfl⟩
      have hk3 := fun (n : Nat) (os : Array Obj) => HN.out x3 (grow ((wr.alloc (.cells #[.bool x1, .int .i64 x2, .int .i64 x3] 87)).drewN n) os)
      rw [← ht3] at hk3
      have z3 : (mk t3).size ≤ 8 := by rw [mk_size, ht3, num_len]; omega
      have y1 : ¬ (9223372036854775807 < (mk s).size + (mk t1).size) := by rw [mk_size s]; omega
      have y2 : ¬ (9223372036854775807 < (mk s).size + (mk t1).size + (mk t2).size) := by rw [mk_size s]; omega
      have y3 : ¬ (9223372036854775807 < (mk s).size + (mk t1).size + (mk t2).size + (mk t3).size) := by rw [mk_size s]; omega
      have hz : wr.heap.size < (wr.alloc (.cells #[.bool x1, .int .i64 x2, .int .i64 x3] 87)).heap.size := by simp
      have f1 : (wr.alloc (.cells #[.bool x1, .int .i64 x2, .int .i64 x3] 87)).cell? ⟨wr.heap.size, 0, none⟩ = some (.bool x1) := by simp
      have g1 := cell_grown hz f1
      have HK1 := Lib.hid hk1
      have f2 : (wr.alloc (.cells #[.bool x1, .int .i64 x2, .int .i64 x3] 87)).cell? ⟨wr.heap.size, 1, none⟩ = some (.int .i64 x2) := by simp
      have g2 := cell_grown hz f2
      have HK2 := Lib.hid hk2
      have f3 : (wr.alloc (.cells #[.bool x1, .int .i64 x2, .int .i64 x3] 87)).cell? ⟨wr.heap.size, 2, none⟩ = some (.int .i64 x3) := by simp
      have g3 := cell_grown hz f3
      have HK3 := Lib.hid hk3
      have HH := Lib.hid (And.intro ht1 (And.intro ht2 ht3))
      have HL := Lib.hid (And.intro z1 (And.intro z2 (And.intro z3 hsl)))
      have GA := Lib.hid (HG.out.alloc (.cells #[.bool x1, .int .i64 x2, .int .i64 x3] 87))
      clear hx hc hb hk1 hk2 hk3 ht1 ht2 ht3 f1 f2 f3 hz z1 z2 z3 hsl
      go_wp2_with fail
      generalize wr.alloc (.cells #[.bool x1, .int .i64 x2, .int .i64 x3] 87) = wa at *
      go_quiet_grown (first | (go_at_call_of 32 (Value.bool x1); refine gr_of (HK1.out _ _)) | (go_at_call_of 28 (Value.int .i64 x2); refine gr_of (HK2.out _ _)) | (go_at_call_of 28 (Value.int .i64 x3); refine gr_of (HK3.out _ _)))
      go_wp2
      go_roundg (l.length - (k + 1))
      case measure => omega
      case rel =>
        have hh := HH.out
        refine ⟨k + 1, s ++ (t1 ++ (t2 ++ t3)), hlt, Nat.le_refl _, by simp only [← mk_app, ← ByteArray.append_assoc], by go_num, ?_, ?_, (GA.out.trans (Gr.put _ _ _))⟩
        · have := HL.out
          simp only [mk_size] at this
          simp
          omega
        · show _ = _
          have h := HS.out
          rw [HD.out] at h
          rw [hh.1, hh.2.1, hh.2.2]
          simpa [byP] using h
    · obtain rfl : k = l.length := by omega
      have h := HS.out
      rw [List.drop_length, List.flatMap_nil, List.append_nil] at h
      have HE := Lib.hid h
      clear h HS
      go_wp2
      go_ret
      exact ⟨by rw [← HE.out]; rfl, G0.out.trans HG.out⟩
end Go.Proofs.Ytcfilaiejccfkaa
