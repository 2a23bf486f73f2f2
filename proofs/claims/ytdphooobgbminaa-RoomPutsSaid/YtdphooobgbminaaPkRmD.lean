/- Layer 17 (room): the rooms of all nodes of a row, rising by names, with what pods ask for (Rooms). -/
import Derived.Test.YtdphooobgbminaaPk2
import Derived.Laws.AppendOwn
import Derived.Deep.AppendLies
namespace Go.Proofs.Ytdphooobgbminaa.Rm
open Go.RowKit Go.Shelf Go.Lib Go.Sort Go.Deep
open Go.Joins (cell_of_block unfrozen_of_block block_setCell)
open Go.Proofs.Ytdphooobgbminaa.Ow
set_option linter.unusedVariables false
set_option linter.unusedSimpArgs false
set_option maxRecDepth 20000

/-- The cells of a room. -/
def roomC (nm : ByteArray) (N : Array Value) (uc um k : Int) : Array Value := #[.string nm] ++ N ++ #[.int .i64 uc, .int .i64 um, .int .i64 k]
theorem roomC_lit (nm : ByteArray) (d0 d1 d2 d3 d4 d5 d6 : Value) (uc um k : Int) : roomC nm #[d0, d1, d2, d3, d4, d5, d6] uc um k = #[.string nm, d0, d1, d2, d3, d4, d5, d6, .int .i64 uc, .int .i64 um, .int .i64 k] := by kernel_rfl
theorem roomC_size {N : Array Value} (h : N.size = 7) (nm : ByteArray) (uc um k : Int) : (roomC nm N uc um k).size = 11 := by
  obtain ⟨d0, d1, d2, d3, d4, d5, d6, rfl⟩ := arr7 h
  rw [roomC_lit]
  rfl
def RmV (W : World) (R : Array Value) (r : Rmo) : Prop := ∃ N, NdS W N r.n ∧ R = roomC r.name N r.cpu r.mem r.pods
theorem RmV.below {W W' : World} {R : Array Value} {r : Rmo} (h : RmV W R r) (b : Below W.heap.size W W') : RmV W' R r := by
  obtain ⟨N, h1, h2⟩ := h
  exact ⟨N, h1.below b, h2⟩
theorem RmV.one {W : World} {R : Array Value} {r : Rmo} (h : RmV W R r) : R.size = 11 ∧ R.all (·.oneCell') = true ∧ R[0]? = some (.string r.name) := by
  obtain ⟨N, h1, rfl⟩ := h
  obtain ⟨q1, c1, q2, c2, rfl, _⟩ := h1.lit
  rw [roomC_lit]
  exact ⟨rfl, by kernel_rfl, rfl⟩
theorem built_room {N : Array Value} (h : N.size = 7) (nm : ByteArray) (uc um k : Int) : Try.prog.built RT [(0, .string nm), (1, .agg N), (2, .agg #[.int .i64 uc, .int .i64 um]), (3, .int .i64 k)] = some (roomC nm N uc um k) := by
  obtain ⟨d0, d1, d2, d3, d4, d5, d6, rfl⟩ := arr7 h
  rw [roomC_lit]
  kernel_rfl
theorem info_RT : ∃ i : TypeInfo, Try.prog.info? RT = some i ∧ i.zero = some (.agg zerR) ∧ i.size = 11 ∧ i.bytes ≤ 10000 := by
  have hinf : (Try.prog.info? RT).map (fun i => (i.zero, i.size, decide (i.bytes ≤ 10000))) = some (some (.agg zerR), 11, true) := by kernel_rfl
  cases hi : Try.prog.info? RT with
  | none => rw [hi] at hinf; cases hinf
  | some i =>
    rw [hi] at hinf
    simp only [Option.map_some, Option.some.injEq, Prod.mk.injEq] at hinf
    exact ⟨i, rfl, hinf.1, hinf.2.1, of_decide_eq_true hinf.2.2⟩
def isNode (o : Ob) : Bool := decide (o.kind = 2)
/-- A node's room. -/
def roomOf (l2 : List Ob) (o : Ob) : Rmo := ⟨o.name, o.n, clamp (cpuOf o.name l2), clamp (memOf o.name l2), podsOf o.name l2⟩
/-- Rooms of the call's own, so far. -/
def Rows (W : World) (N : Nat) (wr : World) (v : Value) (m : Nat) (r : List Rmo) : Prop := ∃ p : List El, m = p.length ∧ wr.ownsRow N RT 11 v m (flat enc p) ∧ p.map (·.1.2) = r ∧ ∀ x ∈ p, RmV W x.1.1.1 x.1.2

set_option maxHeartbeats 8000000 in
theorem rm_rooms (W w : World) (low : Below W.heap.size W w) (q q2 : Option Addr) (c c2 : Nat) (l l2 : List Obv) (hr : RowR 47 encOb W q l) (hok : ∀ x ∈ l, ObjV W x.1.1 x.2 ∧ x.2.name.size ≤ maxLen) (hlen : l.length < 1000000)
    (hr2 : RowR 47 encOb W q2 l2) (hok2 : ∀ x ∈ l2, ObjV W x.1.1 x.2 ∧ okLd x.2 ∧ x.2.p.node.size ≤ maxLen) (hlen2 : l2.length ≤ 1000000) :
    Calls Try.prog 6 #[.slice q l.length c, .slice q2 l2.length c2] w fun e w' => (∃ q' c' n, e = .returned (.slice q' n c') ∧ Hid (∃ p s : List El, n = s.length ∧ w'.ownsRow w.heap.size RT 11 (.slice q' n c') n (flat enc s) ∧ Sorted s ∧ Same1 p s ∧ p.map (·.1.2) = ((l.map (·.2)).filter isNode).map (roomOf (l2.map (·.2))) ∧ ∀ x ∈ s, RmV W x.1.1.1 x.1.2)) ∧ Below w.heap.size w w' := by
  have mixed : Try.prog.follows .mixedOrders = true := by kernel_rfl
  obtain ⟨inf, i1, i2, i3, i4⟩ := info_RT
  have HI := Lib.hid (And.intro i1 (And.intro i2 (And.intro i3 i4)))
  have CL := Lib.hid (ld_loads W w low q2 c2 l2 hr2 hok2 hlen2)
  obtain ⟨n, hn⟩ : ∃ n, n = l.length := ⟨_, rfl⟩
  obtain ⟨n2, hn2⟩ : ∃ n, n = l2.length := ⟨_, rfl⟩
  rw [← hn2] at CL hlen2
  rw [← hn] at hlen
  rw [← hn, ← hn2]
  have HH := Lib.hid (And.intro low (And.intro hr (And.intro hok (And.intro hn (And.intro hok2 hn2)))))
  clear low hr hok hr2 hok2 hn hn2 i1 i2 i3 i4
  go_enter Try.func6, Try.ntmps6
  go_wp2_with fail
  refine CL.out.mono ?_
  rintro e w1 ⟨⟨mb, rfl, hmb, HL⟩, b1⟩
  have HM : Hid (w.heap.size ≤ mb ∧ LdIs w1 mb n2 (ldOf (l2.map (·.2))) ∧ mb < w1.heap.size ∧ Below w.heap.size w w1) := ⟨hmb, HL.out, HL.out.lt, b1⟩
  clear hmb HL b1 CL
  go_wp2_with fail
  go_loopg [6, 15] n (fun g1 v6 vi wr => ∃ j : Nat, vi = .int .i64 (j : Int) ∧ j ≤ n ∧ n - j ≤ g1 ∧ (∃ q' c' m, v6 = .slice q' m c' ∧ m ≤ j ∧ Hid (Rows W w1.heap.size wr (.slice q' m c') m ((((l.take j).map (·.2)).filter isNode).map (roomOf (l2.map (·.2)))))) ∧ Hid (Below w1.heap.size w1 wr))
  case atStart => exact ⟨0, rfl, Nat.zero_le _, by omega, ⟨none, 0, 0, rfl, Nat.le_refl _, ⟨[], rfl, World.ownsRow_nil _ _ _ _, by simp, by simp⟩⟩, Below.refl _ _⟩
  case round =>
    obtain ⟨j, rfl, h1, h2, ⟨q', c', m, rfl, hm, HP⟩, HB⟩ := hrel
    by_cases hlt : j < n
    · obtain ⟨low, hr, hok, hn, hok2, hn2⟩ := HH.out
      obtain ⟨hmb, hLd, hml, b1⟩ := HM.out
      obtain ⟨x, hx⟩ : ∃ x, l[j]? = some x := ⟨l[j]'(by omega), List.getElem?_eq_getElem (by omega)⟩
      obtain ⟨b, off, rfl, _, _⟩ := hr j x hx
      obtain ⟨hbl, hra⟩ := rangeAt_obs hr hx
      have low1 : Below W.heap.size W w1 := low.trans (b1.mono low.size)
      have lowr : Below W.heap.size W wr := low1.trans (HB.out.mono low1.size)
      have LD := Lib.hid (Ow.load_at (x := x) (range_at hra lowr hbl))
      obtain ⟨okv, okn⟩ := hok x (List.mem_of_getElem? hx)
      obtain ⟨X, hX⟩ : ∃ X, X = x.1.1 := ⟨_, rfl⟩
      obtain ⟨o, ho⟩ : ∃ o, o = x.2 := ⟨_, rfl⟩
      rw [← hX] at LD okv
      rw [← ho] at okv okn
      have ON := Lib.hid (objV_one okv)
      obtain ⟨th, inn, el⟩ := el_new wr X okv.1
      have TH := Lib.hid th
      have IN := Lib.hid inn
      obtain ⟨w3, hw3⟩ : ∃ W', W' = (wr.alloc (.cells zerC OTy)).setCells wr.heap.size 0 X.toList := ⟨_, rfl⟩
      obtain ⟨O, hO⟩ : ∃ A, A = wr.heap.size := ⟨_, rfl⟩
      have HW3 : Hid ((wr.alloc (.cells zerC OTy)).setCells wr.heap.size 0 X.toList = w3 ∧ wr.heap.size = O) := ⟨hw3.symm, hO.symm⟩
      rw [← hw3, ← hO] at el
      have elb : w3.heap[O]? = some (.cells X OTy (0, 0)) := el.blk
      have ell : Below wr.heap.size wr w3 := el.low
      obtain ⟨kd, hkd⟩ : ∃ a, a = o.kind := ⟨_, rfl⟩
      have d0 : w3.cell? ⟨O, 0, none⟩ = some (.int .i64 kd) := by rw [hkd]; exact (cell_of_block elb 0).trans okv.2.1.1
      have B3 : Hid (Below w1.heap.size w1 w3) := HB.out.trans (ell.mono HB.out.size)
      have TK : Hid ((((l.take (j + 1)).map (·.2)).filter isNode).map (roomOf (l2.map (·.2))) = (((l.take j).map (·.2)).filter isNode).map (roomOf (l2.map (·.2))) ++ (if kd = 2 then [roomOf (l2.map (·.2)) o] else [])) := by
        show _ = _
        rw [List.take_add_one, hx, List.map_append, List.filter_append, List.map_append]
        congr 1
        show ((List.filter isNode [x.2]).map _) = _
        rw [← ho]
        by_cases h : kd = 2
        · rw [if_pos h]
          have : isNode o = true := by unfold isNode; rw [← hkd]; exact decide_eq_true h
          simp [this]
        · rw [if_neg h]
          have : isNode o = false := by unfold isNode; rw [← hkd]; exact decide_eq_false h
          simp [this]
      have NDX : Hid (NdS W (X.extract 20 27) o.n) := by
        have := (hok x (List.mem_of_getElem? hx)).1
        rw [hX, ho]
        exact ext_nd this
      have okv' : ObjV wr X o := okv.below lowr
      have HX := Lib.hid (And.intro okv' (And.intro okn (And.intro elb (And.intro ell lowr))))
      clear okv'
      clear low hr hok hn hok2 hn2 hmb hLd hml b1 hx hbl hra low1 lowr okv okn hX ho th inn el hw3 hO elb ell hkd
      go_upto_region 6 with (first | (refine wpList_load_by (by kernel_rfl) OTy _ rfl (.pointer (some ⟨b, off + j * 47, none⟩)) (.agg X) (by rfl) LD.out ?_) | (refine wpList_store_mid rfl _ _ _ rfl wr.heap.size 0 X (by rfl) (by rfl) TH.out IN.out ON.out ?_; rw [HW3.out.1, HW3.out.2]))
      clear TH IN ON HW3 LD
      by_cases hk2 : kd = 2
      · obtain ⟨okv, okn, elb, ell, lowr⟩ := HX.out
        obtain ⟨hmb, hLd, hml, b1⟩ := HM.out
        obtain ⟨nm, hnm⟩ : ∃ a, a = o.name := ⟨_, rfl⟩
        obtain ⟨l2o, hl2o⟩ : ∃ a, a = l2.map (·.2) := ⟨_, rfl⟩
        rw [← hl2o] at hLd TK HP
        have TK2 : Hid (((((l.take (j + 1)).map (·.2)).filter isNode).map (roomOf l2o)) = (((l.take j).map (·.2)).filter isNode).map (roomOf l2o) ++ [roomOf l2o o]) := by
          have := TK.out
          rw [if_pos hk2] at this
          exact this
        obtain ⟨c0, hc0⟩ : ∃ a, a = cpuOf nm l2o := ⟨_, rfl⟩
        obtain ⟨m0, hm0⟩ : ∃ a, a = memOf nm l2o := ⟨_, rfl⟩
        obtain ⟨k0, hk0⟩ : ∃ a, a = podsOf nm l2o := ⟨_, rfl⟩
        have LK : (Instr.lookup MpT (.map (some mb)) (.string nm) false).run Try.prog w3 = .ok (LdV c0 m0 k0) w3 := by
          have := hLd.look (s := nm) (by rw [hnm]; exact okn) w3 (B3.out.block mb hml)
          rw [this]
          unfold ldOf
          rw [hc0, hm0, hk0]
        have allk : ∀ y ∈ l2o, okLd y := fun y hy => by
          rw [hl2o] at hy
          obtain ⟨z, hz, rfl⟩ := List.mem_map.1 hy
          exact (HH.out.2.2.2.2.1 z hz).2.1
        have hlo : l2o.length ≤ 1000000 := by rw [hl2o, List.length_map]; have := HH.out.2.2.2.2.2; omega
        obtain ⟨a0, ha0⟩ : ∃ x, x = hiS c0 := ⟨_, rfl⟩
        obtain ⟨a1, ha1⟩ : ∃ x, x = loS c0 := ⟨_, rfl⟩
        obtain ⟨e0, he0⟩ : ∃ x, x = hiS m0 := ⟨_, rfl⟩
        obtain ⟨e1, he1⟩ : ∃ x, x = loS m0 := ⟨_, rfl⟩
        obtain ⟨uc, huc⟩ : ∃ x, x = clamp c0 := ⟨_, rfl⟩
        obtain ⟨um, hum⟩ : ∃ x, x = clamp m0 := ⟨_, rfl⟩
        have CU : Hid (∀ ws : World, Calls Try.prog 15 #[.agg #[.int .i64 a0, .int .u64 (a1 : Int)]] ws fun e w' => e = .returned (.int .i64 uc) ∧ Gr ws w') := fun ws => by
          have := sum_milli c0 ws (by rw [hc0]; exact cpu_fair _ _ allk hlo)
          unfold Sm smA at this
          rw [← ha0, ← ha1, ← huc] at this
          exact this
        have CM : Hid (∀ ws : World, Calls Try.prog 15 #[.agg #[.int .i64 e0, .int .u64 (e1 : Int)]] ws fun e w' => e = .returned (.int .i64 um) ∧ Gr ws w') := fun ws => by
          have := sum_milli m0 ws (by rw [hm0]; exact mem_fair _ _ allk hlo)
          unfold Sm smA at this
          rw [← he0, ← he1, ← hum] at this
          exact this
        unfold LdV ldA at LK
        rw [← ha0, ← ha1, ← he0, ← he1] at LK
        have d1 : w3.cell? ⟨O, 1, none⟩ = some (.string nm) := by rw [hnm]; exact (cell_of_block elb 1).trans okv.2.1.2.1
        obtain ⟨w4, hw4⟩ : ∃ W', W' = w3.alloc (.cells #[.int .i64 a0, .int .u64 (a1 : Int), .int .i64 e0, .int .u64 (e1 : Int), .int .i64 k0] LT) := ⟨_, rfl⟩
        obtain ⟨LB, hLB⟩ : ∃ A, A = w3.heap.size := ⟨_, rfl⟩
        have xl : w4.heap[LB]? = some (.cells #[.int .i64 a0, .int .u64 (a1 : Int), .int .i64 e0, .int .u64 (e1 : Int), .int .i64 k0] LT (0, 0)) := by rw [hw4, hLB]; exact heap_alloc_new w3 _
        have g4 : Gr w3 w4 := hw4 ▸ (Gr.refl w3).alloc _
        have HW4 : Hid (w3.alloc (.cells #[.int .i64 a0, .int .u64 (a1 : Int), .int .i64 e0, .int .u64 (e1 : Int), .int .i64 k0] LT) = w4 ∧ w3.heap.size = LB) := ⟨hw4.symm, hLB.symm⟩
        have NdW : Hid (NdS W (X.extract 20 27) o.n) := NDX.out
        have RO : Hid (roomOf l2o o = ⟨nm, o.n, uc, um, k0⟩) := by show _ = _; unfold roomOf; rw [← hnm, ← hc0, ← hm0, ← huc, ← hum, ← hk0]
        have H4 := Lib.hid (And.intro xl g4)
        have HNM := Lib.hid (And.intro hnm hl2o)
        clear hnm hl2o okv okn elb ell lowr hmb hLd hml b1 hc0 hm0 hk0 allk hlo ha0 ha1 he0 he1 huc hum hw4 hLB xl g4
        subst hk2
        go_upto_region 8 with fail
        rw [HW4.out.1, HW4.out.2]
        have S0 : Hid (∀ ws : World, ws.heap[LB]? = some (.cells #[.int .i64 a0, .int .u64 (a1 : Int), .int .i64 e0, .int .u64 (e1 : Int), .int .i64 k0] LT (0, 0)) → ws.cell? ⟨LB, 0, none⟩ = some (.int .i64 a0) ∧ ws.cell? ⟨LB, 1, none⟩ = some (.int .u64 (a1 : Int)) ∧ ws.cell? ⟨LB, 2, none⟩ = some (.int .i64 e0) ∧ ws.cell? ⟨LB, 3, none⟩ = some (.int .u64 (e1 : Int))) := fun ws h => ⟨cell_of_block h 0, cell_of_block h 1, cell_of_block h 2, cell_of_block h 3⟩
        have KEEP : Hid (∀ wx : World, Gr w4 wx → wx.heap[LB]? = some (.cells #[.int .i64 a0, .int .u64 (a1 : Int), .int .i64 e0, .int .u64 (e1 : Int), .int .i64 k0] LT (0, 0))) := fun wx g => (g.heap (Array.getElem?_eq_some_iff.1 H4.out.1).1).trans H4.out.1
        -- once a block D beyond w4 is of two zeros: it is laid, and what was there stays
        have FDone : Hid (∀ (wx : World) (D : Nat), Gr w4 wx → w4.heap.size ≤ D → wx.heap[D]? = some (.cells #[.int .i64 0, .int .i64 0] ResT (0, 0)) → wx.there D 0 2 ∧ (wx.setCells D 0 [.int .i64 uc, .int .i64 um]).heap[LB]? = some (.cells #[.int .i64 a0, .int .u64 (a1 : Int), .int .i64 e0, .int .u64 (e1 : Int), .int .i64 k0] LT (0, 0)) ∧ Hid ((wx.setCells D 0 [.int .i64 uc, .int .i64 um]).heap[D]? = some (.cells #[.int .i64 uc, .int .i64 um] ResT (0, 0)) ∧ Gr w4 (wx.setCells D 0 [.int .i64 uc, .int .i64 um]))) := fun wx D g hD hz => by
          have g2 : Gr w4 (wx.setCells D 0 [.int .i64 uc, .int .i64 um]) := gr_setCells _ g _ _ hD
          exact ⟨Ld.there_block hz rfl, KEEP.out _ g2, Ld.laid (ds := #[.int .i64 uc, .int .i64 um]) hz rfl, g2⟩
        clear LK
        go_cut [10] from 26 to 32 (fun v wx => ∃ D, v = .pointer (some ⟨D, 0, none⟩) ∧ Hid (wx.heap[D]? = some (.cells #[.int .i64 uc, .int .i64 um] ResT (0, 0)) ∧ Gr w4 wx))
        case first =>
          have G0 : Gr w4 w4.drew := (Gr.refl w4).drewN 1
          refine wp_region_held_drew (S := fun ws => ws.heap[LB]? = some (.cells #[.int .i64 a0, .int .u64 (a1 : Int), .int .i64 e0, .int .u64 (e1 : Int), .int .i64 k0] LT (0, 0))) mixed (KEEP.out _ G0) (fun hS => ?_)
          refine wpAnyH_takeD (i := 0) (d := 26) (v := .pointer (some ⟨LB, 0, none⟩)) _ rfl rfl (by kernel_rfl) (by kernel_rfl) (by kernel_rfl) (fun _ _ _ h => h) (Or.inl ⟨by kernel_rfl, fun ws hSw => by first | (go_simp; done) | (go_simp; with_reducible rfl) | (go_simp; rfl)⟩) hS ?_
          simp only [Act.put, List.setIfInBounds_toArray, List.set_cons_zero, List.set_cons_succ]
          refine wpAnyH_takeD (i := 1) (d := 27) (v := .agg #[.int .i64 a0, .int .u64 (a1 : Int)]) _ rfl rfl (by kernel_rfl) (by kernel_rfl) (by kernel_rfl) (fun _ _ _ h => h) (Or.inl ⟨by kernel_rfl, fun ws hSw => by have q := S0.out ws hSw; first | (go_simp; done) | (go_simp; with_reducible rfl) | (go_simp; rfl)⟩) hS ?_
          simp only [Act.put, List.setIfInBounds_toArray, List.set_cons_zero, List.set_cons_succ]
          refine wpAnyH_takeD (i := 3) (d := 29) (v := .pointer (some ⟨LB, 2, none⟩)) _ rfl rfl (by kernel_rfl) (by kernel_rfl) (by kernel_rfl) (fun _ _ _ h => h) (Or.inl ⟨by kernel_rfl, fun ws hSw => by first | (go_simp; done) | (go_simp; with_reducible rfl) | (go_simp; rfl)⟩) hS ?_
          simp only [Act.put, List.setIfInBounds_toArray, List.set_cons_zero, List.set_cons_succ]
          refine wpAnyH_takeD (i := 4) (d := 30) (v := .agg #[.int .i64 e0, .int .u64 (e1 : Int)]) _ rfl rfl (by kernel_rfl) (by kernel_rfl) (by kernel_rfl) (fun _ _ _ h => h) (Or.inl ⟨by kernel_rfl, fun ws hSw => by have q := S0.out ws hSw; first | (go_simp; done) | (go_simp; with_reducible rfl) | (go_simp; rfl)⟩) hS ?_
          simp only [Act.put, List.setIfInBounds_toArray, List.set_cons_zero, List.set_cons_succ]
          refine wpAnyH_ready (rs := [2, 7]) (by kernel_rfl) (by simp) ?_
          refine AllReadyH.cons rfl (fun K hK => ?_) (AllReadyH.cons rfl (fun K hK => ?_) AllReadyH.nil)
          · go_simp
            refine (CU.out _).mono ?_
            rintro e w5 ⟨rfl, g5⟩
            have G5 : Gr w4 w5 := G0.trans g5
            refine hK _ _ (KEEP.out _ G5) (fun hS => ?_)
            try simp only [Act.put, List.setIfInBounds_toArray, List.set_cons_zero, List.set_cons_succ]
            refine wpAnyH_ready (rs := [5, 7]) (by kernel_rfl) (by simp) ?_
            refine AllReadyH.cons rfl (fun K hK => ?_) (AllReadyH.cons rfl (fun K hK => ?_) AllReadyH.nil)
            · go_simp
              refine (CM.out _).mono ?_
              rintro e w6 ⟨rfl, g6⟩
              have G6 : Gr w4 w6 := G5.trans g6
              refine hK _ _ (KEEP.out _ G6) (fun hS => ?_)
              try simp only [Act.put, List.setIfInBounds_toArray, List.set_cons_zero, List.set_cons_succ]
              refine wpAnyH_takeD (i := 6) (d := 32) (v := .agg #[.int .i64 uc, .int .i64 um]) _ rfl rfl (by kernel_rfl) (by kernel_rfl) (by kernel_rfl) (fun _ _ _ h => h) (Or.inl ⟨by kernel_rfl, fun ws hSw => by first | (go_simp; done) | (go_simp; with_reducible rfl) | (go_simp; rfl)⟩) hS ?_
              simp only [Act.put, List.setIfInBounds_toArray, List.set_cons_zero, List.set_cons_succ]
              refine wpAnyH_ready (rs := [7]) (by kernel_rfl) (by simp) ?_
              refine AllReadyH.cons rfl (fun K hK => ?_) AllReadyH.nil
              go_simp
              obtain ⟨D, hDe⟩ : ∃ D, D = w6.heap.size := ⟨_, rfl⟩
              have GE : Gr w4 (w6.alloc (.cells #[.int .i64 0, .int .i64 0] ResT)) := G6.alloc _
              have hD : w4.heap.size ≤ D := by rw [hDe]; exact G6.size
              have hz : (w6.alloc (.cells #[.int .i64 0, .int .i64 0] ResT)).heap[D]? = some (.cells #[.int .i64 0, .int .i64 0] ResT (0, 0)) := by rw [hDe]; exact heap_alloc_new w6 _
              rw [← hDe]
              clear hDe
              refine hK _ _ (KEEP.out _ GE) (fun hS => ?_)
              try simp only [Act.put, List.setIfInBounds_toArray, List.set_cons_zero, List.set_cons_succ]
              
              obtain ⟨th, kp, FD⟩ := FDone.out _ D GE hD hz
              
              refine wpAnyH_ready (rs := [8]) (by kernel_rfl) (by simp) ?_
              refine AllReadyH.cons rfl (fun K hK => ?_) AllReadyH.nil
              refine Ld.step_store (by rfl) _ _ _ rfl D 0 #[.int .i64 uc, .int .i64 um] (by rfl) (by rfl) th (by kernel_rfl) (by kernel_rfl) ?_
              refine hK _ _ kp (fun hS => ?_)
              try simp only [Act.put, List.setIfInBounds_toArray, List.set_cons_zero, List.set_cons_succ]
              refine wpAnyH_done (by kernel_rfl) ?_ _
              go_wp2_with fail
              go_meet
              case rel => exact ⟨D, rfl, FD⟩
            · go_simp
              obtain ⟨D, hDe⟩ : ∃ D, D = w5.heap.size := ⟨_, rfl⟩
              have GE0 : Gr w4 (w5.alloc (.cells #[.int .i64 0, .int .i64 0] ResT)) := G5.alloc _
              have hD : w4.heap.size ≤ D := by rw [hDe]; exact G5.size
              have hz0 : (w5.alloc (.cells #[.int .i64 0, .int .i64 0] ResT)).heap[D]? = some (.cells #[.int .i64 0, .int .i64 0] ResT (0, 0)) := by rw [hDe]; exact heap_alloc_new w5 _
              rw [← hDe]
              clear hDe
              refine hK _ _ (KEEP.out _ GE0) (fun hS => ?_)
              try simp only [Act.put, List.setIfInBounds_toArray, List.set_cons_zero, List.set_cons_succ]
              refine wpAnyH_ready (rs := [5]) (by kernel_rfl) (by simp) ?_
              refine AllReadyH.cons rfl (fun K hK => ?_) AllReadyH.nil
              go_simp
              refine (CM.out _).mono ?_
              rintro e w6 ⟨rfl, g6⟩
              have GE : Gr w4 w6 := GE0.trans g6
              have hz := (g6.heap (Array.getElem?_eq_some_iff.1 hz0).1).trans hz0
              refine hK _ _ (KEEP.out _ GE) (fun hS => ?_)
              try simp only [Act.put, List.setIfInBounds_toArray, List.set_cons_zero, List.set_cons_succ]
              
              obtain ⟨th, kp, FD⟩ := FDone.out _ D GE hD hz
              refine wpAnyH_takeD (i := 6) (d := 32) (v := .agg #[.int .i64 uc, .int .i64 um]) _ rfl rfl (by kernel_rfl) (by kernel_rfl) (by kernel_rfl) (fun _ _ _ h => h) (Or.inl ⟨by kernel_rfl, fun ws hSw => by first | (go_simp; done) | (go_simp; with_reducible rfl) | (go_simp; rfl)⟩) hS ?_
              simp only [Act.put, List.setIfInBounds_toArray, List.set_cons_zero, List.set_cons_succ]
              refine wpAnyH_ready (rs := [8]) (by kernel_rfl) (by simp) ?_
              refine AllReadyH.cons rfl (fun K hK => ?_) AllReadyH.nil
              refine Ld.step_store (by rfl) _ _ _ rfl D 0 #[.int .i64 uc, .int .i64 um] (by rfl) (by rfl) th (by kernel_rfl) (by kernel_rfl) ?_
              refine hK _ _ kp (fun hS => ?_)
              try simp only [Act.put, List.setIfInBounds_toArray, List.set_cons_zero, List.set_cons_succ]
              refine wpAnyH_done (by kernel_rfl) ?_ _
              go_wp2_with fail
              go_meet
              case rel => exact ⟨D, rfl, FD⟩
          · go_simp
            obtain ⟨D, hDe⟩ : ∃ D, D = w4.heap.size := ⟨_, rfl⟩
            have GE0 : Gr w4 (w4.alloc (.cells #[.int .i64 0, .int .i64 0] ResT)).drew := ((Gr.refl w4).alloc _).drewN 1
            have hD : w4.heap.size ≤ D := by rw [hDe]; exact Nat.le_refl _
            have hz0 : (w4.alloc (.cells #[.int .i64 0, .int .i64 0] ResT)).drew.heap[D]? = some (.cells #[.int .i64 0, .int .i64 0] ResT (0, 0)) := by rw [hDe]; exact heap_alloc_new w4 _
            rw [← hDe]
            clear hDe
            refine hK _ _ (KEEP.out _ GE0) (fun hS => ?_)
            try simp only [Act.put, List.setIfInBounds_toArray, List.set_cons_zero, List.set_cons_succ]
            refine wpAnyH_ready (rs := [2]) (by kernel_rfl) (by simp) ?_
            refine AllReadyH.cons rfl (fun K hK => ?_) AllReadyH.nil
            go_simp
            refine (CU.out _).mono ?_
            rintro e w5 ⟨rfl, g5⟩
            have GE5 : Gr w4 w5 := GE0.trans g5
            have hz5 := (g5.heap (Array.getElem?_eq_some_iff.1 hz0).1).trans hz0
            refine hK _ _ (KEEP.out _ GE5) (fun hS => ?_)
            try simp only [Act.put, List.setIfInBounds_toArray, List.set_cons_zero, List.set_cons_succ]
            refine wpAnyH_ready (rs := [5]) (by kernel_rfl) (by simp) ?_
            refine AllReadyH.cons rfl (fun K hK => ?_) AllReadyH.nil
            go_simp
            refine (CM.out _).mono ?_
            rintro e w6 ⟨rfl, g6⟩
            have GE : Gr w4 w6 := GE5.trans g6
            have hz := (g6.heap (Array.getElem?_eq_some_iff.1 hz5).1).trans hz5
            refine hK _ _ (KEEP.out _ GE) (fun hS => ?_)
            try simp only [Act.put, List.setIfInBounds_toArray, List.set_cons_zero, List.set_cons_succ]
            
            obtain ⟨th, kp, FD⟩ := FDone.out _ D GE hD hz
            refine wpAnyH_takeD (i := 6) (d := 32) (v := .agg #[.int .i64 uc, .int .i64 um]) _ rfl rfl (by kernel_rfl) (by kernel_rfl) (by kernel_rfl) (fun _ _ _ h => h) (Or.inl ⟨by kernel_rfl, fun ws hSw => by first | (go_simp; done) | (go_simp; with_reducible rfl) | (go_simp; rfl)⟩) hS ?_
            simp only [Act.put, List.setIfInBounds_toArray, List.set_cons_zero, List.set_cons_succ]
            refine wpAnyH_ready (rs := [8]) (by kernel_rfl) (by simp) ?_
            refine AllReadyH.cons rfl (fun K hK => ?_) AllReadyH.nil
            refine Ld.step_store (by rfl) _ _ _ rfl D 0 #[.int .i64 uc, .int .i64 um] (by rfl) (by rfl) th (by kernel_rfl) (by kernel_rfl) ?_
            refine hK _ _ kp (fun hS => ?_)
            try simp only [Act.put, List.setIfInBounds_toArray, List.set_cons_zero, List.set_cons_succ]
            refine wpAnyH_done (by kernel_rfl) ?_ _
            go_wp2_with fail
            go_meet
            case rel => exact ⟨D, rfl, FD⟩
        case rest =>
          obtain ⟨D, rfl, HD⟩ := hcut
          obtain ⟨hDb, gc⟩ := HD.out
          obtain ⟨okv, okn, elb, ell, lowr⟩ := HX.out
          have xc : wc.heap[LB]? = some (.cells #[.int .i64 a0, .int .u64 (a1 : Int), .int .i64 e0, .int .u64 (e1 : Int), .int .i64 k0] LT (0, 0)) := KEEP.out _ gc
          have g3c : Gr w3 wc := H4.out.2.trans gc
          have eO : wc.heap[O]? = some (.cells X OTy (0, 0)) := (g3c.heap (Array.getElem?_eq_some_iff.1 elb).1).trans elb
          have nd := ext_nd okv
          have LN := Lib.hid (load_nin eO okv.1)
          obtain ⟨N, hN⟩ : ∃ N, N = X.extract 20 27 := ⟨_, rfl⟩
          rw [← hN] at nd LN
          obtain ⟨R, hR⟩ : ∃ R, R = roomC nm N uc um k0 := ⟨_, rfl⟩
          have BR : Hid (Try.prog.built RT [(0, .string nm), (1, .agg N), (2, .agg #[.int .i64 uc, .int .i64 um]), (3, .int .i64 k0)] = some R) := by show _ = _; rw [hR]; exact built_room nd.1 _ _ _ _
          have rv : RmV W R (roomOf l2o o) := by
            rw [RO.out]
            refine ⟨N, ?_, hR⟩
            rw [hN]
            exact NdW.out
          have d1 : wc.cell? ⟨O, 1, none⟩ = some (.string nm) := g3c.cell d1
          have c0 : wc.cell? ⟨D, 0, none⟩ = some (.int .i64 uc) := cell_of_block hDb 0
          have c1 : wc.cell? ⟨D, 1, none⟩ = some (.int .i64 um) := cell_of_block hDb 1
          have c4 : wc.cell? ⟨LB, 4, none⟩ = some (.int .i64 k0) := cell_of_block xc 4
          have sR : R.size = 11 := rv.one.1
          have oR : R.all (·.oneCell') = true := rv.one.2.1
          have nR : R[0]? = some (.string (roomOf l2o o).name) := rv.one.2.2
          obtain ⟨p, e1', e2', e3', e4'⟩ := HP.out
          obtain ⟨w6, hw6⟩ : ∃ w6, w6 = wc.alloc (.cells R RT) := ⟨_, rfl⟩
          obtain ⟨M, hM⟩ : ∃ M, M = wc.heap.size := ⟨_, rfl⟩
          have b6 : Below wc.heap.size wc w6 := by rw [hw6]; exact ((Gr.refl wc).alloc _).below
          have XS : Hid (R.size = 11) := sR
          have XO : Hid (∀ u ∈ R.toList, u.oneCell' = true) := fun u hu => by
            rw [← Array.all_toList] at oR
            exact List.all_eq_true.1 oR u hu
          have NEW : Hid (∀ (t : Nat) u, R.toList[t]? = some u → w6.cell? ((⟨M, 0, none⟩ : Addr).add t) = some u) := by
            have := World.news_of_block (w := w6) (B := M) (cs := R) (t := RT) (fr := (0, 0)) (by rw [hw6, hM]; exact heap_alloc_new wc _)
            exact this
          have HW6 : Hid (wc.alloc (.cells R RT) = w6 ∧ wc.heap.size = M) := ⟨hw6.symm, hM.symm⟩
          have bc : Below wr.heap.size wr wc := ell.trans (g3c.below.mono ell.size)
          have low6 : Below wr.heap.size wr w6 := bc.trans (b6.mono bc.size)
          have OW : Hid (w6.ownsRow w1.heap.size RT 11 (.slice q' m c') m (flat enc p)) := below_own e2' low6
          have BS : Hid (w1.heap.size ≤ w6.heap.size) := by
            have := HB.out.size
            have := low6.size
            show _ ≤ _
            omega
          have HE := Lib.hid (And.intro e1' (And.intro e3' (And.intro e4' (And.intro rv (And.intro nR (And.intro low6 oR))))))
          have hby : (m + 1) * inf.bytes ≤ 140737488355328 := Nat.le_trans (Nat.mul_le_mul (show m + 1 ≤ 1000001 by omega) HI.out.2.2.2) (by decide)
          clear hDb gc okv okn elb ell lowr xc g3c eO nd hN hR rv sR oR nR e1' e2' e3' e4' hw6 hM b6 bc low6 HD KEEP FDone S0 CU CM H4
          go_wp2_with (first | (refine wpList_load_by (by kernel_rfl) NTy _ rfl (.pointer (some ⟨O, 20, none⟩)) (.agg N) (by rfl) LN.out ?_) | (refine step_known (by kernel_rfl) (built_run rfl (by kernel_rfl) BR.out _) ?_) | (refine Ld.wpList_build (by kernel_rfl) 50 RT _ rfl (.agg zerR) 11 R (by rfl) XS.out (by decide) (by decide) Try.underlying50 (by kernel_rfl) ?_; rw [HW6.out.1, HW6.out.2]) | (at_builtin; refine wpList_append_own_at w6 rfl _ _ 50 rfl w1.heap.size RT inf (.agg zerR) 11 inf.bytes Try.underlying50 HI.out.1 HI.out.2.1 HI.out.2.2.1 rfl rfl (by decide) (.slice q' m c') m (flat enc p) (by rfl) OW.out ⟨M, 0, none⟩ 1 1 R.toList (by rfl) (by rw [Array.length_toList, XS.out]) NEW.out XO.out (by unfold maxLen; omega) hby BS.out ?_; intro v7 w7 ho7 hg7 hn7 ha7; obtain ⟨q7, c7, rfl⟩ := slc_own ho7))
          have FIN : Hid (∃ q'' c'' m', (Value.slice q7 (m + 1) c7) = .slice q'' m' c'' ∧ m' ≤ j + 1 ∧ Hid (Rows W w1.heap.size w7 (.slice q'' m' c'') m' ((((l.take (j + 1)).map (·.2)).filter isNode).map (roomOf (l2.map (·.2)))))) := by
            obtain ⟨e1', e3', e4', rv, nR, low6, oR⟩ := HE.out
            refine ⟨q7, c7, m + 1, rfl, by omega, p ++ [⟨(⟨R, XS.out, oR⟩, roomOf l2o o), nR⟩], by simp [e1'], ?_, ?_, ?_⟩
            · have e : flat enc (p ++ [⟨(⟨R, XS.out, oR⟩, roomOf l2o o), nR⟩]) = flat enc p ++ R.toList := by simp [flat, enc, enA]
              rw [e]
              exact ho7
            · rw [← HNM.out.2, TK2.out, List.map_append, e3']
              rfl
            · intro y hy
              rcases List.mem_append.1 hy with hy | hy
              · exact e4' y hy
              · rw [List.mem_singleton] at hy
                subst hy
                exact rv
          have K72 : Hid (Below w1.heap.size w1 w7) := by
            have hz := BS.out
            refine (HB.out.trans (HE.out.2.2.2.2.2.1.mono HB.out.size)).grown hg7 hz (fun k e => ?_)
            exact (lt_own OW.out e).1
          clear ho7 hg7 hn7 ha7 HE OW BS NEW XO HX HP HB
          go_wp2_with fail
          go_roundg (n - (j + 1))
          case measure => omega
          case rel => exact ⟨j + 1, by push_cast; rfl, by omega, by omega, FIN.out, K72.out⟩
      · have t1 : (kd == 2) = false := by rw [beq_eq_false_iff_ne]; exact hk2
        have FIN : Hid (∃ q'' c'' m', (Value.slice q' m c') = .slice q'' m' c'' ∧ m' ≤ j + 1 ∧ Hid (Rows W w1.heap.size w3 (.slice q'' m' c'') m' ((((l.take (j + 1)).map (·.2)).filter isNode).map (roomOf (l2.map (·.2)))))) := by
          obtain ⟨p, e1', e2', e3', e4'⟩ := HP.out
          refine ⟨q', c', m, rfl, by omega, p, e1', below_own e2' HX.out.2.2.2.1, ?_, e4'⟩
          rw [TK.out, if_neg hk2, List.append_nil]
          exact e3'
        clear HX HP HB TK hk2
        go_wp2
        go_roundg (n - (j + 1))
        case measure => omega
        case rel => exact ⟨j + 1, by push_cast; rfl, by omega, by omega, FIN.out, B3.out⟩
    · obtain rfl : j = n := by omega
      obtain ⟨p, e1', e2', e3', e4'⟩ := HP.out
      have hpl : p.length < 1000000 := by omega
      subst e1'
      have CS := Lib.hid (sort_own wr w1.heap.size q' c' p e2' hpl)
      have H1 := Lib.hid (And.intro e2' (And.intro e3' e4'))
      obtain ⟨mm, hmm⟩ : ∃ m, m = p.length := ⟨_, rfl⟩
      rw [← hmm] at CS H1 ⊢
      have HMM : Hid (mm = p.length) := hmm
      clear e2' e3' e4' HP hpl hmm
      go_wp2_with fail
      refine CS.out.mono ?_
      rintro e w2 ⟨rfl, ⟨s, hs, os, ss, sm⟩, gb⟩
      have FIN : Hid ((∃ q'' c'' n', Ending.returned (.slice q' mm c') = .returned (.slice q'' n' c'') ∧ Hid (∃ p s : List El, n' = s.length ∧ w2.ownsRow w.heap.size RT 11 (.slice q'' n' c'') n' (flat enc s) ∧ Sorted s ∧ Same1 p s ∧ p.map (·.1.2) = ((l.map (·.2)).filter isNode).map (roomOf (l2.map (·.2))) ∧ ∀ x ∈ s, RmV W x.1.1.1 x.1.2)) ∧ Below w.heap.size w w2) := by
        obtain ⟨o1, e3', e4'⟩ := H1.out
        obtain ⟨hmb, hLd, hml, b1⟩ := HM.out
        have bb : Below w1.heap.size w1 w2 := HB.out.grown gb HB.out.size (fun k e => (lt_own o1 e).1)
        refine ⟨⟨q', c', mm, rfl, p, s, by rw [hs, HMM.out], own_mono os b1.size, ss, sm, ?_, fun x hx => e4' x (sm.1.mem_iff.2 hx)⟩, b1.trans (bb.mono b1.size)⟩
        rw [e3', List.take_of_length_le (by have := HH.out.2.2.2.1; omega)]
      clear hs os ss sm gb CS H1 HMM HM HH HB
      go_wp2
      go_ret
      exact FIN.out
end Go.Proofs.Ytdphooobgbminaa.Rm
