/- Layer 13: a pod that is counted; what it asks for; its use. -/
import Derived.Test.YtajkhbdniadkkaaQyC
import Derived.Test.YtajkhbdniadkkaaHeldG
import Derived.Test.YtajkhbdniadkkaaLoads
namespace Go.Proofs.Ytajkhbdniadkkaa.Qy
open Go.RowKit Go.Deep Go.Lib Go.Shelf Go.Sort
open Go.Joins (cell_of_block unfrozen_of_block block_setCell)
set_option linter.unusedVariables false
set_option linter.unusedSimpArgs false
set_option maxRecDepth 20000

abbrev OT : TypeId := 99
abbrev UT : TypeId := 52
/-- The cells of an object that say that it is a pod of this name, phase and asks (or of another kind). -/
structure PodC (cs : Array Value) (kd : Int) (nm : ByteArray) (ph cpu mem : Int) : Prop where
  size : cs.size = 47
  c0 : cs[0]? = some (.int .i64 kd)
  c1 : cs[1]? = some (.string nm)
  c12 : cs[12]? = some (.int .i64 ph)
  c14 : cs[14]? = some (.int .i64 cpu)
  c15 : cs[15]? = some (.int .i64 mem)
def cntB (kd ph : Int) : Bool := (kd == 1) && (ph != 3)

set_option maxHeartbeats 1000000 in
theorem counted_any (w : World) (cs : Array Value) (kd : Int) (nm : ByteArray) (ph cpu mem : Int) (h : PodC cs kd nm ph cpu mem) :
    Calls Try.prog 37 #[.agg cs] w fun r w' => r = .returned (.bool (cntB kd ph)) ∧ Below w.heap.size w w' := by
  have mixed : Try.prog.follows .mixedOrders = true := by kernel_rfl
  obtain ⟨w1, hw1⟩ : ∃ w1, w1 = w.alloc (.cells cs OT) := ⟨_, rfl⟩
  obtain ⟨N, hN⟩ : ∃ N, N = w.heap.size := ⟨_, rfl⟩
  have k1 : w1.heap[N]? = some (.cells cs OT (0, 0)) := by rw [hw1, hN]; exact heap_alloc_new w _
  have x0 : w1.cell? ⟨N, 0, none⟩ = some (.int .i64 kd) := (cell_of_block k1 0).trans h.c0
  have x12 : w1.cell? ⟨N, 12, none⟩ = some (.int .i64 ph) := (cell_of_block k1 12).trans h.c12
  have HB : Hid (Below w.heap.size w w1) := hw1 ▸ (Below.refl _ _).alloc (Nat.le_refl _) _
  have HW : Hid (w.alloc (.cells cs OT) = w1 ∧ w.heap.size = N) := ⟨hw1.symm, hN.symm⟩
  clear hw1 hN k1 h
  have hc : kd = 1 ∨ (kd == 1) = false := by
    by_cases e : kd = 1
    · exact .inl e
    · exact .inr (by rw [beq_eq_false_iff_ne]; exact e)
  rcases hc with rfl | hc
  · have e : cntB 1 ph = (ph != 3) := rfl
    rw [e]
    clear e
    go_enter Try.func37, Try.ntmps37
    go_upto_region 1 with fail
    rw [HW.out.1, HW.out.2]
    go_wp2
    go_ret
    exact ⟨rfl, HB.out⟩
  · have e : cntB kd ph = false := by unfold cntB; rw [hc]; rfl
    rw [e]
    clear e
    go_enter Try.func37, Try.ntmps37
    go_upto_region 1 with fail
    rw [HW.out.1, HW.out.2]
    go_wp2
    go_ret
    exact ⟨rfl, HB.out⟩

def vCpu : ByteArray := { data := #[99, 112, 117] }
def vMem : ByteArray := { data := #[109, 101, 109] }
def askV (m : ByteArray) (cpu mem : Int) : Int := if m = vCpu then cpu else if m = vMem then mem else 0
set_option maxHeartbeats 1000000 in
theorem asked_any (w : World) (m : ByteArray) (cpu mem : Int) :
    Calls Try.prog 63 #[.agg #[.int .i64 cpu, .int .i64 mem], .string m] w fun r w' => r = .returned (.int .i64 (askV m cpu mem)) ∧ Below w.heap.size w w' := by
  have F : Hid (∀ o, Below w.heap.size w (w.alloc o)) := fun o => (Below.refl _ _).alloc (Nat.le_refl _) _
  by_cases h1 : m = vCpu
  · subst h1
    have e : askV vCpu cpu mem = cpu := if_pos rfl
    rw [e]
    unfold vCpu
    clear e
    go_enter Try.func63, Try.ntmps63
    go_wp2
    go_ret
    exact ⟨rfl, F.out _⟩
  · by_cases h2 : m = vMem
    · subst h2
      have e : askV vMem cpu mem = mem := by unfold askV; rw [if_neg h1, if_pos rfl]
      rw [e]
      unfold vMem
      clear e h1
      go_enter Try.func63, Try.ntmps63
      go_wp2
      go_ret
      exact ⟨rfl, F.out _⟩
    · have e : askV m cpu mem = 0 := by unfold askV; rw [if_neg h1, if_neg h2]
      rw [e]
      have t1 : (m.toList == vCpu.toList) = false := by
        rw [beq_eq_false_iff_ne]
        intro e
        exact h1 (by
          have := congrArg List.toArray e
          rw [ByteArray.toList_eq, ByteArray.toList_eq] at this
          exact ByteArray.ext (by simpa using this))
      have t2 : (m.toList == vMem.toList) = false := by
        rw [beq_eq_false_iff_ne]
        intro e
        exact h2 (by
          have := congrArg List.toArray e
          rw [ByteArray.toList_eq, ByteArray.toList_eq] at this
          exact ByteArray.ext (by simpa using this))
      have e1 : vCpu.toList = [99, 112, 117] := by rw [ByteArray.toList_eq]; rfl
      have e2 : vMem.toList = [109, 101, 109] := by rw [ByteArray.toList_eq]; rfl
      rw [e1] at t1
      rw [e2] at t2
      clear e e1 e2 h1 h2
      go_enter Try.func63, Try.ntmps63
      go_wp2
      go_ret
      exact ⟨rfl, F.out _⟩

abbrev zU : Array Value := #[.string { data := #[] }, .bool false, .bool false, .int .i64 0, .int .i64 0]
abbrev useC (nm : ByteArray) (rd hs : Bool) (ak us : Int) : Array Value := #[.string nm, .bool rd, .bool hs, .int .i64 ak, .int .i64 us]
/-- A pod's use of a metric: its cells. -/
def useOf (now : Int) (a : Nat) (E : List En) (m nm : ByteArray) (ph cpu mem : Int) : Array Value :=
  useC nm (ph == 2) (freE now a (upto now (smpsOf E (nm, m))) == 0) (askV m cpu mem) (freV now a (upto now (smpsOf E (nm, m))))

set_option maxHeartbeats 4000000 in
theorem use_any (w : World) (bb mb n a : Nat) (E : List En) (h : Bk w bb mb n a E) (now : Int) (hn : now ≤ 9223372036854775807) (m : ByteArray) (hm : m.size ≤ maxLen) (cs : Array Value) (kd : Int) (nm : ByteArray) (hnm : nm.size ≤ maxLen) (ph cpu mem : Int) (hp : PodC cs kd nm ph cpu mem) :
    Calls Try.prog 38 #[.pointer (some ⟨bb, 0, none⟩), .int .i64 now, .string m, .agg cs] w fun r w' => r = .returned (.agg (useOf now a E m nm ph cpu mem)) ∧ Below w.heap.size w w' := by
  have mixed : Try.prog.follows .mixedOrders = true := by kernel_rfl
  obtain ⟨w1, hw1⟩ : ∃ w1, w1 = w.alloc (.cells cs OT) := ⟨_, rfl⟩
  obtain ⟨N, hN⟩ : ∃ N, N = w.heap.size := ⟨_, rfl⟩
  have k1 : w1.heap[N]? = some (.cells cs OT (0, 0)) := by rw [hw1, hN]; exact heap_alloc_new w _
  have b1 : Below w.heap.size w w1 := hw1 ▸ (Below.refl _ _).alloc (Nat.le_refl _) _
  have z1 : w1.heap.size = N + 1 := by rw [hw1, hN]; simp
  obtain ⟨w2, hw2⟩ : ∃ w2, w2 = w1.alloc (.cells zU UT) := ⟨_, rfl⟩
  have b2 : Below w1.heap.size w1 w2 := hw2 ▸ (Below.refl _ _).alloc (Nat.le_refl _) _
  have k2 : w2.heap[N + 1]? = some (.cells zU UT (0, 0)) := by rw [hw2, ← z1]; exact heap_alloc_new w1 _
  have k12 : w2.heap[N]? = some (.cells cs OT (0, 0)) := (b2.block N (by omega)).trans k1
  have b02 : Below w.heap.size w w2 := b1.trans (b2.mono b1.size)
  have z2 : w2.heap.size = N + 2 := by rw [hw2, World.size_alloc, z1]
  obtain ⟨M, hM⟩ : ∃ M, M = N + 1 := ⟨_, rfl⟩
  rw [← hM] at k2
  have HW : Hid (w.alloc (.cells cs OT) = w1 ∧ w.heap.size = N ∧ w1.alloc (.cells zU UT) = w2 ∧ N + 1 = M) := ⟨hw1.symm, hN.symm, hw2.symm, hM.symm⟩
  have C1 := Lib.hid (one_any w2 bb mb n a E (h.gr b02) now (nm, m) ⟨hnm, hm⟩ hn)
  have hU : Hid (useOf now a E m nm ph cpu mem = useC nm (ph == 2) (freE now a (upto now (smpsOf E (nm, m))) == 0) (askV m cpu mem) (freV now a (upto now (smpsOf E (nm, m))))) := rfl
  obtain ⟨V, hV⟩ : ∃ V, V = freV now a (upto now (smpsOf E (nm, m))) := ⟨_, rfl⟩
  obtain ⟨Z, hZ⟩ : ∃ Z, Z = freE now a (upto now (smpsOf E (nm, m))) := ⟨_, rfl⟩
  rw [← hV, ← hZ] at C1 hU
  rw [hU.out]
  have KK : Hid (∀ W, Below w2.heap.size w2 W → W.heap[N]? = some (.cells cs OT (0, 0)) ∧ W.heap[M]? = some (.cells zU UT (0, 0))) := fun W b => ⟨(b.block N (by omega)).trans k12, (b.block M (by omega)).trans k2⟩
  have HB := Lib.hid (And.intro b02 (And.intro z2 (And.intro hM hN)))
  have HP := Lib.hid hp
  have x1 : w2.cell? ⟨N, 1, none⟩ = some (.string nm) := (cell_of_block k12 1).trans hp.c1
  clear hw1 hN k1 b1 z1 hw2 b2 k2 k12 b02 z2 hM h hn hm hnm hp hV hZ
  go_enter Try.func38, Try.ntmps38
  go_upto_region 1 with fail
  rw [HW.out.1, HW.out.2.1, HW.out.2.2.1, HW.out.2.2.2]
  go_wp2_with fail
  refine C1.out.mono ?_
  rintro e w3 ⟨rfl, b3⟩
  have B3 := Lib.hid b3
  clear b3 C1 x1
  go_upto_region 2 with fail
  have S3 : Hid (Below w2.heap.size w2 (w3.drew)) := Below.drewN' B3.out 1
  have CE : Hid (∀ W, Below w2.heap.size w2 W → W.cell? ⟨N, 1, none⟩ = some (.string nm) ∧ W.cell? ⟨N, 12, none⟩ = some (.int .i64 ph) ∧ W.cell? ⟨N, 14, none⟩ = some (.int .i64 cpu) ∧ W.cell? ⟨N, 15, none⟩ = some (.int .i64 mem)) := fun W b => by
    have k := (KK.out W b).1
    have hp := HP.out
    exact ⟨(cell_of_block k 1).trans hp.c1, (cell_of_block k 12).trans hp.c12, (cell_of_block k 14).trans hp.c14, (cell_of_block k 15).trans hp.c15⟩
  have CA := Lib.hid (fun W => asked_any W m cpu mem)
  refine wp_region_G (f := 15) (S := fun ws => Below w2.heap.size w2 ws) mixed S3.out (fun hS => ?_)
  refine wpAnyG_takeD (i := 0) (d := 20) (v := .pointer (some ⟨N, 1, none⟩)) _ rfl rfl (by kernel_rfl) (by kernel_rfl) (by kernel_rfl) (by kernel_rfl) (fun _ _ _ h => h) (Or.inl ⟨by kernel_rfl, fun ws hSw => by first | (go_simp; done) | (go_simp; with_reducible rfl) | (go_simp; rfl)⟩) hS ?_
  simp only [Act.put, List.setIfInBounds_toArray, List.set_cons_zero, List.set_cons_succ]
  refine wpAnyG_takeD (i := 1) (d := 21) (v := .string nm) _ rfl rfl (by kernel_rfl) (by kernel_rfl) (by kernel_rfl) (by kernel_rfl) (fun _ _ _ h => h) (Or.inl ⟨by kernel_rfl, fun ws hSw => by have q := CE.out ws hSw; first | (go_simp; done) | (go_simp; with_reducible rfl) | (go_simp; rfl)⟩) hS ?_
  simp only [Act.put, List.setIfInBounds_toArray, List.set_cons_zero, List.set_cons_succ]
  refine wpAnyG_takeD (i := 2) (d := 22) (v := .pointer (some ⟨N, 10, none⟩)) _ rfl rfl (by kernel_rfl) (by kernel_rfl) (by kernel_rfl) (by kernel_rfl) (fun _ _ _ h => h) (Or.inl ⟨by kernel_rfl, fun ws hSw => by first | (go_simp; done) | (go_simp; with_reducible rfl) | (go_simp; rfl)⟩) hS ?_
  simp only [Act.put, List.setIfInBounds_toArray, List.set_cons_zero, List.set_cons_succ]
  refine wpAnyG_takeD (i := 3) (d := 23) (v := .pointer (some ⟨N, 12, none⟩)) _ rfl rfl (by kernel_rfl) (by kernel_rfl) (by kernel_rfl) (by kernel_rfl) (fun _ _ _ h => h) (Or.inl ⟨by kernel_rfl, fun ws hSw => by first | (go_simp; done) | (go_simp; with_reducible rfl) | (go_simp; rfl)⟩) hS ?_
  simp only [Act.put, List.setIfInBounds_toArray, List.set_cons_zero, List.set_cons_succ]
  refine wpAnyG_takeD (i := 4) (d := 24) (v := .int .i64 ph) _ rfl rfl (by kernel_rfl) (by kernel_rfl) (by kernel_rfl) (by kernel_rfl) (fun _ _ _ h => h) (Or.inl ⟨by kernel_rfl, fun ws hSw => by have q := CE.out ws hSw; first | (go_simp; done) | (go_simp; with_reducible rfl) | (go_simp; rfl)⟩) hS ?_
  simp only [Act.put, List.setIfInBounds_toArray, List.set_cons_zero, List.set_cons_succ]
  refine wpAnyG_takeD (i := 5) (d := 25) (v := .bool (ph == 2)) _ rfl rfl (by kernel_rfl) (by kernel_rfl) (by kernel_rfl) (by kernel_rfl) (fun _ _ _ h => h) (Or.inl ⟨by kernel_rfl, fun ws hSw => by first | (go_simp; done) | (go_simp; with_reducible rfl) | (go_simp; rfl)⟩) hS ?_
  simp only [Act.put, List.setIfInBounds_toArray, List.set_cons_zero, List.set_cons_succ]
  refine wpAnyG_takeD (i := 6) (d := 26) (v := .int .i64 Z) _ rfl rfl (by kernel_rfl) (by kernel_rfl) (by kernel_rfl) (by kernel_rfl) (fun _ _ _ h => h) (Or.inl ⟨by kernel_rfl, fun ws hSw => by first | (go_simp; done) | (go_simp; with_reducible rfl) | (go_simp; rfl)⟩) hS ?_
  simp only [Act.put, List.setIfInBounds_toArray, List.set_cons_zero, List.set_cons_succ]
  refine wpAnyG_takeD (i := 7) (d := 27) (v := .bool (Z == 0)) _ rfl rfl (by kernel_rfl) (by kernel_rfl) (by kernel_rfl) (by kernel_rfl) (fun _ _ _ h => h) (Or.inl ⟨by kernel_rfl, fun ws hSw => by first | (go_simp; done) | (go_simp; with_reducible rfl) | (go_simp; rfl)⟩) hS ?_
  simp only [Act.put, List.setIfInBounds_toArray, List.set_cons_zero, List.set_cons_succ]
  refine wpAnyG_takeD (i := 8) (d := 28) (v := .pointer (some ⟨N, 10, none⟩)) _ rfl rfl (by kernel_rfl) (by kernel_rfl) (by kernel_rfl) (by kernel_rfl) (fun _ _ _ h => h) (Or.inl ⟨by kernel_rfl, fun ws hSw => by first | (go_simp; done) | (go_simp; with_reducible rfl) | (go_simp; rfl)⟩) hS ?_
  simp only [Act.put, List.setIfInBounds_toArray, List.set_cons_zero, List.set_cons_succ]
  refine wpAnyG_takeD (i := 9) (d := 29) (v := .pointer (some ⟨N, 14, none⟩)) _ rfl rfl (by kernel_rfl) (by kernel_rfl) (by kernel_rfl) (by kernel_rfl) (fun _ _ _ h => h) (Or.inl ⟨by kernel_rfl, fun ws hSw => by first | (go_simp; done) | (go_simp; with_reducible rfl) | (go_simp; rfl)⟩) hS ?_
  simp only [Act.put, List.setIfInBounds_toArray, List.set_cons_zero, List.set_cons_succ]
  refine wpAnyG_takeD (i := 10) (d := 30) (v := .agg #[.int .i64 cpu, .int .i64 mem]) _ rfl rfl (by kernel_rfl) (by kernel_rfl) (by kernel_rfl) (by kernel_rfl) (fun _ _ _ h => h) (Or.inl ⟨by kernel_rfl, fun ws hSw => by have q := CE.out ws hSw; first | (go_simp; done) | (go_simp; with_reducible rfl) | (go_simp; rfl)⟩) hS ?_
  simp only [Act.put, List.setIfInBounds_toArray, List.set_cons_zero, List.set_cons_succ]
  refine wpAnyG_takeD (i := 11) (d := 31) (v := .string m) _ rfl rfl (by kernel_rfl) (by kernel_rfl) (by kernel_rfl) (by kernel_rfl) (fun _ _ _ h => h) (Or.inl ⟨by kernel_rfl, fun ws hSw => by first | (go_simp; done) | (go_simp; with_reducible rfl) | (go_simp; rfl)⟩) hS ?_
  simp only [Act.put, List.setIfInBounds_toArray, List.set_cons_zero, List.set_cons_succ]
  refine wpAnyG_takeD (i := 13) (d := 33) (v := .int .i64 V) _ rfl rfl (by kernel_rfl) (by kernel_rfl) (by kernel_rfl) (by kernel_rfl) (fun _ _ _ h => h) (Or.inl ⟨by kernel_rfl, fun ws hSw => by first | (go_simp; done) | (go_simp; with_reducible rfl) | (go_simp; rfl)⟩) hS ?_
  simp only [Act.put, List.setIfInBounds_toArray, List.set_cons_zero, List.set_cons_succ]
  refine wpAnyG_ready (rs := [12]) (by kernel_rfl) (by simp) ?_
  refine AllReadyG.cons rfl (fun K hK => ?_) AllReadyG.nil
  go_simp
  refine (CA.out _).mono ?_
  rintro e w4 ⟨rfl, b4⟩
  have b24 : Below w2.heap.size w2 w4 := hS.trans (b4.mono hS.size)
  have B4 := Lib.hid b24
  refine hK _ _ b24 (fun hS => ?_)
  clear b4 b24
  try simp only [Act.put, List.setIfInBounds_toArray, List.set_cons_zero, List.set_cons_succ]
  refine wpAnyG_takeD (i := 14) (d := 34) (v := .agg (useC nm (ph == 2) (Z == 0) (askV m cpu mem) V)) _ rfl rfl (by kernel_rfl) (by kernel_rfl) (by kernel_rfl) (by kernel_rfl) (fun _ _ _ h => h) (Or.inl ⟨by kernel_rfl, fun ws hSw => by first | (go_simp; done) | (go_simp; with_reducible rfl) | (go_simp; rfl)⟩) hS ?_
  simp only [Act.put, List.setIfInBounds_toArray, List.set_cons_zero, List.set_cons_succ]
  refine wpAnyG_ready (rs := [15]) (by kernel_rfl) (by simp) ?_
  refine AllReadyG.last rfl rfl (fun K hK => ?_)
  have k4 := (KK.out _ B4.out).2
  refine Ld.step_store (by rfl) _ _ _ rfl M 0 (useC nm (ph == 2) (Z == 0) (askV m cpu mem) V) (by rfl) (by rfl) (Ld.there_block k4 rfl) (by kernel_rfl) (by simp [Value.oneCell']) ?_
  obtain ⟨w5, hw5⟩ : ∃ w5, w5 = w4.setCells M 0 (useC nm (ph == 2) (Z == 0) (askV m cpu mem) V).toList := ⟨_, rfl⟩
  have k5 : w5.heap[M]? = some (.cells (useC nm (ph == 2) (Z == 0) (askV m cpu mem) V) UT (0, 0)) := hw5 ▸ Ld.laid k4 rfl
  have FIN : Hid (Below w.heap.size w w5) := by
    obtain ⟨b02, z2, hM, hN⟩ := HB.out
    have := b02.size
    show Below _ _ _
    rw [hw5]
    exact Ld.below_setCells _ _ _ (by omega) (b02.trans (B4.out.mono this))
  rw [← hw5]
  have K5 := Lib.hid k5
  refine hK _ _ ?_
  try simp only [Act.put, List.setIfInBounds_toArray, List.set_cons_zero, List.set_cons_succ]
  refine wpAnyG_done (by kernel_rfl) ?_
  clear hw5 k4 k5 B4 S3 CE CA KK HB HP hU hS
  go_wp2
  refine bodyPost_ret (results_cell_row rfl _ _ M UT (useC nm (ph == 2) (Z == 0) (askV m cpu mem) V) (0, 0) _ (by rfl) K5.out Try.underlying52 rfl (by kernel_rfl)) rfl ?_
  exact ⟨rfl, FIN.out⟩
end Go.Proofs.Ytajkhbdniadkkaa.Qy
