/- Layer 17 (room): what pods ask for together: one more (with). -/
import Derived.Test.YtdphooobgbminaaRmA
import Derived.Test.YtdphooobgbminaaHeldG
import Derived.Test.YtdphooobgbminaaLoads
import Derived.Laws.AppendOwn
import Derived.Maps.AppendAt
namespace Go.Proofs.Ytdphooobgbminaa.Rm
open Go.RowKit Go.Shelf Go.Lib Go.Sort Go.Deep
open Go.Joins (cell_of_block unfrozen_of_block block_setCell)
set_option linter.unusedVariables false
set_option linter.unusedSimpArgs false
set_option maxRecDepth 20000

/-- A load: the sums of CPU and Mem, how many pods. -/
def ldA (c m k : Int) : Array Value := #[.int .i64 (hiS c), .int .u64 (loS c : Int), .int .i64 (hiS m), .int .u64 (loS m : Int), .int .i64 k]
def LdV (c m k : Int) : Value := .agg (ldA c m k)
abbrev ResT : TypeId := 25

set_option maxHeartbeats 4000000 in
theorem ld_with (c m k cpu mem : Int) (w : World) (hc : Fair c) (hm : Fair m) (h1 : I64 cpu) (h2 : I64 mem) (hk : 0 ≤ k ∧ k ≤ 1000000) :
    Calls Try.prog 31 #[LdV c m k, .agg #[.int .i64 cpu, .int .i64 mem]] w fun e w' => e = .returned (LdV (c + cpu) (m + mem) (k + 1)) ∧ Gr w w' := by
  have mixed : Try.prog.follows .mixedOrders = true := by kernel_rfl
  unfold LdV ldA
  obtain ⟨a0, ha0⟩ : ∃ x, x = hiS c := ⟨_, rfl⟩
  obtain ⟨a1, ha1⟩ : ∃ x, x = loS c := ⟨_, rfl⟩
  obtain ⟨b0, hb0⟩ : ∃ x, x = hiS m := ⟨_, rfl⟩
  obtain ⟨b1, hb1⟩ : ∃ x, x = loS m := ⟨_, rfl⟩
  obtain ⟨a0', ha0'⟩ : ∃ x, x = hiS (c + cpu) := ⟨_, rfl⟩
  obtain ⟨a1', ha1'⟩ : ∃ x, x = loS (c + cpu) := ⟨_, rfl⟩
  obtain ⟨b0', hb0'⟩ : ∃ x, x = hiS (m + mem) := ⟨_, rfl⟩
  obtain ⟨b1', hb1'⟩ : ∃ x, x = loS (m + mem) := ⟨_, rfl⟩
  obtain ⟨k', hk'⟩ : ∃ x, x = k + 1 := ⟨_, rfl⟩
  have C1 : Hid (∀ W : World, Calls Try.prog 19 #[.agg #[.int .i64 a0, .int .u64 (a1 : Int)], .int .i64 cpu] W fun e w' => e = .returned (.agg #[.int .i64 a0', .int .u64 (a1' : Int)]) ∧ Gr W w') := fun W => by
    have := sum_plus c cpu W hc h1
    unfold Sm smA at this
    rw [← ha0, ← ha1, ← ha0', ← ha1'] at this
    exact this
  have C2 : Hid (∀ W : World, Calls Try.prog 19 #[.agg #[.int .i64 b0, .int .u64 (b1 : Int)], .int .i64 mem] W fun e w' => e = .returned (.agg #[.int .i64 b0', .int .u64 (b1' : Int)]) ∧ Gr W w') := fun W => by
    have := sum_plus m mem W hm h2
    unfold Sm smA at this
    rw [← hb0, ← hb1, ← hb0', ← hb1'] at this
    exact this
  have ek : IntKind.i64.wrap (k + 1) = k' := by rw [hk', IntKind.wrap_i64]; omega
  rw [← ha0, ← ha1, ← hb0, ← hb1, ← ha0', ← ha1', ← hb0', ← hb1', ← hk']
  obtain ⟨B, hB⟩ : ∃ B, B = w.heap.size := ⟨_, rfl⟩
  obtain ⟨w0, hw0⟩ : ∃ W, W = ((w.alloc (.cells #[.int .i64 a0, .int .u64 (a1 : Int), .int .i64 b0, .int .u64 (b1 : Int), .int .i64 k] LT)).alloc (.cells #[.int .i64 cpu, .int .i64 mem] ResT)).alloc (.cells #[.int .i64 0, .int .u64 0, .int .i64 0, .int .u64 0, .int .i64 0] LT) := ⟨_, rfl⟩
  have G0 : Gr w w0 := hw0 ▸ (((Gr.refl w).alloc _).alloc _).alloc _
  have x0 : w0.heap[B]? = some (.cells #[.int .i64 a0, .int .u64 (a1 : Int), .int .i64 b0, .int .u64 (b1 : Int), .int .i64 k] LT (0, 0)) := by
    rw [hw0, hB, Below.heap_alloc _ _ _ (by simp; omega), Below.heap_alloc _ _ _ (by simp)]; exact heap_alloc_new w _
  have x1 : w0.heap[B + 1]? = some (.cells #[.int .i64 cpu, .int .i64 mem] ResT (0, 0)) := by
    rw [hw0, hB, Below.heap_alloc _ _ _ (by simp)]
    have := heap_alloc_new (w.alloc (.cells #[.int .i64 a0, .int .u64 (a1 : Int), .int .i64 b0, .int .u64 (b1 : Int), .int .i64 k] LT)) (.cells #[.int .i64 cpu, .int .i64 mem] ResT)
    simpa using this
  have x2 : w0.heap[B + 2]? = some (.cells #[.int .i64 0, .int .u64 0, .int .i64 0, .int .u64 0, .int .i64 0] LT (0, 0)) := by
    rw [hw0, hB]
    have := heap_alloc_new ((w.alloc (.cells #[.int .i64 a0, .int .u64 (a1 : Int), .int .i64 b0, .int .u64 (b1 : Int), .int .i64 k] LT)).alloc (.cells #[.int .i64 cpu, .int .i64 mem] ResT)) (.cells #[.int .i64 0, .int .u64 0, .int .i64 0, .int .u64 0, .int .i64 0] LT)
    simpa using this
  have HW : Hid (((w.alloc (.cells #[.int .i64 a0, .int .u64 (a1 : Int), .int .i64 b0, .int .u64 (b1 : Int), .int .i64 k] LT)).alloc (.cells #[.int .i64 cpu, .int .i64 mem] ResT)).alloc (.cells #[.int .i64 0, .int .u64 0, .int .i64 0, .int .u64 0, .int .i64 0] LT) = w0 ∧ w.heap.size = B) := ⟨hw0.symm, hB.symm⟩
  have HX := Lib.hid (And.intro x0 (And.intro x1 (And.intro x2 G0)))
  clear hw0 hB x0 x1 x2 G0 ha0 ha1 hb0 hb1 ha0' ha1' hb0' hb1' hk' hc hm h1 h2 hk
  go_enter Try.func31, Try.ntmps31
  go_upto_region 1 with fail
  rw [HW.out.1, HW.out.2]
  have S0 : Hid (∀ ws : World, (ws.heap[B]? = some (.cells #[.int .i64 a0, .int .u64 (a1 : Int), .int .i64 b0, .int .u64 (b1 : Int), .int .i64 k] LT (0, 0)) ∧ ws.heap[B + 1]? = some (.cells #[.int .i64 cpu, .int .i64 mem] ResT (0, 0))) →
      ws.cell? ⟨B, 0, none⟩ = some (.int .i64 a0) ∧ ws.cell? ⟨B, 1, none⟩ = some (.int .u64 (a1 : Int)) ∧ ws.cell? ⟨B, 2, none⟩ = some (.int .i64 b0) ∧ ws.cell? ⟨B, 3, none⟩ = some (.int .u64 (b1 : Int)) ∧ ws.cell? ⟨B, 4, none⟩ = some (.int .i64 k) ∧ ws.cell? ⟨B + 1, 0, none⟩ = some (.int .i64 cpu) ∧ ws.cell? ⟨B + 1, 1, none⟩ = some (.int .i64 mem)) :=
    fun ws h => ⟨cell_of_block h.1 0, cell_of_block h.1 1, cell_of_block h.1 2, cell_of_block h.1 3, cell_of_block h.1 4, cell_of_block h.2 0, cell_of_block h.2 1⟩
  refine wp_region_held_drew (S := fun ws => ws.heap[B]? = some (.cells #[.int .i64 a0, .int .u64 (a1 : Int), .int .i64 b0, .int .u64 (b1 : Int), .int .i64 k] LT (0, 0)) ∧ ws.heap[B + 1]? = some (.cells #[.int .i64 cpu, .int .i64 mem] ResT (0, 0))) mixed ⟨HX.out.1, HX.out.2.1⟩ (fun hS => ?_)
  refine wpAnyH_takeD (i := 0) (d := 5) (v := .pointer (some ⟨B, 0, none⟩)) _ rfl rfl (by kernel_rfl) (by kernel_rfl) (by kernel_rfl) (fun _ _ _ h => h) (Or.inl ⟨by kernel_rfl, fun ws hSw => by first | (go_simp; done) | (go_simp; with_reducible rfl) | (go_simp; rfl)⟩) hS ?_
  simp only [Act.put, List.setIfInBounds_toArray, List.set_cons_zero, List.set_cons_succ]
  refine wpAnyH_takeD (i := 1) (d := 6) (v := .agg #[.int .i64 a0, .int .u64 (a1 : Int)]) _ rfl rfl (by kernel_rfl) (by kernel_rfl) (by kernel_rfl) (fun _ _ _ h => h) (Or.inl ⟨by kernel_rfl, fun ws hSw => by have q := S0.out ws hSw; first | (go_simp; done) | (go_simp; with_reducible rfl) | (go_simp; rfl)⟩) hS ?_
  simp only [Act.put, List.setIfInBounds_toArray, List.set_cons_zero, List.set_cons_succ]
  refine wpAnyH_takeD (i := 2) (d := 7) (v := .pointer (some ⟨B + 1, 0, none⟩)) _ rfl rfl (by kernel_rfl) (by kernel_rfl) (by kernel_rfl) (fun _ _ _ h => h) (Or.inl ⟨by kernel_rfl, fun ws hSw => by first | (go_simp; done) | (go_simp; with_reducible rfl) | (go_simp; rfl)⟩) hS ?_
  simp only [Act.put, List.setIfInBounds_toArray, List.set_cons_zero, List.set_cons_succ]
  refine wpAnyH_takeD (i := 3) (d := 8) (v := .int .i64 cpu) _ rfl rfl (by kernel_rfl) (by kernel_rfl) (by kernel_rfl) (fun _ _ _ h => h) (Or.inl ⟨by kernel_rfl, fun ws hSw => by have q := S0.out ws hSw; first | (go_simp; done) | (go_simp; with_reducible rfl) | (go_simp; rfl)⟩) hS ?_
  simp only [Act.put, List.setIfInBounds_toArray, List.set_cons_zero, List.set_cons_succ]
  refine wpAnyH_takeD (i := 5) (d := 10) (v := .pointer (some ⟨B, 2, none⟩)) _ rfl rfl (by kernel_rfl) (by kernel_rfl) (by kernel_rfl) (fun _ _ _ h => h) (Or.inl ⟨by kernel_rfl, fun ws hSw => by first | (go_simp; done) | (go_simp; with_reducible rfl) | (go_simp; rfl)⟩) hS ?_
  simp only [Act.put, List.setIfInBounds_toArray, List.set_cons_zero, List.set_cons_succ]
  refine wpAnyH_takeD (i := 6) (d := 11) (v := .agg #[.int .i64 b0, .int .u64 (b1 : Int)]) _ rfl rfl (by kernel_rfl) (by kernel_rfl) (by kernel_rfl) (fun _ _ _ h => h) (Or.inl ⟨by kernel_rfl, fun ws hSw => by have q := S0.out ws hSw; first | (go_simp; done) | (go_simp; with_reducible rfl) | (go_simp; rfl)⟩) hS ?_
  simp only [Act.put, List.setIfInBounds_toArray, List.set_cons_zero, List.set_cons_succ]
  refine wpAnyH_takeD (i := 7) (d := 12) (v := .pointer (some ⟨B + 1, 1, none⟩)) _ rfl rfl (by kernel_rfl) (by kernel_rfl) (by kernel_rfl) (fun _ _ _ h => h) (Or.inl ⟨by kernel_rfl, fun ws hSw => by first | (go_simp; done) | (go_simp; with_reducible rfl) | (go_simp; rfl)⟩) hS ?_
  simp only [Act.put, List.setIfInBounds_toArray, List.set_cons_zero, List.set_cons_succ]
  refine wpAnyH_takeD (i := 8) (d := 13) (v := .int .i64 mem) _ rfl rfl (by kernel_rfl) (by kernel_rfl) (by kernel_rfl) (fun _ _ _ h => h) (Or.inl ⟨by kernel_rfl, fun ws hSw => by have q := S0.out ws hSw; first | (go_simp; done) | (go_simp; with_reducible rfl) | (go_simp; rfl)⟩) hS ?_
  simp only [Act.put, List.setIfInBounds_toArray, List.set_cons_zero, List.set_cons_succ]
  refine wpAnyH_takeD (i := 10) (d := 15) (v := .pointer (some ⟨B, 4, none⟩)) _ rfl rfl (by kernel_rfl) (by kernel_rfl) (by kernel_rfl) (fun _ _ _ h => h) (Or.inl ⟨by kernel_rfl, fun ws hSw => by first | (go_simp; done) | (go_simp; with_reducible rfl) | (go_simp; rfl)⟩) hS ?_
  simp only [Act.put, List.setIfInBounds_toArray, List.set_cons_zero, List.set_cons_succ]
  refine wpAnyH_takeD (i := 11) (d := 16) (v := .int .i64 k) _ rfl rfl (by kernel_rfl) (by kernel_rfl) (by kernel_rfl) (fun _ _ _ h => h) (Or.inl ⟨by kernel_rfl, fun ws hSw => by have q := S0.out ws hSw; first | (go_simp; done) | (go_simp; with_reducible rfl) | (go_simp; rfl)⟩) hS ?_
  simp only [Act.put, List.setIfInBounds_toArray, List.set_cons_zero, List.set_cons_succ]
  refine wpAnyH_takeD (i := 12) (d := 17) (v := .int .i64 k') _ rfl rfl (by kernel_rfl) (by kernel_rfl) (by kernel_rfl) (fun _ _ _ h => h) (Or.inl ⟨by kernel_rfl, fun ws hSw => by first | (go_simp; done) | (go_simp; with_reducible rfl) | (go_simp; rfl)⟩) hS ?_
  simp only [Act.put, List.setIfInBounds_toArray, List.set_cons_zero, List.set_cons_succ]
  refine wpAnyH_ready (rs := [4]) (by kernel_rfl) (by simp) ?_
  refine AllReadyH.cons rfl (fun K hK => ?_) AllReadyH.nil
  go_simp
  refine (C1.out _).mono ?_
  rintro e w1 ⟨rfl, g1⟩
  have g1' : Gr w0 w1 := ((Gr.refl w0).drewN 1).trans g1
  have y0 := (g1'.heap (Array.getElem?_eq_some_iff.1 HX.out.1).1).trans HX.out.1
  have y1 := (g1'.heap (Array.getElem?_eq_some_iff.1 HX.out.2.1).1).trans HX.out.2.1
  refine hK _ _ ⟨y0, y1⟩ (fun hS => ?_)
  try simp only [Act.put, List.setIfInBounds_toArray, List.set_cons_zero, List.set_cons_succ]
  refine wpAnyH_ready (rs := [9]) (by kernel_rfl) (by simp) ?_
  refine AllReadyH.cons rfl (fun K hK => ?_) AllReadyH.nil
  go_simp
  refine (C2.out _).mono ?_
  rintro e w2 ⟨rfl, g2⟩
  have g2' : Gr w0 w2 := g1'.trans g2
  have z0 := (g2'.heap (Array.getElem?_eq_some_iff.1 HX.out.1).1).trans HX.out.1
  have z1 := (g2'.heap (Array.getElem?_eq_some_iff.1 HX.out.2.1).1).trans HX.out.2.1
  have z2 := (g2'.heap (Array.getElem?_eq_some_iff.1 HX.out.2.2.1).1).trans HX.out.2.2.1
  have GG := Lib.hid (HX.out.2.2.2.trans g2')
  have HB : Hid (w.heap.size ≤ B + 2) := by rw [HW.out.2]; show _ ≤ _; omega
  clear g1 g1' g2 g2' y0 y1 C1 C2
  refine hK _ _ ⟨z0, z1⟩ (fun hS => ?_)
  try simp only [Act.put, List.setIfInBounds_toArray, List.set_cons_zero, List.set_cons_succ]
  refine wpAnyH_takeD (i := 13) (d := 18) (v := .agg #[.int .i64 a0', .int .u64 (a1' : Int), .int .i64 b0', .int .u64 (b1' : Int), .int .i64 k']) _ rfl rfl (by kernel_rfl) (by kernel_rfl) (by kernel_rfl) (fun _ _ _ h => h) (Or.inl ⟨by kernel_rfl, fun ws hSw => by first | (go_simp; done) | (go_simp; with_reducible rfl) | (go_simp; rfl)⟩) hS ?_
  simp only [Act.put, List.setIfInBounds_toArray, List.set_cons_zero, List.set_cons_succ]
  obtain ⟨L, hL⟩ : ∃ L : Array Value, L = #[.int .i64 a0', .int .u64 (a1' : Int), .int .i64 b0', .int .u64 (b1' : Int), .int .i64 k'] := ⟨_, rfl⟩
  have sL : L.size = 5 := by rw [hL]; rfl
  have oL : L.all (·.oneCell') = true := by rw [hL]; kernel_rfl
  have th := Ld.there_block z2 (n := L.size) (by rw [sL]; rfl)
  have xl : (w2.setCells (B + 2) 0 L.toList).heap[B + 2]? = some (.cells L LT (0, 0)) := Ld.laid z2 (by rw [sL]; rfl)
  obtain ⟨w3, hw3⟩ : ∃ x, x = w2.setCells (B + 2) 0 L.toList := ⟨_, rfl⟩
  have gl : Gr w w3 := hw3 ▸ gr_setCells L.toList GG.out _ _ HB.out
  have bl : Below (B + 2) w2 w3 := hw3 ▸ Ld.below_setCells _ _ _ (Nat.le_refl _) ⟨rfl, rfl, rfl, Nat.le_refl _, fun _ _ => rfl⟩
  have u0 := (bl.block B (by omega)).trans z0
  have u1 := (bl.block (B + 1) (by omega)).trans z1
  rw [← hw3] at xl
  rw [← hL]
  refine wpAnyH_ready (rs := [14]) (by kernel_rfl) (by simp) ?_
  refine AllReadyH.cons rfl (fun K hK => ?_) AllReadyH.nil
  refine Ld.step_store (by rfl) _ _ _ rfl (B + 2) 0 L (by rfl) (by rfl) th (by rw [sL]; kernel_rfl) oL ?_
  rw [← hw3]
  refine hK _ _ ⟨u0, u1⟩ (fun hS => ?_)
  try simp only [Act.put, List.setIfInBounds_toArray, List.set_cons_zero, List.set_cons_succ]
  refine wpAnyH_done (by kernel_rfl) ?_ _
  go_wp2
  refine bodyPost_ret (results_cell_row rfl _ _ (B + 2) LT L (0, 0) _ (by rfl) xl Try.underlying67 rfl (by rw [sL]; kernel_rfl)) rfl ?_
  exact ⟨by rw [hL], gl⟩
end Go.Proofs.Ytdphooobgbminaa.Rm
/- Operations of a region that draws its order, by laws (of builtins, maps, appends). -/
namespace Go.Proofs.Ytdphooobgbminaa
open Go.RowKit Go.Shelf Go.Lib Go.Sort
set_option linter.unusedVariables false
set_option linter.unusedSimpArgs false

section
variable {P : Program} {ops : Array Oper} {Q : Exit → Act → World → Prop} {w : World} {o : Oper} {a : Act} {K : Act → World → Prop}

/-- A call of a builtin that is known to run. -/
theorem step_runS {t : Array Bool} {v : Value} {w' : World} (hw : Region.wanted o (yielded ops a.tmps) = true) (hr : (execOp a.eval o).run P w = .ok (.value v) w') (k : K (a.put o.dst v) w') :
    if Region.wanted o (yielded ops a.tmps) = true then Oper.wp P o a w K Q else K (a.put o.dst undef) w := by
  rw [if_pos hw]
  unfold Oper.wp
  rw [hr]
  exact k
theorem step_appendS (hw : Region.wanted o (yielded ops a.tmps) = true) (s x : Operand) (t : TypeId) (ho : o.op = .call { callee := .builtin .append, args := #[s, x], argTypes := #[t, t] })
    (base : Nat) (e : TypeId) (z : Value) (size bytes : Nat) (ht : P.underlying t = some (.slice e)) (hinfo : (P.info? e).map (fun i => (i.zero, i.size, i.bytes)) = some (some z, size, bytes)) (hzs : z.cells.size = size) (hsz : 0 < size)
    (v : Value) (n : Nat) (xs : List Value) (hs : a.eval s = v) (hown : w.ownsRow base e size v n xs)
    (ad : Addr) (m c : Nat) (news : List Value) (hx : a.eval x = .slice (some ad) m c) (hl : news.length = m * size) (hnews : ∀ j u, news[j]? = some u → w.cell? (ad.add j) = some u) (h1 : ∀ u ∈ news, u.oneCell' = true)
    (h63 : n + m ≤ maxLen) (hbytes : (n + m) * bytes ≤ 140737488355328) (hbase : base ≤ w.heap.size)
    (h : ∀ v' w', w'.ownsRow base e size v' (n + m) (xs ++ news) → w.grownBy w' v.ownBlock → (v'.ownBlock = v.ownBlock ∨ v'.ownBlock = some w.heap.size) → K (a.put o.dst v') w') :
    if Region.wanted o (yielded ops a.tmps) = true then Oper.wp P o a w K Q else K (a.put o.dst undef) w := by
  rw [if_pos hw]
  cases hi : P.info? e with
  | none => rw [hi] at hinfo; cases hinfo
  | some i =>
    rw [hi] at hinfo
    simp only [Option.map_some, Option.some.injEq, Prod.mk.injEq] at hinfo
    obtain ⟨hz, hsize, hby⟩ := hinfo
    obtain ⟨v', w', hr, h2, h3, h4, h5⟩ := run_append_own_at (P := P) w base t o.type e i z size bytes ht hi hz hsize hby hzs hsz v n xs hown ad m c news hl hnews h1 h63 hbytes hbase
    unfold Oper.wp execOp
    simp only [ho, resolve, invoke, builtin, Sem.run_bind, Sem.run_pure, Result.andThen_ok, List.map_toArray, List.map_cons, List.map_nil, hs, hx, hr]
    exact h v' w' h2 h3 h5
theorem step_mapUpdateS (hw : Region.wanted o (yielded ops a.tmps) = true) (m x v : Operand) (t : TypeId) (ho : o.op = Op.mapUpdate t m x v) {mv key val : Value} (hm : a.eval m = mv) (hx : a.eval x = key) (hv : a.eval v = val) {w' : World}
    (hr : (Instr.mapUpdate t mv key val).run P w = .ok () w') (k : K (a.put o.dst undef) w') :
    if Region.wanted o (yielded ops a.tmps) = true then Oper.wp P o a w K Q else K (a.put o.dst undef) w := by
  rw [if_pos hw]
  unfold Oper.wp
  simp [execOp, ho, hm, hx, hv, hr, Result.andThen]
  exact k
theorem step_deleteS (hw : Region.wanted o (yielded ops a.tmps) = true) (m x : Operand) (t k' : TypeId) (ho : o.op = Op.call { callee := Callee.builtin Builtin.delete, args := #[m, x], argTypes := #[t, k'] }) {mv key : Value} (hm : a.eval m = mv) (hx : a.eval x = key) {w' : World}
    (hr : (Builtin.delete_ #[t, k'] o.type #[mv, key]).run P w = .ok (.tuple #[]) w') (k : K (a.put o.dst (.tuple #[])) w') :
    if Region.wanted o (yielded ops a.tmps) = true then Oper.wp P o a w K Q else K (a.put o.dst undef) w := by
  rw [if_pos hw]
  unfold Oper.wp
  simp [execOp, ho, resolve, invoke, builtin, hm, hx, hr, Result.andThen]
  exact k
end
end Go.Proofs.Ytdphooobgbminaa
