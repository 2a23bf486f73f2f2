/- A store that isn't there. -/
import Derived.Test.YtacgbagcddjlnaaStR
namespace Go.Proofs.Ytacgbagcddjlnaa
open Go.RowKit Go.Shelf Go.Lib Go.Sort
open Go.Joins (cell_of_block unfrozen_of_block block_setCell)
set_option linter.unusedVariables false
set_option linter.unusedSimpArgs false
set_option maxRecDepth 20000

theorem len_nil (w : World) : Calls Try.prog 13 #[.pointer none] w fun e w' => e = .returned (.int .i64 0) ∧ w = w' := by
  go_enter Try.func13, Try.ntmps13
  go_wp2
  go_ret
  exact ⟨rfl, rfl⟩
theorem now_nil (w : World) : Calls Try.prog 10 #[.pointer none] w fun e w' => e = .returned (.int .u64 0) ∧ w = w' := by
  go_enter Try.func10, Try.ntmps10
  go_wp2
  go_ret
  exact ⟨rfl, rfl⟩
theorem copy_nil (w : World) : Calls Try.prog 20 #[.pointer none] w fun e w' => e = .returned (.pointer none) ∧ w = w' := by
  go_enter Try.func20, Try.ntmps20
  go_wp2
  go_ret
  exact ⟨rfl, rfl⟩
theorem since_nil (w : World) (v : Int) : Calls Try.prog 11 #[.pointer none, .int .u64 v] w fun e w' => e = .returned (.tuple #[.slice none 0 0, .int .i64 1]) ∧ w = w' := by
  go_enter Try.func11, Try.ntmps11
  go_wp2
  refine bodyPost_ret (results_tmp2 rfl _ _ _) rfl ?_
  exact ⟨rfl, rfl⟩
theorem delete_nil (w : World) (k v : Int) (nm : ByteArray) : Calls Try.prog 18 #[.pointer none, .int .i64 k, .string nm, .int .u64 v] w fun e w' => e = .returned (.tuple #[.int .u64 0, .int .i64 1]) ∧ w = w' := by
  go_enter Try.func18, Try.ntmps18
  go_wp2
  refine bodyPost_ret (results_tmp2 rfl _ _ _) rfl ?_
  exact ⟨rfl, rfl⟩
theorem all_nil (w : World) (k : Int) : Calls Try.prog 31 #[.pointer none, .int .i64 k] w fun e w' => e = .returned (.slice none 0 0) ∧ w = w' := by
  go_enter Try.func31, Try.ntmps31
  go_wp2
  go_ret
  exact ⟨rfl, rfl⟩
theorem list_any (w : World) (s : Value) (k : Int) (hs : ∃ p, s = .pointer p) : Calls Try.prog 19 #[s, .int .i64 k] w fun e w' => e = .returned (.func (.func 30) #[] #[.pointer (some ⟨w.heap.size, 0, none⟩), .pointer (some ⟨w.heap.size + 1, 0, none⟩)]) ∧
    w' = (w.alloc (.cells #[s] 25)).alloc (.cells #[.int .i64 k] 3) := by
  obtain ⟨p, rfl⟩ := hs
  have hmf : ∀ (fn : Fn) (first cap : Array Value) (w : World), (Instr.makeFunc fn first cap).run Try.prog w = .ok (.func fn first cap) w := fun _ _ _ _ => rfl
  go_enter Try.func19, Try.ntmps19
  go_wp2
  go_ret
  exact ⟨rfl, rfl⟩

set_option maxHeartbeats 4000000 in
theorem get_nil (w : World) (k : Int) (nm : ByteArray) :
    Calls Try.prog 12 #[.pointer none, .int .i64 k, .string nm] w fun e w' => e = .returned (.tuple #[.agg zerC, .bool false]) ∧ Below w.heap.size w w' := by
  obtain ⟨B, hB⟩ : ∃ B, B = w.heap.size := ⟨_, rfl⟩
  obtain ⟨wb, hwb⟩ : ∃ wb, wb = w.alloc (.cells zerC OT) := ⟨_, rfl⟩
  have G0 : Gr w wb := hwb ▸ (Gr.refl w).alloc _
  have b1 : wb.heap[B]? = some (.cells zerC OT (0, 0)) := by rw [hwb, hB]; exact heap_alloc_new w _
  obtain ⟨Z, hZ⟩ : ∃ Z, Z = (zerC : Array Value) := ⟨_, rfl⟩
  have hzs : Z.size = 47 := by rw [hZ]; rfl
  obtain ⟨th, n0, fx1, c1⟩ := store_ob (base := B) b1 rfl hzs (Nat.le_refl _)
  have IN : Hid ((Try.prog.info? OT).map (·.size) = some Z.size) := by show _ = _; rw [hzs]; exact info_ob47
  have TH := Lib.hid th
  have ON : Hid (Z.all (·.oneCell') = true) := by show _ = _; rw [hZ]; exact zer_all
  have HZ := Lib.hid hZ
  obtain ⟨n, hn⟩ : ∃ n, n = wb.setCells B 0 Z.toList := ⟨_, rfl⟩
  rw [← hn] at n0 fx1 c1
  have HN := Lib.hid hn
  have FIN : Hid (n.heap[B]? = some (.cells Z OT (0, 0)) ∧ Below w.heap.size w n) := ⟨n0, ((Xb.ofGr G0 B).trans ⟨c1.os, c1.tape, c1.output, c1.size, fun k hk hne => c1.block k hk (by simpa using hne)⟩).below (by omega) (Nat.le_refl _)⟩
  clear hZ hzs th n0 fx1 c1 hn b1 G0
  go_enter Try.func12, Try.ntmps12
  go_upto_region 2 with fail
  rw [← hwb, ← hB]
  clear hwb hB
  go_wp2_with (refine wpList_store_mid rfl _ _ _ rfl B 0 Z (by rfl) (by rw [HZ.out]; rfl) TH.out IN.out ON.out ?_; rw [← HN.out])
  refine bodyPost_ret (results_row_tmp rfl _ _ B OT Z (0, 0) _ (by rfl) FIN.out.1 Try.underlying56 rfl IN.out) rfl ?_
  exact ⟨by rw [HZ.out]; rfl, FIN.out.2⟩

set_option maxHeartbeats 4000000 in
theorem create_nil (w : World) (cs : Array Value) (hcs : cs.size = 47) :
    Calls Try.prog 15 #[.pointer none, .agg cs] w fun e w' => e = .returned (.tuple #[.int .u64 0, .int .i64 1]) ∧ Below w.heap.size w w' := by
  obtain ⟨B, hB⟩ : ∃ B, B = w.heap.size := ⟨_, rfl⟩
  obtain ⟨wb, hwb⟩ : ∃ wb, wb = w.alloc (.cells cs OT) := ⟨_, rfl⟩
  have G0 : Gr w wb := hwb ▸ (Gr.refl w).alloc _
  have b0 : wb.heap[B]? = some (.cells cs OT (0, 0)) := by rw [hwb, hB]; exact heap_alloc_new w _
  have hbs : wb.heap.size = B + 1 := by rw [hwb, hB]; simp
  obtain ⟨Z, hZ⟩ : ∃ Z, Z = (zerC : Array Value) := ⟨_, rfl⟩
  have hzs : Z.size = 47 := by rw [hZ]; rfl
  have LO := Lib.hid (load_ob b0 hcs)
  have CR := Lib.hid (ready_nil wb cs)
  rw [← hZ] at CR
  have HH := Lib.hid (And.intro hwb (And.intro hB (And.intro G0 (And.intro b0 (And.intro hbs hzs)))))
  have ON : Hid (Z.all (·.oneCell') = true) := by show _ = _; rw [hZ]; exact zer_all
  clear G0 b0 hbs hzs hZ
  go_enter Try.func15, Try.ntmps15
  go_upto_region 1 with fail
  rw [← hwb, ← hB]
  clear hwb hB
  go_wp2_with (refine wpList_load_by (by kernel_rfl) OT _ rfl (.pointer (some ⟨B, 0, none⟩)) (.agg cs) (by kernel_rfl) LO.out ?_)
  refine CR.out.mono ?_
  rintro e m ⟨rfl, hbl⟩
  obtain ⟨hwb, hB, G0, b0, hbs, hzs⟩ := HH.out
  have m0 : m.heap[B]? = some (.cells cs OT (0, 0)) := (hbl.block B (by omega)).trans b0
  obtain ⟨th, n0, fx1, c1⟩ := store_ob (base := B) m0 hcs hzs (Nat.le_refl _)
  obtain ⟨n, hn⟩ : ∃ n, n = m.setCells B 0 Z.toList := ⟨_, rfl⟩
  rw [← hn] at n0 fx1 c1
  have IN : Hid ((Try.prog.info? OT).map (·.size) = some Z.size) := by show _ = _; rw [hzs]; exact info_ob47
  have TH := Lib.hid th
  have HN := Lib.hid hn
  have FIN : Hid (Below w.heap.size w n) := ((Xb.ofGr G0 B).trans ((Xb.ofBelow hbl B).trans ⟨c1.os, c1.tape, c1.output, c1.size, fun k hk hne => c1.block k hk (by simpa using hne)⟩)).below (by omega) (Nat.le_refl _)
  clear hwb hB G0 b0 hbs m0 th n0 fx1 c1 hn hbl LO CR HH hzs
  go_wp2_with (refine wpList_store_mid rfl _ _ _ rfl B 0 Z (by rfl) (by rfl) TH.out IN.out ON.out ?_; rw [← HN.out])
  refine bodyPost_ret (results_tmp2 rfl _ _ _) rfl ?_
  exact ⟨rfl, FIN.out⟩
set_option maxHeartbeats 4000000 in
theorem update_nil (w : World) (cs : Array Value) (hcs : cs.size = 47) :
    Calls Try.prog 16 #[.pointer none, .agg cs] w fun e w' => e = .returned (.tuple #[.int .u64 0, .int .i64 1]) ∧ Below w.heap.size w w' := by
  obtain ⟨B, hB⟩ : ∃ B, B = w.heap.size := ⟨_, rfl⟩
  obtain ⟨wb, hwb⟩ : ∃ wb, wb = w.alloc (.cells cs OT) := ⟨_, rfl⟩
  have G0 : Gr w wb := hwb ▸ (Gr.refl w).alloc _
  have b0 : wb.heap[B]? = some (.cells cs OT (0, 0)) := by rw [hwb, hB]; exact heap_alloc_new w _
  have hbs : wb.heap.size = B + 1 := by rw [hwb, hB]; simp
  obtain ⟨Z, hZ⟩ : ∃ Z, Z = (zerC : Array Value) := ⟨_, rfl⟩
  have hzs : Z.size = 47 := by rw [hZ]; rfl
  have LO := Lib.hid (load_ob b0 hcs)
  have CR := Lib.hid (ready_nil wb cs)
  rw [← hZ] at CR
  have HH := Lib.hid (And.intro hwb (And.intro hB (And.intro G0 (And.intro b0 (And.intro hbs hzs)))))
  have ON : Hid (Z.all (·.oneCell') = true) := by show _ = _; rw [hZ]; exact zer_all
  clear G0 b0 hbs hzs hZ
  go_enter Try.func16, Try.ntmps16
  go_upto_region 1 with fail
  rw [← hwb, ← hB]
  clear hwb hB
  go_wp2_with (refine wpList_load_by (by kernel_rfl) OT _ rfl (.pointer (some ⟨B, 0, none⟩)) (.agg cs) (by kernel_rfl) LO.out ?_)
  refine CR.out.mono ?_
  rintro e m ⟨rfl, hbl⟩
  obtain ⟨hwb, hB, G0, b0, hbs, hzs⟩ := HH.out
  have m0 : m.heap[B]? = some (.cells cs OT (0, 0)) := (hbl.block B (by omega)).trans b0
  obtain ⟨th, n0, fx1, c1⟩ := store_ob (base := B) m0 hcs hzs (Nat.le_refl _)
  obtain ⟨n, hn⟩ : ∃ n, n = m.setCells B 0 Z.toList := ⟨_, rfl⟩
  rw [← hn] at n0 fx1 c1
  have IN : Hid ((Try.prog.info? OT).map (·.size) = some Z.size) := by show _ = _; rw [hzs]; exact info_ob47
  have TH := Lib.hid th
  have HN := Lib.hid hn
  have FIN : Hid (Below w.heap.size w n) := ((Xb.ofGr G0 B).trans ((Xb.ofBelow hbl B).trans ⟨c1.os, c1.tape, c1.output, c1.size, fun k hk hne => c1.block k hk (by simpa using hne)⟩)).below (by omega) (Nat.le_refl _)
  clear hwb hB G0 b0 hbs m0 th n0 fx1 c1 hn hbl LO CR HH hzs
  go_wp2_with (refine wpList_store_mid rfl _ _ _ rfl B 0 Z (by rfl) (by rfl) TH.out IN.out ON.out ?_; rw [← HN.out])
  refine bodyPost_ret (results_tmp2 rfl _ _ _) rfl ?_
  exact ⟨rfl, FIN.out⟩
end Go.Proofs.Ytacgbagcddjlnaa
