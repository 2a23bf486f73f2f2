/- Layer 13: Row of one pod; the law's example. -/
import Derived.Test.YtndbpijkepchgaaQyE
namespace Go.Proofs.Ytndbpijkepchgaa.Qy
open Go.RowKit Go.Deep Go.Lib Go.Shelf Go.Sort
open Go.Joins (cell_of_block unfrozen_of_block block_setCell)
set_option linter.unusedVariables false
set_option linter.unusedSimpArgs false
set_option maxRecDepth 20000

/-- The cells of an object without anything. -/
abbrev zO : Array Value := #[.int .i64 0, .string { data := #[] }, .int .u64 0, .int .i64 0, .int .i64 0, .int .i64 0, .slice none 0 0, .slice none 0 0, .slice none 0 0, .int .i64 0, .string { data := #[] }, .string { data := #[] }, .int .i64 0, .int .i64 0, .int .i64 0, .int .i64 0, .slice none 0 0, .slice none 0 0, .slice none 0 0, .int .i64 0, .string { data := #[] }, .int .i64 0, .int .i64 0, .slice none 0 0, .slice none 0 0, .int .i64 0, .bool false, .int .i64 0, .int .i64 0, .int .i64 0, .int .i64 0, .int .i64 0, .slice none 0 0, .slice none 0 0, .int .i64 0, .string { data := #[] }, .int .i64 0, .int .i64 0, .slice none 0 0, .int .i64 0, .int .i64 0, .int .i64 0, .slice none 0 0, .int .i64 0, .int .i64 0, .slice none 0 0, .slice none 0 0]
theorem info47 : (Try.prog.info? OT).map (·.size) = some 47 := by kernel_rfl
/-- A whole object is loaded. -/
theorem load_O {w : World} {b : Nat} {cs : Array Value} {T : TypeId} {fz : Nat × Nat} (h : w.heap[b]? = some (.cells cs T fz)) (hs : cs.size = 47) :
    (Instr.loadAt OT (.pointer (some ⟨b, 0, none⟩))).run Try.prog w = .ok (.agg cs) w := by
  have h1 := run_loadAt_mid (P := Try.prog) w b 0 OT cs.toList _ (Ld.rangeAt_block h) Try.underlying67 rfl (by rw [Array.length_toList, hs]; exact info47)
  simpa using h1

set_option maxHeartbeats 8000000 in
theorem row_one (w : World) (bb mb n a : Nat) (E : List En) (h : Bk w bb mb n a E) (now : Int) (hn : now ≤ 9223372036854775807) (m : ByteArray) (hm : m.size ≤ maxLen) (B : Nat) (cs : Array Value) (nm : ByteArray) (hnm : nm.size ≤ maxLen) (ph cpu mem : Int) (hp : PodC cs 1 nm ph cpu mem) (hph : ph ≠ 3) (one : cs.all (·.oneCell') = true) (hB : w.heap[B]? = some (.cells cs OT (0, 0))) :
    Calls Try.prog 13 #[.pointer (some ⟨bb, 0, none⟩), .int .i64 now, .string m, .slice (some ⟨B, 0, none⟩) 1 1] w fun r w' => ∃ q c, r = .returned (.slice q 1 c) ∧ RowU w.heap.size w w' q c (useOf now a E m nm ph cpu mem) := by
  have mixed : Try.prog.follows .mixedOrders = true := by kernel_rfl
  obtain ⟨inf, i1, i2, i3, i4⟩ := infoU
  have HI := Lib.hid (And.intro i1 (And.intro i2 (And.intro i3 i4)))
  have hcnt : cntB 1 ph = true := by unfold cntB; simp [hph]
  obtain ⟨N, hN⟩ : ∃ N, N = w.heap.size := ⟨_, rfl⟩
  have L0 := Lib.hid (load_O hB hp.size)
  obtain ⟨w1, hw1⟩ : ∃ w1, w1 = (w.alloc (.cells zO OT)).setCells w.heap.size 0 cs.toList := ⟨_, rfl⟩
  have k0 : (w.alloc (.cells zO OT)).heap[w.heap.size]? = some (.cells zO OT (0, 0)) := heap_alloc_new w _
  have THERE : Hid ((w.alloc (.cells zO OT)).there w.heap.size 0 cs.size) := Ld.there_block k0 (by rw [hp.size]; rfl)
  have INFO : Hid ((Try.prog.info? OT).map (·.size) = some cs.size) := by show _ = _; rw [hp.size]; exact info47
  have ONE := Lib.hid one
  have k1 : w1.heap[N]? = some (.cells cs OT (0, 0)) := by rw [hw1, hN]; exact Ld.laid k0 (by rw [hp.size]; rfl)
  have b1 : Below w.heap.size w w1 := by rw [hw1]; exact Ld.below_setCells _ _ _ (Nat.le_refl _) ((Below.refl _ _).alloc (Nat.le_refl _) _)
  have L1 := Lib.hid (load_O k1 hp.size)
  have C1 := Lib.hid (counted_any w1 cs 1 nm ph cpu mem hp)
  rw [hcnt] at C1
  have HW : Hid ((w.alloc (.cells zO OT)).setCells w.heap.size 0 cs.toList = w1 ∧ w.heap.size = N) := ⟨hw1.symm, hN.symm⟩
  have NX : Hid (∀ w3, Below w1.heap.size w1 w3 → (Instr.loadAt OT (.pointer (some ⟨N, 0, none⟩))).run Try.prog w3 = .ok (.agg cs) w3 ∧ Below N w w3 ∧ N ≤ w3.heap.size ∧ Calls Try.prog 22 #[.pointer (some ⟨bb, 0, none⟩), .int .i64 now, .string m, .agg cs] w3 fun r w' => r = .returned (.agg (useOf now a E m nm ph cpu mem)) ∧ Below w3.heap.size w3 w') := fun w3 b => by
    have bb3 : Below w.heap.size w w3 := b1.trans (b.mono b1.size)
    exact ⟨load_O ((b.block N (Array.getElem?_eq_some_iff.1 k1).1).trans k1) hp.size, by rw [hN]; exact bb3, by rw [hN]; exact bb3.size, of_any w3 bb mb n a E (h.gr bb3) now hn m hm cs 1 nm hnm ph cpu mem hp⟩
  obtain ⟨X, hX⟩ : ∃ X, X = useOf now a E m nm ph cpu mem := ⟨_, rfl⟩
  have XS : Hid (X.size = 5) := by show _ = _; rw [hX]; rfl
  have XO : Hid (∀ u ∈ X.toList, u.oneCell' = true) := by
    intro u hu
    rw [hX] at hu
    unfold useOf at hu
    simp at hu
    rcases hu with rfl | rfl | rfl | rfl | rfl <;> rfl
  rw [← hX] at NX ⊢
  rw [← hN]
  clear hw1 k0 k1 b1 hN h hn hm hnm hp hph one hB hX hcnt i1 i2 i3 i4
  go_enter Try.func13, Try.ntmps13
  go_wp2_with fail
  go_loopg [14, 9] 1 (fun g vi v9 wr => (vi = .int .i64 0 ∧ 1 ≤ g ∧ v9 = .slice none 0 0 ∧ wr = w) ∨ (vi = .int .i64 1 ∧ ∃ q c, v9 = .slice q 1 c ∧ Hid (RowU N w wr q c X)))
  case atStart => exact .inl ⟨rfl, by omega, rfl, rfl⟩
  case round =>
    rcases hrel with ⟨rfl, hg, rfl, hwr⟩ | ⟨rfl, q, c, rfl, HR⟩
    · subst hwr
      go_upto_region 5 with (first | (refine Ld.wpList_load_by (by kernel_rfl) OT _ rfl (.pointer (some ⟨B, 0, none⟩)) (.agg cs) (by kernel_rfl) L0.out ?_) | (refine wpList_store_mid rfl _ _ _ rfl wr.heap.size 0 cs (by rfl) (by rfl) THERE.out INFO.out ONE.out ?_))
      rw [HW.out.1, HW.out.2]
      clear THERE INFO L0
      go_wp2_with (refine Ld.wpList_load_by (by kernel_rfl) OT _ rfl (.pointer (some ⟨N, 0, none⟩)) (.agg cs) (by kernel_rfl) L1.out ?_)
      refine C1.out.mono ?_
      rintro e w3 ⟨rfl, b3⟩
      obtain ⟨l3, low3, hz3, CO⟩ := NX.out _ b3
      have L3 := Lib.hid l3
      have CO := Lib.hid CO
      have LOW := Lib.hid (And.intro low3 hz3)
      clear b3 l3 low3 hz3 NX C1 L1
      go_wp2_with (refine Ld.wpList_load_by (by kernel_rfl) OT _ rfl (.pointer (some ⟨N, 0, none⟩)) (.agg cs) (by kernel_rfl) L3.out ?_)
      refine CO.out.mono ?_
      rintro e w4 ⟨rfl, b4⟩
      have low4 : Below N wr w4 := LOW.out.1.trans (b4.mono LOW.out.2)
      have hz4 : N ≤ w4.heap.size := Nat.le_trans LOW.out.2 b4.size
      obtain ⟨w5, hw5⟩ : ∃ w5, w5 = w4.alloc (.cells X UT) := ⟨_, rfl⟩
      obtain ⟨M, hM⟩ : ∃ M, M = w4.heap.size := ⟨_, rfl⟩
      have NEW : Hid (∀ (t : Nat) u, X.toList[t]? = some u → w5.cell? ((⟨M, 0, none⟩ : Addr).add t) = some u) := by
        have := World.news_of_block (w := w5) (B := M) (cs := X) (t := UT) (fr := (0, 0)) (by rw [hw5, hM]; exact heap_alloc_new w4 _)
        exact this
      have OW : Hid (w5.ownsRow N UT 5 (.slice none 0 0) 0 []) := World.ownsRow_nil _ _ _ _
      have L5 : Hid (Below N wr w5) := by show Below _ _ _; rw [hw5]; exact low4.alloc (by omega) _
      have BS : Hid (N ≤ w5.heap.size) := by show _ ≤ _; rw [hw5]; simp; omega
      have HW5 : Hid (w4.alloc (.cells X UT) = w5 ∧ w4.heap.size = M) := ⟨hw5.symm, hM.symm⟩
      clear hw5 hM low4 hz4 b4 L3 CO LOW
      go_wp2_with (first | (refine Ld.wpList_build (by kernel_rfl) SlU UT _ rfl (.agg zU) 5 X (by rfl) XS.out (by decide) (by decide) Try.underlying45 (by kernel_rfl) ?_; rw [HW5.out.1, HW5.out.2]) | (at_builtin; refine wpList_append_lies _ rfl _ _ SlU (by rfl) N UT inf (.agg zU) 5 40 Try.underlying45 HI.out.1 HI.out.2.1 HI.out.2.2.1 HI.out.2.2.2 rfl (by omega) (.slice none 0 0) 0 [] (by rfl) OW.out ⟨M, 0, none⟩ 1 1 X.toList (by rfl) (by rw [Array.length_toList, XS.out]) NEW.out XO.out (by omega) (by unfold maxLen; omega) (by omega) BS.out _ rfl ?_; intro g cap w6 hown6 hgrow6 hat6 hlt6))
      have FIN : Hid (RowU N wr w6 (some ⟨g, 0, none⟩) cap X) := ⟨by simpa using hown6, L5.out.grown hgrow6 BS.out (fun k e => by simp [Value.ownBlock] at e)⟩
      clear hown6 hgrow6 hat6 hlt6 OW BS NEW L5
      go_wp2_with fail
      go_roundg 0
      case measure => omega
      case rel => exact .inr ⟨rfl, _, _, rfl, FIN⟩
    · go_wp2_with fail
      refine (sort_one _ _ _ _).mono ?_
      rintro e w' ⟨rfl, h⟩
      have FIN : Hid (RowU N w w' q c X) := by rw [← h]; exact HR.out
      clear h HR
      go_wp2
      go_ret
      exact ⟨_, _, rfl, FIN.out⟩
end Go.Proofs.Ytndbpijkepchgaa.Qy
