/- A sample that comes to a book: put. -/
import Derived.Test.YtajkhbdniadkkaaScB
import Derived.Test.YtajkhbdniadkkaaSteps
namespace Go.Proofs.Ytajkhbdniadkkaa
open Go.RowKit Go.Shelf Go.Lib Go.Sort
open Go.Joins (cell_of_block unfrozen_of_block block_setCell)
set_option linter.unusedVariables false
set_option linter.unusedSimpArgs false
set_option maxRecDepth 20000

/-- A world with a series' box. -/
structure Boxed (w w1 : World) (N : Nat) (s : Sr) : Prop where
  eq : w.alloc (.cells #[.string s.1, .string s.2] KS) = w1
  at_ : w.heap.size = N
  b : Below w.heap.size w w1
  c0 : w1.cell? ⟨N, 0, none⟩ = some (.string s.1)
  c1 : w1.cell? ⟨N, 1, none⟩ = some (.string s.2)
  size : w1.heap.size = N + 1
theorem boxed (w : World) (s : Sr) : ∃ w1 N, Boxed w w1 N s := by
  refine ⟨_, _, rfl, rfl, (Below.refl _ _).alloc (Nat.le_refl _) _, ?_, ?_, by simp⟩
  · exact cell_of_block (heap_alloc_new w _) 0
  · exact cell_of_block (heap_alloc_new w _) 1

set_option maxHeartbeats 1000000 in
theorem bput_stale (w : World) (bb mb n a : Nat) (E : List En) (h : Bk w bb mb n a E) (e : En) (he : e ∈ E) (l : List (Int × Int)) (y : Int × Int) (hl : e.l = l ++ [y]) (xa xv : Int) (h0 : 0 ≤ xa) (hy : xa ≤ y.1) :
    Calls Try.prog 57 #[.pointer (some ⟨bb, 0, none⟩), .int .i64 xa, ser e.s, .int .i64 xv] w fun r w' => r = .returned (.int .i64 13) ∧ Below w.heap.size w w' := by
  have mixed : Try.prog.follows .mixedOrders = true := by kernel_rfl
  obtain ⟨w1, N, B⟩ := boxed w e.s
  have h1 := h.gr B.b
  have c2 := h1.c2
  have lk : ∀ k : Nat, (Instr.lookup MS (.map (some mb)) (.agg #[.string e.s.1, .string e.s.2]) true).run Try.prog (w1.drewN k) = .ok (.tuple #[.pointer (some ⟨e.rb, 0, none⟩), .bool true]) (w1.drewN k) := fun k => (h1.drewN k).map.yes he true
  have b0 := B.c0
  have b1 := B.c1
  have CP : Hid (∀ k : Nat, Calls Try.prog 77 #[.pointer (some ⟨e.rb, 0, none⟩), .int .i64 xa, .int .i64 xv] (w1.drewN k) fun r w' => r = .returned (.int .i64 13) ∧ Below (w1.drewN k).heap.size (w1.drewN k) w') := fun k => put_staleQ (w1.drewN k) e.rb e.gb n l y (hl ▸ ((h1.each e he).1).drewN k) xa xv h0 hy
  have HW : Hid (w.alloc (.cells #[.string e.s.1, .string e.s.2] KS) = w1 ∧ w.heap.size = N) := ⟨B.eq, B.at_⟩
  have HB := Lib.hid B.b
  clear h h1 he hl B h0 hy
  unfold ser
  go_enter Try.func57, Try.ntmps57
  go_upto_region 1 with fail
  rw [HW.out.1, HW.out.2]
  go_quiet (fail)
  go_wp2_with fail
  refine (CP.out _).mono ?_
  rintro r w' ⟨rfl, b⟩
  have FIN : Hid (Below w.heap.size w w') := HB.out.trans ((Below.drewN' (Below.refl _ _) nq).trans (b.mono HB.out.size))
  clear b
  go_wp2
  go_ret
  exact ⟨rfl, FIN.out⟩

/-- One series' samples are others. -/
theorem Bk.turn {w w' : World} {bb mb n a : Nat} {E1 E2 : List En} {e : En} {l : List (Int × Int)} (h : Bk w bb mb n a (E1 ++ e :: E2)) (t : Tch [e.rb, e.gb] w w') (H : HasQ w' e.rb e.gb n l) (hs : Smps l) :
    Bk w' bb mb n a (E1 ++ { e with l := l } :: E2) := by
  have hf : foot bb mb (E1 ++ { e with l := l } :: E2) = foot bb mb (E1 ++ e :: E2) := by simp [foot]
  have hb := h.blks
  have off : ∀ g, (g = bb ∨ g = mb ∨ ∃ x ∈ E1 ++ E2, g = x.rb ∨ g = x.gb) → g ∉ [e.rb, e.gb] := by
    have hb' : ((foot bb mb (E1 ++ E2)) ++ [e.rb, e.gb]).Nodup := by
      refine (List.Perm.nodup_iff ?_).1 hb
      unfold foot
      simp only [List.flatMap_append, List.flatMap_cons, List.cons_append]
      refine List.Perm.cons _ (List.Perm.cons _ ?_)
      rw [List.append_assoc]
      refine List.Perm.append_left _ ?_
      exact (List.perm_append_comm (l₁ := [e.rb, e.gb]))
    intro g hg hm
    exact (List.nodup_append.1 hb').2.2 g (foot_mem.2 hg) g hm rfl
  refine ⟨?_, ?_, h.hn, h.ha, ?_, by rw [hf]; exact hb, by have := h.few; simpa using this⟩
  · exact (t.block bb (Array.getElem?_eq_some_iff.1 h.book).1 (off bb (.inl rfl))).trans h.book
  · obtain ⟨D, ho, hr⟩ := h.map.keep (t.block mb h.map.lt (off mb (.inr (.inl rfl))))
    exact .of ho (hr.same (e' := { e with l := l }) rfl rfl)
  · intro x hx
    have keep : ∀ x ∈ E1 ++ E2, HasQ w' x.rb x.gb n x.l ∧ Smps x.l := fun x hx => by
      have hx' : x ∈ E1 ++ e :: E2 := by rcases List.mem_append.1 hx with h1 | h1; exact List.mem_append_left _ h1; exact List.mem_append_right _ (List.mem_cons_of_mem _ h1)
      obtain ⟨k1, k2⟩ := h.each x hx'
      exact ⟨k1.tch t (off _ (.inr (.inr ⟨x, hx, .inl rfl⟩))) (off _ (.inr (.inr ⟨x, hx, .inr rfl⟩))), k2⟩
    rcases List.mem_append.1 hx with h1 | h1
    · exact keep x (List.mem_append_left _ h1)
    · rcases List.mem_cons.1 h1 with rfl | h1
      · exact ⟨H, hs⟩
      · exact keep x (List.mem_append_right _ h1)

set_option maxHeartbeats 1000000 in
theorem bput_more (w : World) (bb mb n a : Nat) (E1 E2 : List En) (e : En) (h : Bk w bb mb n a (E1 ++ e :: E2)) (xa xv : Int) (h0 : 0 ≤ xa ∧ xa ≤ 4611686018427387904) (hy : ∀ y, e.l.getLast? = some y → y.1 < xa) :
    Calls Try.prog 57 #[.pointer (some ⟨bb, 0, none⟩), .int .i64 xa, ser e.s, .int .i64 xv] w fun r w' => r = .returned (.int .i64 0) ∧ Bk w' bb mb n a (E1 ++ { e with l := keepQ n e.l ++ [(xa, xv)] } :: E2) ∧ Tch [e.rb, e.gb] w w' := by
  have mixed : Try.prog.follows .mixedOrders = true := by kernel_rfl
  obtain ⟨w1, N, B⟩ := boxed w e.s
  have he : e ∈ E1 ++ e :: E2 := by simp
  have h1 := h.gr B.b
  have c2 := h1.c2
  have lk : ∀ k : Nat, (Instr.lookup MS (.map (some mb)) (.agg #[.string e.s.1, .string e.s.2]) true).run Try.prog (w1.drewN k) = .ok (.tuple #[.pointer (some ⟨e.rb, 0, none⟩), .bool true]) (w1.drewN k) := fun k => (h1.drewN k).map.yes he true
  have b0 := B.c0
  have b1 := B.c1
  have CP : Hid (∀ k : Nat, Calls Try.prog 77 #[.pointer (some ⟨e.rb, 0, none⟩), .int .i64 xa, .int .i64 xv] (w1.drewN k) fun r w' => r = .returned (.int .i64 0) ∧ HasQ w' e.rb e.gb n (keepQ n e.l ++ [(xa, xv)]) ∧ Tch [e.rb, e.gb] (w1.drewN k) w') := fun k => put_okQ (w1.drewN k) e.rb e.gb n e.l (((h1.each e he).1).drewN k) xa xv h0.1 hy
  have HW : Hid (w.alloc (.cells #[.string e.s.1, .string e.s.2] KS) = w1 ∧ w.heap.size = N) := ⟨B.eq, B.at_⟩
  have sm := (h.each e he).2
  have FF : Hid (∀ k w', HasQ w' e.rb e.gb n (keepQ n e.l ++ [(xa, xv)]) → Tch [e.rb, e.gb] (w1.drewN k) w' → Bk w' bb mb n a (E1 ++ { e with l := keepQ n e.l ++ [(xa, xv)] } :: E2) ∧ Tch [e.rb, e.gb] w w') := fun k w' H t => by
    refine ⟨(h1.drewN k).turn t H ⟨by simp, up_keep sm.up hy, fun x hx => ?_⟩, (Tch.ofBelow (Below.drewN' B.b k) _).trans t (fun g hg => .inl hg)⟩
    rcases List.mem_append.1 hx with hx | hx
    · exact sm.at_ x (mem_keep hx)
    · rw [List.mem_singleton] at hx
      subst hx
      exact h0
  clear h h1 he B h0 hy sm
  unfold ser
  go_enter Try.func57, Try.ntmps57
  go_upto_region 1 with fail
  rw [HW.out.1, HW.out.2]
  go_quiet (fail)
  go_wp2_with fail
  refine (CP.out _).mono ?_
  rintro r w' ⟨rfl, H, t⟩
  have FIN := Lib.hid (FF.out _ w' H t)
  clear H t FF
  go_wp2
  go_ret
  exact ⟨rfl, FIN.out⟩

set_option maxHeartbeats 1000000 in
theorem bput_full (w : World) (bb mb n a : Nat) (E : List En) (h : Bk w bb mb n a E) (s : Sr) (hk : OkS s) (hs : ∀ e ∈ E, e.s ≠ s) (hl : E.length = 512) (xa xv : Int) :
    Calls Try.prog 57 #[.pointer (some ⟨bb, 0, none⟩), .int .i64 xa, ser s, .int .i64 xv] w fun r w' => r = .returned (.int .i64 10) ∧ Below w.heap.size w w' := by
  have mixed : Try.prog.follows .mixedOrders = true := by kernel_rfl
  obtain ⟨w1, N, B⟩ := boxed w s
  have h1 := h.gr B.b
  have c2 := h1.c2
  have lk : ∀ k : Nat, (Instr.lookup MS (.map (some mb)) (.agg #[.string s.1, .string s.2]) true).run Try.prog (w1.drewN k) = .ok (.tuple #[.pointer none, .bool false]) (w1.drewN k) := fun k => (h1.drewN k).map.no hk hs true
  have ln : ∀ (ty : TypeId) (k : Nat), (Builtin.len_ #[MS] ty #[.map (some mb)]).run Try.prog (w1.drewN k) = .ok (.int .i64 512) (w1.drewN k) := fun ty k => by
    have := (h1.drewN k).map.len ty
    rw [hl] at this
    exact this
  have b0 := B.c0
  have b1 := B.c1
  have HW : Hid (w.alloc (.cells #[.string s.1, .string s.2] KS) = w1 ∧ w.heap.size = N) := ⟨B.eq, B.at_⟩
  have HB : Hid (∀ k, Below w.heap.size w (w1.drewN k)) := fun k => Below.drewN' B.b k
  clear h h1 hs B hl
  unfold ser
  go_enter Try.func57, Try.ntmps57
  go_upto_region 1 with fail
  rw [HW.out.1, HW.out.2]
  go_quiet (fail)
  go_wp2
  go_ret
  exact ⟨rfl, HB.out _⟩

/-- A series more. -/
theorem Bk.more {w w2 w3 w4 : World} {bb mb n a rb gb : Nat} {E : List En} {s : Sr} (h : Bk w bb mb n a E) (hl : E.length < 512) (b : Below w.heap.size w w2) (hr : w.heap.size ≤ rb) (hg : w.heap.size ≤ gb) (hne : rb ≠ gb) (x : Int × Int) (h0 : 0 ≤ x.1 ∧ x.1 ≤ 4611686018427387904)
    (m3 : MapS w3 mb (E ++ [⟨s, rb, gb, []⟩])) (t3 : Tch [mb] w2 w3) (H : HasQ w4 rb gb n [x]) (t4 : Tch [rb, gb] w3 w4) :
    Bk w4 bb mb n a (E ++ [⟨s, rb, gb, [x]⟩]) ∧ Tch [mb] w w4 := by
  have lt := h.lt
  have hm : mb < w.heap.size := h.map.lt
  have tt : Tch [mb] w w4 := ((Tch.ofBelow b [mb]).trans t3 (fun g hg => .inl hg)).trans t4 (fun g hg => .inr (by simp at hg; omega))
  have hn := h.blks
  refine ⟨⟨?_, ?_, h.hn, h.ha, ?_, ?_, by simp; omega⟩, tt⟩
  · refine (tt.block bb (lt bb (foot_mem.2 (.inl rfl))) ?_).trans h.book
    intro e
    rw [List.mem_singleton] at e
    unfold foot at hn
    rw [List.nodup_cons] at hn
    exact hn.1 (e ▸ List.mem_cons_self)
  · obtain ⟨D, ho, hr3⟩ := m3.keep (t4.block mb (by have := t3.size; have := b.size; omega) (by simp; omega))
    exact .of ho (hr3.same (E2 := []) (e' := ⟨s, rb, gb, [x]⟩) rfl rfl)
  · intro y hy
    rcases List.mem_append.1 hy with hy | hy
    · obtain ⟨k1, k2⟩ := h.each y hy
      have q : ∀ g, g = y.rb ∨ g = y.gb → g ∉ [mb] := fun g hg e => by
        rw [List.mem_singleton] at e
        subst e
        unfold foot at hn
        rw [List.nodup_cons, List.nodup_cons] at hn
        exact hn.2.1 (List.mem_flatMap.2 ⟨y, hy, by simpa using hg⟩)
      exact ⟨k1.tch tt (q _ (.inl rfl)) (q _ (.inr rfl)), k2⟩
    · rw [List.mem_singleton] at hy
      subst hy
      exact ⟨H, by simp, List.pairwise_singleton _ _, fun y hy => by rw [List.mem_singleton] at hy; subst hy; exact h0⟩
  · have e : foot bb mb (E ++ [⟨s, rb, gb, [x]⟩]) = foot bb mb E ++ [rb, gb] := by simp [foot]
    rw [e, List.nodup_append]
    refine ⟨hn, by simpa using hne, fun g hg k hk e => ?_⟩
    subst e
    have := lt g hg
    simp at hk
    omega

set_option maxHeartbeats 2000000 in
theorem bput_new (w : World) (bb mb n a : Nat) (E : List En) (h : Bk w bb mb n a E) (s : Sr) (hk : OkS s) (hs : ∀ e ∈ E, e.s ≠ s) (hl : E.length < 512) (xa xv : Int) (h0 : 0 ≤ xa ∧ xa ≤ 4611686018427387904) :
    Calls Try.prog 57 #[.pointer (some ⟨bb, 0, none⟩), .int .i64 xa, ser s, .int .i64 xv] w fun r w' => r = .returned (.int .i64 0) ∧ ∃ rb gb, w.heap.size ≤ rb ∧ w.heap.size ≤ gb ∧ Bk w' bb mb n a (E ++ [⟨s, rb, gb, [(xa, xv)]⟩]) ∧ Tch [mb] w w' := by
  have mixed : Try.prog.follows .mixedOrders = true := by kernel_rfl
  obtain ⟨w1, N, B⟩ := boxed w s
  have h1 := h.gr B.b
  have c2 := h1.c2
  have c0 := h1.c0
  have lk : ∀ k : Nat, (Instr.lookup MS (.map (some mb)) (.agg #[.string s.1, .string s.2]) true).run Try.prog (w1.drewN k) = .ok (.tuple #[.pointer none, .bool false]) (w1.drewN k) := fun k => (h1.drewN k).map.no hk hs true
  have ln : ∀ (ty : TypeId) (k : Nat), (Builtin.len_ #[MS] ty #[.map (some mb)]).run Try.prog (w1.drewN k) = .ok (.int .i64 (E.length : Int)) (w1.drewN k) := fun ty k => (h1.drewN k).map.len ty
  obtain ⟨m, hm⟩ : ∃ m, m = E.length := ⟨_, rfl⟩
  rw [← hm] at ln
  have hml : m < 512 := by omega
  have hml2 : decide ((512 : Int) ≤ (m : Int)) = false := decide_eq_false (by omega)
  have b0 := B.c0
  have b1 := B.c1
  have CN : Hid (∀ k : Nat, Calls Try.prog 78 #[.int .i64 (n : Int)] (w1.drewN k) fun r w' => ∃ rb, r = .returned (.tuple #[.pointer (some ⟨rb, 0, none⟩), .int .i64 0]) ∧ NewQ (w1.drewN k) w' rb n) := fun k => new_okQ (w1.drewN k) n h.hn
  have HW : Hid (w.alloc (.cells #[.string s.1, .string s.2] KS) = w1 ∧ w.heap.size = N) := ⟨B.eq, B.at_⟩
  have HH := Lib.hid (And.intro h (And.intro h1 (And.intro hk (And.intro hs (And.intro hl (And.intro B h0))))))
  clear h h1 hs B hl h0 hk hm
  unfold ser
  go_enter Try.func57, Try.ntmps57
  go_upto_region 1 with fail
  rw [HW.out.1, HW.out.2]
  go_quiet (fail)
  go_wp2_with fail
  refine (CN.out _).mono ?_
  rintro r w2 ⟨rb, rfl, gb, hrb, hgb, H2, bw2⟩
  obtain ⟨h, h1, hk, hs, hl, B, h0⟩ := HH.out
  have b2 : Below w.heap.size w w2 := (Below.drewN' B.b nq).trans (bw2.mono B.b.size)
  have k2 : Bk w2 bb mb n a E := h.gr b2
  have q2 : w2.cell? ⟨bb, 2, none⟩ = some (.map (some mb)) := k2.c2
  have s0 : w2.cell? ⟨N, 0, none⟩ = some (.string s.1) := (bw2.cell (p := ⟨N, 0, none⟩) (by have := B.size; show N < w1.heap.size; omega)).trans b0
  have s1 : w2.cell? ⟨N, 1, none⟩ = some (.string s.2) := (bw2.cell (p := ⟨N, 1, none⟩) (by have := B.size; show N < w1.heap.size; omega)).trans b1
  obtain ⟨w3, hr, m3, t3⟩ := (k2.drewN 1).map.put (by unfold maxLen; omega) (e := ⟨s, rb, gb, []⟩) hk hs
  have hne : rb ≠ gb := by obtain ⟨cp, f, c, g, _⟩ := H2; exact g.ne
  have hz1 : w.heap.size ≤ (w1.drewN nq).heap.size := B.b.size
  have hmb : mb < w.heap.size := h.map.lt
  have CP : Hid (Calls Try.prog 77 #[.pointer (some ⟨rb, 0, none⟩), .int .i64 xa, .int .i64 xv] w3 fun r w' => r = .returned (.int .i64 0) ∧ HasQ w' rb gb n [(xa, xv)] ∧ Tch [rb, gb] w3 w') := by
    have H3 : HasQ w3 rb gb n [] := (H2.drewN 1).tch t3 (by simp; omega) (by simp; omega)
    have := put_okQ w3 rb gb n [] H3 xa xv h0.1 (fun y hy => by cases hy)
    have e : (if ([] : List (Int × Int)).length = n then ([] : List (Int × Int)).drop 1 else []) = [] := by simp
    rw [e] at this
    exact this
  have FF : Hid (∀ w', HasQ w' rb gb n [(xa, xv)] → Tch [rb, gb] w3 w' → w.heap.size ≤ rb ∧ w.heap.size ≤ gb ∧ Bk w' bb mb n a (E ++ [⟨s, rb, gb, [(xa, xv)]⟩]) ∧ Tch [mb] w w') := fun w' H t =>
    ⟨by omega, by omega, h.more hl (Below.drewN' b2 1) (by omega) (by omega) hne (xa, xv) h0 m3 t3 H t⟩
  have HR := Lib.hid hr
  have KC : Hid (∀ ws : World, (∃ m, ws = w2.drewN m) → ws.cell? ⟨bb, 2, none⟩ = some (.map (some mb))) := fun ws ⟨m, e⟩ => by rw [e]; exact q2
  have K0 : Hid (∀ ws : World, (∃ m, ws = w2.drewN m) → ws.cell? ⟨N, 0, none⟩ = some (.string s.1) ∧ ws.cell? ⟨N, 1, none⟩ = some (.string s.2)) := fun ws ⟨m, e⟩ => by rw [e]; exact ⟨s0, s1⟩
  clear h h1 hk hs hl B h0 b2 k2 hr m3 t3 hne hz1 hmb H2 bw2 hrb hgb q2 s0 s1 HH CN lk ln b0 b1 c0 c2
  go_upto_region 9 with fail
  refine wp_region_G (f := 6) (S := fun ws => ∃ m, ws = w2.drewN m) mixed ⟨1, rfl⟩ (fun hS => ?_)
  refine wpAnyG_takeD (i := 0) (d := 45) (v := .pointer (some ⟨bb, 0, none⟩)) _ rfl rfl (by kernel_rfl) (by kernel_rfl) (by kernel_rfl) (by kernel_rfl) (fun _ _ _ h => h) (Or.inl ⟨by kernel_rfl, fun ws hSw => by first | (go_simp; done) | (go_simp; with_reducible rfl) | (go_simp; rfl)⟩) hS ?_
  simp only [Act.put, List.setIfInBounds_toArray, List.set_cons_zero, List.set_cons_succ]
  refine wpAnyG_takeD (i := 1) (d := 46) (v := .pointer (some ⟨bb, 0, none⟩)) _ rfl rfl (by kernel_rfl) (by kernel_rfl) (by kernel_rfl) (by kernel_rfl) (fun _ _ _ h => h) (Or.inl ⟨by kernel_rfl, fun ws hSw => by first | (go_simp; done) | (go_simp; with_reducible rfl) | (go_simp; rfl)⟩) hS ?_
  simp only [Act.put, List.setIfInBounds_toArray, List.set_cons_zero, List.set_cons_succ]
  refine wpAnyG_takeD (i := 2) (d := 47) (v := .pointer (some ⟨bb, 2, none⟩)) _ rfl rfl (by kernel_rfl) (by kernel_rfl) (by kernel_rfl) (by kernel_rfl) (fun _ _ _ h => h) (Or.inl ⟨by kernel_rfl, fun ws hSw => by first | (go_simp; done) | (go_simp; with_reducible rfl) | (go_simp; rfl)⟩) hS ?_
  simp only [Act.put, List.setIfInBounds_toArray, List.set_cons_zero, List.set_cons_succ]
  refine wpAnyG_takeD (i := 3) (d := 48) (v := .map (some mb)) _ rfl rfl (by kernel_rfl) (by kernel_rfl) (by kernel_rfl) (by kernel_rfl) (fun _ _ _ h => h) (Or.inl ⟨by kernel_rfl, fun ws hSw => by have q := KC.out ws hSw; first | (go_simp; done) | (go_simp; with_reducible rfl) | (go_simp; rfl)⟩) hS ?_
  simp only [Act.put, List.setIfInBounds_toArray, List.set_cons_zero, List.set_cons_succ]
  refine wpAnyG_takeD (i := 4) (d := 49) (v := .agg #[.string s.1, .string s.2]) _ rfl rfl (by kernel_rfl) (by kernel_rfl) (by kernel_rfl) (by kernel_rfl) (fun _ _ _ h => h) (Or.inl ⟨by kernel_rfl, fun ws hSw => by have q := K0.out ws hSw; first | (go_simp; done) | (go_simp; with_reducible rfl) | (go_simp; rfl)⟩) hS ?_
  simp only [Act.put, List.setIfInBounds_toArray, List.set_cons_zero, List.set_cons_succ]
  refine wpAnyG_takeD (i := 5) (d := 50) (v := .pointer (some ⟨rb, 0, none⟩)) _ rfl rfl (by kernel_rfl) (by kernel_rfl) (by kernel_rfl) (by kernel_rfl) (fun _ _ _ h => h) (Or.inl ⟨by kernel_rfl, fun ws hSw => by first | (go_simp; done) | (go_simp; with_reducible rfl) | (go_simp; rfl)⟩) hS ?_
  simp only [Act.put, List.setIfInBounds_toArray, List.set_cons_zero, List.set_cons_succ]
  refine wpAnyG_ready (rs := [6]) (by kernel_rfl) (by simp) ?_
  refine AllReadyG.last rfl rfl (fun K hK => ?_)
  refine step_mapUpdateS (by rfl) _ _ _ MS rfl rfl rfl rfl HR.out ?_
  refine hK _ _ ?_
  try simp only [Act.put, List.setIfInBounds_toArray, List.set_cons_zero, List.set_cons_succ]
  refine wpAnyG_done (by kernel_rfl) ?_
  go_wp2_with fail
  refine CP.out.mono ?_
  rintro r w' ⟨rfl, H, t⟩
  have FIN := Lib.hid (FF.out w' H t)
  clear H t FF
  go_wp2
  go_ret
  exact ⟨rfl, rb, gb, FIN.out⟩
end Go.Proofs.Ytajkhbdniadkkaa
