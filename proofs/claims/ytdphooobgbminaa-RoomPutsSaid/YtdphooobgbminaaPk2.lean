/- Layer 17 (room): what pods ask for on each node: a map of loads, by names (loads). -/
import Derived.Test.YtdphooobgbminaaPk1
import Derived.Test.YtdphooobgbminaaObSub
import Derived.Maps.OwnOps
import Derived.Maps.OwnSet
import Derived.Maps.Views
import Derived.StringKeys
import Derived.Deep.LoopGhost
import Derived.Test.YtdphooobgbminaaSoMF
import Derived.Test.YtdphooobgbminaaObOwn
namespace Go.Proofs.Ytdphooobgbminaa.Rm
open Go.RowKit Go.Shelf Go.Lib Go.Sort Go.Deep Go.Maps
open Go.WideMaps (keyOf_string_mk)
open Go.Joins (cell_of_block unfrozen_of_block block_setCell)
open Go.Proofs.Ytdphooobgbminaa.Ow
set_option linter.unusedVariables false
set_option linter.unusedSimpArgs false
set_option maxRecDepth 20000

abbrev TxT : TypeId := 9
abbrev MpT : TypeId := 62
theorem lawN : Keyed Try.prog TxT := string_keyed Try.underlying9
theorem mapN : Try.prog.underlying MpT = some (.map TxT LT) := Try.underlying62
theorem zeroL (w : World) : (zeroValue LT).run Try.prog w = .ok (LdV 0 0 0) w := by kernel_rfl
def hL (v : Value) : Option (DataW Value × List MemPlace) := some (.held v, [])
def kN (s : ByteArray) : Lit := .string s.data.toList
theorem isKeyN (s : ByteArray) : WideAt.IsKeyLit (kN s) := by simp [WideAt.IsKeyLit, kN]
theorem kN_inj {s t : ByteArray} (h : kN s = kN t) : s = t := by
  unfold kN at h
  injection h with h
  have := congrArg (fun l => (⟨l.toArray⟩ : ByteArray)) h
  simp at this
  exact ByteArray.ext this
/-- The block is a map of these loads. -/
def LdIs (w : World) (mb n : Nat) (f : ByteArray → Int × Int × Int) : Prop :=
  ∃ D : DataW Value, w.ownsMap Try.prog TxT hL mb n D ∧ IsMap D ∧ ∀ s, D.atKey (kN s) (.held (LdV 0 0 0)) = .held (LdV (f s).1 (f s).2.1 (f s).2.2)
theorem LdIs.kept {w w' : World} {mb n : Nat} {f : ByteArray → Int × Int × Int} (h : LdIs w mb n f) (hb : w'.heap[mb]? = w.heap[mb]?) : LdIs w' mb n f := by
  obtain ⟨D, ⟨es, c, h1, h2⟩, hD, hf⟩ := h
  exact ⟨D, ⟨es, c, hb.trans h1, h2⟩, hD, hf⟩
theorem LdIs.lt {w : World} {mb n : Nat} {f : ByteArray → Int × Int × Int} (h : LdIs w mb n f) : mb < w.heap.size := by
  obtain ⟨D, h1, _⟩ := h
  exact h1.lt
theorem LdIs.below {w w' : World} {mb n : Nat} {f : ByteArray → Int × Int × Int} (h : LdIs w mb n f) (hb : Below w.heap.size w w') : LdIs w' mb n f := h.kept (hb.block mb h.lt)
theorem LdIs.mono {w : World} {mb n n' : Nat} {f : ByteArray → Int × Int × Int} (h : LdIs w mb n f) (hn : n ≤ n') : LdIs w mb n' f := by
  obtain ⟨D, h1, h2, h3⟩ := h
  exact ⟨D, h1.mono hn, h2, h3⟩
theorem LdIs.made (w : World) : LdIs (w.alloc (.map #[] 0)) w.heap.size 0 (fun _ => (0, 0, 0)) := ⟨.map [], World.ownsMap_made _ _ _ _, isMap_empty, fun s => rfl⟩
theorem LdIs.look {w : World} {mb n : Nat} {f : ByteArray → Int × Int × Int} (h : LdIs w mb n f) {s : ByteArray} (hs : s.size ≤ maxLen) (ws : World) (e : ws.heap[mb]? = w.heap[mb]?) :
    (Instr.lookup MpT (.map (some mb)) (.string s) false).run Try.prog ws = .ok (LdV (f s).1 (f s).2.1 (f s).2.2) ws := by
  obtain ⟨D, ⟨es, c, h1, h2⟩, hD, hf⟩ := h
  have own : ws.ownsMap Try.prog TxT hL mb n D := ⟨es, c, e.trans h1, h2⟩
  obtain ⟨v, ps, hr, hv⟩ := own.lookup lawN mapN (zeroL ws) (zd := .held (LdV 0 0 0)) (zp := []) rfl (keyOf_string_mk Try.underlying9 hs)
  have := hf s
  unfold kN at this
  rw [this] at hv
  simp only [hL, Option.some.injEq, Prod.mk.injEq, DataW.held.injEq] at hv
  rw [hr, hv.1]
theorem LdIs.put {w : World} {mb n : Nat} {f : ByteArray → Int × Int × Int} (h : LdIs w mb n f) (hn : n < maxLen) {s : ByteArray} (hs : s.size ≤ maxLen) (c m k : Int) :
    ∃ w', (Instr.mapUpdate MpT (.map (some mb)) (.string s) (LdV c m k)).run Try.prog w = .ok () w' ∧ LdIs w' mb (n + 1) (fun t => if t = s then (c, m, k) else f t) ∧ w.grownBy w' (some mb) := by
  obtain ⟨D, h1, hD, hf⟩ := h
  obtain ⟨w', e1, e2, e3⟩ := h1.update lawN mapN hn (val := LdV c m k) (d := .held (LdV c m k)) (ps := []) (keyOf_string_mk Try.underlying9 hs) rfl
  refine ⟨w', e1, ⟨_, e2, hD.put _ _, fun t => ?_⟩, e3⟩
  show DataW.atKey (D.put (kN s) (.held (LdV c m k))) (kN t) (.held (LdV 0 0 0)) = _
  by_cases e : t = s
  · subst e
    simp only [if_true]
    exact atKey_put_same hD (isKeyN t) _ _
  · simp only [e, if_false]
    rw [← hf t]
    exact atKey_put_other (fun e2 => e (kN_inj e2)) _ _

/-- Is an object a pod that is Bound or Ready on this node? -/
def onIt (s : ByteArray) (o : Ob) : Bool := decide (o.kind = 1) && ((decide (o.p.ph = 1) || decide (o.p.ph = 2)) && decide (o.p.node = s))
def cpuOf (s : ByteArray) (l : List Ob) : Int := ((l.filter (onIt s)).map (·.p.cpu)).sum
def memOf (s : ByteArray) (l : List Ob) : Int := ((l.filter (onIt s)).map (·.p.mem)).sum
def podsOf (s : ByteArray) (l : List Ob) : Int := ((l.filter (onIt s)).length : Int)
def ldOf (l : List Ob) (s : ByteArray) : Int × Int × Int := (cpuOf s l, memOf s l, podsOf s l)
theorem ldOf_add (l : List Ob) (o : Ob) (s : ByteArray) : ldOf (l ++ [o]) s = if onIt s o = true then (cpuOf s l + o.p.cpu, memOf s l + o.p.mem, podsOf s l + 1) else ldOf l s := by
  unfold ldOf cpuOf memOf podsOf
  rw [List.filter_append]
  by_cases h : onIt s o = true
  · rw [if_pos h]
    simp [h]
  · rw [if_neg h]
    simp [h]
/-- No sum of so many comes near the bounds. -/
theorem sum_fair (l : List Ob) (g : Ob → Int) (h : ∀ o ∈ l, I64 (g o)) (n : Nat) (hn : l.length ≤ n) : -(9223372036854775808 * (n : Int)) ≤ (l.map g).sum ∧ (l.map g).sum ≤ 9223372036854775808 * (n : Int) := by
  induction l generalizing n with
  | nil => simp; omega
  | cons o l ih =>
    have h1 := h o (by simp)
    unfold I64 at h1
    cases n with
    | zero => simp at hn
    | succ n =>
      have h2 := ih (fun x hx => h x (by simp [hx])) n (by simpa using hn)
      rw [List.map_cons, List.sum_cons]
      omega
/-- What a pod's asks may be for this. -/
def okLd (o : Ob) : Prop := o.kind = 1 → I64 o.p.cpu ∧ I64 o.p.mem
theorem on_kind {s : ByteArray} {o : Ob} (h : onIt s o = true) : o.kind = 1 := by
  unfold onIt at h
  rw [Bool.and_eq_true] at h
  exact of_decide_eq_true h.1
theorem cpu_fair (s : ByteArray) (l : List Ob) (h : ∀ o ∈ l, okLd o) (hl : l.length ≤ 1000000) : Fair (cpuOf s l) := by
  have := sum_fair (l.filter (onIt s)) (·.p.cpu) (fun o ho => (h o (List.mem_filter.1 ho).1 (on_kind (List.mem_filter.1 ho).2)).1) 1000000 (Nat.le_trans (List.length_filter_le _ _) hl)
  unfold Fair cpuOf
  omega
theorem mem_fair (s : ByteArray) (l : List Ob) (h : ∀ o ∈ l, okLd o) (hl : l.length ≤ 1000000) : Fair (memOf s l) := by
  have := sum_fair (l.filter (onIt s)) (·.p.mem) (fun o ho => (h o (List.mem_filter.1 ho).1 (on_kind (List.mem_filter.1 ho).2)).2) 1000000 (Nat.le_trans (List.length_filter_le _ _) hl)
  unfold Fair memOf
  omega
theorem pods_le (s : ByteArray) (l : List Ob) : 0 ≤ podsOf s l ∧ podsOf s l ≤ (l.length : Int) := by
  unfold podsOf
  have := List.length_filter_le (onIt s) l
  omega
theorem range_at {W w : World} {b off : Nat} {x : Obv} (h : W.rangeAt b off (encOb x)) (hb : Below W.heap.size W w) (hbl : b < W.heap.size) : w.rangeAt b off (encOb x) := fun j v hv => (hb.cell (p := ⟨b, off + j, none⟩) hbl).trans (h j v hv)

set_option maxHeartbeats 8000000 in
theorem ld_loads (W w : World) (low : Below W.heap.size W w) (q : Option Addr) (c : Nat) (l : List Obv) (hr : RowR 47 encOb W q l) (hok : ∀ x ∈ l, ObjV W x.1.1 x.2 ∧ okLd x.2 ∧ x.2.p.node.size ≤ maxLen) (hlen : l.length ≤ 1000000) :
    Calls Try.prog 14 #[.slice q l.length c] w fun e w' => (∃ mb, e = .returned (.map (some mb)) ∧ w.heap.size ≤ mb ∧ Hid (LdIs w' mb l.length (ldOf (l.map (·.2))))) ∧ Below w.heap.size w w' := by
  obtain ⟨n, hn⟩ : ∃ n, n = l.length := ⟨_, rfl⟩
  rw [← hn] at hlen ⊢
  obtain ⟨B, hB⟩ : ∃ B, B = w.heap.size := ⟨_, rfl⟩
  obtain ⟨w1, hw1⟩ : ∃ W, W = w.alloc (.map #[] 0) := ⟨_, rfl⟩
  have bw1 : Below w.heap.size w w1 := by rw [hw1]; exact ((Gr.refl w).alloc _).below
  have C0 : Hid (LdIs w1 B 0 (fun _ => (0, 0, 0))) := by rw [hw1, hB]; exact LdIs.made w
  have HW1 : Hid (w.alloc (.map #[] 0) = w1 ∧ w.heap.size = B) := ⟨hw1.symm, hB.symm⟩
  have BW1 := Lib.hid bw1
  have HH := Lib.hid (And.intro low (And.intro hr (And.intro hok hn)))
  have hmm := @run_makeMap Try.prog
  have mixed : Try.prog.follows .mixedOrders = true := by kernel_rfl
  clear low hr hok hn hB hw1 bw1
  go_enter Try.func14, Try.ntmps14
  go_wp2_with fail
  rw [HW1.out.1, HW1.out.2]
  go_loopg [10] n (fun g1 vi wr => ∃ j : Nat, vi = .int .i64 (j : Int) ∧ j ≤ n ∧ n - j ≤ g1 ∧ Hid (LdIs wr B j (ldOf ((l.take j).map (·.2)))) ∧ Hid (Below w.heap.size w wr))
  case atStart => exact ⟨0, rfl, Nat.zero_le _, by omega, C0.out, BW1.out⟩
  case round =>
    obtain ⟨j, rfl, h1, h2, HC, HB⟩ := hrel
    by_cases hlt : j < n
    · obtain ⟨low, hr, hok, hn⟩ := HH.out
      obtain ⟨x, hx⟩ : ∃ x, l[j]? = some x := ⟨l[j]'(by omega), List.getElem?_eq_getElem (by omega)⟩
      obtain ⟨b, off, rfl, _, _⟩ := hr j x hx
      obtain ⟨hbl, hra⟩ := rangeAt_obs hr hx
      have lowr : Below W.heap.size W wr := low.trans (HB.out.mono low.size)
      have LD := Lib.hid (Ow.load_at (x := x) (range_at hra lowr hbl))
      obtain ⟨okv, okn, oks⟩ := hok x (List.mem_of_getElem? hx)
      obtain ⟨X, hX⟩ : ∃ X, X = x.1.1 := ⟨_, rfl⟩
      obtain ⟨o, ho⟩ : ∃ o, o = x.2 := ⟨_, rfl⟩
      rw [← hX] at LD okv
      rw [← ho] at okv okn oks
      have ON := Lib.hid (objV_one okv)
      obtain ⟨th, inn, el⟩ := el_new wr X okv.1
      have TH := Lib.hid th
      have IN := Lib.hid inn
      obtain ⟨w3, hw3⟩ : ∃ W', W' = (wr.alloc (.cells zerC OTy)).setCells wr.heap.size 0 X.toList := ⟨_, rfl⟩
      obtain ⟨O, hO⟩ : ∃ A, A = wr.heap.size := ⟨_, rfl⟩
      have HW3 : Hid ((wr.alloc (.cells zerC OTy)).setCells wr.heap.size 0 X.toList = w3 ∧ wr.heap.size = O) := ⟨hw3.symm, hO.symm⟩
      rw [← hw3, ← hO] at el
      have pd := ext_pd okv
      obtain ⟨P, hP⟩ : ∃ P, P = X.extract 10 20 := ⟨_, rfl⟩
      have LP := Lib.hid (load_in el.blk okv.1)
      rw [← hP] at LP pd
      obtain ⟨tp, xp, bp⟩ := cell_new w3 PTy zerPd P (by rw [pd.1]; rfl)
      obtain ⟨w4, hw4⟩ : ∃ W', W' = (w3.alloc (.cells zerPd PTy)).setCells w3.heap.size 0 P.toList := ⟨_, rfl⟩
      obtain ⟨T, hT⟩ : ∃ A, A = w3.heap.size := ⟨_, rfl⟩
      have HW4 : Hid ((w3.alloc (.cells zerPd PTy)).setCells w3.heap.size 0 P.toList = w4 ∧ w3.heap.size = T) := ⟨hw4.symm, hT.symm⟩
      rw [← hw4] at xp bp
      rw [← hT] at xp
      have TP := Lib.hid tp
      have IP : Hid ((Try.prog.info? PTy).map (·.size) = some P.size) := by show _ = _; rw [pd.1]; exact info_pt
      have OP := Lib.hid pd.one
      have eb4 : w4.heap[O]? = some (.cells X OTy (0, 0)) := (bp.block O (Array.getElem?_eq_some_iff.1 el.blk).1).trans el.blk
      have lo4 : Below wr.heap.size wr w4 := el.low.trans (bp.mono el.low.size)
      obtain ⟨kd, hkd⟩ : ∃ a, a = o.kind := ⟨_, rfl⟩
      obtain ⟨ph, hph⟩ : ∃ a, a = o.p.ph := ⟨_, rfl⟩
      have d0 : w4.cell? ⟨O, 0, none⟩ = some (.int .i64 kd) := by rw [hkd]; exact (cell_of_block eb4 0).trans okv.2.1.1
      have p2 : w4.cell? ⟨T, 2, none⟩ = some (.int .i64 ph) := by rw [hph]; exact (cell_of_block xp 2).trans pd.2.2.2.1
      have HX := Lib.hid (And.intro hx (And.intro ho (And.intro okn (And.intro oks (And.intro pd (And.intro xp (And.intro lo4 (And.intro hkd hph))))))))
      clear low hr hok hn hx hbl hra lowr okv okn oks hX ho th inn el hw3 hO pd hP tp xp bp hw4 hT eb4 lo4 hkd hph
      go_upto_region 6 with (first | (refine wpList_load_by (by kernel_rfl) OTy _ rfl (.pointer (some ⟨b, off + j * 47, none⟩)) (.agg X) (by rfl) LD.out ?_) | (refine wpList_store_mid rfl _ _ _ rfl wr.heap.size 0 X (by rfl) (by rfl) TH.out IN.out ON.out ?_; rw [HW3.out.1, HW3.out.2]) | (refine wpList_load_by (by kernel_rfl) PTy _ rfl (.pointer (some ⟨O, 10, none⟩)) (.agg P) (by rfl) LP.out ?_) | (refine wpList_store_mid rfl _ _ _ rfl w3.heap.size 0 P (by rfl) (by rfl) TP.out IP.out OP.out ?_; rw [HW4.out.1, HW4.out.2]))
      clear TH IN ON HW3 LD TP IP OP HW4 LP
      have SK : onIt o.p.node o = false → LdIs w4 B (j + 1) (ldOf ((l.take (j + 1)).map (·.2))) := fun hno => by
        obtain ⟨hx, ho, okn, oks, pd, xp, lo4, hkd, hph⟩ := HX.out
        have e : ldOf ((l.take (j + 1)).map (·.2)) = ldOf ((l.take j).map (·.2)) := by
          funext s
          rw [List.take_add_one, hx, List.map_append]
          show ldOf (_ ++ [x.2]) s = _
          rw [ldOf_add, ← ho, if_neg]
          intro hs
          have : onIt o.p.node o = true := by
            unfold onIt at hs ⊢
            rw [Bool.and_eq_true, Bool.and_eq_true] at hs ⊢
            exact ⟨hs.1, hs.2.1, by simp⟩
          rw [hno] at this
          cases this
        rw [e]
        exact (HC.out.below lo4).mono (Nat.le_succ _)
      have B4 : Hid (Below w.heap.size w w4) := HB.out.trans (HX.out.2.2.2.2.2.2.1.mono HB.out.size)
      by_cases hk1 : kd = 1
      · by_cases hp12 : ph = 1 ∨ ph = 2
        · obtain ⟨hx, ho, okn, oks, pd, xp, lo4, hkd, hph⟩ := HX.out
          obtain ⟨nd, hnd⟩ : ∃ a, a = o.p.node := ⟨_, rfl⟩
          obtain ⟨cpu, hcpu⟩ : ∃ a, a = o.p.cpu := ⟨_, rfl⟩
          obtain ⟨mem, hmem⟩ : ∃ a, a = o.p.mem := ⟨_, rfl⟩
          have hL4 : LdIs w4 B j (ldOf ((l.take j).map (·.2))) := HC.out.below lo4
          have LK := hL4.look (s := nd) (by rw [hnd]; exact oks)
          obtain ⟨c0, hc0⟩ : ∃ a, a = cpuOf nd ((l.take j).map (·.2)) := ⟨_, rfl⟩
          obtain ⟨m0, hm0⟩ : ∃ a, a = memOf nd ((l.take j).map (·.2)) := ⟨_, rfl⟩
          obtain ⟨k0, hk0⟩ : ∃ a, a = podsOf nd ((l.take j).map (·.2)) := ⟨_, rfl⟩
          have eL : ldOf ((l.take j).map (·.2)) nd = (c0, m0, k0) := by unfold ldOf; rw [hc0, hm0, hk0]
          rw [eL] at LK
          have allk : ∀ y ∈ (l.take j).map (·.2), okLd y := fun y hy => by
            obtain ⟨z, hz, rfl⟩ := List.mem_map.1 hy
            exact (HH.out.2.2.1 z (List.mem_of_mem_take hz)).2.1
          have hlj : ((l.take j).map (·.2)).length ≤ 1000000 := by rw [List.length_map, List.length_take]; omega
          have oki := okn (by rw [← hkd]; exact hk1)
          have CW := Lib.hid (fun W => ld_with c0 m0 k0 cpu mem W (by rw [hc0]; exact cpu_fair _ _ allk hlj) (by rw [hm0]; exact mem_fair _ _ allk hlj) (by rw [hcpu]; exact oki.1) (by rw [hmem]; exact oki.2) (by have := pods_le nd ((l.take j).map (·.2)); rw [← hk0] at this; omega))
          have PUT : Hid (∀ w5, Gr w4 w5 → ∃ w6, (Instr.mapUpdate MpT (.map (some B)) (.string nd) (LdV (c0 + cpu) (m0 + mem) (k0 + 1))).run Try.prog w5 = .ok () w6 ∧ LdIs w6 B (j + 1) (ldOf ((l.take (j + 1)).map (·.2))) ∧ Below w.heap.size w w6) := fun w5 g5 => by
            obtain ⟨w6, e1, e2, e3⟩ := (hL4.below g5.below).put (by unfold maxLen; omega) (s := nd) (by rw [hnd]; exact oks) (c0 + cpu) (m0 + mem) (k0 + 1)
            refine ⟨w6, e1, ?_, ?_⟩
            · have e : ldOf ((l.take (j + 1)).map (·.2)) = fun t => if t = nd then (c0 + cpu, m0 + mem, k0 + 1) else ldOf ((l.take j).map (·.2)) t := by
                funext t
                rw [List.take_add_one, hx, List.map_append]
                show ldOf (_ ++ [x.2]) t = _
                rw [ldOf_add, ← ho]
                have eon : onIt t o = decide (t = nd) := by
                  unfold onIt
                  rw [← hkd, ← hph, ← hnd, decide_eq_true hk1]
                  have : (decide (ph = 1) || decide (ph = 2)) = true := by simpa using hp12
                  rw [this, Bool.true_and, Bool.true_and, Bool.eq_iff_iff, decide_eq_true_iff, decide_eq_true_iff]
                  exact eq_comm
                rw [eon, ← hcpu, ← hmem]
                by_cases e2 : t = nd
                · subst e2
                  simp [hc0, hm0, hk0]
                · simp [e2]
              rw [e]
              exact e2
            · have z4 := B4.out.size
              have z5 := g5.size
              have hBw := HW1.out.2
              refine (B4.out.trans (g5.below.mono z4)).trans ⟨e3.os, e3.tape, e3.output, e3.size, fun k hk => e3.block k (by omega) (fun e => ?_)⟩
              have := Option.some.inj e
              omega
          obtain ⟨MB, hMB⟩ : ∃ z, z = w4.heap[B]? := ⟨_, rfl⟩
          have xB : B < w4.heap.size := hL4.lt
          have S0 : Hid (∀ ws : World, (ws.heap[T]? = some (.cells P PTy (0, 0)) ∧ ws.heap[B]? = MB) → ws.cell? ⟨T, 1, none⟩ = some (.string nd) ∧ ws.cell? ⟨T, 4, none⟩ = some (.int .i64 cpu) ∧ ws.cell? ⟨T, 5, none⟩ = some (.int .i64 mem) ∧ (Instr.lookup MpT (.map (some B)) (.string nd) false).run Try.prog ws = .ok (LdV c0 m0 k0) ws) := fun ws h =>
            ⟨by rw [hnd]; exact (cell_of_block h.1 1).trans pd.2.2.1, by rw [hcpu]; exact (cell_of_block h.1 4).trans pd.2.2.2.2.2.1, by rw [hmem]; exact (cell_of_block h.1 5).trans pd.2.2.2.2.2.2.1, LK ws (h.2.trans hMB)⟩
          have S1 : Hid (∀ w5, Gr w4 w5 → w5.heap[T]? = some (.cells P PTy (0, 0)) ∧ w5.heap[B]? = MB) := fun w5 g => ⟨(g.heap (Array.getElem?_eq_some_iff.1 xp).1).trans xp, (g.heap xB).trans hMB.symm⟩
          obtain ⟨LV, hLV⟩ : ∃ v, v = LdV c0 m0 k0 := ⟨_, rfl⟩
          obtain ⟨LV', hLV'⟩ : ∃ v, v = LdV (c0 + cpu) (m0 + mem) (k0 + 1) := ⟨_, rfl⟩
          rw [← hLV] at S0 CW
          rw [← hLV'] at CW PUT
          have hp12' : Hid (ph = 1 ∨ ph = 2) := hp12
          clear hx ho okn oks pd xp lo4 hkd hph hnd hcpu hmem hL4 LK hc0 hm0 hk0 eL allk hlj oki hMB xB hLV hLV' HX SK HC HB hp12
          subst hk1
          have AFTER : Hid (∀ w6, LdIs w6 B (j + 1) (ldOf ((l.take (j + 1)).map (·.2))) → Below w.heap.size w w6 → True) := fun _ _ _ => trivial
          rcases hp12'.out with rfl | rfl
          all_goals
            go_upto_region 7 with fail
            refine wp_region_G (f := 10) (S := fun ws => ws.heap[T]? = some (.cells P PTy (0, 0)) ∧ ws.heap[B]? = MB) mixed (S1.out _ ((Gr.refl w4).drewN 1)) (fun hS => ?_)
            refine wpAnyG_takeD (i := 0) (d := 29) (v := .map (some B)) _ rfl rfl (by kernel_rfl) (by kernel_rfl) (by kernel_rfl) (by kernel_rfl) (fun _ _ _ h => h) (Or.inl ⟨by kernel_rfl, fun ws hSw => by first | (go_simp; done) | (go_simp; with_reducible rfl) | (go_simp; rfl)⟩) hS ?_
            simp only [Act.put, List.setIfInBounds_toArray, List.set_cons_zero, List.set_cons_succ]
            refine wpAnyG_takeD (i := 1) (d := 30) (v := .pointer (some ⟨T, 1, none⟩)) _ rfl rfl (by kernel_rfl) (by kernel_rfl) (by kernel_rfl) (by kernel_rfl) (fun _ _ _ h => h) (Or.inl ⟨by kernel_rfl, fun ws hSw => by first | (go_simp; done) | (go_simp; with_reducible rfl) | (go_simp; rfl)⟩) hS ?_
            simp only [Act.put, List.setIfInBounds_toArray, List.set_cons_zero, List.set_cons_succ]
            refine wpAnyG_takeD (i := 2) (d := 31) (v := .string nd) _ rfl rfl (by kernel_rfl) (by kernel_rfl) (by kernel_rfl) (by kernel_rfl) (fun _ _ _ h => h) (Or.inl ⟨by kernel_rfl, fun ws hSw => by have q := S0.out ws hSw; first | (go_simp; done) | (go_simp; with_reducible rfl) | (go_simp; rfl)⟩) hS ?_
            simp only [Act.put, List.setIfInBounds_toArray, List.set_cons_zero, List.set_cons_succ]
            refine wpAnyG_takeD (i := 3) (d := 32) (v := .map (some B)) _ rfl rfl (by kernel_rfl) (by kernel_rfl) (by kernel_rfl) (by kernel_rfl) (fun _ _ _ h => h) (Or.inl ⟨by kernel_rfl, fun ws hSw => by first | (go_simp; done) | (go_simp; with_reducible rfl) | (go_simp; rfl)⟩) hS ?_
            simp only [Act.put, List.setIfInBounds_toArray, List.set_cons_zero, List.set_cons_succ]
            refine wpAnyG_takeD (i := 4) (d := 33) (v := .pointer (some ⟨T, 1, none⟩)) _ rfl rfl (by kernel_rfl) (by kernel_rfl) (by kernel_rfl) (by kernel_rfl) (fun _ _ _ h => h) (Or.inl ⟨by kernel_rfl, fun ws hSw => by first | (go_simp; done) | (go_simp; with_reducible rfl) | (go_simp; rfl)⟩) hS ?_
            simp only [Act.put, List.setIfInBounds_toArray, List.set_cons_zero, List.set_cons_succ]
            refine wpAnyG_takeD (i := 5) (d := 34) (v := .string nd) _ rfl rfl (by kernel_rfl) (by kernel_rfl) (by kernel_rfl) (by kernel_rfl) (fun _ _ _ h => h) (Or.inl ⟨by kernel_rfl, fun ws hSw => by have q := S0.out ws hSw; first | (go_simp; done) | (go_simp; with_reducible rfl) | (go_simp; rfl)⟩) hS ?_
            simp only [Act.put, List.setIfInBounds_toArray, List.set_cons_zero, List.set_cons_succ]
            refine wpAnyG_takeD (i := 6) (d := 35) (v := LV) _ rfl rfl (by kernel_rfl) (by kernel_rfl) (by kernel_rfl) (by kernel_rfl) (fun _ _ _ h => h) (Or.inl ⟨by kernel_rfl, fun ws hSw => by have q := S0.out ws hSw; first | (go_simp; done) | (go_simp; with_reducible rfl) | (go_simp; rfl)⟩) hS ?_
            simp only [Act.put, List.setIfInBounds_toArray, List.set_cons_zero, List.set_cons_succ]
            refine wpAnyG_takeD (i := 7) (d := 36) (v := .pointer (some ⟨T, 4, none⟩)) _ rfl rfl (by kernel_rfl) (by kernel_rfl) (by kernel_rfl) (by kernel_rfl) (fun _ _ _ h => h) (Or.inl ⟨by kernel_rfl, fun ws hSw => by first | (go_simp; done) | (go_simp; with_reducible rfl) | (go_simp; rfl)⟩) hS ?_
            simp only [Act.put, List.setIfInBounds_toArray, List.set_cons_zero, List.set_cons_succ]
            refine wpAnyG_takeD (i := 8) (d := 37) (v := .agg #[.int .i64 cpu, .int .i64 mem]) _ rfl rfl (by kernel_rfl) (by kernel_rfl) (by kernel_rfl) (by kernel_rfl) (fun _ _ _ h => h) (Or.inl ⟨by kernel_rfl, fun ws hSw => by have q := S0.out ws hSw; first | (go_simp; done) | (go_simp; with_reducible rfl) | (go_simp; rfl)⟩) hS ?_
            simp only [Act.put, List.setIfInBounds_toArray, List.set_cons_zero, List.set_cons_succ]
            refine wpAnyG_ready (rs := [9]) (by kernel_rfl) (by simp) ?_
            refine AllReadyG.cons rfl (fun K hK => ?_) AllReadyG.nil
            go_simp
            refine (CW.out _).mono ?_
            rintro e w5 ⟨rfl, g5⟩
            have g5' : Gr w4 w5 := ((Gr.refl w4).drewN 1).trans g5
            obtain ⟨w6, hr6, hl6, hb6⟩ := PUT.out w5 g5'
            refine hK _ _ (S1.out _ g5') (fun hS => ?_)
            try simp only [Act.put, List.setIfInBounds_toArray, List.set_cons_zero, List.set_cons_succ]
            refine wpAnyG_ready (rs := [10]) (by kernel_rfl) (by simp) ?_
            refine AllReadyG.last rfl rfl (fun K hK => ?_)
            refine step_mapUpdateS (by rfl) _ _ _ MpT rfl rfl rfl rfl hr6 ?_
            refine hK _ _ ?_
            try simp only [Act.put, List.setIfInBounds_toArray, List.set_cons_zero, List.set_cons_succ]
            refine wpAnyG_done (by kernel_rfl) ?_
            have HL6 := Lib.hid hl6
            have HB6 := Lib.hid hb6
            clear hr6 hl6 hb6 g5 g5' PUT CW S0 S1
            go_wp2
            go_roundg (n - (j + 1))
            case measure => omega
            case rel => exact ⟨j + 1, by push_cast; rfl, by omega, by omega, HL6.out, HB6.out⟩
        · have t1 : (ph == 1) = false := by rw [beq_eq_false_iff_ne]; intro e; exact hp12 (.inl e)
          have t2 : (ph == 2) = false := by rw [beq_eq_false_iff_ne]; intro e; exact hp12 (.inr e)
          have FIN := Lib.hid (SK (by unfold onIt; rw [← HX.out.2.2.2.2.2.2.2.2]; have : (decide (ph = 1) || decide (ph = 2)) = false := by simpa using hp12
                                      rw [this]; simp))
          clear SK HX HC HB hp12
          subst hk1
          go_wp2
          go_roundg (n - (j + 1))
          case measure => omega
          case rel => exact ⟨j + 1, by push_cast; rfl, by omega, by omega, FIN.out, B4.out⟩
      · have t1 : (kd == 1) = false := by rw [beq_eq_false_iff_ne]; exact hk1
        have FIN := Lib.hid (SK (by unfold onIt; rw [← HX.out.2.2.2.2.2.2.2.1, decide_eq_false hk1]; rfl))
        clear SK HX HC HB hk1
        go_wp2
        go_roundg (n - (j + 1))
        case measure => omega
        case rel => exact ⟨j + 1, by push_cast; rfl, by omega, by omega, FIN.out, B4.out⟩
    · obtain rfl : j = n := by omega
      have FIN : Hid ((∃ mb, Ending.returned (.map (some B)) = .returned (.map (some mb)) ∧ w.heap.size ≤ mb ∧ Hid (LdIs wr mb j (ldOf (l.map (·.2))))) ∧ Below w.heap.size w wr) := by
        refine ⟨⟨B, rfl, by rw [HW1.out.2]; exact Nat.le_refl _, ?_⟩, HB.out⟩
        have := HC.out
        rw [List.take_of_length_le (by have := HH.out.2.2.2; omega)] at this
        exact this
      clear HC HB HH
      go_wp2
      go_ret
      exact FIN.out
end Go.Proofs.Ytdphooobgbminaa.Rm
/- A row of the call's own, sorted by the library's stable sort (by sort/gensort.py). -/
namespace Go.Proofs.Ytdphooobgbminaa.Rm
open Go.Shelf Go.RowKit Go.Lib Go.Sort Go.Deep
open Go.Joins (cell_of_block unfrozen_of_block block_setCell)
set_option linter.unusedVariables false
set_option linter.unusedSimpArgs false
set_option maxRecDepth 20000
theorem flat_K (l : List El) : flatK enc 11 l.toArray = (flat enc l).toArray := by
  refine ext_get! (by simp [flat_length enc_len]) fun t ht => ?_
  have ht' : t < l.length * 11 := by simpa using ht
  rw [get_flatK _ _ _ t (by simpa using ht')]
  have hlt : t / 11 < l.length := Nat.div_lt_of_lt_mul (by rw [Nat.mul_comm]; exact ht')
  have hm : t % 11 < 11 := Nat.mod_lt _ (by decide)
  obtain ⟨x, hx⟩ : ∃ x, l[t / 11]? = some x := ⟨l[t / 11], List.getElem?_eq_getElem hlt⟩
  have e2 : l.toArray[t / 11]! = x := by
    have hj := List.getElem?_eq_some_iff.1 hx
    rw [getElem!_pos _ _ (by simpa using hj.1)]
    simpa using hj.2
  have e3 := flat_at enc_len l (t / 11) (t % 11) x hx hm
  rw [show t / 11 * 11 + t % 11 = t by rw [Nat.mul_comm]; exact Nat.div_add_mod t 11] at e3
  have hlf : t < (flat enc l).length := by rw [flat_length enc_len]; exact ht'
  have hxl : t % 11 < (enc x).length := by rw [enc_len]; exact hm
  rw [e2, getElem!_pos (flat enc l).toArray t (by simpa using hlf), getElem!_pos (enc x) (t % 11) hxl]
  rw [List.getElem?_eq_getElem hlf, List.getElem?_eq_getElem hxl] at e3
  simpa using (Option.some.inj e3).symm
theorem holds_own {w : World} {N g c n : Nat} {l : List El} (h : w.ownsRow N 49 11 (.slice (some ⟨g, 0, none⟩) n c) n (flat enc l)) (hn : n = l.length) : HoldsK enc 11 w g 0 l.toArray ∧ g < w.heap.size ∧ N ≤ g := by
  subst hn
  obtain ⟨h0, h⟩ := h
  rcases h with ⟨e, _⟩ | ⟨g', c', cur, e, hb, hg, hc, hm, hsz, htk⟩
  · cases e
  · simp only [Value.slice.injEq, Option.some.injEq, Addr.mk.injEq, and_true, true_and] at e
    obtain ⟨rfl, rfl⟩ := e
    refine ⟨?_, (Array.getElem?_eq_some_iff.1 hg).1, hb⟩
    unfold HoldsK
    rw [flat_K]
    intro t ht
    have ht' : t < (flat enc l).length := by simpa using ht
    have e : cur.toList[t]? = some (flat enc l)[t] := by
      have h2 : (cur.toList.take (l.length * 11))[t]? = some (flat enc l)[t] := by rw [htk, List.getElem?_eq_getElem ht']
      rw [List.getElem?_take_of_lt (by rw [← flat_length enc_len]; exact ht')] at h2
      exact h2
    refine ⟨?_, by simp [World.frozen?, hg]⟩
    rw [Nat.zero_add, getElem!_pos _ _ (by simpa using ht')]
    simp only [World.cell?, hg, Option.isSome_none, Bool.false_eq_true, if_false]
    rw [← Array.getElem?_toList, e]
    simp
theorem grown_sorted {w W : World} {g off : Nat} {d : Array El} (h : SWK enc 11 w g off d W) : w.grownBy W (some g) := by
  obtain ⟨n, os, rfl⟩ := h
  refine ⟨rfl, rfl, rfl, by simp [sortWorldK, putRowK, putRow, mapBlock, Sort.ahead], fun k hk hm => ?_⟩
  unfold sortWorldK
  rw [heap_grow_old _ _ (by simp [putRowK, putRow, mapBlock, Sort.ahead]; omega)]
  have : g ≠ k := fun e => hm (by rw [e])
  simp [putRowK, putRow, mapBlock, Sort.ahead, Array.getElem?_modify, this]
theorem owns_sorted {w W : World} {N g c n : Nat} {l s : List El} (h : w.ownsRow N 49 11 (.slice (some ⟨g, 0, none⟩) n c) n (flat enc l)) (hn : n = l.length) (hs : s.length = l.length) (hw : SWK enc 11 w g 0 s.toArray W) : W.ownsRow N 49 11 (.slice (some ⟨g, 0, none⟩) n c) n (flat enc s) := by
  obtain ⟨h0, h⟩ := h
  refine ⟨by rw [flat_length enc_len, hs, hn], .inr ?_⟩
  rcases h with ⟨e, _⟩ | ⟨g', c', cur, e, hb, hg, hc, hm, hsz, htk⟩
  · cases e
  · simp only [Value.slice.injEq, Option.some.injEq, Addr.mk.injEq, and_true, true_and] at e
    obtain ⟨rfl, rfl⟩ := e
    obtain ⟨m, os, rfl⟩ := hw
    have hlt : g < w.heap.size := (Array.getElem?_eq_some_iff.1 hg).1
    refine ⟨g, c, putCells id 0 (flatK enc 11 s.toArray) cur, rfl, hb, ?_, hc, hm, by simp [putCells, hsz], ?_⟩
    · unfold sortWorldK
      rw [heap_grow_old _ _ (by simp [putRowK, putRow, mapBlock, Sort.ahead]; omega)]
      simp [putRowK, putRow, mapBlock, Sort.ahead, Array.getElem?_modify, hg, onCells]
    · rw [flat_K]
      have hL : (flat enc s).length = n * 11 := by rw [flat_length enc_len, hs, hn]
      have hcK : n * 11 ≤ cur.size := by rw [hsz]; exact Nat.mul_le_mul_right _ hc
      apply List.ext_getElem?
      intro j
      by_cases hj : j < n * 11
      · rw [List.getElem?_take_of_lt hj, Array.getElem?_toList]
        have hj' : j < (flat enc s).length := by omega
        simp [putCells, hj', show j < cur.size by omega]
      · rw [List.getElem?_take_eq_none (by omega), List.getElem?_eq_none (by omega)]
set_option maxHeartbeats 2000000 in
theorem ins_none (fv : Value) (w : World) : Calls Try.prog 42 #[.slice none 0 0, .int .i64 0, .int .i64 0, fv] w fun e w' => e = .returned (.tuple #[]) ∧ w = w' := by
  go_enter Try.func42, Try.ntmps42
  go_wp2
  refine wp_loop_rounds 1 ?_
  rw [rounds_succ]
  go_wp2
  go_end0
  exact ⟨rfl, rfl⟩
set_option maxHeartbeats 2000000 in
theorem stab_none (fv : Value) (w : World) : Calls Try.prog 32 #[.slice none 0 0, .int .i64 0, fv] w fun e w' => e = .returned (.tuple #[]) ∧ w = w' := by
  have C := Lib.hid (fun W => ins_none fv W)
  go_enter Try.func32, Try.ntmps32
  go_wp2_with fail
  refine wp_loop_rounds 1 ?_
  rw [rounds_succ]
  go_wp2_with fail
  refine (C.out _).mono ?_
  rintro e w' ⟨rfl, rfl⟩
  go_wp2_with fail
  refine wp_loop_rounds 1 ?_
  rw [rounds_succ]
  go_wp2
  go_end0
  exact ⟨rfl, rfl⟩
set_option maxHeartbeats 2000000 in
theorem sort_none (fv : Value) (w : World) : Calls Try.prog 16 #[.slice none 0 0, fv] w fun e w' => e = .returned (.tuple #[]) ∧ w = w' := by
  have C := Lib.hid (fun W => stab_none fv W)
  go_enter Try.func16, Try.ntmps16
  go_wp2_with fail
  refine (C.out _).mono ?_
  rintro e w' ⟨rfl, rfl⟩
  go_wp2
  go_end0
  exact ⟨rfl, rfl⟩
/-- A row of the call's own, sorted. -/
theorem sort_own (w : World) (N : Nat) (q : Option Addr) (c : Nat) (p : List El) (h : w.ownsRow N 49 11 (.slice q p.length c) p.length (flat enc p)) (hlen : p.length < 1000000) :
    Calls Try.prog 16 #[.slice q p.length c, fvC] w fun e w' => e = .returned (.tuple #[]) ∧ (∃ s : List El, s.length = p.length ∧ w'.ownsRow N 49 11 (.slice q p.length c) p.length (flat enc s) ∧ Sorted s ∧ Same1 p s) ∧ w.grownBy w' (Value.slice q p.length c).ownBlock := by
  cases q with
  | none =>
    have e0 : p = [] ∧ c = 0 := by
      rcases h.2 with ⟨e1, e⟩ | ⟨g, cap, cur, e, _⟩
      · simp only [Value.slice.injEq] at e1
        exact ⟨List.eq_nil_of_length_eq_zero e, e1.2.2⟩
      · cases e
    obtain ⟨rfl, rfl⟩ := e0
    refine (sort_none fvC w).mono ?_
    rintro e w' ⟨rfl, rfl⟩
    exact ⟨rfl, ⟨[], rfl, h, Sorted.nil, Same1.refl _⟩, ⟨rfl, rfl, rfl, Nat.le_refl _, fun _ _ _ => rfl⟩⟩
  | some ad =>
    obtain ⟨g, rfl⟩ : ∃ g, ad = ⟨g, 0, none⟩ := by
      rcases h.2 with ⟨e, _⟩ | ⟨g, cap, cur, e, _⟩
      · cases e
      · simp only [Value.slice.injEq, Option.some.injEq] at e
        exact ⟨g, e.1⟩
    obtain ⟨hH, hg, hN⟩ := holds_own h rfl
    refine (sortStable_any w g 0 c p hH hg hlen).mono ?_
    rintro e w' ⟨rfl, s, hs, ss, sm, sw⟩
    exact ⟨rfl, ⟨s, hs, owns_sorted h rfl hs sw, ss, sm⟩, grown_sorted sw⟩
end Go.Proofs.Ytdphooobgbminaa.Rm
