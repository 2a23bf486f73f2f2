/- Proved here: the law VictimLive of layer 15 holds for every input: an owner's pods are told in order, those that aren't failed and those that are, each once; and the chapter's example. No conditions. -/
import Derived.Test.YticlncbhgdnoeaaViL
import Derived.Test.YticlncbhgdnoeaaViLawBase
import Derived.BigQuiet
namespace Go.Proofs.Yticlncbhgdnoeaa.victimLive
open Go.ChangeShapes Go.WideShapes Go.ChangeAt Go.RowKit Go.Lib Go.Shelf Go.Sort Go.Deep
open Go.Joins (cell_of_block unfrozen_of_block block_setCell)
open Go.Proofs.Yticlncbhgdnoeaa.Ow Go.Proofs.Yticlncbhgdnoeaa.Vi
set_option linter.unusedVariables false
set_option linter.unusedSimpArgs false
set_option maxRecDepth 20000

theorem nth_filter {α : Type} {L : List α} {p : α → Bool} {j : Nat} {x : α} (hx : L[j]? = some x) (hp : p x = true) : (L.filter p)[((L.take j).filter p).length]? = some x ∧ (L.take (j + 1)).filter p = (L.take j).filter p ++ [x] := by
  have hlt : j < L.length := (List.getElem?_eq_some_iff.1 hx).1
  have e1 : L.take (j + 1) = L.take j ++ [x] := by rw [List.take_add_one, hx]; rfl
  have e2 : L = L.take (j + 1) ++ L.drop (j + 1) := (List.take_append_drop _ _).symm
  have e3 : (L.take (j + 1)).filter p = (L.take j).filter p ++ [x] := by rw [e1, List.filter_append]; simp [hp]
  refine ⟨?_, e3⟩
  have e4 : L.filter p = (L.take j).filter p ++ [x] ++ (L.drop (j + 1)).filter p := by
    conv => lhs; rw [e2]
    rw [List.filter_append, e3]
  rw [e4, List.append_assoc, List.getElem?_append_right (Nat.le_refl _), Nat.sub_self]
  rfl
theorem not_filter {α : Type} {L : List α} {p : α → Bool} {j : Nat} {x : α} (hx : L[j]? = some x) (hp : p x = false) : (L.take (j + 1)).filter p = (L.take j).filter p := by
  rw [List.take_add_one, hx, List.filter_append]
  simp [hp]
theorem len_filter {α : Type} (L : List α) (p : α → Bool) (j : Nat) : ((L.take j).filter p).length ≤ (L.filter p).length := (List.Sublist.filter p (List.take_sublist j L)).length_le
/-- What a row of the call's own says at a place. -/
theorem row_says {N : Nat} {w w' : World} {q : Option Addr} {n c : Nat} {l : List Obv} {L : List Ob} (h : Row N w (.slice q n c) l) (b : Below w.heap.size w w') (e : l.map (·.2) = L) {j : Nat} {o : Ob} (hj : L[j]? = some o) :
    j < n ∧ ∃ g, q = some ⟨g, 0, none⟩ ∧ w'.cell? ⟨g, j * 47 + 1, none⟩ = some (.string o.name) ∧ w'.cell? ⟨g, j * 47 + 10 + 3, none⟩ = some (.int .i64 o.p.since) := by
  rw [← e, List.getElem?_map, Option.map_eq_some_iff] at hj
  obtain ⟨x, hx, rfl⟩ := hj
  obtain ⟨g, rfl, hN, hg, hr⟩ := h.at hx
  have hb := (h.below b).at hx
  obtain ⟨g', e', _, _, hr'⟩ := hb
  cases e'
  have ho := (h.firm x (List.mem_of_getElem? hx)).obj.1
  have hl : j < l.length := (List.getElem?_eq_some_iff.1 hx).1
  have hn : n = l.length := by
    rcases h.own.2 with ⟨e, _⟩ | ⟨g, cap, cur, e, _⟩
    · cases e
    · simp only [Value.slice.injEq] at e; exact e.2.1
  refine ⟨by omega, g, rfl, ?_, ?_⟩
  · refine hr' 1 _ ?_
    show x.1.1.toList[1]? = _
    rw [Array.getElem?_toList]
    exact ho.2.1.2.1
  · rw [Nat.add_assoc]
    refine hr' 13 _ ?_
    show x.1.1.toList[13]? = _
    rw [Array.getElem?_toList]
    exact ho.2.2.2.1.2.2.2.1

set_option maxHeartbeats 16000000 in
theorem walk_at (W : World) (q : Option Addr) (c : Nat) (l : List Obv) (s : ByteArray) (hr : RowR 47 encOb W q l) (hok : ∀ x ∈ l, okOb W x) (hlen : l.length ≤ 140737488351232) :
    Calls Try.prog 3 #[.slice q l.length c, .string s] W fun e W' => e = .returned (.bool true) ∧ Below W.heap.size W W' := by
  have mixed : Try.prog.follows .mixedOrders = true := by kernel_rfl
  obtain ⟨n, hn⟩ : ∃ n, n = l.length := ⟨_, rfl⟩
  have HC := Lib.hid (vlives W)
  by_cases h60 : 60 < n
  · have t1 : decide (60 < n) = true := decide_eq_true h60
    have t2 : decide ((n : Int) > 60) = true := decide_eq_true (by omega)
    rw [← hn] at hlen ⊢
    clear hr hok hn h60
    go_enter Try.func3, Try.ntmps3
    go_wp2_with fail
    refine HC.out.mono ?_
    rintro e w1 ⟨rfl, b1⟩
    have B1 := Lib.hid b1
    have C2 := Lib.hid (vlives w1)
    clear b1 HC
    go_wp2_with fail
    refine C2.out.mono ?_
    rintro e w2 ⟨rfl, b2⟩
    have FIN := Lib.hid (B1.out.trans (b2.mono B1.out.size))
    clear b2 C2 B1
    go_wp2
    go_ret
    exact ⟨rfl, FIN.out⟩
  · have t1 : decide (60 < n) = false := decide_eq_false h60
    have t2 : decide ((n : Int) > 60) = false := decide_eq_false (by omega)
    have CL : Hid (∀ w, Below W.heap.size W w → Calls Try.prog 5 #[.slice q n c, .string s] w fun e w' => (∃ q1 c1 l1 q2 c2 l2, e = .returned (.tuple #[.slice q1 l1.length c1, .slice q2 l2.length c2]) ∧ Row w.heap.size w' (.slice q1 l1.length c1) l1 ∧ Row w.heap.size w' (.slice q2 l2.length c2) l2 ∧
      l1.map (·.2) = (l.map (·.2)).filter (isLive s) ∧ l2.map (·.2) = (l.map (·.2)).filter (isFailed s)) ∧ Below w.heap.size w w') := fun w b => by
      rw [hn]
      exact live_any W w b q c l s hr (fun x hx => ⟨(hok x hx).1, (hok x hx).2.1, (hok x hx).2.2.2.2⟩) (by omega)
    rw [← hn] at hlen ⊢
    have hn60 : n ≤ 60 := by omega
    have HH := Lib.hid (And.intro hr (And.intro hok hn))
    clear hr hok hn h60 hlen
    go_enter Try.func3, Try.ntmps3
    go_wp2_with fail
    refine HC.out.mono ?_
    rintro e w1 ⟨rfl, b1⟩
    have B1 := Lib.hid b1
    have C2 := Lib.hid (CL.out w1 b1)
    clear b1 HC CL
    go_wp2_with fail
    refine C2.out.mono ?_
    rintro e w2 ⟨⟨q1, c1, l1, q2, c2, l2, rfl, r1, r2, e1, e2⟩, b2⟩
    obtain ⟨m1, hm1⟩ : ∃ m, m = l1.length := ⟨_, rfl⟩
    obtain ⟨m2, hm2⟩ : ∃ m, m = l2.length := ⟨_, rfl⟩
    have hm1n : m1 ≤ 60 := by
      have h1 := congrArg List.length e1
      have h2 := List.length_filter_le (isLive s) (l.map (·.2))
      simp only [List.length_map] at h1 h2
      have := HH.out.2.2
      omega
    have hm2n : m2 ≤ 60 := by
      have h1 := congrArg List.length e2
      have h2 := List.length_filter_le (isFailed s) (l.map (·.2))
      simp only [List.length_map] at h1 h2
      have := HH.out.2.2
      omega
    rw [← hm1] at r1
    rw [← hm2] at r2
    rw [← hm1, ← hm2]
    have B2 := Lib.hid (B1.out.trans (b2.mono B1.out.size))
    have RR := Lib.hid (And.intro r1 (And.intro r2 (And.intro e1 (And.intro e2 (And.intro hm1 hm2)))))
    clear r1 r2 e1 e2 b2 C2 B1 hm1 hm2
    go_wp2_with fail
    go_loopg [7, 8, 27] n (fun g vi vk vj wr => ∃ j i k : Nat, vi = .int .i64 (i : Int) ∧ vk = .int .i64 (k : Int) ∧ vj = .int .i64 (j : Int) ∧ j ≤ n ∧ n - j ≤ g ∧ i ≤ m1 ∧ k ≤ m2 ∧ Hid (i = (((l.map (·.2)).take j).filter (isLive s)).length ∧ k = (((l.map (·.2)).take j).filter (isFailed s)).length) ∧ Hid (Below w2.heap.size w2 wr))
    case atStart => exact ⟨0, 0, 0, rfl, rfl, rfl, Nat.zero_le _, by omega, Nat.zero_le _, Nat.zero_le _, ⟨by simp, by simp⟩, Below.refl _ _⟩
    case round =>
      obtain ⟨j, i, k, rfl, rfl, rfl, hj, hg, him, hkm, HK, HB⟩ := hrel
      by_cases hlt : j < n
      · obtain ⟨hr, hok, hn⟩ := HH.out
        obtain ⟨x, hx⟩ : ∃ x, l[j]? = some x := ⟨l[j]'(by omega), List.getElem?_eq_getElem (by omega)⟩
        have hxo : (l.map (·.2))[j]? = some x.2 := by rw [List.getElem?_map, hx]; rfl
        obtain ⟨b, off, rfl, _, _⟩ := hr j x hx
        obtain ⟨hbl, hra⟩ := rangeAt_obs hr hx
        have lowr : Below W.heap.size W wr := B2.out.trans (HB.out.mono B2.out.size)
        have LD := Lib.hid (load_at (x := x) (rangeAt_below hra lowr hbl))
        obtain ⟨okv, okn, okf, oki, okh⟩ := hok x (List.mem_of_getElem? hx)
        obtain ⟨X, hX⟩ : ∃ X, X = x.1.1 := ⟨_, rfl⟩
        obtain ⟨o, ho⟩ : ∃ o, o = x.2 := ⟨_, rfl⟩
        rw [← hX] at LD okv
        rw [← ho] at okv hxo
        have hXs : X.size = 47 := okv.1
        have z0 : (wr.alloc (.cells zerC OT)).heap[wr.heap.size]? = some (.cells zerC OT (0, 0)) := heap_alloc_new wr _
        obtain ⟨w3, hw3⟩ : ∃ W', W' = (wr.alloc (.cells zerC OT)).setCells wr.heap.size 0 X.toList := ⟨_, rfl⟩
        obtain ⟨O, hO⟩ : ∃ A, A = wr.heap.size := ⟨_, rfl⟩
        have th := Ld.there_block z0 (n := X.size) (by rw [hXs]; rfl)
        have o3 : w3.heap[O]? = some (.cells X OT (0, 0)) := by rw [hw3, hO]; exact Ld.laid z0 (by rw [hXs]; rfl)
        have b3 : Below wr.heap.size wr w3 := by rw [hw3]; exact Ld.below_setCells _ _ _ (Nat.le_refl _) (((Gr.refl wr).alloc _).below)
        have TH := Lib.hid th
        have IN : Hid ((Try.prog.info? OT).map (·.size) = some X.size) := by show _ = _; rw [hXs]; exact info_ob47
        have ON := Lib.hid (objV_one okv)
        have HW3 : Hid ((wr.alloc (.cells zerC OT)).setCells wr.heap.size 0 X.toList = w3 ∧ wr.heap.size = O) := ⟨hw3.symm, hO.symm⟩
        have B3 : Hid (Below w2.heap.size w2 w3) := HB.out.trans (b3.mono HB.out.size)
        have d0 : w3.cell? ⟨O, 0, none⟩ = some (.int .i64 o.kind) := (cell_of_block o3 0).trans okv.2.1.1
        have d1 : w3.cell? ⟨O, 1, none⟩ = some (.string o.name) := (cell_of_block o3 1).trans okv.2.1.2.1
        have d10 : w3.cell? ⟨O, 10, none⟩ = some (.string o.p.own) := (cell_of_block o3 10).trans okv.2.2.2.1.1
        have d12 : w3.cell? ⟨O, 12, none⟩ = some (.int .i64 o.p.ph) := (cell_of_block o3 12).trans okv.2.2.2.1.2.2.1
        have d13 : w3.cell? ⟨O, 13, none⟩ = some (.int .i64 o.p.since) := (cell_of_block o3 13).trans okv.2.2.2.1.2.2.2.1
        have DD := Lib.hid (And.intro d0 (And.intro d1 (And.intro d10 (And.intro d12 d13))))
        have HXO := Lib.hid hxo
        clear hr hok hn hx hxo hbl hra lowr okv okn okf oki okh hX ho hXs z0 hw3 hO th o3 b3 d0 d1 d10 d12 d13 HB
        go_upto_region 8 with (first | (refine wpList_load_by (by kernel_rfl) OT _ rfl (.pointer (some ⟨b, off + j * 47, none⟩)) (.agg X) (by rfl) LD.out ?_) | (refine wpList_store_mid rfl _ _ _ rfl wr.heap.size 0 X (by rfl) (by rfl) TH.out IN.out ON.out ?_; rw [HW3.out.1, HW3.out.2]))
        clear TH IN ON HW3 LD
        by_cases hkd : o.kind = 1
        · by_cases how : o.p.own.toList = s.toList
          · have d0 : w3.cell? ⟨O, 0, none⟩ = some (.int .i64 1) := by rw [← hkd]; exact DD.out.1
            have d10 := DD.out.2.2.1
            obtain ⟨own, hown⟩ : ∃ t, t = o.p.own := ⟨_, rfl⟩
            rw [← hown] at d10
            have t4 : (!own.toList == s.toList) = false := by rw [hown, how]; simp
            have t5 : (own.toList == s.toList) = true := by rw [hown, how]; simp
            by_cases hph : o.p.ph = 3
            · have d12 : w3.cell? ⟨O, 12, none⟩ = some (.int .i64 3) := by rw [← hph]; exact DD.out.2.2.2.1
              have ff : isFailed s o = true := by unfold isFailed isOf isPod; rw [← hown, t5]; simp [hkd, hph]
              have fl : isLive s o = false := by unfold isLive isOf isPod; rw [← hown, t5]; simp [hkd, hph]
              obtain ⟨k1, k2⟩ := nth_filter (p := isFailed s) HXO.out ff
              have k3 := not_filter (p := isLive s) HXO.out fl
              rw [← HK.out.2] at k1
              obtain ⟨hk2, g2, rfl, c1', c13'⟩ := row_says RR.out.2.1 B3.out RR.out.2.2.2.1 k1
              have d1 := DD.out.2.1
              have d13 := DD.out.2.2.2.2
              have NX : Hid (i = (((l.map (·.2)).take (j + 1)).filter (isLive s)).length ∧ k + 1 = (((l.map (·.2)).take (j + 1)).filter (isFailed s)).length) := by
                obtain ⟨h1, h2⟩ := HK.out
                exact ⟨by rw [k3]; exact h1, by rw [k2, List.length_append, h2]; rfl⟩
              obtain ⟨nm, hnm⟩ : ∃ t, t = o.name := ⟨_, rfl⟩
              obtain ⟨sn, hsn⟩ : ∃ t, t = o.p.since := ⟨_, rfl⟩
              rw [← hnm] at d1 c1'
              rw [← hsn] at d13 c13'
              have t6 : (!nm.toList == nm.toList) = false := by simp
              have t7 : (sn != sn) = false := by simp
              have t8 : decide ((k : Int) ≥ (m2 : Int)) = false := decide_eq_false (by omega)
              have p1 : (0 : Int) ≤ (k : Int) := by omega
              have p2 : (k : Int) < (m2 : Int) := by omega
              have p3 : IntKind.i64.wrap ((k : Int) + 1) = (k : Int) + 1 := by rw [IntKind.wrap_i64]; omega
              clear hkd how hown t5 hph ff fl k1 k2 k3 hnm hsn HXO DD HK
              go_wp2_with fail
              go_quiet (fail)
              have B4 : Hid (Below w2.heap.size w2 (w3.drewN nq)) := B3.out.trans ((((Gr.refl w3).drewN nq).below).mono B3.out.size)
              clear d0 d1 d10 d12 d13 c1' c13' B3
              generalize w3.drewN nq = w4 at B4 ⊢
              go_wp2
              go_roundg (n - (j + 1))
              case measure => omega
              case rel => exact ⟨j + 1, i, k + 1, rfl, by push_cast; rfl, by push_cast; rfl, by omega, by omega, him, by omega, NX.out, B4.out⟩
            · have d12 := DD.out.2.2.2.1
              have ff : isFailed s o = false := by unfold isFailed; simp [hph]
              have fl : isLive s o = true := by unfold isLive isOf isPod; rw [← hown, t5]; simp [hkd, hph]
              obtain ⟨k1, k2⟩ := nth_filter (p := isLive s) HXO.out fl
              have k3 := not_filter (p := isFailed s) HXO.out ff
              rw [← HK.out.1] at k1
              obtain ⟨hk2, g2, rfl, c1', c13'⟩ := row_says RR.out.1 B3.out RR.out.2.2.1 k1
              have d1 := DD.out.2.1
              have d13 := DD.out.2.2.2.2
              have NX : Hid (i + 1 = (((l.map (·.2)).take (j + 1)).filter (isLive s)).length ∧ k = (((l.map (·.2)).take (j + 1)).filter (isFailed s)).length) := by
                obtain ⟨h1, h2⟩ := HK.out
                exact ⟨by rw [k2, List.length_append, h1]; rfl, by rw [k3]; exact h2⟩
              obtain ⟨nm, hnm⟩ : ∃ t, t = o.name := ⟨_, rfl⟩
              obtain ⟨sn, hsn⟩ : ∃ t, t = o.p.since := ⟨_, rfl⟩
              obtain ⟨ph, hph'⟩ : ∃ t, t = o.p.ph := ⟨_, rfl⟩
              rw [← hnm] at d1 c1'
              rw [← hsn] at d13 c13'
              rw [← hph'] at d12
              have t3 : (ph == 3) = false := by rw [hph']; simp [hph]
              have t6 : (!nm.toList == nm.toList) = false := by simp
              have t7 : (sn != sn) = false := by simp
              have t8 : decide ((i : Int) ≥ (m1 : Int)) = false := decide_eq_false (by omega)
              have p1 : (0 : Int) ≤ (i : Int) := by omega
              have p2 : (i : Int) < (m1 : Int) := by omega
              have p3 : IntKind.i64.wrap ((i : Int) + 1) = (i : Int) + 1 := by rw [IntKind.wrap_i64]; omega
              clear hkd how hown t5 hph ff fl k1 k2 k3 hnm hsn hph' HXO DD HK
              go_wp2_with fail
              go_quiet (fail)
              have B4 : Hid (Below w2.heap.size w2 (w3.drewN nq)) := B3.out.trans ((((Gr.refl w3).drewN nq).below).mono B3.out.size)
              clear d0 d1 d10 d12 d13 c1' c13' B3
              generalize w3.drewN nq = w4 at B4 ⊢
              go_wp2
              go_roundg (n - (j + 1))
              case measure => omega
              case rel => exact ⟨j + 1, i + 1, k, by push_cast; rfl, rfl, by push_cast; rfl, by omega, by omega, by omega, hkm, NX.out, B4.out⟩
          · have d0 : w3.cell? ⟨O, 0, none⟩ = some (.int .i64 1) := by rw [← hkd]; exact DD.out.1
            have d10 := DD.out.2.2.1
            have e3 : isOf s o = false := by unfold isOf; simp [how]
            have NX : Hid (i = (((l.map (·.2)).take (j + 1)).filter (isLive s)).length ∧ k = (((l.map (·.2)).take (j + 1)).filter (isFailed s)).length) := by
              rw [not_filter (p := isLive s) HXO.out (by unfold isLive; rw [e3]; rfl), not_filter (p := isFailed s) HXO.out (by unfold isFailed; rw [e3]; rfl)]
              exact HK.out
            obtain ⟨own, hown⟩ : ∃ t, t = o.p.own := ⟨_, rfl⟩
            rw [← hown] at d10
            have t4 : (!own.toList == s.toList) = true := by rw [hown]; simp [how]
            clear hkd how hown e3 HXO DD HK
            go_wp2
            go_roundg (n - (j + 1))
            case measure => omega
            case rel => exact ⟨j + 1, i, k, rfl, rfl, by push_cast; rfl, by omega, by omega, him, hkm, NX.out, B3.out⟩
        · have d0 := DD.out.1
          have e3 : isOf s o = false := by unfold isOf isPod; simp [hkd]
          have NX : Hid (i = (((l.map (·.2)).take (j + 1)).filter (isLive s)).length ∧ k = (((l.map (·.2)).take (j + 1)).filter (isFailed s)).length) := by
            rw [not_filter (p := isLive s) HXO.out (by unfold isLive; rw [e3]; rfl), not_filter (p := isFailed s) HXO.out (by unfold isFailed; rw [e3]; rfl)]
            exact HK.out
          obtain ⟨kd, hkd'⟩ : ∃ t, t = o.kind := ⟨_, rfl⟩
          rw [← hkd'] at d0
          have t4 : (kd != 1) = true := by rw [hkd']; simp [bne, hkd]
          clear hkd hkd' e3 HXO DD HK
          go_wp2
          go_roundg (n - (j + 1))
          case measure => omega
          case rel => exact ⟨j + 1, i, k, rfl, rfl, by push_cast; rfl, by omega, by omega, him, hkm, NX.out, B3.out⟩
      · have hjn : (l.map (·.2)).length ≤ j := by rw [List.length_map]; have := HH.out.2.2; omega
        obtain rfl : i = m1 := by
          obtain ⟨h1, h2⟩ := HK.out
          obtain ⟨_, _, e1, e2, hm1, hm2⟩ := RR.out
          rw [List.take_of_length_le hjn, ← e1, List.length_map] at h1
          omega
        obtain rfl : k = m2 := by
          obtain ⟨h1, h2⟩ := HK.out
          obtain ⟨_, _, e1, e2, hm1, hm2⟩ := RR.out
          rw [List.take_of_length_le hjn, ← e2, List.length_map] at h2
          omega
        have FIN := Lib.hid (B2.out.trans (HB.out.mono B2.out.size))
        clear hjn HK HB RR HH B2
        go_wp2
        go_ret
        exact ⟨by first | rfl | (simp; done), FIN.out⟩

theorem walk {H : Type} {enc : TypeId × Value → H} {base : Nat} (W : World) (v0 : Value) (d0 : DataW H) (p0 : List MemPlace) (o0 : Value.okWide Try.prog W .any base 22 v0) (h0 : DataW.Trod enc Try.prog W 0 (fun _ => true) true 22 v0 d0 p0)
    (v1 : Value) (d1 : DataW H) (p1 : List MemPlace) (o1 : Value.okWide Try.prog W .any base 9 v1) (h1 : DataW.Trod enc Try.prog W 0 (fun _ => true) true 9 v1 d1 p1) (wt : Wt 22 d0) (_ : Wt 9 d1) :
    Calls Try.prog 3 #[v0, v1] W fun e W' => e = .returned (.bool true) ∧ Below W.heap.size W W' := by
  obtain ⟨q, c, l, rfl, hr, hok, hlen⟩ := open_objs o0 h0 wt
  obtain ⟨s, rfl, rfl, rfl, _⟩ := Go.ChangeMaps.open_string Try.underlying9 o1 h1
  exact walk_at W q c l s hr hok hlen
/-! ### THE ROW's STEP -/
set_option maxRecDepth 100000 in
theorem lifted (os : Os) (started : os.Started) (H : Type) (enc : TypeId × Value → H) :
    ReturnsInHanded {} Try.checked os 3 .any (Rows.victimLiveSpec.pre6 enc Try.prog Try.f3 Rows.victimLiveRow.domain false) (Rows.victimLiveSpec.post enc Try.prog Try.f3 false true false false) := by
  refine returnsInHanded_of_change_sized (C := Try.checked) own started (by kernel_rfl) Try.func3
    (ChangeSpec.witness6 (enc := enc) (C := Try.checked) false ⟨#[], #[.slice none 0 0, .string ⟨#[]⟩], []⟩ 8 (by kernel_rfl) (by kernel_rfl) (by kernel_rfl) (by kernel_rfl)) ?_
  intro W base args ds gs before hval0 hW hcnd hsz0 _
  have hval : ∀ (j : Nat) t v, Try.f3.params[j]? = some t → args[j]? = some v → Value.okWide Try.prog W .any base t v := hval0
  have hW' := hW
  obtain ⟨p, q, hA0, hV, rfl, hfz, hnd⟩ := hW
  have hA : DataW.TrodAll enc Try.prog W 0 (fun _ => true) true Try.f3.params.toList args.toList ds p := hA0
  have hlt : ∀ x ∈ p, x.block < W.heap.size := fun x hx => hW'.lt x (List.mem_append_left _ hx)
  rw [Try.params3] at hA hval
  have hread : ∀ t ∈ [22, 9], Try.prog.readableRec t = true ∧ t < Try.prog.types.size := by
    intro t ht
    simp only [List.mem_cons, List.not_mem_nil, or_false] at ht
    rcases ht with rfl | rfl <;> exact ⟨by kernel_rfl, of_decide_eq_true (by kernel_rfl)⟩
  have again : ∀ (W' : World), Below W.heap.size W W' → ∀ sp : Nat → Bool, (∀ x ∈ p, sp x.block = true) → DataW.TrodAll enc Try.prog W' 0 sp true [22, 9] args.toList ds p :=
    fun W' hb sp hsp => all_again (by kernel_rfl) hb [22, 9] args.toList ds p hread hA hlt hsp
  obtain ⟨v0, v1, d0, d1, p0, p1, rfl, rfl, rfl, h0, h1⟩ := trodAll_two hA
  obtain ⟨rfl, rfl⟩ := trodVars_none hV
  have wt0 : Wt 22 d0 := fun n hn => by
    have := List.all_eq_true.1 hsz0 n (DataW.weights_mem_each (j := 0) (t := 22) (d := d0) (by kernel_rfl) rfl n hn)
    simpa using this
  have wt1 : Wt 9 d1 := fun n hn => by
    have := List.all_eq_true.1 hsz0 n (DataW.weights_mem_each (j := 1) (t := 9) (d := d1) (by kernel_rfl) rfl n hn)
    simpa using this
  clear hA0 hval0
  simp only [List.append_nil] at hW' again
  refine (walk W v0 d0 p0 (hval 0 22 v0 rfl rfl) h0 v1 d1 p1 (hval 1 9 v1 rfl rfl) h1 wt0 wt1).mono fun e W' ⟨he, hg⟩ => ?_
  subst he
  exact ⟨_, rfl, post_below hW' hg (fun _ _ _ => trodAll_mk1 (shut_bool Try.underlying4 _)) (fun sp hsp => again W' hg sp hsp) (fun _ => rfl) (ok_one (by kernel_rfl) rfl (okWide_bool_mk Try.underlying4 _))⟩

theorem over : Rows.victimLiveRow.holds Try.pinned (OpenSpec.ofChange Rows.victimLiveSpec) :=
  OpenClaim.holds_of_wide 3 Try.f3 rfl rfl rfl rfl rfl rfl rfl ⟨rfl, rfl, rfl, rfl, rfl⟩ rfl rfl rfl rfl rfl (by kernel_rfl) Try.func3 (by kernel_rfl)
    (of_decide_eq_true (by kernel_rfl)) (by unfold Func.isWrapper; first | (rw [if_pos (by decide +kernel)]; kernel_rfl) | (rw [if_neg (by decide +kernel)]; exact ⟨rfl, rfl⟩))
    (fun os started H enc _ => lifted os started H enc)

/-- The statement. -/
theorem proved : Rows.VictimLiveSaid :=
  over
#print axioms proved
end Go.Proofs.Yticlncbhgdnoeaa.victimLive


