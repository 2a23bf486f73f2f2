/- The library's contracts for strconv.Itoa and slices.Sort at texts, at this program's numbers. -/
import Derived.Shelf.LaysM
import Derived.Shelf.Strconv.Itoa3
import Derived.Shelf.Sort.Plain
import Derived.Test.YtbkoepghmcdnhaaDoorProg
import Derived.Test.YtbkoepghmcdnhaaDoorObN
import Derived.Lib.ItoaNum
import Derived.Lib.ItoaMem
import Derived.Test.YtbkoepghmcdnhaaDoorRows
import Derived.ProofKit
import Derived.LaidMore
import Derived.OpenShut
import Derived.Lib.LaidTab
import Derived.Stop.LaidErr
import Derived.Stop.Joined
import Derived.MakeChecks
import Derived.Test.YtbkoepghmcdnhaaDoorViC
import Derived.Test.YtbkoepghmcdnhaaDoorSoOF
namespace Go.Proofs.YtbkoepghmcdnhaaDoor
open Go.Shelf
def sh_laysM171_ren : Go.Shelf.Ren := ⟨fun | 171 => 35 | 243 => 43 | 246 => 64 | 283 => 76 | 284 => 77 | 285 => 78 | 286 => 79 | 129 => 57 | 317 => 83 | 318 => 84 | 319 => 85 | 320 => 86 | 337 => 88 | 338 => 89 | n => n, fun | 3 => 3 | 9 => 9 | 2 => 2 | 4 => 4 | 171 => 134 | 0 => 0 | 53 => 22 | 37 => 136 | 5 => 5 | 173 => 137 | 212 => 143 | 51 => 115 | 20 => 20 | 213 => 144 | 46 => 97 | 232 => 145 | 233 => 146 | n => n, fun | 17 => 1 | 18 => 2 | 19 => 3 | n => n⟩
theorem sh_laysM171 : Go.Proofs.LaysM.n171 Tryd.prog sh_laysM171_ren := {
  mixed := by kernel_rfl
  f129 := Tryd.func57.trans (congrArg some (by kernel_rfl))
  f171 := Tryd.func35.trans (congrArg some (by kernel_rfl))
  f243 := Tryd.func43.trans (congrArg some (by kernel_rfl))
  f246 := Tryd.func64.trans (congrArg some (by kernel_rfl))
  f283 := Tryd.func76.trans (congrArg some (by kernel_rfl))
  f284 := Tryd.func77.trans (congrArg some (by kernel_rfl))
  f285 := Tryd.func78.trans (congrArg some (by kernel_rfl))
  f286 := Tryd.func79.trans (congrArg some (by kernel_rfl))
  f317 := Tryd.func83.trans (congrArg some (by kernel_rfl))
  f318 := Tryd.func84.trans (congrArg some (by kernel_rfl))
  f319 := Tryd.func85.trans (congrArg some (by kernel_rfl))
  f320 := Tryd.func86.trans (congrArg some (by kernel_rfl))
  f337 := Tryd.func88.trans (congrArg some (by kernel_rfl))
  f338 := Tryd.func89.trans (congrArg some (by kernel_rfl))
  t0 := Tryd.underlying0
  a0 := Tryd.isAgg0
  z0 := Tryd.sizeOf0
  v0 := Tryd.zeroValue0
  t2 := Tryd.underlying2
  a2 := Tryd.isAgg2
  z2 := Tryd.sizeOf2
  v2 := Tryd.zeroValue2
  t3 := Tryd.underlying3
  a3 := Tryd.isAgg3
  z3 := Tryd.sizeOf3
  v3 := Tryd.zeroValue3
  t4 := Tryd.underlying4
  a4 := Tryd.isAgg4
  z4 := Tryd.sizeOf4
  v4 := Tryd.zeroValue4
  t5 := Tryd.underlying5
  a5 := Tryd.isAgg5
  z5 := Tryd.sizeOf5
  v5 := Tryd.zeroValue5
  t9 := Tryd.underlying9
  a9 := Tryd.isAgg9
  z9 := Tryd.sizeOf9
  v9 := Tryd.zeroValue9
  t20 := Tryd.underlying20
  a20 := Tryd.isAgg20
  z20 := Tryd.sizeOf20
  v20 := Tryd.zeroValue20
  t37 := Tryd.underlying136
  a37 := Tryd.isAgg136
  z37 := Tryd.sizeOf136
  v37 := Tryd.zeroValue136
  t46 := Tryd.underlying97
  a46 := Tryd.isAgg97
  z46 := Tryd.sizeOf97
  v46 := Tryd.zeroValue97
  t51 := Tryd.underlying115
  a51 := Tryd.isAgg115
  z51 := Tryd.sizeOf115
  v51 := Tryd.zeroValue115
  t53 := Tryd.underlying22
  a53 := Tryd.isAgg22
  z53 := Tryd.sizeOf22
  v53 := Tryd.zeroValue22
  t171 := Tryd.underlying134
  a171 := Tryd.isAgg134
  z171 := Tryd.sizeOf134
  v171 := Tryd.zeroValue134
  t173 := Tryd.underlying137
  a173 := Tryd.isAgg137
  z173 := Tryd.sizeOf137
  v173 := Tryd.zeroValue137
  t212 := Tryd.underlying143
  a212 := Tryd.isAgg143
  z212 := Tryd.sizeOf143
  v212 := Tryd.zeroValue143
  t213 := Tryd.underlying144
  a213 := Tryd.isAgg144
  z213 := Tryd.sizeOf144
  t232 := Tryd.underlying145
  a232 := Tryd.isAgg145
  z232 := Tryd.sizeOf145
  v232 := Tryd.zeroValue145
  t233 := Tryd.underlying146
  a233 := Tryd.isAgg146
  z233 := Tryd.sizeOf146
  v233 := Tryd.zeroValue146
  g17 := by kernel_rfl
  g18 := by kernel_rfl
  g19 := by kernel_rfl
  i0 := by kernel_rfl
  i2 := by kernel_rfl
  i3 := by kernel_rfl
  i4 := by kernel_rfl
  i5 := by kernel_rfl
  i9 := by kernel_rfl
  i20 := by kernel_rfl
  i37 := by kernel_rfl
  i46 := by kernel_rfl
  i51 := by kernel_rfl
  i53 := by kernel_rfl
  i171 := by kernel_rfl
  i173 := by kernel_rfl
  i212 := by kernel_rfl
  i232 := by kernel_rfl
  i233 := by kernel_rfl
  m17 := by kernel_rfl
  m18 := by kernel_rfl
  m19 := by kernel_rfl }
open Go.RowKit Go.Sort Go.Lib in
theorem sh_strconv_Itoa (n : Int) (h0 : -9223372036854775808 ≤ n) (h1 : n ≤ 9223372036854775807) (w : World) (htab : Lib.TabIs Tryd.prog w "internal/strconv.uint64pow10" .u64 Lib.pow10Tab) :
    Calls Tryd.prog 35 #[.int .i64 n] w fun e w' => e = .returned (.string ⟨(Lib.itoa n).toArray⟩) ∧ ∃ k os, w' = grow (w.drewN k) os := Any.strconv_Itoa sh_laysM171 n h0 h1 w htab
def sh_lays190_ren : Go.Shelf.Ren := ⟨fun | 190 => 31 | 125 => 39 | 258 => 38 | 128 => 56 | 129 => 57 | 302 => 47 | 303 => 48 | 304 => 49 | 305 => 50 | 306 => 51 | 307 => 52 | 308 => 53 | 309 => 54 | 310 => 55 | 333 => 65 | 329 => 66 | 330 => 67 | 334 => 68 | 335 => 69 | 336 => 70 | 344 => 80 | n => n, fun | 31 => 51 | 9 => 9 | 3 => 3 | 46 => 97 | 0 => 0 | 51 => 115 | 53 => 22 | 4 => 4 | 183 => 107 | 182 => 106 | 131 => 112 | 5 => 5 | 218 => 124 | 222 => 128 | 228 => 139 | 229 => 140 | n => n, fun | n => n⟩
theorem sh_lays190 : Go.Proofs.Lays.n190 Tryd.prog sh_lays190_ren := {
  mixed := by kernel_rfl
  f125 := Tryd.func39.trans (congrArg some (by kernel_rfl))
  f128 := Tryd.func56.trans (congrArg some (by kernel_rfl))
  f129 := Tryd.func57.trans (congrArg some (by kernel_rfl))
  f190 := Tryd.func31.trans (congrArg some (by kernel_rfl))
  f258 := Tryd.func38.trans (congrArg some (by kernel_rfl))
  f302 := Tryd.func47.trans (congrArg some (by kernel_rfl))
  f303 := Tryd.func48.trans (congrArg some (by kernel_rfl))
  f304 := Tryd.func49.trans (congrArg some (by kernel_rfl))
  f305 := Tryd.func50.trans (congrArg some (by kernel_rfl))
  f306 := Tryd.func51.trans (congrArg some (by kernel_rfl))
  f307 := Tryd.func52.trans (congrArg some (by kernel_rfl))
  f308 := Tryd.func53.trans (congrArg some (by kernel_rfl))
  f309 := Tryd.func54.trans (congrArg some (by kernel_rfl))
  f310 := Tryd.func55.trans (congrArg some (by kernel_rfl))
  f329 := Tryd.func66.trans (congrArg some (by kernel_rfl))
  f330 := Tryd.func67.trans (congrArg some (by kernel_rfl))
  f333 := Tryd.func65.trans (congrArg some (by kernel_rfl))
  f334 := Tryd.func68.trans (congrArg some (by kernel_rfl))
  f335 := Tryd.func69.trans (congrArg some (by kernel_rfl))
  f336 := Tryd.func70.trans (congrArg some (by kernel_rfl))
  f344 := Tryd.func80.trans (congrArg some (by kernel_rfl))
  t0 := Tryd.underlying0
  a0 := Tryd.isAgg0
  z0 := Tryd.sizeOf0
  v0 := Tryd.zeroValue0
  t3 := Tryd.underlying3
  a3 := Tryd.isAgg3
  z3 := Tryd.sizeOf3
  v3 := Tryd.zeroValue3
  t4 := Tryd.underlying4
  a4 := Tryd.isAgg4
  z4 := Tryd.sizeOf4
  v4 := Tryd.zeroValue4
  t5 := Tryd.underlying5
  a5 := Tryd.isAgg5
  z5 := Tryd.sizeOf5
  v5 := Tryd.zeroValue5
  t9 := Tryd.underlying9
  a9 := Tryd.isAgg9
  z9 := Tryd.sizeOf9
  v9 := Tryd.zeroValue9
  t31 := Tryd.underlying51
  a31 := Tryd.isAgg51
  z31 := Tryd.sizeOf51
  v31 := Tryd.zeroValue51
  t46 := Tryd.underlying97
  a46 := Tryd.isAgg97
  z46 := Tryd.sizeOf97
  v46 := Tryd.zeroValue97
  t51 := Tryd.underlying115
  a51 := Tryd.isAgg115
  z51 := Tryd.sizeOf115
  v51 := Tryd.zeroValue115
  t53 := Tryd.underlying22
  a53 := Tryd.isAgg22
  z53 := Tryd.sizeOf22
  v53 := Tryd.zeroValue22
  t131 := Tryd.underlying112
  a131 := Tryd.isAgg112
  z131 := Tryd.sizeOf112
  v131 := Tryd.zeroValue112
  t182 := Tryd.underlying106
  a182 := Tryd.isAgg106
  z182 := Tryd.sizeOf106
  v182 := Tryd.zeroValue106
  t183 := Tryd.underlying107
  a183 := Tryd.isAgg107
  z183 := Tryd.sizeOf107
  v183 := Tryd.zeroValue107
  t218 := Tryd.underlying124
  a218 := Tryd.isAgg124
  z218 := Tryd.sizeOf124
  v218 := Tryd.zeroValue124
  t222 := Tryd.underlying128
  a222 := Tryd.isAgg128
  z222 := Tryd.sizeOf128
  v222 := Tryd.zeroValue128
  t228 := Tryd.underlying139
  a228 := Tryd.isAgg139
  z228 := Tryd.sizeOf139
  v228 := Tryd.zeroValue139
  t229 := Tryd.underlying140
  a229 := Tryd.isAgg140
  z229 := Tryd.sizeOf140
  v229 := Tryd.zeroValue140 }
open Go.Sort Go.RowKit in
theorem sh_slices_Sort_string (blk off cap : Nat) (ss : List (List UInt8)) (w : World) (hH : Holds encStr w blk off ss.toArray) (hblk : blk < w.heap.size) (hsz : ss.length < 4611686018427387904) :
    Calls Tryd.prog 31 #[.slice (some ⟨blk, off, none⟩) ss.length cap] w fun e w' =>
      e = .returned (.tuple #[]) ∧ ∃ n os, w' = grow (putRow encStr (Sort.ahead w n) blk off (ss.mergeSort fun x y => decide (x ≤ y)).toArray) os := Any.slices_Sort_string sh_lays190 blk off cap ss w hH hblk hsz
end Go.Proofs.YtbkoepghmcdnhaaDoor
/- Layer 16 (replica): the n-th pod's name (pods.Name). -/
namespace Go.Proofs.YtbkoepghmcdnhaaDoor.Rp
open Go.RowKit Go.Shelf Go.Lib Go.Sort
set_option linter.unusedVariables false
set_option linter.unusedSimpArgs false
set_option maxRecDepth 20000

/-- Four digits. -/
def dg4 (n : Nat) : List UInt8 := [UInt8.ofNat (48 + n / 1000), UInt8.ofNat (48 + n / 100 % 10), UInt8.ofNat (48 + n / 10 % 10), UInt8.ofNat (48 + n % 10)]
theorem u8_inj {a b : Nat} (ha : a < 256) (hb : b < 256) (h : UInt8.ofNat a = UInt8.ofNat b) : a = b := by
  have := congrArg UInt8.toNat h
  rw [UInt8.toNat_ofNat', UInt8.toNat_ofNat', Nat.mod_eq_of_lt (by simpa using ha), Nat.mod_eq_of_lt (by simpa using hb)] at this
  exact this
theorem dg4_inj {n m : Nat} (hn : n < 10000) (hm : m < 10000) (h : dg4 n = dg4 m) : n = m := by
  unfold dg4 at h
  simp only [List.cons.injEq, and_true] at h
  obtain ⟨h1, h2, h3, h4⟩ := h
  have e1 := u8_inj (by omega) (by omega) h1
  have e2 := u8_inj (by omega) (by omega) h2
  have e3 := u8_inj (by omega) (by omega) h3
  have e4 := u8_inj (by omega) (by omega) h4
  omega
theorem pad4 {n : Nat} (hn : n < 10000) : ([48, 48, 48, 48] : List UInt8).drop (decDigits n).length ++ decDigits n = dg4 n ∧ 1 ≤ (decDigits n).length ∧ (decDigits n).length ≤ 4 := by
  unfold dg4
  by_cases h1 : n < 10
  · have a : n / 1000 = 0 := by omega
    have b : n / 100 = 0 := by omega
    have c : n / 10 = 0 := by omega
    have d : n % 10 = n := by omega
    rw [decDigits_one h1, a, b, c, d]
    simp
  · by_cases h2 : n < 100
    · have a : n / 1000 = 0 := by omega
      have b : n / 100 = 0 := by omega
      have c : n / 10 % 10 = n / 10 := by omega
      rw [decDigits_two h1 h2, a, b, c]
      simp
    · have e3 : decDigits n = decDigits (n / 10) ++ [UInt8.ofNat (48 + n % 10)] := by rw [decDigits, dif_neg h1]
      by_cases h3 : n < 1000
      · rw [e3, decDigits_two (by omega) (by omega)]
        have a : n / 1000 = 0 := by omega
        have b : n / 100 % 10 = n / 10 / 10 := by omega
        rw [a, b]
        simp
      · have e4 : decDigits (n / 10) = decDigits (n / 10 / 10) ++ [UInt8.ofNat (48 + n / 10 % 10)] := by rw [decDigits, dif_neg (by omega)]
        rw [e3, e4, decDigits_two (by omega) (by omega)]
        have a : n / 1000 = n / 10 / 10 / 10 := by omega
        have b : n / 100 % 10 = n / 10 / 10 % 10 := by omega
        rw [a, b]
        simp
/-- The n-th pod's name. -/
def pname (s : ByteArray) (n : Nat) : ByteArray := ⟨(s.data.toList ++ 45 :: dg4 n).toArray⟩
theorem pname_bytes (s : ByteArray) (n : Nat) : (pname s n).data.toList = s.data.toList ++ 45 :: dg4 n := by simp [pname]
theorem pname_size (s : ByteArray) (n : Nat) : (pname s n).size = s.size + 5 := by
  have h : (pname s n).size = (pname s n).data.toList.length := Array.length_toList.symm
  have e : s.data.toList.length = s.size := Array.length_toList
  rw [h, pname_bytes, List.length_append, e]
  rfl
theorem pname_inj {s : ByteArray} {n m : Nat} (hn : n < 10000) (hm : m < 10000) (h : pname s n = pname s m) : n = m := by
  have e := congrArg (fun b : ByteArray => b.data.toList) h
  simp only [pname_bytes] at e
  have e2 := List.append_cancel_left e
  exact dg4_inj hn hm (List.cons.inj e2).2
/-- May an owner's pods be named after it? -/
def okNm (s : ByteArray) : Bool := nameB s && decide (s.size ≤ 27)
theorem dg_low {d : Nat} (h : d < 10) : lowB (UInt8.ofNat (48 + d)).toNat = true := by
  rw [UInt8.toNat_ofNat', Nat.mod_eq_of_lt (by omega)]
  simp [lowB]
  omega
theorem pname_name {s : ByteArray} {n : Nat} (h : okNm s = true) (hn : n < 10000) : nameB (pname s n) = true := by
  unfold okNm at h
  rw [Bool.and_eq_true, decide_eq_true_eq] at h
  obtain ⟨h1, h2⟩ := h
  unfold nameB at h1
  rw [Bool.and_eq_true, Bool.and_eq_true, decide_eq_true_eq, decide_eq_true_eq, List.all_eq_true] at h1
  obtain ⟨⟨h3, h4⟩, h5⟩ := h1
  have sz := pname_size s n
  refine name_ok (by omega) (by omega) (fun i hi => ?_)
  have hat : ∀ k : Nat, byAt (pname s n) k = ((s.data.toList ++ 45 :: dg4 n)[k]?.getD 0).toNat := fun k => by
    unfold byAt
    rw [← pname_bytes, Array.getD_eq_getD_getElem?, Array.getElem?_toList]
  have hss : s.data.toList.length = s.size := Array.length_toList
  by_cases hlt : i < s.size
  · have e : byAt (pname s n) i = byAt s i := by
      rw [hat, List.getElem?_append_left (by omega)]
      unfold byAt
      rw [Array.getD_eq_getD_getElem?, Array.getElem?_toList]
    have := h5 i (List.mem_range.2 hlt)
    unfold okAt at this ⊢
    rw [e]
    rw [Bool.or_eq_true] at this ⊢
    rcases this with t | t
    · exact .inl t
    · refine .inr ?_
      rw [Bool.and_eq_true, Bool.and_eq_true, decide_eq_true_eq, decide_eq_true_eq] at t
      simp only [decide_eq_true_eq] at t
      rw [t.1.1, decide_eq_true t.1.2, decide_eq_true (show i ≠ (pname s n).size - 1 by omega)]
      rfl
  · have e : byAt (pname s n) i = (((45 :: dg4 n)[i - s.size]?).getD 0).toNat := by
      rw [hat, List.getElem?_append_right (by omega), hss]
    obtain ⟨j, hj⟩ : ∃ j, j = i - s.size := ⟨_, rfl⟩
    have hj5 : j < 5 := by omega
    rw [← hj] at e
    unfold okAt
    rw [e]
    rw [Bool.or_eq_true]
    match j, hj5 with
    | 0, _ =>
      refine .inr ?_
      have a : i ≠ 0 := by omega
      have b : i ≠ (pname s n).size - 1 := by omega
      simp [a, b]
    | 1, _ => exact .inl (dg_low (d := n / 1000) (by omega))
    | 2, _ => exact .inl (dg_low (d := n / 100 % 10) (by omega))
    | 3, _ => exact .inl (dg_low (d := n / 10 % 10) (by omega))
    | 4, _ => exact .inl (dg_low (d := n % 10) (by omega))
theorem pname_long {s : ByteArray} {n : Nat} (h : 27 < s.size) : nameB (pname s n) = false := name_long (by rw [pname_size]; omega)

/-- The library's table of powers is as it was laid. -/
def Tab (w : World) : Prop := Lib.TabIs Tryd.prog w "internal/strconv.uint64pow10" .u64 Lib.pow10Tab
theorem below_grows (w : World) (k : Nat) (os : Array Obj) : Below w.heap.size w (grow (w.drewN k) os) := by
  refine ⟨rfl, rfl, rfl, by simp [grow, World.drewN], fun i hi => ?_⟩
  show (w.heap ++ os)[i]? = _
  rw [Array.getElem?_append_left hi]
theorem itoa_nat (n : Nat) (w : World) (hn : n < 10000) (hT : Tab w) :
    Calls Tryd.prog 35 #[.int .i64 (n : Int)] w fun e w' => (∃ s : ByteArray, e = .returned (.string s) ∧ s.data.toList = decDigits n) ∧ Below w.heap.size w w' := by
  refine (sh_strconv_Itoa (n : Int) (by omega) (by omega) w hT).mono ?_
  rintro e w' ⟨rfl, k, os, rfl⟩
  exact ⟨⟨_, rfl, by simp [Lib.itoa_nonneg]⟩, below_grows _ _ _⟩
theorem pod_far (w : World) (s : ByteArray) (n : Nat) (h : 9999 < n) : Calls Tryd.prog 24 #[.string s, .int .i64 (n : Int)] w fun e w' => e = .returned (.tuple #[.string ⟨#[]⟩, .int .i64 1]) ∧ Below w.heap.size w w' := by
  have t1 : decide ((n : Int) < 0) = false := decide_eq_false (by omega)
  have t2 : decide ((n : Int) > 9999) = true := decide_eq_true (by omega)
  go_enter Tryd.func24, Tryd.ntmps24
  go_wp2
  go_ret2
  exact ⟨rfl, Below.refl _ _⟩
theorem pod_odd (w : World) (s : ByteArray) (n : Nat) (hn : n < 10000) (hs : s.size ≤ 9223372036854775807) (h : nameB s = false) : Calls Tryd.prog 24 #[.string s, .int .i64 (n : Int)] w fun e w' => e = .returned (.tuple #[.string ⟨#[]⟩, .int .i64 6]) ∧ Below w.heap.size w w' := by
  have C := Lib.hid (name_any w s hs)
  rw [h] at C
  have t1 : decide ((n : Int) < 0) = false := decide_eq_false (by omega)
  have t2 : decide ((n : Int) > 9999) = false := decide_eq_false (by omega)
  go_enter Tryd.func24, Tryd.ntmps24
  go_wp2_with fail
  refine C.out.mono ?_
  rintro e w1 ⟨rfl, rfl⟩
  go_wp2
  go_ret2
  exact ⟨rfl, Below.refl _ _⟩
set_option maxHeartbeats 1000000 in
theorem pod_name (w : World) (s : ByteArray) (n : Nat) (b : Bool) (V : Value) (hV : (b = true → V = .tuple #[.string (pname s n), .int .i64 0]) ∧ (b = false → V = .tuple #[.string ⟨#[]⟩, .int .i64 6])) (hn : n < 10000) (h1 : nameB s = true) (hb : nameB (pname s n) = b) (hT : Tab w) : Calls Tryd.prog 24 #[.string s, .int .i64 (n : Int)] w fun e w' => e = .returned V ∧ Below w.heap.size w w' := by
  have HV := Lib.hid hV
  clear hV
  have hs : s.size ≤ 32 := by
    unfold nameB at h1
    rw [Bool.and_eq_true, Bool.and_eq_true, decide_eq_true_eq, decide_eq_true_eq] at h1
    exact h1.1.2
  have C1 := Lib.hid (name_any w s (by omega))
  rw [h1] at C1
  have CI := Lib.hid (itoa_nat n w hn hT)
  have C2 := Lib.hid (fun w => name_any w (pname s n) (by rw [pname_size]; omega))
  rw [hb] at C2
  have P4 := Lib.hid (pad4 hn)
  have t1 : decide ((n : Int) < 0) = false := decide_eq_false (by omega)
  have t2 : decide ((n : Int) > 9999) = false := decide_eq_false (by omega)
  clear h1 hb hT hn
  go_enter Tryd.func24, Tryd.ntmps24
  go_wp2_with fail
  refine C1.out.mono ?_
  rintro e w1 ⟨rfl, rfl⟩
  go_wp2_with fail
  refine CI.out.mono ?_
  rintro e w1 ⟨⟨d, rfl, hd⟩, b1⟩
  have HD := Lib.hid hd
  have hd1 : 1 ≤ d.size ∧ d.size ≤ 4 := by
    have e : d.size = d.data.toList.length := Array.length_toList.symm
    rw [e, hd]
    exact ⟨P4.out.2.1, P4.out.2.2⟩
  obtain ⟨dl, dh⟩ := hd1
  have B1 := Lib.hid b1
  have EQ : Hid (s ++ { data := #[45] } ++ ({ data := #[48, 48, 48, 48] } : ByteArray).extract d.size 4 ++ d = pname s n) := by
    show _ = _
    have e1 : ∀ a b : ByteArray, a.data.toList = b.data.toList → a = b := fun a b h => by
      cases a
      cases b
      simp only at h
      congr 1
      exact Array.ext' h
    refine e1 _ _ ?_
    rw [pname_bytes, ← P4.out.1, ← hd, ← show d.size = d.data.toList.length from Array.length_toList.symm]
    have h4 : d.size = 1 ∨ d.size = 2 ∨ d.size = 3 ∨ d.size = 4 := by omega
    rcases h4 with h | h | h | h <;> rw [h] <;> simp <;> rfl
  clear hd b1 C1 CI P4
  go_wp2_with fail
  rw [EQ.out]
  refine (C2.out _).mono ?_
  rintro e w2 ⟨rfl, rfl⟩
  obtain ⟨t, ht⟩ : ∃ t, t = pname s n := ⟨_, rfl⟩
  rw [← ht] at EQ HV
  rw [← ht]
  cases b with
  | true =>
    have HV2 := Lib.hid (HV.out.1 rfl)
    clear C2 EQ ht HD HV
    go_wp2
    go_ret2
    exact ⟨by rw [HV2.out]; rfl, B1.out⟩
  | false =>
    have HV2 := Lib.hid (HV.out.2 rfl)
    clear C2 EQ ht HD HV
    go_wp2
    go_ret2
    exact ⟨by rw [HV2.out]; rfl, B1.out⟩
/-- The n-th pod's name, of whatever owner: it, or that there is none. -/
def podV (s : ByteArray) (n : Nat) : Value := if okNm s = true then .tuple #[.string (pname s n), .int .i64 0] else .tuple #[.string ⟨#[]⟩, .int .i64 6]
theorem nth_name (w : World) (s : ByteArray) (n : Nat) (hn : n < 10000) (hs : s.size ≤ 9223372036854775807) (hT : Tab w) : Calls Tryd.prog 24 #[.string s, .int .i64 (n : Int)] w fun e w' => e = .returned (podV s n) ∧ Below w.heap.size w w' := by
  cases h1 : nameB s with
  | false =>
    have e : podV s n = .tuple #[.string ⟨#[]⟩, .int .i64 6] := by unfold podV okNm; rw [h1]; rfl
    rw [e]
    exact pod_odd w s n hn hs h1
  | true =>
    refine pod_name w s n _ (podV s n) ⟨fun hb => ?_, fun hb => ?_⟩ hn h1 rfl hT
    · have h27 : s.size ≤ 27 := by
        rcases Nat.lt_or_ge 27 s.size with h | h
        · rw [pname_long h] at hb; cases hb
        · exact h
      unfold podV okNm
      rw [h1, decide_eq_true h27]
      rfl
    · have h27 : ¬ s.size ≤ 27 := fun h27 => by
        rw [pname_name (by unfold okNm; rw [h1, decide_eq_true h27]; rfl) hn] at hb
        cases hb
      unfold podV okNm
      rw [decide_eq_false h27, Bool.and_false]
      rfl
end Go.Proofs.YtbkoepghmcdnhaaDoor.Rp
/- Layer 16 (replica): what the laws' rows list, tied to what the walks ask: the library's table of powers. -/
namespace Go.Proofs.YtbkoepghmcdnhaaDoor
open Go.ChangeShapes Go.WideShapes Go.ChangeAt Go.RowKit
open Go.Proofs.YtbkoepghmcdnhaaDoor.Rp
set_option linter.unusedVariables false

theorem own : ownKnob Tryd.prog.godebug = none := by kernel_rfl
def lst : List (String × DataW Unit) := Rows.replicaPlansRow.laid
theorem pow_data : (Rows.laid_internal_strconv_uint64pow10 : DataW Unit) = Lib.tabData .u64 Lib.pow10Tab := by kernel_rfl
theorem g_pow : Tryd.prog.globalNamed "internal/strconv.uint64pow10" = some 1 := by kernel_rfl
theorem t_pow : (Tryd.prog.globals[1]?).map (·.type) = some 143 := by kernel_rfl
theorem c_pow : Tryd.prog.cellsOf 143 = 20 := by kernel_rfl
theorem c_u64 : Tryd.prog.cellsOf 22 = 1 := by kernel_rfl
theorem of_laid {W : World} (h : laidMetH Tryd.prog lst W) : Tab W := by
  rw [MakeChecks.laidMetH_plain _ _ _ (by kernel_rfl)] at h
  have h1 : laidMet Tryd.prog (_ :: _ :: ("internal/strconv.uint64pow10", Rows.laid_internal_strconv_uint64pow10) :: _) W := h
  rw [pow_data] at h1
  exact Lib.tabIs_of_head g_pow t_pow Tryd.underlying143 Tryd.underlying22 c_u64 c_pow h1.tail.tail
/-- The door's own heap meets the list. -/
theorem door_met (os : Os) (args : Array Value) : laidMetH Tryd.prog lst ((World.doorLaid Tryd.prog 2000 os).forCall (fun _ _ => 0) ⟨#[], args, []⟩).memory :=
  laidMetH_of_parts3 (fuel := 8) (laidMet_of_run' 8 (by kernel_rfl) (by kernel_rfl)) (by kernel_rfl) (by kernel_rfl)
end Go.Proofs.YtbkoepghmcdnhaaDoor
/- Layer 15 (victim): an owner's pods that aren't failed, and those that are (Live). -/
namespace Go.Proofs.YtbkoepghmcdnhaaDoor.Vi
open Go.RowKit Go.Shelf Go.Lib Go.Sort Go.Deep
open Go.Joins (cell_of_block unfrozen_of_block block_setCell)
open Go.Proofs.YtbkoepghmcdnhaaDoor.Ow
set_option linter.unusedVariables false
set_option linter.unusedSimpArgs false
set_option maxRecDepth 20000

theorem enters_l1 : ∀ args w, (callFunc 27 args).run Tryd.prog w = .ok (.enter 27 args) w := enters_of Tryd.func27 (by kernel_rfl) rfl
theorem enters_l2 : ∀ args w, (callFunc 29 args).run Tryd.prog w = .ok (.enter 29 args) w := enters_of Tryd.func29 (by kernel_rfl) rfl
set_option maxHeartbeats 4000000 in
theorem live_any (W w : World) (low : Below W.heap.size W w) (q : Option Addr) (c : Nat) (l : List Obv) (s : ByteArray) (hr : RowR 47 encOb W q l) (hok : ∀ x ∈ l, ObjV W x.1.1 x.2 ∧ NilO x.1.1 ∧ FitO x.2) (hlen : l.length ≤ 1000000) :
    Calls Tryd.prog 17 #[.slice q l.length c, .string s] w fun e w' => (∃ q1 c1 l1 q2 c2 l2, e = .returned (.tuple #[.slice q1 l1.length c1, .slice q2 l2.length c2]) ∧ Row w.heap.size w' (.slice q1 l1.length c1) l1 ∧ Row w.heap.size w' (.slice q2 l2.length c2) l2 ∧
      l1.map (·.2) = (l.map (·.2)).filter (isLive s) ∧ l2.map (·.2) = (l.map (·.2)).filter (isFailed s)) ∧ Below w.heap.size w w' := by
  obtain ⟨C, hC⟩ : ∃ C, C = w.heap.size := ⟨_, rfl⟩
  obtain ⟨w1, hw1⟩ : ∃ W, W = w.alloc (.cells #[.string s] 9) := ⟨_, rfl⟩
  have G1 : Gr w w1 := hw1 ▸ (Gr.refl w).alloc _
  have b1 : w1.heap[C]? = some (.cells #[.string s] 9 (0, 0)) := by rw [hw1, hC]; exact heap_alloc_new w _
  have ds : w1.cell? ⟨C, 0, none⟩ = some (.string s) := cell_of_block b1 0
  have low1 : Below W.heap.size W w1 := low.trans (G1.below.mono low.size)
  have lt1 : C < w1.heap.size := (Array.getElem?_eq_some_iff.1 b1).1
  have S1 := Lib.hid (sift_any W w1 w1.heap.size rfl low1 q c l hr hok hlen 27 #[.pointer (some ⟨C, 0, none⟩)] (isLive s) enters_l1 (fun ws X o b hv => live1_any ws X o C s hv ((World.cell?_of_block (a := ⟨C, 0, none⟩) (b.block C lt1)).trans ds)))
  have S2 : Hid (∀ w2, Below w1.heap.size w1 w2 → Calls Tryd.prog 26 #[.slice q l.length c, .func (.func 29) #[] #[.pointer (some ⟨C, 0, none⟩)]] w2 fun e w' => (∃ q' c' l', e = .returned (.slice q' l'.length c') ∧ Row w2.heap.size w' (.slice q' l'.length c') l' ∧ l'.map (·.2) = (l.map (·.2)).filter (isFailed s)) ∧ Below w2.heap.size w2 w') :=
    fun w2 b2 => sift_any W w2 w2.heap.size rfl (low1.trans (b2.mono low1.size)) q c l hr hok hlen 29 #[.pointer (some ⟨C, 0, none⟩)] (isFailed s) enters_l2 (fun ws X o b hv => live2_any ws X o C s hv ((World.cell?_of_block (a := ⟨C, 0, none⟩) ((b.block C (Nat.lt_of_lt_of_le lt1 b2.size)).trans (b2.block C lt1))).trans ds))
  have HW : Hid (w.alloc (.cells #[.string s] 9) = w1 ∧ w.heap.size = C) := ⟨hw1.symm, hC.symm⟩
  have HG := Lib.hid G1
  obtain ⟨n, hn⟩ : ∃ n, n = l.length := ⟨_, rfl⟩
  rw [← hn] at S1 S2 ⊢
  have hmf : ∀ (fn : Fn) (first cap : Array Value) (w : World), (Instr.makeFunc fn first cap).run Tryd.prog w = .ok (.func fn first cap) w := fun _ _ _ _ => rfl
  clear hC hw1 G1 b1 ds low1 lt1 hr hok hlen low hn
  go_enter Tryd.func17, Tryd.ntmps17
  go_upto_region 1 with fail
  rw [HW.out.1, HW.out.2]
  go_wp2_with fail
  refine S1.out.mono ?_
  rintro e w2 ⟨⟨q1, c1, l1, rfl, r1, e1⟩, b2⟩
  have CC := Lib.hid (S2.out w2 b2)
  have R1 := Lib.hid (And.intro r1 (And.intro e1 b2))
  obtain ⟨m1, hm1⟩ : ∃ n, n = l1.length := ⟨_, rfl⟩
  rw [← hm1]
  have HM1 : Hid (m1 = l1.length) := hm1
  clear r1 e1 b2 S1 S2 hm1
  go_wp2_with fail
  refine CC.out.mono ?_
  rintro e w3 ⟨⟨q2, c2, l2, rfl, r2, e2⟩, b3⟩
  have FIN : Hid ((∃ q1' c1' l1' q2' c2' l2', Ending.returned (.tuple #[.slice q1 m1 c1, .slice q2 l2.length c2]) = .returned (.tuple #[.slice q1' l1'.length c1', .slice q2' l2'.length c2']) ∧ Row w.heap.size w3 (.slice q1' l1'.length c1') l1' ∧ Row w.heap.size w3 (.slice q2' l2'.length c2') l2' ∧
      l1'.map (·.2) = (l.map (·.2)).filter (isLive s) ∧ l2'.map (·.2) = (l.map (·.2)).filter (isFailed s)) ∧ Below w.heap.size w w3) := by
    obtain ⟨r1, e1, b2⟩ := R1.out
    have z1 := HG.out.below.size
    have z2 := b2.size
    refine ⟨⟨q1, c1, l1, q2, c2, l2, by rw [HM1.out], ?_, ?_, e1, e2⟩, (HG.out.below.trans (b2.mono z1)).trans (b3.mono (Nat.le_trans z1 z2))⟩
    · have := r1.below b3
      exact ⟨own_mono this.own z1, this.firm⟩
    · exact ⟨own_mono r2.own (Nat.le_trans z1 z2), r2.firm⟩
  obtain ⟨m2, hm2⟩ : ∃ n, n = l2.length := ⟨_, rfl⟩
  rw [← hm2]
  rw [← hm2] at FIN
  clear r2 e2 b3 CC R1 hm2
  go_wp2
  go_ret2
  exact FIN.out
end Go.Proofs.YtbkoepghmcdnhaaDoor.Vi
/- Layer 15 (victim): a row of pods of the call's own sorted; all pods of a row, the first to go first (Order). -/
namespace Go.Proofs.YtbkoepghmcdnhaaDoor.Vi
open Go.RowKit Go.Shelf Go.Lib Go.Sort Go.Deep
open Go.Joins (cell_of_block unfrozen_of_block block_setCell)
open Go.Proofs.YtbkoepghmcdnhaaDoor.Ow
set_option linter.unusedVariables false
set_option linter.unusedSimpArgs false
set_option maxRecDepth 20000

theorem flat_K (l : List El) : flatK enc 47 l.toArray = (flat enc l).toArray := by
  refine ext_get! (by simp [flat_length enc_len]) fun t ht => ?_
  have ht' : t < l.length * 47 := by simpa using ht
  rw [get_flatK _ _ _ t (by simpa using ht')]
  have hlt : t / 47 < l.length := Nat.div_lt_of_lt_mul (by rw [Nat.mul_comm]; exact ht')
  have hm : t % 47 < 47 := Nat.mod_lt _ (by decide)
  obtain ⟨x, hx⟩ : ∃ x, l[t / 47]? = some x := ⟨l[t / 47], List.getElem?_eq_getElem hlt⟩
  have e2 : l.toArray[t / 47]! = x := by
    have hj := List.getElem?_eq_some_iff.1 hx
    rw [getElem!_pos _ _ (by simpa using hj.1)]
    simpa using hj.2
  have e3 := flat_at enc_len l (t / 47) (t % 47) x hx hm
  rw [show t / 47 * 47 + t % 47 = t by rw [Nat.mul_comm]; exact Nat.div_add_mod t 47] at e3
  have hlf : t < (flat enc l).length := by rw [flat_length enc_len]; exact ht'
  have hxl : t % 47 < (enc x).length := by rw [enc_len]; exact hm
  rw [e2, getElem!_pos (flat enc l).toArray t (by simpa using hlf), getElem!_pos (enc x) (t % 47) hxl]
  rw [List.getElem?_eq_getElem hlf, List.getElem?_eq_getElem hxl] at e3
  simpa using (Option.some.inj e3).symm
theorem holdsO {w : World} {N g c n : Nat} {l : List El} (h : w.ownsRow N OT 47 (.slice (some ⟨g, 0, none⟩) n c) n (flat enc l)) (hn : n = l.length) : HoldsK enc 47 w g 0 l.toArray ∧ g < w.heap.size ∧ N ≤ g := by
  subst hn
  obtain ⟨h0, h⟩ := h
  rcases h with ⟨e, _⟩ | ⟨g', c', cur, e, hb, hg, hc, hm, hsz, htk⟩
  · cases e
  · simp only [Value.slice.injEq, Option.some.injEq, Addr.mk.injEq, and_true, true_and] at e
    obtain ⟨rfl, rfl⟩ := e
    refine ⟨?_, (Array.getElem?_eq_some_iff.1 hg).1, hb⟩
    unfold HoldsK
    rw [flat_K]
    intro t ht
    have ht' : t < (flat enc l).length := by simpa using ht
    have e : cur.toList[t]? = some (flat enc l)[t] := by
      have h2 : (cur.toList.take (l.length * 47))[t]? = some (flat enc l)[t] := by rw [htk, List.getElem?_eq_getElem ht']
      rw [List.getElem?_take_of_lt (by rw [← flat_length enc_len]; exact ht')] at h2
      exact h2
    refine ⟨?_, by simp [World.frozen?, hg]⟩
    rw [Nat.zero_add, getElem!_pos _ _ (by simpa using ht')]
    simp only [World.cell?, hg, Option.isSome_none, Bool.false_eq_true, if_false]
    rw [← Array.getElem?_toList, e]
    simp
theorem grown_sorted {w W : World} {g off : Nat} {d : Array El} (h : SWK enc 47 w g off d W) : w.grownBy W (some g) := by
  obtain ⟨n, os, rfl⟩ := h
  refine ⟨rfl, rfl, rfl, by simp [sortWorldK, putRowK, putRow, mapBlock, Sort.ahead], fun k hk hm => ?_⟩
  unfold sortWorldK
  rw [heap_grow_old _ _ (by simp [putRowK, putRow, mapBlock, Sort.ahead]; omega)]
  have : g ≠ k := fun e => hm (by rw [e])
  simp [putRowK, putRow, mapBlock, Sort.ahead, Array.getElem?_modify, this]
theorem owns_sorted {w W : World} {N g c n : Nat} {l s : List El} (h : w.ownsRow N OT 47 (.slice (some ⟨g, 0, none⟩) n c) n (flat enc l)) (hn : n = l.length) (hs : s.length = l.length) (hw : SWK enc 47 w g 0 s.toArray W) : W.ownsRow N OT 47 (.slice (some ⟨g, 0, none⟩) n c) n (flat enc s) := by
  obtain ⟨h0, h⟩ := h
  refine ⟨by rw [flat_length enc_len, hs, hn], .inr ?_⟩
  rcases h with ⟨e, _⟩ | ⟨g', c', cur, e, hb, hg, hc, hm, hsz, htk⟩
  · cases e
  · simp only [Value.slice.injEq, Option.some.injEq, Addr.mk.injEq, and_true, true_and] at e
    obtain ⟨rfl, rfl⟩ := e
    obtain ⟨m, os, rfl⟩ := hw
    have hlt : g < w.heap.size := (Array.getElem?_eq_some_iff.1 hg).1
    refine ⟨g, c, putCells id 0 (flatK enc 47 s.toArray) cur, rfl, hb, ?_, hc, hm, by simp [putCells, hsz], ?_⟩
    · unfold sortWorldK
      rw [heap_grow_old _ _ (by simp [putRowK, putRow, mapBlock, Sort.ahead]; omega)]
      simp [putRowK, putRow, mapBlock, Sort.ahead, Array.getElem?_modify, hg, onCells]
    · rw [flat_K]
      have hL : (flat enc s).length = n * 47 := by rw [flat_length enc_len, hs, hn]
      have hc47 : n * 47 ≤ cur.size := by rw [hsz]; exact Nat.mul_le_mul_right _ hc
      apply List.ext_getElem?
      intro j
      by_cases hj : j < n * 47
      · rw [List.getElem?_take_of_lt hj, Array.getElem?_toList]
        have hj' : j < (flat enc s).length := by omega
        simp [putCells, hj', show j < cur.size by omega]
      · rw [List.getElem?_take_eq_none (by omega), List.getElem?_eq_none (by omega)]
set_option maxHeartbeats 2000000 in
theorem ins_none (fv : Value) (w : World) : Calls Tryd.prog 71 #[.slice none 0 0, .int .i64 0, .int .i64 0, fv] w fun e w' => e = .returned (.tuple #[]) ∧ w = w' := by
  go_enter Tryd.func71, Tryd.ntmps71
  go_wp2
  refine wp_loop_rounds 1 ?_
  rw [rounds_succ]
  go_wp2
  go_end0
  exact ⟨rfl, rfl⟩
set_option maxHeartbeats 2000000 in
theorem stab_none (fv : Value) (w : World) : Calls Tryd.prog 58 #[.slice none 0 0, .int .i64 0, fv] w fun e w' => e = .returned (.tuple #[]) ∧ w = w' := by
  have C := Lib.hid (fun W => ins_none fv W)
  go_enter Tryd.func58, Tryd.ntmps58
  go_wp2_with fail
  refine wp_loop_rounds 1 ?_
  rw [rounds_succ]
  go_wp2_with fail
  refine (C.out _).mono ?_
  rintro e w' ⟨rfl, rfl⟩
  go_wp2_with fail
  refine wp_loop_rounds 1 ?_
  rw [rounds_succ]
  go_wp2
  go_end0
  exact ⟨rfl, rfl⟩
set_option maxHeartbeats 2000000 in
theorem sort_none (fv : Value) (w : World) : Calls Tryd.prog 40 #[.slice none 0 0, fv] w fun e w' => e = .returned (.tuple #[]) ∧ w = w' := by
  have C := Lib.hid (fun W => stab_none fv W)
  go_enter Tryd.func40, Tryd.ntmps40
  go_wp2_with fail
  refine (C.out _).mono ?_
  rintro e w' ⟨rfl, rfl⟩
  go_wp2
  go_end0
  exact ⟨rfl, rfl⟩
/-- A row that is read as pods. -/
theorem els {l : List Obv} (h : ∀ x ∈ l, Fd x) : ∃ p : List El, p.map (·.1) = l := by
  induction l with
  | nil => exact ⟨[], rfl⟩
  | cons x r ih =>
    obtain ⟨p, hp⟩ := ih (fun y hy => h y (List.mem_cons_of_mem _ hy))
    exact ⟨⟨x, h x List.mem_cons_self⟩ :: p, by simp [hp]⟩
theorem flat_els (p : List El) : flat encOb (p.map (·.1)) = flat enc p := by
  unfold flat
  rw [List.flatMap_map]
  rfl
theorem fd_obj {w : World} {x : Obv} (h : ObjV w x.1.1 x.2) (hk : x.2.kind = 1) : Fd x := by
  obtain ⟨hsz, ⟨c0, c1, c2, hver⟩, hW, hP, hN, hG, hH⟩ := h
  exact ⟨by rw [c0, hk], c1, hP.2.2.1, hP.2.2.2.1⟩
theorem Firm.grown {v : Value} {w w' : World} {x : Obv} (h : Firm v w x) (g : w.grownBy w' v.ownBlock) : Firm v w' x := fun w'' g' =>
  h w'' ⟨g'.os.trans g.os, g'.tape.trans g.tape, g'.output.trans g.output, Nat.le_trans g.size g'.size, fun k hk hn => (g'.block k (Nat.lt_of_lt_of_le hk g.size) hn).trans (g.block k hk hn)⟩
theorem append_none (X : Value) : (#[X] ++ #[] : Array Value) = #[X] := by simp
theorem enters_pod : ∀ args w, (callFunc 37 args).run Tryd.prog w = .ok (.enter 37 args) w := enters_of Tryd.func37 (by kernel_rfl) rfl
/-- A row of pods of the call's own, sorted: the first to go first. -/
theorem sort_row (w : World) (N : Nat) (q : Option Addr) (c : Nat) (p : List El) (h : Row N w (.slice q p.length c) (p.map (·.1))) (hlen : p.length < 1000000) (hc : q = none → c = 0) :
    Calls Tryd.prog 40 #[.slice q p.length c, fvC] w fun e w' => e = .returned (.tuple #[]) ∧ (∃ s : List El, s.length = p.length ∧ Row N w' (.slice q p.length c) (s.map (·.1)) ∧ Sorted s ∧ Same1 p s) ∧ w.grownBy w' (Value.slice q p.length c).ownBlock := by
  obtain ⟨h1, h2⟩ := h
  rw [flat_els, List.length_map] at h1
  cases q with
  | none =>
    obtain rfl := hc rfl
    have e0 : p = [] := by
      rcases h1.2 with ⟨_, e⟩ | ⟨g, cap, cur, e, _⟩
      · exact List.eq_nil_of_length_eq_zero e
      · cases e
    subst e0
    refine (sort_none fvC w).mono ?_
    rintro e w' ⟨rfl, rfl⟩
    exact ⟨rfl, ⟨[], rfl, Row.nil _ _, Sorted.nil, Same1.refl _⟩, ⟨rfl, rfl, rfl, Nat.le_refl _, fun _ _ _ => rfl⟩⟩
  | some ad =>
    obtain ⟨g, rfl⟩ : ∃ g, ad = ⟨g, 0, none⟩ := by
      rcases h1.2 with ⟨e, _⟩ | ⟨g, cap, cur, e, _⟩
      · cases e
      · simp only [Value.slice.injEq, Option.some.injEq] at e
        exact ⟨g, e.1⟩
    obtain ⟨hH, hg, hN⟩ := holdsO h1 rfl
    refine (sortStable_any w g 0 c p hH hg hlen).mono ?_
    rintro e w' ⟨rfl, s, hs, ss, sm, sw⟩
    have gb : w.grownBy w' (Value.slice (some ⟨g, 0, none⟩) p.length c).ownBlock := grown_sorted sw
    refine ⟨rfl, ⟨s, hs, ⟨?_, fun x hx => ?_⟩, ss, sm⟩, gb⟩
    · rw [flat_els, List.length_map, hs]
      have := owns_sorted h1 rfl hs sw
      exact this
    · refine (h2 x ?_).grown gb
      obtain ⟨y, hy, rfl⟩ := List.mem_map.1 hx
      exact List.mem_map.2 ⟨y, sm.1.mem_iff.2 hy, rfl⟩
end Go.Proofs.YtbkoepghmcdnhaaDoor.Vi
