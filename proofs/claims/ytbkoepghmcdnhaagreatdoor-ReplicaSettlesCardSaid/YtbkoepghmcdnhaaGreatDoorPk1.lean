/- The library's contracts for strconv.Itoa and slices.Sort at texts, at this program's numbers. -/
import Derived.Shelf.LaysM
import Derived.Shelf.Strconv.Itoa3
import Derived.Shelf.Sort.Plain
import Derived.Test.YtbkoepghmcdnhaaGreatDoorProg
import Derived.Test.YtbkoepghmcdnhaaGreatDoorObN
import Derived.Lib.ItoaNum
import Derived.Lib.ItoaMem
import Derived.Test.YtbkoepghmcdnhaaGreatDoorRows
import Derived.ProofKit
import Derived.LaidMore
import Derived.OpenShut
import Derived.Lib.LaidTab
import Derived.Stop.LaidErr
import Derived.Stop.Joined
import Derived.MakeChecks
import Derived.Test.YtbkoepghmcdnhaaGreatDoorViC
import Derived.Test.YtbkoepghmcdnhaaGreatDoorSoOF
import Derived.Test.YtbkoepghmcdnhaaGreatDoorObOwn
import Derived.Maps.AppendAt
import Derived.Laws.AppendOwnNone
import Derived.Lib.AppendZeros
import Derived.Lib.SliceRun
import Derived.Lib.SmallJoins
import Derived.BigQuiet
import Derived.Shelf.Slices.In.SortNone
import Derived.Test.YtbkoepghmcdnhaaGreatDoorObRow
import Derived.Test.YtbkoepghmcdnhaaGreatDoorLoads
namespace Go.Proofs.YtbkoepghmcdnhaaGreatDoor
open Go.Shelf
def sh_laysM171_ren : Go.Shelf.Ren := ⟨fun | 171 => 66 | 243 => 96 | 246 => 127 | 283 => 146 | 284 => 147 | 285 => 148 | 286 => 149 | 129 => 79 | 317 => 157 | 318 => 158 | 319 => 159 | 320 => 160 | 337 => 164 | 338 => 165 | n => n, fun | 3 => 3 | 9 => 9 | 2 => 2 | 4 => 4 | 171 => 212 | 0 => 0 | 53 => 29 | 37 => 214 | 5 => 5 | 173 => 215 | 212 => 222 | 51 => 156 | 20 => 20 | 213 => 223 | 46 => 126 | 232 => 226 | 233 => 227 | n => n, fun | 17 => 1 | 18 => 2 | 19 => 3 | n => n⟩
theorem sh_laysM171 : Go.Proofs.LaysM.n171 Tryz.prog sh_laysM171_ren := {
  mixed := by kernel_rfl
  f129 := Tryz.func79.trans (congrArg some (by kernel_rfl))
  f171 := Tryz.func66.trans (congrArg some (by kernel_rfl))
  f243 := Tryz.func96.trans (congrArg some (by kernel_rfl))
  f246 := Tryz.func127.trans (congrArg some (by kernel_rfl))
  f283 := Tryz.func146.trans (congrArg some (by kernel_rfl))
  f284 := Tryz.func147.trans (congrArg some (by kernel_rfl))
  f285 := Tryz.func148.trans (congrArg some (by kernel_rfl))
  f286 := Tryz.func149.trans (congrArg some (by kernel_rfl))
  f317 := Tryz.func157.trans (congrArg some (by kernel_rfl))
  f318 := Tryz.func158.trans (congrArg some (by kernel_rfl))
  f319 := Tryz.func159.trans (congrArg some (by kernel_rfl))
  f320 := Tryz.func160.trans (congrArg some (by kernel_rfl))
  f337 := Tryz.func164.trans (congrArg some (by kernel_rfl))
  f338 := Tryz.func165.trans (congrArg some (by kernel_rfl))
  t0 := Tryz.underlying0
  a0 := Tryz.isAgg0
  z0 := Tryz.sizeOf0
  v0 := Tryz.zeroValue0
  t2 := Tryz.underlying2
  a2 := Tryz.isAgg2
  z2 := Tryz.sizeOf2
  v2 := Tryz.zeroValue2
  t3 := Tryz.underlying3
  a3 := Tryz.isAgg3
  z3 := Tryz.sizeOf3
  v3 := Tryz.zeroValue3
  t4 := Tryz.underlying4
  a4 := Tryz.isAgg4
  z4 := Tryz.sizeOf4
  v4 := Tryz.zeroValue4
  t5 := Tryz.underlying5
  a5 := Tryz.isAgg5
  z5 := Tryz.sizeOf5
  v5 := Tryz.zeroValue5
  t9 := Tryz.underlying9
  a9 := Tryz.isAgg9
  z9 := Tryz.sizeOf9
  v9 := Tryz.zeroValue9
  t20 := Tryz.underlying20
  a20 := Tryz.isAgg20
  z20 := Tryz.sizeOf20
  v20 := Tryz.zeroValue20
  t37 := Tryz.underlying214
  a37 := Tryz.isAgg214
  z37 := Tryz.sizeOf214
  v37 := Tryz.zeroValue214
  t46 := Tryz.underlying126
  a46 := Tryz.isAgg126
  z46 := Tryz.sizeOf126
  v46 := Tryz.zeroValue126
  t51 := Tryz.underlying156
  a51 := Tryz.isAgg156
  z51 := Tryz.sizeOf156
  v51 := Tryz.zeroValue156
  t53 := Tryz.underlying29
  a53 := Tryz.isAgg29
  z53 := Tryz.sizeOf29
  v53 := Tryz.zeroValue29
  t171 := Tryz.underlying212
  a171 := Tryz.isAgg212
  z171 := Tryz.sizeOf212
  v171 := Tryz.zeroValue212
  t173 := Tryz.underlying215
  a173 := Tryz.isAgg215
  z173 := Tryz.sizeOf215
  v173 := Tryz.zeroValue215
  t212 := Tryz.underlying222
  a212 := Tryz.isAgg222
  z212 := Tryz.sizeOf222
  v212 := Tryz.zeroValue222
  t213 := Tryz.underlying223
  a213 := Tryz.isAgg223
  z213 := Tryz.sizeOf223
  t232 := Tryz.underlying226
  a232 := Tryz.isAgg226
  z232 := Tryz.sizeOf226
  v232 := Tryz.zeroValue226
  t233 := Tryz.underlying227
  a233 := Tryz.isAgg227
  z233 := Tryz.sizeOf227
  v233 := Tryz.zeroValue227
  g17 := by kernel_rfl
  g18 := by kernel_rfl
  g19 := by kernel_rfl
  i0 := by kernel_rfl
  i2 := by kernel_rfl
  i3 := by kernel_rfl
  i4 := by kernel_rfl
  i5 := by kernel_rfl
  i9 := by kernel_rfl
  i20 := by kernel_rfl
  i37 := by kernel_rfl
  i46 := by kernel_rfl
  i51 := by kernel_rfl
  i53 := by kernel_rfl
  i171 := by kernel_rfl
  i173 := by kernel_rfl
  i212 := by kernel_rfl
  i232 := by kernel_rfl
  i233 := by kernel_rfl
  m17 := by kernel_rfl
  m18 := by kernel_rfl
  m19 := by kernel_rfl }
open Go.RowKit Go.Sort Go.Lib in
theorem sh_strconv_Itoa (n : Int) (h0 : -9223372036854775808 ≤ n) (h1 : n ≤ 9223372036854775807) (w : World) (htab : Lib.TabIs Tryz.prog w "internal/strconv.uint64pow10" .u64 Lib.pow10Tab) :
    Calls Tryz.prog 66 #[.int .i64 n] w fun e w' => e = .returned (.string ⟨(Lib.itoa n).toArray⟩) ∧ ∃ k os, w' = grow (w.drewN k) os := Any.strconv_Itoa sh_laysM171 n h0 h1 w htab
def sh_lays190_ren : Go.Shelf.Ren := ⟨fun | 190 => 49 | 125 => 52 | 258 => 67 | 128 => 78 | 129 => 79 | 302 => 97 | 303 => 98 | 304 => 99 | 305 => 100 | 306 => 101 | 307 => 102 | 308 => 103 | 309 => 104 | 310 => 105 | 333 => 128 | 329 => 112 | 330 => 113 | 334 => 129 | 335 => 130 | 336 => 131 | 344 => 150 | n => n, fun | 31 => 64 | 9 => 9 | 3 => 3 | 46 => 126 | 0 => 0 | 51 => 156 | 53 => 29 | 4 => 4 | 183 => 149 | 182 => 148 | 131 => 153 | 5 => 5 | 218 => 183 | 222 => 186 | 228 => 202 | 229 => 203 | n => n, fun | n => n⟩
theorem sh_lays190 : Go.Proofs.Lays.n190 Tryz.prog sh_lays190_ren := {
  mixed := by kernel_rfl
  f125 := Tryz.func52.trans (congrArg some (by kernel_rfl))
  f128 := Tryz.func78.trans (congrArg some (by kernel_rfl))
  f129 := Tryz.func79.trans (congrArg some (by kernel_rfl))
  f190 := Tryz.func49.trans (congrArg some (by kernel_rfl))
  f258 := Tryz.func67.trans (congrArg some (by kernel_rfl))
  f302 := Tryz.func97.trans (congrArg some (by kernel_rfl))
  f303 := Tryz.func98.trans (congrArg some (by kernel_rfl))
  f304 := Tryz.func99.trans (congrArg some (by kernel_rfl))
  f305 := Tryz.func100.trans (congrArg some (by kernel_rfl))
  f306 := Tryz.func101.trans (congrArg some (by kernel_rfl))
  f307 := Tryz.func102.trans (congrArg some (by kernel_rfl))
  f308 := Tryz.func103.trans (congrArg some (by kernel_rfl))
  f309 := Tryz.func104.trans (congrArg some (by kernel_rfl))
  f310 := Tryz.func105.trans (congrArg some (by kernel_rfl))
  f329 := Tryz.func112.trans (congrArg some (by kernel_rfl))
  f330 := Tryz.func113.trans (congrArg some (by kernel_rfl))
  f333 := Tryz.func128.trans (congrArg some (by kernel_rfl))
  f334 := Tryz.func129.trans (congrArg some (by kernel_rfl))
  f335 := Tryz.func130.trans (congrArg some (by kernel_rfl))
  f336 := Tryz.func131.trans (congrArg some (by kernel_rfl))
  f344 := Tryz.func150.trans (congrArg some (by kernel_rfl))
  t0 := Tryz.underlying0
  a0 := Tryz.isAgg0
  z0 := Tryz.sizeOf0
  v0 := Tryz.zeroValue0
  t3 := Tryz.underlying3
  a3 := Tryz.isAgg3
  z3 := Tryz.sizeOf3
  v3 := Tryz.zeroValue3
  t4 := Tryz.underlying4
  a4 := Tryz.isAgg4
  z4 := Tryz.sizeOf4
  v4 := Tryz.zeroValue4
  t5 := Tryz.underlying5
  a5 := Tryz.isAgg5
  z5 := Tryz.sizeOf5
  v5 := Tryz.zeroValue5
  t9 := Tryz.underlying9
  a9 := Tryz.isAgg9
  z9 := Tryz.sizeOf9
  v9 := Tryz.zeroValue9
  t31 := Tryz.underlying64
  a31 := Tryz.isAgg64
  z31 := Tryz.sizeOf64
  v31 := Tryz.zeroValue64
  t46 := Tryz.underlying126
  a46 := Tryz.isAgg126
  z46 := Tryz.sizeOf126
  v46 := Tryz.zeroValue126
  t51 := Tryz.underlying156
  a51 := Tryz.isAgg156
  z51 := Tryz.sizeOf156
  v51 := Tryz.zeroValue156
  t53 := Tryz.underlying29
  a53 := Tryz.isAgg29
  z53 := Tryz.sizeOf29
  v53 := Tryz.zeroValue29
  t131 := Tryz.underlying153
  a131 := Tryz.isAgg153
  z131 := Tryz.sizeOf153
  v131 := Tryz.zeroValue153
  t182 := Tryz.underlying148
  a182 := Tryz.isAgg148
  z182 := Tryz.sizeOf148
  v182 := Tryz.zeroValue148
  t183 := Tryz.underlying149
  a183 := Tryz.isAgg149
  z183 := Tryz.sizeOf149
  v183 := Tryz.zeroValue149
  t218 := Tryz.underlying183
  a218 := Tryz.isAgg183
  z218 := Tryz.sizeOf183
  v218 := Tryz.zeroValue183
  t222 := Tryz.underlying186
  a222 := Tryz.isAgg186
  z222 := Tryz.sizeOf186
  v222 := Tryz.zeroValue186
  t228 := Tryz.underlying202
  a228 := Tryz.isAgg202
  z228 := Tryz.sizeOf202
  v228 := Tryz.zeroValue202
  t229 := Tryz.underlying203
  a229 := Tryz.isAgg203
  z229 := Tryz.sizeOf203
  v229 := Tryz.zeroValue203 }
open Go.Sort Go.RowKit in
theorem sh_slices_Sort_string (blk off cap : Nat) (ss : List (List UInt8)) (w : World) (hH : Holds encStr w blk off ss.toArray) (hblk : blk < w.heap.size) (hsz : ss.length < 4611686018427387904) :
    Calls Tryz.prog 49 #[.slice (some ⟨blk, off, none⟩) ss.length cap] w fun e w' =>
      e = .returned (.tuple #[]) ∧ ∃ n os, w' = grow (putRow encStr (Sort.ahead w n) blk off (ss.mergeSort fun x y => decide (x ≤ y)).toArray) os := Any.slices_Sort_string sh_lays190 blk off cap ss w hH hblk hsz
end Go.Proofs.YtbkoepghmcdnhaaGreatDoor
/- Layer 16 (replica): the n-th pod's name (pods.Name). -/
namespace Go.Proofs.YtbkoepghmcdnhaaGreatDoor.Rp
open Go.RowKit Go.Shelf Go.Lib Go.Sort
set_option linter.unusedVariables false
set_option linter.unusedSimpArgs false
set_option maxRecDepth 20000

/-- Four digits. -/
def dg4 (n : Nat) : List UInt8 := [UInt8.ofNat (48 + n / 1000), UInt8.ofNat (48 + n / 100 % 10), UInt8.ofNat (48 + n / 10 % 10), UInt8.ofNat (48 + n % 10)]
theorem u8_inj {a b : Nat} (ha : a < 256) (hb : b < 256) (h : UInt8.ofNat a = UInt8.ofNat b) : a = b := by
  have := congrArg UInt8.toNat h
  rw [UInt8.toNat_ofNat', UInt8.toNat_ofNat', Nat.mod_eq_of_lt (by simpa using ha), Nat.mod_eq_of_lt (by simpa using hb)] at this
  exact this
theorem dg4_inj {n m : Nat} (hn : n < 10000) (hm : m < 10000) (h : dg4 n = dg4 m) : n = m := by
  unfold dg4 at h
  simp only [List.cons.injEq, and_true] at h
  obtain ⟨h1, h2, h3, h4⟩ := h
  have e1 := u8_inj (by omega) (by omega) h1
  have e2 := u8_inj (by omega) (by omega) h2
  have e3 := u8_inj (by omega) (by omega) h3
  have e4 := u8_inj (by omega) (by omega) h4
  omega
theorem pad4 {n : Nat} (hn : n < 10000) : ([48, 48, 48, 48] : List UInt8).drop (decDigits n).length ++ decDigits n = dg4 n ∧ 1 ≤ (decDigits n).length ∧ (decDigits n).length ≤ 4 := by
  unfold dg4
  by_cases h1 : n < 10
  · have a : n / 1000 = 0 := by omega
    have b : n / 100 = 0 := by omega
    have c : n / 10 = 0 := by omega
    have d : n % 10 = n := by omega
    rw [decDigits_one h1, a, b, c, d]
    simp
  · by_cases h2 : n < 100
    · have a : n / 1000 = 0 := by omega
      have b : n / 100 = 0 := by omega
      have c : n / 10 % 10 = n / 10 := by omega
      rw [decDigits_two h1 h2, a, b, c]
      simp
    · have e3 : decDigits n = decDigits (n / 10) ++ [UInt8.ofNat (48 + n % 10)] := by rw [decDigits, dif_neg h1]
      by_cases h3 : n < 1000
      · rw [e3, decDigits_two (by omega) (by omega)]
        have a : n / 1000 = 0 := by omega
        have b : n / 100 % 10 = n / 10 / 10 := by omega
        rw [a, b]
        simp
      · have e4 : decDigits (n / 10) = decDigits (n / 10 / 10) ++ [UInt8.ofNat (48 + n / 10 % 10)] := by rw [decDigits, dif_neg (by omega)]
        rw [e3, e4, decDigits_two (by omega) (by omega)]
        have a : n / 1000 = n / 10 / 10 / 10 := by omega
        have b : n / 100 % 10 = n / 10 / 10 % 10 := by omega
        rw [a, b]
        simp
/-- The n-th pod's name. -/
def pname (s : ByteArray) (n : Nat) : ByteArray := ⟨(s.data.toList ++ 45 :: dg4 n).toArray⟩
theorem pname_bytes (s : ByteArray) (n : Nat) : (pname s n).data.toList = s.data.toList ++ 45 :: dg4 n := by simp [pname]
theorem pname_size (s : ByteArray) (n : Nat) : (pname s n).size = s.size + 5 := by
  have h : (pname s n).size = (pname s n).data.toList.length := Array.length_toList.symm
  have e : s.data.toList.length = s.size := Array.length_toList
  rw [h, pname_bytes, List.length_append, e]
  rfl
theorem pname_inj {s : ByteArray} {n m : Nat} (hn : n < 10000) (hm : m < 10000) (h : pname s n = pname s m) : n = m := by
  have e := congrArg (fun b : ByteArray => b.data.toList) h
  simp only [pname_bytes] at e
  have e2 := List.append_cancel_left e
  exact dg4_inj hn hm (List.cons.inj e2).2
/-- May an owner's pods be named after it? -/
def okNm (s : ByteArray) : Bool := nameB s && decide (s.size ≤ 27)
theorem dg_low {d : Nat} (h : d < 10) : lowB (UInt8.ofNat (48 + d)).toNat = true := by
  rw [UInt8.toNat_ofNat', Nat.mod_eq_of_lt (by omega)]
  simp [lowB]
  omega
theorem pname_name {s : ByteArray} {n : Nat} (h : okNm s = true) (hn : n < 10000) : nameB (pname s n) = true := by
  unfold okNm at h
  rw [Bool.and_eq_true, decide_eq_true_eq] at h
  obtain ⟨h1, h2⟩ := h
  unfold nameB at h1
  rw [Bool.and_eq_true, Bool.and_eq_true, decide_eq_true_eq, decide_eq_true_eq, List.all_eq_true] at h1
  obtain ⟨⟨h3, h4⟩, h5⟩ := h1
  have sz := pname_size s n
  refine name_ok (by omega) (by omega) (fun i hi => ?_)
  have hat : ∀ k : Nat, byAt (pname s n) k = ((s.data.toList ++ 45 :: dg4 n)[k]?.getD 0).toNat := fun k => by
    unfold byAt
    rw [← pname_bytes, Array.getD_eq_getD_getElem?, Array.getElem?_toList]
  have hss : s.data.toList.length = s.size := Array.length_toList
  by_cases hlt : i < s.size
  · have e : byAt (pname s n) i = byAt s i := by
      rw [hat, List.getElem?_append_left (by omega)]
      unfold byAt
      rw [Array.getD_eq_getD_getElem?, Array.getElem?_toList]
    have := h5 i (List.mem_range.2 hlt)
    unfold okAt at this ⊢
    rw [e]
    rw [Bool.or_eq_true] at this ⊢
    rcases this with t | t
    · exact .inl t
    · refine .inr ?_
      rw [Bool.and_eq_true, Bool.and_eq_true, decide_eq_true_eq, decide_eq_true_eq] at t
      simp only [decide_eq_true_eq] at t
      rw [t.1.1, decide_eq_true t.1.2, decide_eq_true (show i ≠ (pname s n).size - 1 by omega)]
      rfl
  · have e : byAt (pname s n) i = (((45 :: dg4 n)[i - s.size]?).getD 0).toNat := by
      rw [hat, List.getElem?_append_right (by omega), hss]
    obtain ⟨j, hj⟩ : ∃ j, j = i - s.size := ⟨_, rfl⟩
    have hj5 : j < 5 := by omega
    rw [← hj] at e
    unfold okAt
    rw [e]
    rw [Bool.or_eq_true]
    match j, hj5 with
    | 0, _ =>
      refine .inr ?_
      have a : i ≠ 0 := by omega
      have b : i ≠ (pname s n).size - 1 := by omega
      simp [a, b]
    | 1, _ => exact .inl (dg_low (d := n / 1000) (by omega))
    | 2, _ => exact .inl (dg_low (d := n / 100 % 10) (by omega))
    | 3, _ => exact .inl (dg_low (d := n / 10 % 10) (by omega))
    | 4, _ => exact .inl (dg_low (d := n % 10) (by omega))
theorem pname_long {s : ByteArray} {n : Nat} (h : 27 < s.size) : nameB (pname s n) = false := name_long (by rw [pname_size]; omega)

/-- The library's table of powers is as it was laid. -/
def Tab (w : World) : Prop := Lib.TabIs Tryz.prog w "internal/strconv.uint64pow10" .u64 Lib.pow10Tab
theorem below_grows (w : World) (k : Nat) (os : Array Obj) : Below w.heap.size w (grow (w.drewN k) os) := by
  refine ⟨rfl, rfl, rfl, by simp [grow, World.drewN], fun i hi => ?_⟩
  show (w.heap ++ os)[i]? = _
  rw [Array.getElem?_append_left hi]
theorem itoa_nat (n : Nat) (w : World) (hn : n < 10000) (hT : Tab w) :
    Calls Tryz.prog 66 #[.int .i64 (n : Int)] w fun e w' => (∃ s : ByteArray, e = .returned (.string s) ∧ s.data.toList = decDigits n) ∧ Below w.heap.size w w' := by
  refine (sh_strconv_Itoa (n : Int) (by omega) (by omega) w hT).mono ?_
  rintro e w' ⟨rfl, k, os, rfl⟩
  exact ⟨⟨_, rfl, by simp [Lib.itoa_nonneg]⟩, below_grows _ _ _⟩
theorem pod_far (w : World) (s : ByteArray) (n : Nat) (h : 9999 < n) : Calls Tryz.prog 47 #[.string s, .int .i64 (n : Int)] w fun e w' => e = .returned (.tuple #[.string ⟨#[]⟩, .int .i64 1]) ∧ Below w.heap.size w w' := by
  have t1 : decide ((n : Int) < 0) = false := decide_eq_false (by omega)
  have t2 : decide ((n : Int) > 9999) = true := decide_eq_true (by omega)
  go_enter Tryz.func47, Tryz.ntmps47
  go_wp2
  go_ret2
  exact ⟨rfl, Below.refl _ _⟩
theorem pod_odd (w : World) (s : ByteArray) (n : Nat) (hn : n < 10000) (hs : s.size ≤ 9223372036854775807) (h : nameB s = false) : Calls Tryz.prog 47 #[.string s, .int .i64 (n : Int)] w fun e w' => e = .returned (.tuple #[.string ⟨#[]⟩, .int .i64 6]) ∧ Below w.heap.size w w' := by
  have C := Lib.hid (name_any w s hs)
  rw [h] at C
  have t1 : decide ((n : Int) < 0) = false := decide_eq_false (by omega)
  have t2 : decide ((n : Int) > 9999) = false := decide_eq_false (by omega)
  go_enter Tryz.func47, Tryz.ntmps47
  go_wp2_with fail
  refine C.out.mono ?_
  rintro e w1 ⟨rfl, rfl⟩
  go_wp2
  go_ret2
  exact ⟨rfl, Below.refl _ _⟩
set_option maxHeartbeats 1000000 in
theorem pod_name (w : World) (s : ByteArray) (n : Nat) (b : Bool) (V : Value) (hV : (b = true → V = .tuple #[.string (pname s n), .int .i64 0]) ∧ (b = false → V = .tuple #[.string ⟨#[]⟩, .int .i64 6])) (hn : n < 10000) (h1 : nameB s = true) (hb : nameB (pname s n) = b) (hT : Tab w) : Calls Tryz.prog 47 #[.string s, .int .i64 (n : Int)] w fun e w' => e = .returned V ∧ Below w.heap.size w w' := by
  have HV := Lib.hid hV
  clear hV
  have hs : s.size ≤ 32 := by
    unfold nameB at h1
    rw [Bool.and_eq_true, Bool.and_eq_true, decide_eq_true_eq, decide_eq_true_eq] at h1
    exact h1.1.2
  have C1 := Lib.hid (name_any w s (by omega))
  rw [h1] at C1
  have CI := Lib.hid (itoa_nat n w hn hT)
  have C2 := Lib.hid (fun w => name_any w (pname s n) (by rw [pname_size]; omega))
  rw [hb] at C2
  have P4 := Lib.hid (pad4 hn)
  have t1 : decide ((n : Int) < 0) = false := decide_eq_false (by omega)
  have t2 : decide ((n : Int) > 9999) = false := decide_eq_false (by omega)
  clear h1 hb hT hn
  go_enter Tryz.func47, Tryz.ntmps47
  go_wp2_with fail
  refine C1.out.mono ?_
  rintro e w1 ⟨rfl, rfl⟩
  go_wp2_with fail
  refine CI.out.mono ?_
  rintro e w1 ⟨⟨d, rfl, hd⟩, b1⟩
  have HD := Lib.hid hd
  have hd1 : 1 ≤ d.size ∧ d.size ≤ 4 := by
    have e : d.size = d.data.toList.length := Array.length_toList.symm
    rw [e, hd]
    exact ⟨P4.out.2.1, P4.out.2.2⟩
  obtain ⟨dl, dh⟩ := hd1
  have B1 := Lib.hid b1
  have EQ : Hid (s ++ { data := #[45] } ++ ({ data := #[48, 48, 48, 48] } : ByteArray).extract d.size 4 ++ d = pname s n) := by
    show _ = _
    have e1 : ∀ a b : ByteArray, a.data.toList = b.data.toList → a = b := fun a b h => by
      cases a
      cases b
      simp only at h
      congr 1
      exact Array.ext' h
    refine e1 _ _ ?_
    rw [pname_bytes, ← P4.out.1, ← hd, ← show d.size = d.data.toList.length from Array.length_toList.symm]
    have h4 : d.size = 1 ∨ d.size = 2 ∨ d.size = 3 ∨ d.size = 4 := by omega
    rcases h4 with h | h | h | h <;> rw [h] <;> simp <;> rfl
  clear hd b1 C1 CI P4
  go_wp2_with fail
  rw [EQ.out]
  refine (C2.out _).mono ?_
  rintro e w2 ⟨rfl, rfl⟩
  obtain ⟨t, ht⟩ : ∃ t, t = pname s n := ⟨_, rfl⟩
  rw [← ht] at EQ HV
  rw [← ht]
  cases b with
  | true =>
    have HV2 := Lib.hid (HV.out.1 rfl)
    clear C2 EQ ht HD HV
    go_wp2
    go_ret2
    exact ⟨by rw [HV2.out]; rfl, B1.out⟩
  | false =>
    have HV2 := Lib.hid (HV.out.2 rfl)
    clear C2 EQ ht HD HV
    go_wp2
    go_ret2
    exact ⟨by rw [HV2.out]; rfl, B1.out⟩
/-- The n-th pod's name, of whatever owner: it, or that there is none. -/
def podV (s : ByteArray) (n : Nat) : Value := if okNm s = true then .tuple #[.string (pname s n), .int .i64 0] else .tuple #[.string ⟨#[]⟩, .int .i64 6]
theorem nth_name (w : World) (s : ByteArray) (n : Nat) (hn : n < 10000) (hs : s.size ≤ 9223372036854775807) (hT : Tab w) : Calls Tryz.prog 47 #[.string s, .int .i64 (n : Int)] w fun e w' => e = .returned (podV s n) ∧ Below w.heap.size w w' := by
  cases h1 : nameB s with
  | false =>
    have e : podV s n = .tuple #[.string ⟨#[]⟩, .int .i64 6] := by unfold podV okNm; rw [h1]; rfl
    rw [e]
    exact pod_odd w s n hn hs h1
  | true =>
    refine pod_name w s n _ (podV s n) ⟨fun hb => ?_, fun hb => ?_⟩ hn h1 rfl hT
    · have h27 : s.size ≤ 27 := by
        rcases Nat.lt_or_ge 27 s.size with h | h
        · rw [pname_long h] at hb; cases hb
        · exact h
      unfold podV okNm
      rw [h1, decide_eq_true h27]
      rfl
    · have h27 : ¬ s.size ≤ 27 := fun h27 => by
        rw [pname_name (by unfold okNm; rw [h1, decide_eq_true h27]; rfl) hn] at hb
        cases hb
      unfold podV okNm
      rw [decide_eq_false h27, Bool.and_false]
      rfl
end Go.Proofs.YtbkoepghmcdnhaaGreatDoor.Rp
/- Layer 16 (replica): what the laws' rows list, tied to what the walks ask: the library's table of powers. -/
namespace Go.Proofs.YtbkoepghmcdnhaaGreatDoor
open Go.ChangeShapes Go.WideShapes Go.ChangeAt Go.RowKit
open Go.Proofs.YtbkoepghmcdnhaaGreatDoor.Rp
set_option linter.unusedVariables false

theorem own : ownKnob Tryz.prog.godebug = none := by kernel_rfl
def lst : List (String × DataW Unit) := Rows.replicaSettlesRow.laid
theorem pow_data : (Rows.laid_internal_strconv_uint64pow10 : DataW Unit) = Lib.tabData .u64 Lib.pow10Tab := by kernel_rfl
theorem g_pow : Tryz.prog.globalNamed "internal/strconv.uint64pow10" = some 1 := by kernel_rfl
theorem t_pow : (Tryz.prog.globals[1]?).map (·.type) = some 222 := by kernel_rfl
theorem c_pow : Tryz.prog.cellsOf 222 = 20 := by kernel_rfl
theorem c_u64 : Tryz.prog.cellsOf 29 = 1 := by kernel_rfl
theorem of_laid {W : World} (h : laidMetH Tryz.prog lst W) : Tab W := by
  rw [MakeChecks.laidMetH_plain _ _ _ (by kernel_rfl)] at h
  have h1 : laidMet Tryz.prog (_ :: _ :: ("internal/strconv.uint64pow10", Rows.laid_internal_strconv_uint64pow10) :: _) W := h
  rw [pow_data] at h1
  exact Lib.tabIs_of_head g_pow t_pow Tryz.underlying222 Tryz.underlying29 c_u64 c_pow h1.tail.tail
/-- The door's own heap meets the list. -/
theorem door_met (os : Os) (args : Array Value) : laidMetH Tryz.prog lst ((World.doorLaid Tryz.prog 2000 os).forCall (fun _ _ => 0) ⟨#[], args, []⟩).memory :=
  laidMetH_of_parts3 (fuel := 8) (laidMet_of_run' 8 (by kernel_rfl) (by kernel_rfl)) (by kernel_rfl) (by kernel_rfl)
end Go.Proofs.YtbkoepghmcdnhaaGreatDoor
/- Layer 15 (victim): an owner's pods that aren't failed, and those that are (Live). -/
namespace Go.Proofs.YtbkoepghmcdnhaaGreatDoor.Vi
open Go.RowKit Go.Shelf Go.Lib Go.Sort Go.Deep
open Go.Joins (cell_of_block unfrozen_of_block block_setCell)
open Go.Proofs.YtbkoepghmcdnhaaGreatDoor.Ow
set_option linter.unusedVariables false
set_option linter.unusedSimpArgs false
set_option maxRecDepth 20000

theorem enters_l1 : ∀ args w, (callFunc 44 args).run Tryz.prog w = .ok (.enter 44 args) w := enters_of Tryz.func44 (by kernel_rfl) rfl
theorem enters_l2 : ∀ args w, (callFunc 46 args).run Tryz.prog w = .ok (.enter 46 args) w := enters_of Tryz.func46 (by kernel_rfl) rfl
set_option maxHeartbeats 4000000 in
theorem live_any (W w : World) (low : Below W.heap.size W w) (q : Option Addr) (c : Nat) (l : List Obv) (s : ByteArray) (hr : RowR 47 encOb W q l) (hok : ∀ x ∈ l, ObjV W x.1.1 x.2 ∧ NilO x.1.1 ∧ FitO x.2) (hlen : l.length ≤ 1000000) :
    Calls Tryz.prog 27 #[.slice q l.length c, .string s] w fun e w' => (∃ q1 c1 l1 q2 c2 l2, e = .returned (.tuple #[.slice q1 l1.length c1, .slice q2 l2.length c2]) ∧ Row w.heap.size w' (.slice q1 l1.length c1) l1 ∧ Row w.heap.size w' (.slice q2 l2.length c2) l2 ∧
      l1.map (·.2) = (l.map (·.2)).filter (isLive s) ∧ l2.map (·.2) = (l.map (·.2)).filter (isFailed s)) ∧ Below w.heap.size w w' := by
  obtain ⟨C, hC⟩ : ∃ C, C = w.heap.size := ⟨_, rfl⟩
  obtain ⟨w1, hw1⟩ : ∃ W, W = w.alloc (.cells #[.string s] 9) := ⟨_, rfl⟩
  have G1 : Gr w w1 := hw1 ▸ (Gr.refl w).alloc _
  have b1 : w1.heap[C]? = some (.cells #[.string s] 9 (0, 0)) := by rw [hw1, hC]; exact heap_alloc_new w _
  have ds : w1.cell? ⟨C, 0, none⟩ = some (.string s) := cell_of_block b1 0
  have low1 : Below W.heap.size W w1 := low.trans (G1.below.mono low.size)
  have lt1 : C < w1.heap.size := (Array.getElem?_eq_some_iff.1 b1).1
  have S1 := Lib.hid (sift_any W w1 w1.heap.size rfl low1 q c l hr hok hlen 44 #[.pointer (some ⟨C, 0, none⟩)] (isLive s) enters_l1 (fun ws X o b hv => live1_any ws X o C s hv ((World.cell?_of_block (a := ⟨C, 0, none⟩) (b.block C lt1)).trans ds)))
  have S2 : Hid (∀ w2, Below w1.heap.size w1 w2 → Calls Tryz.prog 43 #[.slice q l.length c, .func (.func 46) #[] #[.pointer (some ⟨C, 0, none⟩)]] w2 fun e w' => (∃ q' c' l', e = .returned (.slice q' l'.length c') ∧ Row w2.heap.size w' (.slice q' l'.length c') l' ∧ l'.map (·.2) = (l.map (·.2)).filter (isFailed s)) ∧ Below w2.heap.size w2 w') :=
    fun w2 b2 => sift_any W w2 w2.heap.size rfl (low1.trans (b2.mono low1.size)) q c l hr hok hlen 46 #[.pointer (some ⟨C, 0, none⟩)] (isFailed s) enters_l2 (fun ws X o b hv => live2_any ws X o C s hv ((World.cell?_of_block (a := ⟨C, 0, none⟩) ((b.block C (Nat.lt_of_lt_of_le lt1 b2.size)).trans (b2.block C lt1))).trans ds))
  have HW : Hid (w.alloc (.cells #[.string s] 9) = w1 ∧ w.heap.size = C) := ⟨hw1.symm, hC.symm⟩
  have HG := Lib.hid G1
  obtain ⟨n, hn⟩ : ∃ n, n = l.length := ⟨_, rfl⟩
  rw [← hn] at S1 S2 ⊢
  have hmf : ∀ (fn : Fn) (first cap : Array Value) (w : World), (Instr.makeFunc fn first cap).run Tryz.prog w = .ok (.func fn first cap) w := fun _ _ _ _ => rfl
  clear hC hw1 G1 b1 ds low1 lt1 hr hok hlen low hn
  go_enter Tryz.func27, Tryz.ntmps27
  go_upto_region 1 with fail
  rw [HW.out.1, HW.out.2]
  go_wp2_with fail
  refine S1.out.mono ?_
  rintro e w2 ⟨⟨q1, c1, l1, rfl, r1, e1⟩, b2⟩
  have CC := Lib.hid (S2.out w2 b2)
  have R1 := Lib.hid (And.intro r1 (And.intro e1 b2))
  obtain ⟨m1, hm1⟩ : ∃ n, n = l1.length := ⟨_, rfl⟩
  rw [← hm1]
  have HM1 : Hid (m1 = l1.length) := hm1
  clear r1 e1 b2 S1 S2 hm1
  go_wp2_with fail
  refine CC.out.mono ?_
  rintro e w3 ⟨⟨q2, c2, l2, rfl, r2, e2⟩, b3⟩
  have FIN : Hid ((∃ q1' c1' l1' q2' c2' l2', Ending.returned (.tuple #[.slice q1 m1 c1, .slice q2 l2.length c2]) = .returned (.tuple #[.slice q1' l1'.length c1', .slice q2' l2'.length c2']) ∧ Row w.heap.size w3 (.slice q1' l1'.length c1') l1' ∧ Row w.heap.size w3 (.slice q2' l2'.length c2') l2' ∧
      l1'.map (·.2) = (l.map (·.2)).filter (isLive s) ∧ l2'.map (·.2) = (l.map (·.2)).filter (isFailed s)) ∧ Below w.heap.size w w3) := by
    obtain ⟨r1, e1, b2⟩ := R1.out
    have z1 := HG.out.below.size
    have z2 := b2.size
    refine ⟨⟨q1, c1, l1, q2, c2, l2, by rw [HM1.out], ?_, ?_, e1, e2⟩, (HG.out.below.trans (b2.mono z1)).trans (b3.mono (Nat.le_trans z1 z2))⟩
    · have := r1.below b3
      exact ⟨own_mono this.own z1, this.firm⟩
    · exact ⟨own_mono r2.own (Nat.le_trans z1 z2), r2.firm⟩
  obtain ⟨m2, hm2⟩ : ∃ n, n = l2.length := ⟨_, rfl⟩
  rw [← hm2]
  rw [← hm2] at FIN
  clear r2 e2 b3 CC R1 hm2
  go_wp2
  go_ret2
  exact FIN.out
end Go.Proofs.YtbkoepghmcdnhaaGreatDoor.Vi
/- Layer 15 (victim): a row of pods of the call's own sorted; all pods of a row, the first to go first (Order). -/
namespace Go.Proofs.YtbkoepghmcdnhaaGreatDoor.Vi
open Go.RowKit Go.Shelf Go.Lib Go.Sort Go.Deep
open Go.Joins (cell_of_block unfrozen_of_block block_setCell)
open Go.Proofs.YtbkoepghmcdnhaaGreatDoor.Ow
set_option linter.unusedVariables false
set_option linter.unusedSimpArgs false
set_option maxRecDepth 20000

theorem flat_K (l : List El) : flatK enc 47 l.toArray = (flat enc l).toArray := by
  refine ext_get! (by simp [flat_length enc_len]) fun t ht => ?_
  have ht' : t < l.length * 47 := by simpa using ht
  rw [get_flatK _ _ _ t (by simpa using ht')]
  have hlt : t / 47 < l.length := Nat.div_lt_of_lt_mul (by rw [Nat.mul_comm]; exact ht')
  have hm : t % 47 < 47 := Nat.mod_lt _ (by decide)
  obtain ⟨x, hx⟩ : ∃ x, l[t / 47]? = some x := ⟨l[t / 47], List.getElem?_eq_getElem hlt⟩
  have e2 : l.toArray[t / 47]! = x := by
    have hj := List.getElem?_eq_some_iff.1 hx
    rw [getElem!_pos _ _ (by simpa using hj.1)]
    simpa using hj.2
  have e3 := flat_at enc_len l (t / 47) (t % 47) x hx hm
  rw [show t / 47 * 47 + t % 47 = t by rw [Nat.mul_comm]; exact Nat.div_add_mod t 47] at e3
  have hlf : t < (flat enc l).length := by rw [flat_length enc_len]; exact ht'
  have hxl : t % 47 < (enc x).length := by rw [enc_len]; exact hm
  rw [e2, getElem!_pos (flat enc l).toArray t (by simpa using hlf), getElem!_pos (enc x) (t % 47) hxl]
  rw [List.getElem?_eq_getElem hlf, List.getElem?_eq_getElem hxl] at e3
  simpa using (Option.some.inj e3).symm
theorem holdsO {w : World} {N g c n : Nat} {l : List El} (h : w.ownsRow N OT 47 (.slice (some ⟨g, 0, none⟩) n c) n (flat enc l)) (hn : n = l.length) : HoldsK enc 47 w g 0 l.toArray ∧ g < w.heap.size ∧ N ≤ g := by
  subst hn
  obtain ⟨h0, h⟩ := h
  rcases h with ⟨e, _⟩ | ⟨g', c', cur, e, hb, hg, hc, hm, hsz, htk⟩
  · cases e
  · simp only [Value.slice.injEq, Option.some.injEq, Addr.mk.injEq, and_true, true_and] at e
    obtain ⟨rfl, rfl⟩ := e
    refine ⟨?_, (Array.getElem?_eq_some_iff.1 hg).1, hb⟩
    unfold HoldsK
    rw [flat_K]
    intro t ht
    have ht' : t < (flat enc l).length := by simpa using ht
    have e : cur.toList[t]? = some (flat enc l)[t] := by
      have h2 : (cur.toList.take (l.length * 47))[t]? = some (flat enc l)[t] := by rw [htk, List.getElem?_eq_getElem ht']
      rw [List.getElem?_take_of_lt (by rw [← flat_length enc_len]; exact ht')] at h2
      exact h2
    refine ⟨?_, by simp [World.frozen?, hg]⟩
    rw [Nat.zero_add, getElem!_pos _ _ (by simpa using ht')]
    simp only [World.cell?, hg, Option.isSome_none, Bool.false_eq_true, if_false]
    rw [← Array.getElem?_toList, e]
    simp
theorem grown_sorted {w W : World} {g off : Nat} {d : Array El} (h : SWK enc 47 w g off d W) : w.grownBy W (some g) := by
  obtain ⟨n, os, rfl⟩ := h
  refine ⟨rfl, rfl, rfl, by simp [sortWorldK, putRowK, putRow, mapBlock, Sort.ahead], fun k hk hm => ?_⟩
  unfold sortWorldK
  rw [heap_grow_old _ _ (by simp [putRowK, putRow, mapBlock, Sort.ahead]; omega)]
  have : g ≠ k := fun e => hm (by rw [e])
  simp [putRowK, putRow, mapBlock, Sort.ahead, Array.getElem?_modify, this]
theorem owns_sorted {w W : World} {N g c n : Nat} {l s : List El} (h : w.ownsRow N OT 47 (.slice (some ⟨g, 0, none⟩) n c) n (flat enc l)) (hn : n = l.length) (hs : s.length = l.length) (hw : SWK enc 47 w g 0 s.toArray W) : W.ownsRow N OT 47 (.slice (some ⟨g, 0, none⟩) n c) n (flat enc s) := by
  obtain ⟨h0, h⟩ := h
  refine ⟨by rw [flat_length enc_len, hs, hn], .inr ?_⟩
  rcases h with ⟨e, _⟩ | ⟨g', c', cur, e, hb, hg, hc, hm, hsz, htk⟩
  · cases e
  · simp only [Value.slice.injEq, Option.some.injEq, Addr.mk.injEq, and_true, true_and] at e
    obtain ⟨rfl, rfl⟩ := e
    obtain ⟨m, os, rfl⟩ := hw
    have hlt : g < w.heap.size := (Array.getElem?_eq_some_iff.1 hg).1
    refine ⟨g, c, putCells id 0 (flatK enc 47 s.toArray) cur, rfl, hb, ?_, hc, hm, by simp [putCells, hsz], ?_⟩
    · unfold sortWorldK
      rw [heap_grow_old _ _ (by simp [putRowK, putRow, mapBlock, Sort.ahead]; omega)]
      simp [putRowK, putRow, mapBlock, Sort.ahead, Array.getElem?_modify, hg, onCells]
    · rw [flat_K]
      have hL : (flat enc s).length = n * 47 := by rw [flat_length enc_len, hs, hn]
      have hc47 : n * 47 ≤ cur.size := by rw [hsz]; exact Nat.mul_le_mul_right _ hc
      apply List.ext_getElem?
      intro j
      by_cases hj : j < n * 47
      · rw [List.getElem?_take_of_lt hj, Array.getElem?_toList]
        have hj' : j < (flat enc s).length := by omega
        simp [putCells, hj', show j < cur.size by omega]
      · rw [List.getElem?_take_eq_none (by omega), List.getElem?_eq_none (by omega)]
set_option maxHeartbeats 2000000 in
theorem ins_none (fv : Value) (w : World) : Calls Tryz.prog 70 #[.slice none 0 0, .int .i64 0, .int .i64 0, fv] w fun e w' => e = .returned (.tuple #[]) ∧ w = w' := by
  go_enter Tryz.func70, Tryz.ntmps70
  go_wp2
  refine wp_loop_rounds 1 ?_
  rw [rounds_succ]
  go_wp2
  go_end0
  exact ⟨rfl, rfl⟩
set_option maxHeartbeats 2000000 in
theorem stab_none (fv : Value) (w : World) : Calls Tryz.prog 106 #[.slice none 0 0, .int .i64 0, fv] w fun e w' => e = .returned (.tuple #[]) ∧ w = w' := by
  have C := Lib.hid (fun W => ins_none fv W)
  go_enter Tryz.func106, Tryz.ntmps106
  go_wp2_with fail
  refine wp_loop_rounds 1 ?_
  rw [rounds_succ]
  go_wp2_with fail
  refine (C.out _).mono ?_
  rintro e w' ⟨rfl, rfl⟩
  go_wp2_with fail
  refine wp_loop_rounds 1 ?_
  rw [rounds_succ]
  go_wp2
  go_end0
  exact ⟨rfl, rfl⟩
set_option maxHeartbeats 2000000 in
theorem sort_none (fv : Value) (w : World) : Calls Tryz.prog 68 #[.slice none 0 0, fv] w fun e w' => e = .returned (.tuple #[]) ∧ w = w' := by
  have C := Lib.hid (fun W => stab_none fv W)
  go_enter Tryz.func68, Tryz.ntmps68
  go_wp2_with fail
  refine (C.out _).mono ?_
  rintro e w' ⟨rfl, rfl⟩
  go_wp2
  go_end0
  exact ⟨rfl, rfl⟩
/-- A row that is read as pods. -/
theorem els {l : List Obv} (h : ∀ x ∈ l, Fd x) : ∃ p : List El, p.map (·.1) = l := by
  induction l with
  | nil => exact ⟨[], rfl⟩
  | cons x r ih =>
    obtain ⟨p, hp⟩ := ih (fun y hy => h y (List.mem_cons_of_mem _ hy))
    exact ⟨⟨x, h x List.mem_cons_self⟩ :: p, by simp [hp]⟩
theorem flat_els (p : List El) : flat encOb (p.map (·.1)) = flat enc p := by
  unfold flat
  rw [List.flatMap_map]
  rfl
theorem fd_obj {w : World} {x : Obv} (h : ObjV w x.1.1 x.2) (hk : x.2.kind = 1) : Fd x := by
  obtain ⟨hsz, ⟨c0, c1, c2, hver⟩, hW, hP, hN, hG, hH⟩ := h
  exact ⟨by rw [c0, hk], c1, hP.2.2.1, hP.2.2.2.1⟩
theorem Firm.grown {v : Value} {w w' : World} {x : Obv} (h : Firm v w x) (g : w.grownBy w' v.ownBlock) : Firm v w' x := fun w'' g' =>
  h w'' ⟨g'.os.trans g.os, g'.tape.trans g.tape, g'.output.trans g.output, Nat.le_trans g.size g'.size, fun k hk hn => (g'.block k (Nat.lt_of_lt_of_le hk g.size) hn).trans (g.block k hk hn)⟩
theorem append_none (X : Value) : (#[X] ++ #[] : Array Value) = #[X] := by simp
theorem enters_pod : ∀ args w, (callFunc 65 args).run Tryz.prog w = .ok (.enter 65 args) w := enters_of Tryz.func65 (by kernel_rfl) rfl
/-- A row of pods of the call's own, sorted: the first to go first. -/
theorem sort_row (w : World) (N : Nat) (q : Option Addr) (c : Nat) (p : List El) (h : Row N w (.slice q p.length c) (p.map (·.1))) (hlen : p.length < 1000000) (hc : q = none → c = 0) :
    Calls Tryz.prog 68 #[.slice q p.length c, fvC] w fun e w' => e = .returned (.tuple #[]) ∧ (∃ s : List El, s.length = p.length ∧ Row N w' (.slice q p.length c) (s.map (·.1)) ∧ Sorted s ∧ Same1 p s) ∧ w.grownBy w' (Value.slice q p.length c).ownBlock := by
  obtain ⟨h1, h2⟩ := h
  rw [flat_els, List.length_map] at h1
  cases q with
  | none =>
    obtain rfl := hc rfl
    have e0 : p = [] := by
      rcases h1.2 with ⟨_, e⟩ | ⟨g, cap, cur, e, _⟩
      · exact List.eq_nil_of_length_eq_zero e
      · cases e
    subst e0
    refine (sort_none fvC w).mono ?_
    rintro e w' ⟨rfl, rfl⟩
    exact ⟨rfl, ⟨[], rfl, Row.nil _ _, Sorted.nil, Same1.refl _⟩, ⟨rfl, rfl, rfl, Nat.le_refl _, fun _ _ _ => rfl⟩⟩
  | some ad =>
    obtain ⟨g, rfl⟩ : ∃ g, ad = ⟨g, 0, none⟩ := by
      rcases h1.2 with ⟨e, _⟩ | ⟨g, cap, cur, e, _⟩
      · cases e
      · simp only [Value.slice.injEq, Option.some.injEq] at e
        exact ⟨g, e.1⟩
    obtain ⟨hH, hg, hN⟩ := holdsO h1 rfl
    refine (sortStable_any w g 0 c p hH hg hlen).mono ?_
    rintro e w' ⟨rfl, s, hs, ss, sm, sw⟩
    have gb : w.grownBy w' (Value.slice (some ⟨g, 0, none⟩) p.length c).ownBlock := grown_sorted sw
    refine ⟨rfl, ⟨s, hs, ⟨?_, fun x hx => ?_⟩, ss, sm⟩, gb⟩
    · rw [flat_els, List.length_map, hs]
      have := owns_sorted h1 rfl hs sw
      exact this
    · refine (h2 x ?_).grown gb
      obtain ⟨y, hy, rfl⟩ := List.mem_map.1 hx
      exact List.mem_map.2 ⟨y, sm.1.mem_iff.2 hy, rfl⟩
end Go.Proofs.YtbkoepghmcdnhaaGreatDoor.Vi
/- Layer 15 (victim): all pods of a row, the first to go first (Order); the names of the first so many (Pick). -/
namespace Go.Proofs.YtbkoepghmcdnhaaGreatDoor.Vi
open Go.RowKit Go.Shelf Go.Lib Go.Sort Go.Deep
open Go.Joins (cell_of_block unfrozen_of_block block_setCell)
open Go.Proofs.YtbkoepghmcdnhaaGreatDoor.Ow
set_option linter.unusedVariables false
set_option linter.unusedSimpArgs false
set_option maxRecDepth 20000

set_option maxHeartbeats 4000000 in
theorem order_any (W w : World) (low : Below W.heap.size W w) (q : Option Addr) (c : Nat) (l : List Obv) (hr : RowR 47 encOb W q l) (hok : ∀ x ∈ l, ObjV W x.1.1 x.2 ∧ NilO x.1.1 ∧ FitO x.2) (hlen : l.length < 1000000) :
    Calls Tryz.prog 50 #[.slice q l.length c] w fun e w' => (∃ q' c' n, e = .returned (.slice q' n c') ∧ Hid (∃ p s : List El, n = s.length ∧ Row w.heap.size w' (.slice q' n c') (s.map (·.1)) ∧ Sorted s ∧ Same1 p s ∧ p.map (·.1.2) = (l.map (·.2)).filter isPod)) ∧ Below w.heap.size w w' := by
  have CS := Lib.hid (sift_any W w w.heap.size rfl low q c l hr hok (by omega) 65 #[] isPod enters_pod (fun ws X o b hv => by rw [append_none]; exact podis_any ws X o hv))
  have HN : Hid (((l.map (·.2)).filter isPod).length < 1000000) := by
    have := List.length_filter_le isPod (l.map (·.2))
    rw [List.length_map] at this
    show _ < _
    omega
  obtain ⟨n, hn⟩ : ∃ n, n = l.length := ⟨_, rfl⟩
  rw [← hn] at CS ⊢
  clear hr hok hlen low hn
  go_enter Tryz.func50, Tryz.ntmps50
  go_wp2_with fail
  refine CS.out.mono ?_
  rintro e w1 ⟨⟨q1, c1, l1, rfl, r1, e1⟩, b1⟩
  have fd : ∀ x ∈ l1, Fd x := fun x hx => by
    have hm : x.2 ∈ (l.map (·.2)).filter isPod := by rw [← e1]; exact List.mem_map.2 ⟨x, hx, rfl⟩
    have := (List.mem_filter.1 hm).2
    exact fd_obj (r1.firm x hx).obj.1 (of_decide_eq_true this)
  obtain ⟨p, rfl⟩ := els fd
  rw [List.length_map] at r1
  have hcc : q1 = none → c1 = 0 := by
    intro e
    subst e
    rcases r1.own.2 with ⟨e, _⟩ | ⟨g, cap, cur, e, _⟩
    · simp only [Value.slice.injEq] at e; exact e.2.2
    · cases e
  have hp : p.length < 1000000 := by
    have := congrArg List.length e1
    rw [List.length_map, List.length_map] at this
    have := HN.out
    omega
  have CO := Lib.hid (sort_row w1 w.heap.size q1 c1 p r1 hp hcc)
  have H1 := Lib.hid (And.intro b1 (And.intro e1 r1.own))
  obtain ⟨m, hm⟩ : ∃ m, m = p.length := ⟨_, rfl⟩
  rw [List.length_map]
  rw [← hm] at CO H1 ⊢
  have HM : Hid (m = p.length) := hm
  clear fd r1 hcc hp b1 e1 CS hm
  go_wp2_with fail
  refine CO.out.mono ?_
  rintro e w2 ⟨rfl, ⟨s, hs, rs, ss, sm⟩, gb⟩
  have FIN : Hid ((∃ q' c' n, Ending.returned (.slice q1 m c1) = .returned (.slice q' n c') ∧ Hid (∃ p s : List El, n = s.length ∧ Row w.heap.size w2 (.slice q' n c') (s.map (·.1)) ∧ Sorted s ∧ Same1 p s ∧ p.map (·.1.2) = (l.map (·.2)).filter isPod)) ∧ Below w.heap.size w w2) := by
    obtain ⟨b1, e1, o1⟩ := H1.out
    refine ⟨⟨q1, c1, m, rfl, p, s, by rw [hs, HM.out], rs, ss, sm, by rw [← e1, List.map_map]; rfl⟩, b1.grown gb b1.size (fun k e => (own_lt o1 e).1)⟩
  clear hs rs ss sm gb CO H1 HN HM
  go_wp2
  go_ret
  exact FIN.out

theorem inf_str : ∃ i : TypeInfo, Tryz.prog.info? 9 = some i ∧ i.zero = some (.string ⟨#[]⟩) ∧ i.size = 1 ∧ i.bytes = 16 := by
  have hinf : (Tryz.prog.info? 9).map (fun i => (i.zero, i.size, i.bytes)) = some (some (.string ⟨#[]⟩), 1, 16) := by kernel_rfl
  cases hi : Tryz.prog.info? 9 with
  | none => rw [hi] at hinf; cases hinf
  | some i =>
    rw [hi] at hinf
    simp only [Option.map_some, Option.some.injEq, Prod.mk.injEq] at hinf
    exact ⟨i, rfl, hinf.1, hinf.2.1, hinf.2.2⟩
def nmV (s : List El) : List Value := s.map fun x => .string x.1.2.name
/-- The row's object at a place. -/
theorem Row.at {N : Nat} {w : World} {q : Option Addr} {n c : Nat} {l : List Obv} (h : Row N w (.slice q n c) l) {j : Nat} {x : Obv} (hx : l[j]? = some x) : ∃ g, q = some ⟨g, 0, none⟩ ∧ N ≤ g ∧ g < w.heap.size ∧ w.rangeAt g (j * 47) (encOb x) := by
  rcases h.own.2 with ⟨e, e0⟩ | ⟨g, cap, cur, e, hb, hg, hc, hm, hsz, htk⟩
  · have := (List.getElem?_eq_some_iff.1 hx).1; omega
  · simp only [Value.slice.injEq] at e
    obtain ⟨rfl, _, _⟩ := e
    refine ⟨g, rfl, hb, (Array.getElem?_eq_some_iff.1 hg).1, fun t v hv => ?_⟩
    have ht : t < 47 := by rw [← lenOb x]; exact (List.getElem?_eq_some_iff.1 hv).1
    have e1 := flat_at lenOb l j t x hx ht
    rw [hv, ← htk] at e1
    have hj : j < l.length := (List.getElem?_eq_some_iff.1 hx).1
    have hlt : j * 47 + t < l.length * 47 := by omega
    rw [List.getElem?_take_of_lt hlt, Array.getElem?_toList] at e1
    rw [cell_of_block hg]
    exact e1
set_option maxHeartbeats 8000000 in
theorem pick_any (W w : World) (low : Below W.heap.size W w) (q : Option Addr) (c : Nat) (l : List Obv) (k : Int) (hr : RowR 47 encOb W q l) (hok : ∀ x ∈ l, ObjV W x.1.1 x.2 ∧ NilO x.1.1 ∧ FitO x.2) (hlen : l.length < 1000000) :
    Calls Tryz.prog 31 #[.slice q l.length c, .int .i64 k] w fun e w' => (∃ q' c' m, e = .returned (.slice q' m c') ∧ Hid (∃ p s : List El, Sorted s ∧ Same1 p s ∧ p.map (·.1.2) = (l.map (·.2)).filter isPod ∧ m = (s.take k.toNat).length ∧ w'.ownsRow w.heap.size 9 1 (.slice q' m c') m (nmV (s.take k.toNat)))) ∧ Below w.heap.size w w' := by
  obtain ⟨inf, i1, i2, i3, i4⟩ := inf_str
  have HI := Lib.hid (And.intro i1 (And.intro i2 (And.intro i3 i4)))
  have CS := Lib.hid (order_any W w low q c l hr hok hlen)
  obtain ⟨n, hn⟩ : ∃ n, n = l.length := ⟨_, rfl⟩
  rw [← hn] at CS hlen ⊢
  have HL := Lib.hid hn
  clear hr hok low hn i1 i2 i3 i4
  go_enter Tryz.func31, Tryz.ntmps31
  go_wp2_with fail
  refine CS.out.mono ?_
  rintro e w1 ⟨⟨q1, c1, m1, rfl, HP⟩, b1⟩
  obtain ⟨p, s, hm, rs, ss, sm, hp⟩ := HP.out
  have hms : m1 < 1000000 := by
    have h1 := congrArg List.length hp
    have h2 := List.length_filter_le isPod (l.map (·.2))
    rw [List.length_map] at h1 h2
    have h3 := sm.1.length_eq
    have := HL.out
    omega
  have HH := Lib.hid (And.intro hm (And.intro rs (And.intro ss (And.intro sm (And.intro hp b1)))))
  have z1 : w.heap.size ≤ w1.heap.size := b1.size
  clear hm rs ss sm hp b1 CS HP
  go_wp2_with fail
  go_loopg [5, 11] m1 (fun g1 v5 vi wr => ∃ j : Nat, vi = .int .i64 (j : Int) ∧ j ≤ m1 ∧ m1 - j ≤ g1 ∧ Hid (j ≤ k.toNat) ∧ (∃ q5 c5, v5 = .slice q5 j c5 ∧ Hid (wr.ownsRow w1.heap.size 9 1 (.slice q5 j c5) j (nmV (s.take j)))) ∧ Hid (Below w1.heap.size w1 wr))
  case atStart => exact ⟨0, rfl, Nat.zero_le _, by omega, Nat.zero_le _, ⟨none, 0, rfl, World.ownsRow_nil _ _ _ _⟩, Below.refl _ _⟩
  case round =>
    obtain ⟨j, rfl, h1, h2, hjk, ⟨q5, c5, rfl, HO⟩, HB⟩ := hrel
    by_cases hlt : j < m1
    · obtain ⟨hm, rs, ss, sm, hp, b1⟩ := HH.out
      obtain ⟨x, hx⟩ : ∃ x, s[j]? = some x := ⟨s[j]'(by omega), List.getElem?_eq_getElem (by omega)⟩
      have hx' : (s.map (·.1))[j]? = some x.1 := by rw [List.getElem?_map, hx]; rfl
      obtain ⟨g, rfl, hNg, hg1, hra⟩ := rs.at hx'
      have LD := Lib.hid (load_at (x := x.1) (rangeAt_below hra HB.out hg1))
      obtain ⟨X, hX⟩ : ∃ X, X = x.1.1.1 := ⟨_, rfl⟩
      rw [← hX] at LD
      have hXs : X.size = 47 := by rw [hX]; exact x.1.1.2.1
      have hXo : X.all (·.oneCell') = true := by rw [hX]; exact x.1.1.2.2
      have hX1 : X[1]? = some (.string x.1.2.name) := by rw [hX]; exact x.2.2.1
      have z0 : (wr.alloc (.cells zerC OT)).heap[wr.heap.size]? = some (.cells zerC OT (0, 0)) := heap_alloc_new wr _
      obtain ⟨w3, hw3⟩ : ∃ W', W' = (wr.alloc (.cells zerC OT)).setCells wr.heap.size 0 X.toList := ⟨_, rfl⟩
      obtain ⟨O, hO⟩ : ∃ A, A = wr.heap.size := ⟨_, rfl⟩
      have th := Ld.there_block z0 (n := X.size) (by rw [hXs]; rfl)
      have o3 : w3.heap[O]? = some (.cells X OT (0, 0)) := by rw [hw3, hO]; exact Ld.laid z0 (by rw [hXs]; rfl)
      have b3 : Below O wr w3 := by rw [hw3, hO]; exact Ld.below_setCells _ _ _ (Nat.le_refl _) (((Gr.refl wr).alloc _).below)
      have TH := Lib.hid th
      have IN : Hid ((Tryz.prog.info? OT).map (·.size) = some X.size) := by show _ = _; rw [hXs]; exact info_ob47
      have ON := Lib.hid hXo
      have HW3 : Hid ((wr.alloc (.cells zerC OT)).setCells wr.heap.size 0 X.toList = w3 ∧ wr.heap.size = O) := ⟨hw3.symm, hO.symm⟩
      have B3 : Hid (Below wr.heap.size wr w3) := by rw [hO] at b3; exact b3
      obtain ⟨nm, hnm⟩ : ∃ s, s = x.1.2.name := ⟨_, rfl⟩
      rw [← hnm] at hX1
      have d1 : w3.cell? ⟨O, 1, none⟩ = some (.string nm) := (cell_of_block o3 1).trans hX1
      obtain ⟨w4, hw4⟩ : ∃ w4, w4 = w3.alloc (.cells #[.string nm] 9) := ⟨_, rfl⟩
      obtain ⟨M, hM⟩ : ∃ M, M = w3.heap.size := ⟨_, rfl⟩
      have b4 : Below w3.heap.size w3 w4 := by rw [hw4]; exact ((Gr.refl w3).alloc _).below
      have lo4 : Below wr.heap.size wr w4 := by
        rw [hO] at b3
        exact b3.trans (b4.mono b3.size)
      have NEW : Hid (∀ (t : Nat) u, [Value.string nm][t]? = some u → w4.cell? ((⟨M, 0, none⟩ : Addr).add t) = some u) := by
        have := World.news_of_block (w := w4) (B := M) (cs := #[.string nm]) (t := 9) (fr := (0, 0)) (by rw [hw4, hM]; exact heap_alloc_new w3 _)
        exact this
      have HW4 : Hid (w3.alloc (.cells #[.string nm] 9) = w4 ∧ w3.heap.size = M) := ⟨hw4.symm, hM.symm⟩
      have OW : Hid (w4.ownsRow w1.heap.size 9 1 (.slice q5 j c5) j (nmV (s.take j))) := own_below HO.out lo4
      have zB := HB.out.size
      have BS : Hid (w1.heap.size ≤ w4.heap.size) := by have := lo4.size; show _ ≤ _; omega
      have HX : Hid (s[j]? = some x ∧ nm = x.1.2.name ∧ Below wr.heap.size wr w4) := ⟨hx, hnm, lo4⟩
      clear hm rs ss sm hp b1 hx hx' hNg hg1 hra hX hXs hXo hX1 z0 hw3 hO th o3 b3 hw4 hM b4 lo4 hnm zB
      go_upto_region 5 with (first | (refine wpList_load_by (by kernel_rfl) OT _ rfl (.pointer (some ⟨g, j * 47, none⟩)) (.agg X) (by first | rfl | (simp; done)) LD.out ?_) | (refine wpList_store_mid rfl _ _ _ rfl wr.heap.size 0 X (by rfl) (by rfl) TH.out IN.out ON.out ?_; rw [HW3.out.1, HW3.out.2]))
      clear TH IN ON HW3 LD
      by_cases hk : k ≤ (j : Int)
      · have t1 : decide ((j : Int) ≥ k) = true := decide_eq_true hk
        have K4 : Hid (Below wr.heap.size wr w3) := by
          have := HX.out.2.2
          exact B3.out
        have FIN : Hid ((∃ q' c' m, Ending.returned (.slice q5 j c5) = .returned (.slice q' m c') ∧ Hid (∃ p s : List El, Sorted s ∧ Same1 p s ∧ p.map (·.1.2) = (l.map (·.2)).filter isPod ∧ m = (s.take k.toNat).length ∧ w3.ownsRow w.heap.size 9 1 (.slice q' m c') m (nmV (s.take k.toNat)))) ∧ Below w.heap.size w w3) := by
          obtain ⟨hm, rs, ss, sm, hp, b1⟩ := HH.out
          have hjk' := hjk.out
          have e : k.toNat = j := by omega
          refine ⟨⟨q5, c5, j, rfl, p, s, ss, sm, hp, by rw [e, List.length_take]; omega, ?_⟩, b1.trans ((HB.out.trans (K4.out.mono HB.out.size)).mono z1)⟩
          rw [e]
          exact own_mono (own_below HO.out K4.out) z1
        clear HO HB HX HH hjk K4 B3 OW NEW d1 HW4 BS
        go_wp2
        go_ret
        exact FIN.out
      · have t1 : decide ((j : Int) ≥ k) = false := decide_eq_false (by omega)
        go_wp2_with (at_builtin; rw [HW4.out.1, HW4.out.2]; refine wpList_append_own_at w4 rfl _ _ 64 rfl w1.heap.size 9 inf (.string ⟨#[]⟩) 1 16 Tryz.underlying64 HI.out.1 HI.out.2.1 HI.out.2.2.1 HI.out.2.2.2 rfl (by decide) (.slice q5 j c5) j (nmV (s.take j)) (by rfl) OW.out ⟨M, 0, none⟩ 1 1 [.string nm] (by rfl) rfl NEW.out (by intro u hu; simp at hu; subst hu; rfl) (by unfold maxLen; omega) (by omega) BS.out ?_; intro v7 w7 ho7 hg7 hn7 ha7; obtain ⟨q7, c7, rfl⟩ := own_slc ho7)
        have FIN : Hid (j + 1 ≤ k.toNat) ∧ (∃ q5' c5', Value.slice q7 (j + 1) c7 = .slice q5' (j + 1) c5' ∧ Hid (w7.ownsRow w1.heap.size 9 1 (.slice q5' (j + 1) c5') (j + 1) (nmV (s.take (j + 1))))) ∧ Hid (Below w1.heap.size w1 w7) := by
          obtain ⟨hx, hnm, lo4⟩ := HX.out
          refine ⟨by show _ ≤ _; omega, ⟨q7, c7, rfl, ?_⟩, ?_⟩
          · have e : nmV (s.take (j + 1)) = nmV (s.take j) ++ [.string nm] := by
              unfold nmV
              rw [List.take_add_one, hx, List.map_append, hnm]
              rfl
            rw [e]
            exact ho7
          · exact (HB.out.trans (lo4.mono HB.out.size)).grown hg7 BS.out (fun k e => (own_lt OW.out e).1)
        obtain ⟨F1, F2, F3⟩ := FIN
        clear ho7 hg7 hn7 ha7 HO HB HX hjk B3 OW NEW d1 HW4 BS
        go_wp2_with fail
        go_roundg (m1 - (j + 1))
        case measure => omega
        case rel => exact ⟨j + 1, by push_cast; rfl, by omega, by omega, F1, F2, F3⟩
    · have FIN : Hid ((∃ q' c' m, Ending.returned (.slice q5 j c5) = .returned (.slice q' m c') ∧ Hid (∃ p s : List El, Sorted s ∧ Same1 p s ∧ p.map (·.1.2) = (l.map (·.2)).filter isPod ∧ m = (s.take k.toNat).length ∧ wr.ownsRow w.heap.size 9 1 (.slice q' m c') m (nmV (s.take k.toNat)))) ∧ Below w.heap.size w wr) := by
        obtain ⟨hm, rs, ss, sm, hp, b1⟩ := HH.out
        have hjk' := hjk.out
        have e : s.take k.toNat = s.take j := by rw [List.take_of_length_le (by omega), List.take_of_length_le (by omega)]
        refine ⟨⟨q5, c5, j, rfl, p, s, ss, sm, hp, by rw [e, List.length_take]; omega, ?_⟩, b1.trans (HB.out.mono z1)⟩
        rw [e]
        exact own_mono HO.out z1
      clear HO HB HH hjk
      go_wp2
      go_ret
      exact FIN.out
end Go.Proofs.YtbkoepghmcdnhaaGreatDoor.Vi
/- Layer 16 (replica): rows of texts: read, looked through, held against each other, appended to, sorted, put together. -/
namespace Go.Proofs.YtbkoepghmcdnhaaGreatDoor.Rp
open Go.RowKit Go.Shelf Go.Lib Go.Sort
open Go.Joins (cell_of_block unfrozen_of_block block_setCell)
set_option linter.unusedVariables false
set_option linter.unusedSimpArgs false
set_option maxRecDepth 20000

abbrev SlS : TypeId := 64
abbrev StT : TypeId := 9
def strs (l : List ByteArray) : List Value := l.map Value.string
theorem strs_len (l : List ByteArray) : (strs l).length = l.length := List.length_map ..
theorem strs_app (l m : List ByteArray) : strs (l ++ m) = strs l ++ strs m := List.map_append ..
theorem strs_one (l : List ByteArray) : ∀ u ∈ strs l, u.oneCell' = true := by
  intro u hu
  obtain ⟨x, _, rfl⟩ := List.mem_map.1 hu
  rfl
theorem strs_at {l : List ByteArray} {j : Nat} {s : ByteArray} (h : l[j]? = some s) : (strs l)[j]? = some (.string s) := by
  unfold strs
  rw [List.getElem?_map, h]
  rfl
/-- The slice reads as these texts. -/
def SRow (w : World) (q : Option Addr) (l : List ByteArray) : Prop := ∀ (j : Nat) (s : ByteArray), l[j]? = some s → ∃ b off, q = some ⟨b, off, none⟩ ∧ b < w.heap.size ∧ w.cell? ⟨b, off + j, none⟩ = some (.string s)
theorem SRow.nil (w : World) (q : Option Addr) : SRow w q [] := fun j s h => by simp at h
theorem SRow.below {w w' : World} {q : Option Addr} {l : List ByteArray} (h : SRow w q l) (b : Below w.heap.size w w') : SRow w' q l := fun j s hs => by
  obtain ⟨g, off, e, h1, h2⟩ := h j s hs
  exact ⟨g, off, e, Nat.lt_of_lt_of_le h1 b.size, (b.cell (p := ⟨g, off + j, none⟩) h1).trans h2⟩
/-- A row of texts of the call's own. -/
def OwnS (N : Nat) (w : World) (v : Value) (l : List ByteArray) : Prop := w.ownsRow N StT 1 v l.length (strs l)
theorem OwnS.nil (N : Nat) (w : World) : OwnS N w (.slice none 0 0) [] := ⟨rfl, .inl ⟨rfl, rfl⟩⟩
theorem OwnS.slc {N : Nat} {w : World} {v : Value} {l : List ByteArray} (h : OwnS N w v l) : ∃ q c, v = .slice q l.length c ∧ (q = none → c = 0 ∧ l = []) ∧ SRow w q l := by
  obtain ⟨h0, h⟩ := h
  rcases h with ⟨rfl, h1⟩ | ⟨g, c, cur, rfl, hb, hg, hc, hm, hsz, htk⟩
  · obtain rfl := List.eq_nil_of_length_eq_zero h1
    exact ⟨none, 0, rfl, fun _ => ⟨rfl, rfl⟩, SRow.nil _ _⟩
  · refine ⟨some ⟨g, 0, none⟩, c, rfl, fun e => (by cases e), fun j s hs => ⟨g, 0, rfl, (Array.getElem?_eq_some_iff.1 hg).1, ?_⟩⟩
    have hj : j < l.length := (List.getElem?_eq_some_iff.1 hs).1
    have h2 : (cur.toList.take (l.length * 1))[j]? = some (.string s) := by rw [htk]; exact strs_at hs
    rw [List.getElem?_take_of_lt (by omega), Array.getElem?_toList] at h2
    rw [Nat.zero_add, cell_of_block hg]
    exact h2
theorem OwnS.below {N : Nat} {w w' : World} {v : Value} {l : List ByteArray} (h : OwnS N w v l) (hb : Below w.heap.size w w') : OwnS N w' v l :=
  World.ownsRow.kept (row := none) h ⟨hb.os, hb.tape, hb.output, hb.size, fun i hi _ => hb.block i hi⟩ (by cases hv : v.ownBlock <;> simp)
theorem OwnS.lt {N : Nat} {w : World} {v : Value} {l : List ByteArray} (h : OwnS N w v l) : ∀ k, v.ownBlock = some k → N ≤ k ∧ k < w.heap.size := fun k hk => by
  rcases h.2 with ⟨rfl, _⟩ | ⟨g', cap, cur, rfl, hb, hh, _⟩
  · simp [Value.ownBlock] at hk
  · simp [Value.ownBlock] at hk
    subst hk
    exact ⟨hb, (Array.getElem?_eq_some_iff.1 hh).1⟩
theorem OwnS.mono {N M : Nat} {w : World} {v : Value} {l : List ByteArray} (h : OwnS N w v l) (hm : M ≤ N) : OwnS M w v l := by
  obtain ⟨h0, h⟩ := h
  rcases h with h | ⟨g, c, cur, h1, hb, h2⟩
  · exact ⟨h0, .inl h⟩
  · exact ⟨h0, .inr ⟨g, c, cur, h1, Nat.le_trans hm hb, h2⟩⟩
theorem info_str : ∃ i : TypeInfo, Tryz.prog.info? StT = some i ∧ i.zero = some (.string ⟨#[]⟩) ∧ i.size = 1 ∧ i.bytes = 16 := by
  have hinf : (Tryz.prog.info? StT).map (fun i => (i.zero, i.size, i.bytes)) = some (some (.string ⟨#[]⟩), 1, 16) := by kernel_rfl
  cases hi : Tryz.prog.info? StT with
  | none => rw [hi] at hinf; cases hinf
  | some i =>
    rw [hi] at hinf
    simp only [Option.map_some, Option.some.injEq, Prod.mk.injEq] at hinf
    exact ⟨i, rfl, hinf.1, hinf.2.1, hinf.2.2⟩
/-- 'append(v, src...)' onto a row of the call's own. -/
theorem wpList_append_strs {w : World} {ops : Array Oper} {rest : List Oper} {o : Oper} {a : Act} {Q : Exit → Act → World → Prop} (hgd : o.guard = none) (s x : Operand)
    (ho : o.op = .call { callee := .builtin .append, args := #[s, x], argTypes := #[SlS, SlS] })
    (N : Nat) (v : Value) (l : List ByteArray) (hs : a.eval s = v) (hown : OwnS N w v l)
    (q : Option Addr) (n c : Nat) (m : List ByteArray) (hx : a.eval x = .slice q n c) (hn : n = m.length) (hr : SRow w q m) (hq : q = none → c = 0 ∧ m = []) (hlen : l.length + m.length ≤ 1000000) (hbase : N ≤ w.heap.size)
    (h : ∀ v' w', OwnS N w' v' (l ++ m) → w.grownBy w' v.ownBlock → (v'.ownBlock = v.ownBlock ∨ v'.ownBlock = some w.heap.size) → wpList Tryz.prog ops Q rest (a.put o.dst v') w') :
    wpList Tryz.prog ops Q (o :: rest) a w := by
  subst hn
  obtain ⟨i, hi, hz0, hz1, hz2⟩ := info_str
  cases q with
  | none =>
    obtain ⟨rfl, rfl⟩ := hq rfl
    refine wpList_append_own_none hgd s x _ ho N StT i 1 Tryz.underlying64 hi v l.length (strs l) hs hown hx ?_
    exact h v w (by simpa using hown) ⟨rfl, rfl, rfl, Nat.le_refl _, fun _ _ _ => rfl⟩ (.inl rfl)
  | some ad =>
    have hnews : ∀ j u, (strs m)[j]? = some u → w.cell? (ad.add j) = some u := by
      intro j u hu
      unfold strs at hu
      rw [List.getElem?_map, Option.map_eq_some_iff] at hu
      obtain ⟨y, hy, rfl⟩ := hu
      obtain ⟨b, off, e, h1, h2⟩ := hr j y hy
      injection e with e
      subst e
      have ea : (⟨b, off, none⟩ : Addr).add j = ⟨b, off + j, none⟩ := by unfold Addr.add; split <;> simp_all
      rw [ea]
      exact h2
    refine wpList_append_own_at w hgd s x _ ho N StT i (.string ⟨#[]⟩) 1 16 Tryz.underlying64 hi hz0 hz1 hz2 rfl (by decide) v l.length (strs l) hs hown ad m.length c (strs m) hx
      (by rw [strs_len, Nat.mul_one]) hnews (strs_one m) (by unfold maxLen; omega) (by omega) hbase ?_
    intro v' w' h1 h2 h3 h4
    refine h v' w' ?_ h2 h4
    unfold OwnS
    rw [strs_app, List.length_append]
    exact h1

/-! ### in, same -/
theorem byte_beq (a b : ByteArray) : (a.toList == b.toList) = decide (a = b) := by
  rw [ByteArray.toList_eq, ByteArray.toList_eq, Bool.eq_iff_iff, beq_iff_eq, decide_eq_true_eq]
  constructor
  · intro h
    cases a
    cases b
    simp only at h
    congr 1
    exact Array.ext' h
  · intro h
    rw [h]
end Go.Proofs.YtbkoepghmcdnhaaGreatDoor.Rp
/- Layer 16 (replica): rows of texts sorted (slices.Sort), and put together (slices.Concat). -/
namespace Go.Proofs.YtbkoepghmcdnhaaGreatDoor.Rp
open Go.RowKit Go.Shelf Go.Lib Go.Sort
open Go.Joins (cell_of_block unfrozen_of_block block_setCell)
set_option linter.unusedVariables false
set_option linter.unusedSimpArgs false
set_option maxRecDepth 20000

abbrev Nmb := List UInt8
def bys (l : List ByteArray) : List Nmb := l.map (·.data.toList)
def txs (l : List Nmb) : List ByteArray := l.map fun b => ⟨b.toArray⟩
theorem txs_bys (l : List ByteArray) : txs (bys l) = l := by
  unfold txs bys
  rw [List.map_map]
  conv => rhs; rw [← List.map_id l]
  refine List.map_congr_left fun x _ => ?_
  simp
theorem bys_txs (l : List Nmb) : bys (txs l) = l := by
  unfold txs bys
  rw [List.map_map]
  conv => rhs; rw [← List.map_id l]
  refine List.map_congr_left fun x _ => ?_
  simp
theorem bys_inj {a b : ByteArray} (h : a.data.toList = b.data.toList) : a = b := by
  cases a
  cases b
  simp only at h
  congr 1
  exact Array.ext' h
/-- Texts, sorted. -/
def sortS (l : List ByteArray) : List ByteArray := txs ((bys l).mergeSort fun x y => decide (x ≤ y))
theorem bys_sort (l : List ByteArray) : bys (sortS l) = (bys l).mergeSort fun x y => decide (x ≤ y) := bys_txs _
theorem sortS_perm (l : List ByteArray) : (sortS l).Perm l := by
  have h := (List.mergeSort_perm (bys l) fun x y => decide (x ≤ y)).map (fun b : Nmb => (⟨b.toArray⟩ : ByteArray))
  have e : (bys l).map (fun b : Nmb => (⟨b.toArray⟩ : ByteArray)) = l := txs_bys l
  rw [e] at h
  exact h
theorem sortS_len (l : List ByteArray) : (sortS l).length = l.length := (sortS_perm l).length_eq
theorem sortS_sorted (l : List ByteArray) : (bys (sortS l)).Pairwise (· ≤ ·) := by
  rw [bys_sort]
  have := List.pairwise_mergeSort (le := fun x y : Nmb => decide (x ≤ y)) (fun a b c h1 h2 => by
    rw [decide_eq_true_eq] at *
    exact List.le_trans h1 h2) (fun a b => by
    rw [Bool.or_eq_true, decide_eq_true_eq, decide_eq_true_eq]
    exact List.le_total a b) (bys l)
  exact this.imp (fun h => of_decide_eq_true h)
theorem sort_none_strs (c : Nat) (w : World) : Calls Tryz.prog 49 #[.slice none 0 c] w fun e w' => e = .returned (.tuple #[]) ∧ w' = w := Any.slices_Sort_string_none sh_lays190 none c w
theorem sort_strs (N : Nat) (w : World) (v : Value) (l : List ByteArray) (h : OwnS N w v l) (hl : l.length < 1000000) :
    Calls Tryz.prog 49 #[v] w fun e w' => e = .returned (.tuple #[]) ∧ OwnS N w' v (sortS l) ∧ w.grownBy w' v.ownBlock := by
  obtain ⟨h0, h⟩ := h
  rcases h with ⟨rfl, h1⟩ | ⟨g, c, cur, rfl, hb, hg, hc, hm, hsz, htk⟩
  · obtain rfl := List.eq_nil_of_length_eq_zero h1
    refine (sort_none_strs 0 w).mono ?_
    rintro e w' ⟨rfl, rfl⟩
    refine ⟨rfl, ?_, ⟨rfl, rfl, rfl, Nat.le_refl _, fun _ _ _ => rfl⟩⟩
    have : sortS [] = [] := List.eq_nil_of_length_eq_zero (sortS_len [])
    rw [this]
    exact OwnS.nil _ _
  · have hlt : g < w.heap.size := (Array.getElem?_eq_some_iff.1 hg).1
    have hbl : (bys l).length = l.length := List.length_map ..
    have hcell : ∀ j (hj : j < l.length), cur[j]? = some (.string l[j]) := fun j hj => by
      have h2 : (cur.toList.take (l.length * 1))[j]? = some (.string l[j]) := by rw [htk]; exact strs_at (List.getElem?_eq_getElem hj)
      rw [List.getElem?_take_of_lt (by omega), Array.getElem?_toList] at h2
      exact h2
    have hH : Holds encStr w g 0 (bys l).toArray := by
      intro j hj
      have hj' : j < l.length := by simpa [hbl] using hj
      refine ⟨?_, by simp [World.frozen?, hg]⟩
      rw [Nat.zero_add, cell_of_block hg, hcell j hj']
      have e1 : (bys l).toArray[j]! = (l[j]).data.toList := by
        rw [getElem!_pos _ _ (by simpa [hbl] using hj')]
        simp [bys]
      rw [e1]
    have C := sh_slices_Sort_string g 0 c (bys l) w hH hlt (by rw [hbl]; omega)
    rw [hbl] at C
    refine C.mono ?_
    rintro e w' ⟨rfl, n, os, rfl⟩
    rw [← bys_sort]
    have hsl : (bys (sortS l)).length = l.length := by unfold bys; rw [List.length_map, sortS_len]
    refine ⟨rfl, ⟨by rw [strs_len, sortS_len, Nat.mul_one], .inr ⟨g, c, putCells encStr 0 (bys (sortS l)).toArray cur, by rw [sortS_len], hb, ?_, by rw [sortS_len]; exact hc, hm, by simp [putCells, hsz], ?_⟩⟩, ?_⟩
    · rw [heap_grow_old _ _ (by simp [putRow, mapBlock, Sort.ahead]; omega)]
      simp [putRow, mapBlock, Sort.ahead, Array.getElem?_modify, hg, onCells]
    · have hc1 : l.length ≤ cur.size := by rw [hsz, Nat.mul_one]; exact hc
      apply List.ext_getElem?
      intro j
      rw [sortS_len, Nat.mul_one]
      by_cases hj : j < l.length
      · rw [List.getElem?_take_of_lt hj, Array.getElem?_toList]
        have hj2 : j < (sortS l).length := by rw [sortS_len]; exact hj
        have e1 : (strs (sortS l))[j]? = some (.string (sortS l)[j]) := strs_at (List.getElem?_eq_getElem hj2)
        rw [e1]
        have hb2 : j < (bys (sortS l)).length := by omega
        have e2 : (bys (sortS l)).toArray[j]! = ((sortS l)[j]).data.toList := by
          rw [getElem!_pos _ _ (by simpa using hb2)]
          simp [bys]
        have e3 : (putCells encStr 0 (bys (sortS l)).toArray cur)[j]? = some (encStr (bys (sortS l)).toArray[j]!) := by
          unfold putCells
          rw [Array.getElem?_mapIdx, Array.getElem?_eq_getElem (by omega), Option.map_some, if_pos ⟨Nat.zero_le _, by simpa using hb2⟩, Nat.sub_zero]
        rw [e3, e2]
      · rw [List.getElem?_take_eq_none (by omega), List.getElem?_eq_none (by rw [strs_len, sortS_len]; omega)]
    · refine ⟨rfl, rfl, rfl, by simp [grow, putRow, mapBlock, Sort.ahead], fun k hk hne => ?_⟩
      rw [heap_grow_old _ _ (by simp [putRow, mapBlock, Sort.ahead]; omega)]
      have : g ≠ k := fun e => hne (by rw [e]; rfl)
      simp [putRow, mapBlock, Sort.ahead, Array.getElem?_modify, this]

/-! ### Concat -/
abbrev SRw := Option Addr × Nat × List ByteArray
def SRows (w : World) (B o : Nat) (R : List SRw) : Prop :=
  B < w.heap.size ∧ ∀ (j : Nat) (r : SRw), R[j]? = some r → w.cell? ⟨B, o + j, none⟩ = some (.slice r.1 r.2.2.length r.2.1) ∧ SRow w r.1 r.2.2 ∧ (r.1 = none → r.2.1 = 0 ∧ r.2.2 = [])
def catS : List SRw → List ByteArray
  | [] => []
  | r :: R => r.2.2 ++ catS R
theorem catS_app : ∀ R S : List SRw, catS (R ++ S) = catS R ++ catS S
  | [], S => rfl
  | r :: R, S => by simp [catS, catS_app R S]
theorem catS_take {R : List SRw} {k : Nat} {r : SRw} (h : R[k]? = some r) : catS (R.take (k + 1)) = catS (R.take k) ++ r.2.2 := by
  rw [List.take_add_one, h, catS_app]
  simp [catS]
theorem catS_le (R : List SRw) (k : Nat) : (catS (R.take k)).length ≤ (catS R).length := by
  have : catS R = catS (R.take k) ++ catS (R.drop k) := by rw [← catS_app, List.take_append_drop]
  rw [this, List.length_append]
  omega
theorem SRows.below {w w' : World} {B o : Nat} {R : List SRw} (h : SRows w B o R) (hb : Below w.heap.size w w') : SRows w' B o R := by
  refine ⟨Nat.lt_of_lt_of_le h.1 hb.size, fun j r hj => ?_⟩
  obtain ⟨h1, h2, h3⟩ := h.2 j r hj
  exact ⟨(hb.cell (p := ⟨B, o + j, none⟩) h.1).trans h1, h2.below hb, h3⟩
theorem grow_strs (w : World) (n : Nat) (hn : n ≤ 1000000) : Calls Tryz.prog 48 #[.slice none 0 0, .int .i64 (n : Int)] w fun e w' => ∃ v, e = .returned v ∧ OwnS w.heap.size w' v [] ∧ Below w.heap.size w w' := by
  by_cases h0 : n = 0
  · subst h0
    go_enter Tryz.func48, Tryz.ntmps48
    go_wp2
    go_ret
    exact ⟨_, rfl, OwnS.nil _ _, Below.refl _ _⟩
  · obtain ⟨i, hi, hz0, hz1, hz2⟩ := info_str
    have hn0 : 0 < n := by omega
    have hr : ∀ ty, (Builtin.append_ #[SlS, 3] ty #[.slice none 0 0, .int .i64 (n : Int)]).run Tryz.prog w = .ok (.slice (some ⟨w.heap.size, 0, none⟩) n (grownCap w n 0 StT)) (w.drew.alloc (.cells (Builtin.zeroCells (Value.string ⟨#[]⟩).cells n ++ Builtin.zeroCells (Value.string ⟨#[]⟩).cells (grownCap w n 0 StT - n)) StT)) :=
      fun ty => run_append_nil_zeros w SlS 3 ty StT i _ .i64 .i64 Tryz.underlying64 Tryz.underlying3 hi hz0 n hn0 (by omega) (by omega) (by rw [hz2]; omega)
    have hge := grownCap_ge w n 0 StT
    have hcm := grownCap_le_maxLen w n 0 StT (by unfold maxLen; omega)
    have hO : Hid (OwnS w.heap.size (w.drew.alloc (.cells (Builtin.zeroCells (Value.string ⟨#[]⟩).cells n ++ Builtin.zeroCells (Value.string ⟨#[]⟩).cells (grownCap w n 0 StT - n)) StT)) (.slice (some ⟨w.heap.size, 0, none⟩) 0 (grownCap w n 0 StT)) []) := by
      refine ⟨rfl, .inr ⟨w.heap.size, _, _, rfl, Nat.le_refl _, heap_alloc_new w.drew _, Nat.zero_le _, hcm, ?_, rfl⟩⟩
      simp only [Array.size_append, size_zeroCells, ← Nat.add_mul]
      show (n + (grownCap w n 0 StT - n)) * 1 = _
      congr 1
      omega
    have hB : Hid (Below w.heap.size w (w.drew.alloc (.cells (Builtin.zeroCells (Value.string ⟨#[]⟩).cells n ++ Builtin.zeroCells (Value.string ⟨#[]⟩).cells (grownCap w n 0 StT - n)) StT))) :=
      ((Below.refl _ w).drew).alloc (Nat.le_refl _) _
    have HR := Lib.hid hr
    have hcz : grownCap w n 0 StT ≤ maxLen := hcm
    generalize w.drew.alloc (.cells (Builtin.zeroCells (Value.string ⟨#[]⟩).cells n ++ Builtin.zeroCells (Value.string ⟨#[]⟩).cells (grownCap w n 0 StT - n)) StT) = w1 at HR hO hB
    generalize grownCap w n 0 StT = cap at HR hO hge hcz
    unfold maxLen at hcz
    have hpos : (0 : Int) < (n : Int) := by omega
    clear hr hi hz0 hz1 hz2 hcm
    go_enter Tryz.func48, Tryz.ntmps48
    go_wp2_with (at_builtin; refine Lib.wpList_append_run _ rfl _ _ _ _ rfl _ _ rfl rfl _ _ (HR.out _) ?_)
    go_ret
    exact ⟨_, rfl, hO.out, hB.out⟩
set_option maxHeartbeats 1000000 in
theorem concat_strs (w : World) (B o : Nat) (R : List SRw) (h : SRows w B o R) (hl : (catS R).length ≤ 100000) (hR : R.length ≤ 1000) :
    Calls Tryz.prog 29 #[.slice (some ⟨B, o, none⟩) R.length R.length] w fun e w' => ∃ v, e = .returned v ∧ OwnS w.heap.size w' v (catS R) ∧ Below w.heap.size w w' := by
  have HR := Lib.hid h
  clear h
  go_enter Tryz.func29, Tryz.ntmps29
  go_wp2_with fail
  go_loopg [3, 5, 11] R.length (fun g vs _ vk wr => ∃ (k s : Nat), vs = .int .i64 (s : Int) ∧ vk = .int .i64 (k : Int) ∧ k ≤ R.length ∧ s ≤ 100000 ∧ R.length - k ≤ g ∧ Hid (s = (catS (R.take k)).length) ∧ w = wr)
  case atStart => exact ⟨0, 0, rfl, rfl, Nat.zero_le _, by omega, Nat.le_refl _, rfl, rfl⟩
  case round =>
    obtain ⟨k, s, rfl, rfl, hk, hs, hg, HS, rfl⟩ := hrel
    by_cases hlt : k < R.length
    · obtain ⟨r, hr⟩ : ∃ r, R[k]? = some r := ⟨R[k], List.getElem?_eq_getElem hlt⟩
      have hc := (HR.out.2 k r hr).1
      obtain ⟨s2, hs2⟩ : ∃ s2, s2 = s + r.2.2.length := ⟨_, rfl⟩
      have e1 : (s : Int) + (r.2.2.length : Int) = (s2 : Int) := by omega
      have HS2 : Hid (s2 = (catS (R.take (k + 1))).length) := by show _ = _; rw [catS_take hr, List.length_append, ← HS.out, hs2]
      have hs3 : s2 ≤ 100000 := by have := catS_le R (k + 1); have := HS2.out; omega
      have w1 : IntKind.i64.wrap (s2 : Int) = (s2 : Int) := by rw [IntKind.wrap_i64]; omega
      have hneg : decide ((s2 : Int) < 0) = false := decide_eq_false (by omega)
      clear hr hs2
      go_wp2_with fail
      go_roundg (R.length - (k + 1))
      case measure => omega
      case rel => exact ⟨k + 1, s2, rfl, by go_num, hlt, hs3, Nat.le_refl _, HS2, rfl⟩
    · obtain rfl : k = R.length := by omega
      have GR := Lib.hid (grow_strs w s (by omega))
      go_wp2_with fail
      refine GR.out.mono ?_
      rintro e w1 ⟨v, rfl, hO, hB⟩
      have HO := Lib.hid hO
      have HB := Lib.hid hB
      clear hO hB GR HS
      go_wp2_with fail
      go_loopg [6, 8, 27] R.length (fun g vn _ vk wq => ∃ (k : Nat), vk = .int .i64 (k : Int) ∧ k ≤ R.length ∧ R.length - k ≤ g ∧ Hid (OwnS w.heap.size wq vn (catS (R.take k))) ∧ Hid (Below w.heap.size w wq))
      case atStart => exact ⟨0, rfl, Nat.zero_le _, by omega, HO.out, HB.out⟩
      case round =>
        clear HO HB
        obtain ⟨k, rfl, hk2, hg2, HO, HB⟩ := hrel
        by_cases hlt2 : k < R.length
        · obtain ⟨r, hr⟩ : ∃ r, R[k]? = some r := ⟨R[k], List.getElem?_eq_getElem hlt2⟩
          obtain ⟨hc0, hL, hq⟩ := (HR.out.below HB.out).2 k r hr
          have HT : Hid (catS (R.take (k + 1)) = catS (R.take k) ++ r.2.2) := catS_take hr
          have hlen : (catS (R.take k)).length + r.2.2.length ≤ 1000000 := by
            have := catS_le R (k + 1)
            rw [catS_take hr, List.length_append] at this
            omega
          have hsz := HB.out.size
          have HQ := Lib.hid hq
          have HL := Lib.hid hL
          clear hr hq hL
          obtain ⟨q, c, l⟩ := r
          dsimp only at hc0 HQ HL HT hlen
          go_wp2_with (at_builtin; refine wpList_append_strs rfl _ _ rfl w.heap.size u6 (catS (R.take k)) rfl HO.out q l.length c l rfl rfl HL.out HQ.out hlen hsz ?_; intro v2 w2 hO2 hg2 ha2)
          have HO2 := Lib.hid hO2
          have HB2 := Lib.hid (HB.out.grown hg2 hsz (fun k e => (HO.out.lt k e).1))
          clear hO2 hg2 ha2
          go_wp2_with fail
          go_roundg (R.length - (k + 1))
          case measure => omega
          case rel => exact ⟨k + 1, by go_num, hlt2, Nat.le_refl _, by show OwnS _ _ _ _; rw [HT.out]; exact HO2.out, HB2.out⟩
        · obtain rfl : k = R.length := by omega
          go_wp2
          go_ret
          exact ⟨_, rfl, by have := HO.out; rwa [List.take_length] at this, HB.out⟩
end Go.Proofs.YtbkoepghmcdnhaaGreatDoor.Rp
/- Layer 16 (replica): what objects are called, rising (replica.rising). -/
namespace Go.Proofs.YtbkoepghmcdnhaaGreatDoor.Rp
open Go.RowKit Go.Shelf Go.Lib Go.Sort Go.Deep
open Go.Joins (cell_of_block unfrozen_of_block block_setCell)
open Go.Proofs.YtbkoepghmcdnhaaGreatDoor.Ow
set_option linter.unusedVariables false
set_option linter.unusedSimpArgs false
set_option maxRecDepth 20000

theorem one_new (w : World) (nm : ByteArray) : SRow (w.alloc (.cells #[.string nm] StT)) (some ⟨w.heap.size, 0, none⟩) [nm] := by
  intro j s hs
  have hj : j = 0 := by
    have := (List.getElem?_eq_some_iff.1 hs).1
    simp at this
    exact this
  subst hj
  simp at hs
  subst hs
  exact ⟨_, 0, rfl, by simp, by simp⟩
abbrev OT : TypeId := 51
/-- An object of a row, stored where the call has made room. -/
structure ElAt (w3 wr : World) (O : Nat) (X : Array Value) : Prop where
  blk : w3.heap[O]? = some (.cells X OT (0, 0))
  low : Below wr.heap.size wr w3
  at_ : O = wr.heap.size
theorem el_new (wr : World) (X : Array Value) (hX : X.size = 47) : (wr.alloc (.cells zerC OT)).there wr.heap.size 0 X.size ∧ (Tryz.prog.info? OT).map (·.size) = some X.size ∧ ElAt ((wr.alloc (.cells zerC OT)).setCells wr.heap.size 0 X.toList) wr wr.heap.size X := by
  have z0 : (wr.alloc (.cells zerC OT)).heap[wr.heap.size]? = some (.cells zerC OT (0, 0)) := heap_alloc_new wr _
  exact ⟨Ld.there_block z0 (n := X.size) (by rw [hX]; rfl), by rw [hX]; exact info_ob47, Ld.laid z0 (by rw [hX]; rfl), Ld.below_setCells _ _ _ (Nat.le_refl _) (((Gr.refl wr).alloc _).below), rfl⟩
set_option maxHeartbeats 4000000 in
theorem rising_any (w : World) (q : Option Addr) (n c : Nat) (l : List Obv) (hn : n = l.length) (hr : RowR 47 encOb w q l) (hok : ∀ x ∈ l, ObjV w x.1.1 x.2) (hlen : n < 1000000) :
    Calls Tryz.prog 30 #[.slice q n c] w fun e w' => (∃ v, e = .returned v ∧ Hid (OwnS w.heap.size w' v (sortS (l.map (·.2.name))))) ∧ Below w.heap.size w w' := by
  have HH := Lib.hid (And.intro hr (And.intro hok hn))
  clear hr hok hn
  go_enter Tryz.func30, Tryz.ntmps30
  go_wp2_with fail
  go_loopg [3, 8] n (fun g1 v5 vi wr => ∃ j : Nat, vi = .int .i64 (j : Int) ∧ j ≤ n ∧ n - j ≤ g1 ∧ Hid (OwnS w.heap.size wr v5 ((l.take j).map (·.2.name))) ∧ Hid (Below w.heap.size w wr))
  case atStart => exact ⟨0, rfl, Nat.zero_le _, by omega, OwnS.nil _ _, Below.refl _ _⟩
  case round =>
    obtain ⟨j, rfl, h1, h2, HO, HB⟩ := hrel
    by_cases hlt : j < n
    · obtain ⟨hr, hok, hn⟩ := HH.out
      obtain ⟨x, hx⟩ : ∃ x, l[j]? = some x := ⟨l[j]'(by omega), List.getElem?_eq_getElem (by omega)⟩
      obtain ⟨b, off, rfl, _, _⟩ := hr j x hx
      obtain ⟨hbl, hra⟩ := rangeAt_obs hr hx
      have LD := Lib.hid (load_at (x := x) (rangeAt_below hra HB.out hbl))
      have okv := hok x (List.mem_of_getElem? hx)
      obtain ⟨X, hX⟩ : ∃ X, X = x.1.1 := ⟨_, rfl⟩
      rw [← hX] at LD okv
      have hX1 := okv.2.1.2.1
      have ON := Lib.hid (objV_one okv)
      obtain ⟨th, inn, el⟩ := el_new wr X okv.1
      have TH := Lib.hid th
      have IN := Lib.hid inn
      obtain ⟨w3, hw3⟩ : ∃ W', W' = (wr.alloc (.cells zerC OT)).setCells wr.heap.size 0 X.toList := ⟨_, rfl⟩
      obtain ⟨O, hO⟩ : ∃ A, A = wr.heap.size := ⟨_, rfl⟩
      have HW3 : Hid ((wr.alloc (.cells zerC OT)).setCells wr.heap.size 0 X.toList = w3 ∧ wr.heap.size = O) := ⟨hw3.symm, hO.symm⟩
      rw [← hw3, ← hO] at el
      obtain ⟨nm, hnm⟩ : ∃ s, s = x.2.name := ⟨_, rfl⟩
      rw [← hnm] at hX1
      have d1 : w3.cell? ⟨O, 1, none⟩ = some (.string nm) := (cell_of_block el.blk 1).trans hX1
      obtain ⟨w4, hw4⟩ : ∃ w4, w4 = w3.alloc (.cells #[.string nm] StT) := ⟨_, rfl⟩
      obtain ⟨M, hM⟩ : ∃ M, M = w3.heap.size := ⟨_, rfl⟩
      have HW4 : Hid (w3.alloc (.cells #[.string nm] StT) = w4 ∧ w3.heap.size = M) := ⟨hw4.symm, hM.symm⟩
      have low4 : Below wr.heap.size wr w4 := by
        have b4 : Below w3.heap.size w3 w4 := by rw [hw4]; exact ((Gr.refl w3).alloc _).below
        exact el.low.trans (b4.mono el.low.size)
      have NEW : Hid (SRow w4 (some ⟨M, 0, none⟩) [nm]) := by rw [hw4, hM]; exact one_new w3 nm
      have OW : Hid (OwnS w.heap.size w4 u3 ((l.take j).map (·.2.name))) := HO.out.below low4
      have hB4 := HB.out.trans (low4.mono HB.out.size)
      have BS : Hid (w.heap.size ≤ w4.heap.size) := hB4.size
      have HB4 := Lib.hid hB4
      have HX : Hid (l[j]? = some x ∧ nm = x.2.name) := ⟨hx, hnm⟩
      have LE : Hid (((l.take j).map (·.2.name)).length + [nm].length ≤ 1000000) := by
        show _ ≤ _
        rw [List.length_map, List.length_take, List.length_singleton]
        omega
      clear hr hok hn hx hbl hra okv hX hX1 th inn el hw3 hO hnm hw4 hM low4 hB4 HB HO
      go_upto_region 5 with (first | (refine wpList_load_by (by kernel_rfl) OT _ rfl (.pointer (some ⟨b, off + j * 47, none⟩)) (.agg X) (by first | rfl | (simp; done)) LD.out ?_) | (refine wpList_store_mid rfl _ _ _ rfl wr.heap.size 0 X (by rfl) (by rfl) TH.out IN.out ON.out ?_; rw [HW3.out.1, HW3.out.2]))
      clear TH IN ON HW3 LD
      go_wp2_with (at_builtin; rw [HW4.out.1, HW4.out.2]; refine wpList_append_strs rfl _ _ rfl w.heap.size u3 ((l.take j).map (·.2.name)) rfl OW.out (some ⟨M, 0, none⟩) 1 1 [nm] (by rfl) rfl NEW.out (fun e => by cases e) LE.out BS.out ?_; intro v7 w7 ho7 hg7 ha7)
      have FIN : Hid (OwnS w.heap.size w7 v7 ((l.take (j + 1)).map (·.2.name))) ∧ Hid (Below w.heap.size w w7) := by
        refine ⟨?_, HB4.out.grown hg7 BS.out (fun k e => (OW.out.lt k e).1)⟩
        show OwnS _ _ _ _
        rw [List.take_add_one, HX.out.1, List.map_append]
        show OwnS _ _ _ (_ ++ [x.2.name])
        rw [← HX.out.2]
        exact ho7
      obtain ⟨F1, F2⟩ := FIN
      clear ho7 hg7 ha7 HB4 HX OW NEW d1 HW4 BS LE
      go_wp2_with fail
      go_roundg (n - (j + 1))
      case measure => omega
      case rel => exact ⟨j + 1, by push_cast; rfl, by omega, by omega, F1, F2⟩
    · have hO := HO.out
      rw [List.take_of_length_le (by have := HH.out.2.2; omega)] at hO
      have C := Lib.hid (sort_strs w.heap.size wr u3 (l.map (·.2.name)) hO (by rw [List.length_map]; have := HH.out.2.2; omega))
      have HO2 := Lib.hid hO
      clear hO HO HH
      go_wp2_with fail
      refine C.out.mono ?_
      rintro e w2 ⟨rfl, ho, hg⟩
      have F1 := Lib.hid ho
      have F2 := Lib.hid (HB.out.grown hg HB.out.size (fun k e => (HO2.out.lt k e).1))
      clear ho hg HB HO2 C
      go_wp2
      go_ret
      exact ⟨⟨_, rfl, F1.out⟩, F2.out⟩
end Go.Proofs.YtbkoepghmcdnhaaGreatDoor.Rp
/- Layer 16 (replica): which of two pods the law lets go first (its 'sooner'). -/
namespace Go.Proofs.YtbkoepghmcdnhaaGreatDoor.Rp
open Go.RowKit Go.Shelf Go.Lib Go.Sort Go.Deep
open Go.Joins (cell_of_block unfrozen_of_block block_setCell)
open Go.Proofs.YtbkoepghmcdnhaaGreatDoor.Ow Go.Proofs.YtbkoepghmcdnhaaGreatDoor.Vi
set_option linter.unusedVariables false
set_option linter.unusedSimpArgs false
set_option maxRecDepth 20000

/-- Does a pod go ahead of another one? -/
def ltO (a b : Ob) : Prop := place a.p.ph < place b.p.ph ∨ (place a.p.ph = place b.p.ph ∧ (b.p.since < a.p.since ∨ (b.p.since = a.p.since ∧ b.name.toList < a.name.toList)))
theorem lt_ltO {x y : El} : lt x y ↔ ltO x.1.2 y.1.2 := lt_iff
theorem ltO_irr (a : Ob) : ¬ ltO a a := by
  rintro (h | ⟨_, h | ⟨_, h⟩⟩)
  · omega
  · omega
  · exact List.lt_irrefl _ h
theorem ltO_tr (a b c : Ob) (h : ltO a b) (k : ltO b c) : ltO a c := by
  unfold ltO at *
  rcases h with h | ⟨h, h2 | ⟨h2, h3⟩⟩ <;> rcases k with k | ⟨k, k2 | ⟨k2, k3⟩⟩
  all_goals first
    | (refine .inl ?_; omega)
    | (refine .inr ⟨by omega, .inl ?_⟩; omega)
    | exact .inr ⟨by omega, .inr ⟨by omega, List.lt_trans k3 h3⟩⟩
theorem ltO_total {a b : Ob} (h : ¬ ltO b a) (hn : a.name ≠ b.name) : ltO a b := by
  unfold ltO at *
  rcases Int.lt_trichotomy (place a.p.ph) (place b.p.ph) with h1 | h1 | h1
  · exact .inl h1
  · refine .inr ⟨h1, ?_⟩
    rcases Int.lt_trichotomy b.p.since a.p.since with h2 | h2 | h2
    · exact .inl h2
    · refine .inr ⟨h2, ?_⟩
      have h3 : ¬ a.name.toList < b.name.toList := fun e => h (.inr ⟨h1.symm, .inr ⟨h2.symm, e⟩⟩)
      have h4 : a.name.toList ≠ b.name.toList := fun e => hn (by
        rw [ByteArray.toList_eq, ByteArray.toList_eq] at e
        exact bys_inj e)
      rcases List.le_total b.name.toList a.name.toList with h5 | h5
      · exact Decidable.byContradiction fun h6 => h4 (List.le_antisymm (List.not_lt.1 h6) h5)
      · exact absurd (List.le_antisymm h5 (List.not_lt.1 h3)) h4
    · exact absurd (.inr ⟨h1.symm, .inl h2⟩) h
  · exact absurd (.inl h1) h
def rk (ph : Int) : Int := if ph = 0 then 1 else if ph = 1 then 2 else if ph = 2 then 3 else 0
theorem rk_place {p : Int} (h : 0 ≤ p ∧ p ≤ 3) : rk p = place p - 1 := by
  have : p = 0 ∨ p = 1 ∨ p = 2 ∨ p = 3 := by omega
  rcases this with rfl | rfl | rfl | rfl <;> rfl
end Go.Proofs.YtbkoepghmcdnhaaGreatDoor.Rp
/- Layer 16 (replica): what a pass over a workload comes to; choosing the first of what is left; names that are free. Rows alone, no program. -/
namespace Go.Proofs.YtbkoepghmcdnhaaGreatDoor.Rp
open Go.RowKit Go.Lib
set_option linter.unusedVariables false
set_option linter.unusedSimpArgs false

/-- The first of what is left, of a row that another one sorts. -/
theorem least_left {α : Type} {r : α → α → Prop} {N s : List α} (irr : ∀ x, ¬ r x x) (hp : N.Perm s) (hs : s.Pairwise r) {t : Nat} {y : α} (ht : s[t]? = some y) {b : α} (hb : b ∈ N) (hnb : b ∉ s.take t) (hmin : ∀ z ∈ N, z ∉ s.take t → ¬ r z b) : b = y := by
  have hbs : b ∈ s := hp.mem_iff.1 hb
  obtain ⟨i, hi, rfl⟩ := List.getElem_of_mem hbs
  obtain ⟨htl, rfl⟩ := List.getElem?_eq_some_iff.1 ht
  rcases Nat.lt_trichotomy i t with h | h | h
  · exact absurd (List.mem_take_iff_getElem.2 ⟨i, by omega, rfl⟩) hnb
  · subst h; rfl
  · have h1 : r s[t] s[i] := List.pairwise_iff_getElem.1 hs t i htl hi h
    have h2 : s[t] ∉ s.take t := by
      intro hm
      obtain ⟨k, hk, e⟩ := List.mem_take_iff_getElem.1 hm
      have := List.pairwise_iff_getElem.1 hs k t (by omega) htl (by omega)
      rw [e] at this
      exact irr _ this
    exact absurd h1 (hmin _ (hp.mem_iff.2 (List.getElem_mem htl)) h2)
/-- What was not yet taken, of a row sorted. -/
theorem left_some {α : Type} {r : α → α → Prop} {s : List α} (irr : ∀ x, ¬ r x x) (hs : s.Pairwise r) {t : Nat} {y : α} (ht : s[t]? = some y) : y ∉ s.take t := by
  obtain ⟨htl, rfl⟩ := List.getElem?_eq_some_iff.1 ht
  intro hm
  obtain ⟨k, hk, e⟩ := List.mem_take_iff_getElem.1 hm
  have := List.pairwise_iff_getElem.1 hs k t (by omega) htl (by omega)
  rw [e] at this
  exact irr _ this

/-! ### the least name that is left -/
abbrev Nm := List UInt8
/-- The best so far: none, or the least of those looked at that were not taken. -/
def Best (rem : List Nm) (seen : List Nm) (b : Nm) : Prop := (b = [] ∧ ∀ x ∈ seen, x ∈ rem) ∨ (b ∈ seen ∧ b ∉ rem ∧ ∀ x ∈ seen, x ∉ rem → ¬ x < b)
def bestStep (rem : List Nm) (b x : Nm) : Nm := if x ∉ rem ∧ (b = [] ∨ x < b) then x else b
theorem Best.start (rem : List Nm) : Best rem [] [] := .inl ⟨rfl, by simp⟩
theorem Best.step {rem seen : List Nm} {b x : Nm} (h : Best rem seen b) (hx : x ≠ []) (hne : ∀ y ∈ seen, y ≠ []) : Best rem (seen ++ [x]) (bestStep rem b x) := by
  unfold bestStep
  by_cases hr : x ∈ rem
  · rw [if_neg (by intro e; exact e.1 hr)]
    rcases h with ⟨rfl, h⟩ | ⟨h1, h2, h3⟩
    · refine .inl ⟨rfl, fun y hy => ?_⟩
      rw [List.mem_append, List.mem_singleton] at hy
      rcases hy with hy | rfl
      · exact h y hy
      · exact hr
    · refine .inr ⟨List.mem_append_left _ h1, h2, fun y hy hn => ?_⟩
      rw [List.mem_append, List.mem_singleton] at hy
      rcases hy with hy | rfl
      · exact h3 y hy hn
      · exact absurd hr hn
  · rcases h with ⟨rfl, h⟩ | ⟨h1, h2, h3⟩
    · rw [if_pos ⟨hr, .inl rfl⟩]
      refine .inr ⟨by simp, hr, fun y hy hn => ?_⟩
      rw [List.mem_append, List.mem_singleton] at hy
      rcases hy with hy | rfl
      · exact absurd (h y hy) hn
      · exact List.lt_irrefl _
    · by_cases hlt : x < b
      · rw [if_pos ⟨hr, .inr hlt⟩]
        refine .inr ⟨by simp, hr, fun y hy hn => ?_⟩
        rw [List.mem_append, List.mem_singleton] at hy
        rcases hy with hy | rfl
        · exact fun e => h3 y hy hn (List.lt_trans e hlt)
        · exact List.lt_irrefl _
      · have hb : b ≠ [] := hne b h1
        rw [if_neg (by rintro ⟨_, e | e⟩; exact hb e; exact hlt e)]
        refine .inr ⟨List.mem_append_left _ h1, h2, fun y hy hn => ?_⟩
        rw [List.mem_append, List.mem_singleton] at hy
        rcases hy with hy | rfl
        · exact h3 y hy hn
        · exact hlt
theorem Best.done {N s : List Nm} (hp : N.Perm s) (hs : s.Pairwise (· < ·)) {t : Nat} {y : Nm} (ht : s[t]? = some y) {b : Nm} (h : Best (s.take t) N b) : b = y := by
  have irr : ∀ x : Nm, ¬ x < x := List.lt_irrefl
  have hy : y ∉ s.take t := left_some (r := (· < ·)) irr hs ht
  have hyN : y ∈ N := hp.mem_iff.2 (List.mem_of_getElem? ht)
  rcases h with ⟨_, h⟩ | ⟨h1, h2, h3⟩
  · exact absurd (h y hyN) hy
  · exact least_left (r := (· < ·)) irr hp hs ht h1 h2 h3

/-! ### the first pod that is left -/
/-- The place of the best so far: none, or one that goes ahead of all others that were not taken. -/
def BestAt {α : Type} (r : α → α → Prop) (gone : α → Prop) (N : List α) (i : Nat) (b : Int) : Prop :=
  (b = -1 ∧ ∀ x ∈ N.take i, gone x) ∨ (∃ k : Nat, b = (k : Int) ∧ k < i ∧ ∃ y, N[k]? = some y ∧ ¬ gone y ∧ ∀ x ∈ N.take i, ¬ gone x → ¬ r x y)
theorem BestAt.start {α : Type} (r : α → α → Prop) (gone : α → Prop) (N : List α) : BestAt r gone N 0 (-1) := .inl ⟨rfl, by simp⟩
theorem BestAt.skip {α : Type} {r : α → α → Prop} {gone : α → Prop} {N : List α} {i : Nat} {b : Int} {x : α} (h : BestAt r gone N i b) (hx : N[i]? = some x) (hg : gone x ∨ ∃ k y, b = ((k : Nat) : Int) ∧ N[k]? = some y ∧ ¬ r x y) : BestAt r gone N (i + 1) b := by
  have ht : N.take (i + 1) = N.take i ++ [x] := by rw [List.take_add_one, hx]; rfl
  rcases h with ⟨rfl, h⟩ | ⟨k, rfl, hk, y, hy, hn, h3⟩
  · rcases hg with hg | ⟨k, y, e, _⟩
    · refine .inl ⟨rfl, fun z hz => ?_⟩
      rw [ht, List.mem_append, List.mem_singleton] at hz
      rcases hz with hz | rfl
      · exact h z hz
      · exact hg
    · omega
  · refine .inr ⟨k, rfl, by omega, y, hy, hn, fun z hz hnz => ?_⟩
    rw [ht, List.mem_append, List.mem_singleton] at hz
    rcases hz with hz | rfl
    · exact h3 z hz hnz
    · rcases hg with hg | ⟨k', y', e, hy', hr⟩
      · exact absurd hg hnz
      · obtain rfl : k = k' := by omega
        rw [hy] at hy'
        cases hy'
        exact hr
theorem BestAt.take {α : Type} {r : α → α → Prop} {gone : α → Prop} {N : List α} {i : Nat} {b : Int} {x : α} (irr : ∀ x, ¬ r x x) (tr : ∀ x y z, r x y → r y z → r x z) (h : BestAt r gone N i b) (hx : N[i]? = some x) (hg : ¬ gone x) (hb : b = -1 ∨ ∃ k y, b = ((k : Nat) : Int) ∧ N[k]? = some y ∧ r x y) : BestAt r gone N (i + 1) (i : Int) := by
  have ht : N.take (i + 1) = N.take i ++ [x] := by rw [List.take_add_one, hx]; rfl
  refine .inr ⟨i, rfl, by omega, x, hx, hg, fun z hz hnz => ?_⟩
  rw [ht, List.mem_append, List.mem_singleton] at hz
  rcases hz with hz | rfl
  · rcases h with ⟨rfl, h⟩ | ⟨k, rfl, hk, y, hy, hn, h3⟩
    · exact absurd (h z hz) hnz
    · rcases hb with e | ⟨k', y', e, hy', hr⟩
      · omega
      · obtain rfl : k = k' := by omega
        rw [hy] at hy'
        cases hy'
        exact fun e => h3 z hz hnz (tr _ _ _ e hr)
  · exact irr _
theorem BestAt.done {α : Type} {r : α → α → Prop} {N s : List α} (irr : ∀ x, ¬ r x x) (hp : N.Perm s) (hs : s.Pairwise r) {t : Nat} {y : α} (ht : s[t]? = some y) {b : Int} (h : BestAt r (· ∈ s.take t) N N.length b) : ∃ k : Nat, b = (k : Int) ∧ N[k]? = some y := by
  have hy : y ∉ s.take t := left_some irr hs ht
  have hyN : y ∈ N := hp.mem_iff.2 (List.mem_of_getElem? ht)
  rw [BestAt, List.take_length] at h
  rcases h with ⟨_, h⟩ | ⟨k, rfl, hk, z, hz, hn, h3⟩
  · exact absurd (h y hyN) hy
  · refine ⟨k, rfl, ?_⟩
    rw [hz, least_left irr hp hs ht (List.mem_of_getElem? hz) hn h3]

/-! ### the least numbers that are free -/
theorem filter_cut {p : Nat → Bool} {n k m : Nat} (hk : k ≤ n) (hc : ((List.range k).filter p).length ≤ m) (h : k = n ∨ ((List.range k).filter p).length = m) : ((List.range n).filter p).take m = (List.range k).filter p := by
  obtain ⟨d, rfl⟩ : ∃ d, n = k + d := ⟨n - k, by omega⟩
  rw [List.range_add, List.filter_append]
  rcases h with h | h
  · obtain rfl : d = 0 := by omega
    simp only [List.range_zero, List.map_nil, List.filter_nil, List.append_nil]
    exact List.take_of_length_le hc
  · rw [List.take_append_of_le_length (by omega), List.take_of_length_le (by omega)]
theorem filter_next {p : Nat → Bool} {k : Nat} : (List.range (k + 1)).filter p = (List.range k).filter p ++ (if p k = true then [k] else []) := by
  rw [List.range_succ, List.filter_append]
  congr 1
  by_cases h : p k = true
  · simp [h]
  · simp [h]
end Go.Proofs.YtbkoepghmcdnhaaGreatDoor.Rp
