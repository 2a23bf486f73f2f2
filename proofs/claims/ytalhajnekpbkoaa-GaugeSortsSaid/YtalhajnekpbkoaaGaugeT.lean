/- What 'Sort' of package gauge answers, its own loop. -/
import Derived.Test.YtalhajnekpbkoaaGaugeS
namespace Go.Proofs.Ytalhajnekpbkoaa
open Go.RowKit Go.Lib Go.Sort
set_option linter.unusedVariables false

def goods (l : List Nat) : List Nat := l.filter fun x => rdE x == 0
theorem goods_more {l : List Nat} {k x : Nat} (h : l[k]? = some x) (h0 : rdE x = 0) : goods (l.take (k + 1)) = goods (l.take k) ++ [x] := by
  unfold goods
  rw [take_more h, List.filter_append]
  simp [h0]
theorem goods_same {l : List Nat} {k x : Nat} (h : l[k]? = some x) (h0 : rdE x ≠ 0) : goods (l.take (k + 1)) = goods (l.take k) := by
  unfold goods
  rw [take_more h, List.filter_append]
  simp [h0]
theorem goods_len (l : List Nat) : (goods l).length = cnt l := rfl
theorem u64s_more (l : List Nat) (x : Nat) : u64s (l ++ [x]) = u64s l ++ [.int .u64 (x : Int)] := by simp [u64s]
theorem info_u64 : (Try.prog.info? 22).map (fun i => (i.zero, i.size, i.bytes)) = some (some (.int .u64 0), 1, 8) := by kernel_rfl
theorem one_cell (x : Int) : ∀ u ∈ [Value.int .u64 x], u.oneCell' = true := by
  intro u hu
  simp at hu
  subst hu
  rfl

set_option maxHeartbeats 1000000 in
theorem sort_any (w : World) (a : Option Addr) (c : Nat) (l : List Nat) (hl : l.length ≤ 50) (h : Samp w a l) :
    Calls Try.prog 18 #[.slice a l.length c] w (Sorts w (goods l)) := by
  have HS := Lib.hid h
  have HK : Hid (∀ x ∈ goods l, Known x) := by
    intro x hx
    unfold goods at hx
    rw [List.mem_filter] at hx
    obtain ⟨j, hj⟩ := List.getElem?_of_mem hx.1
    exact known_of (h j x hj).1 (by simpa using hx.2)
  clear h
  obtain ⟨i0, hi, hz0, hz1, hz2⟩ := info_parts info_u64
  have HI := Lib.hid (And.intro hi (And.intro hz0 (And.intro hz1 hz2)))
  clear hi hz0 hz1 hz2
  go_enter Try.func18, Try.ntmps18
  go_wp2_with fail
  go_loopw [3, 10] (fun v i wr => ∃ (k : Nat) (s : List Nat), k ≤ l.length ∧ i = .int .i64 (k : Int) ∧ Hid (s = goods (l.take k)) ∧ Hid (wr.ownsRow w.heap.size 22 1 v s.length (u64s s)) ∧ Below w.heap.size w wr) (fun _ i _ => l.length - (intOf i).toNat)
  case atStart => exact ⟨0, [], Nat.zero_le _, rfl, rfl, World.ownsRow_nil _ _ _ _, Below.refl _ _⟩
  case round =>
    obtain ⟨k, s, hk, rfl, hs, hown, hbel⟩ := hrel
    have HBEL := Lib.hid hbel
    have hsl : s.length ≤ 50 := by
      rw [hs.out, goods_len]
      exact Nat.le_trans (cnt_le _) (by rw [List.length_take]; omega)
    by_cases hlt : k < l.length
    · obtain ⟨x, hx⟩ : ∃ x, l[k]? = some x := ⟨l[k], List.getElem?_eq_getElem hlt⟩
      obtain ⟨hx64, ad, rfl, had, hcell⟩ := HS.out k x hx
      have hcell2 : wr.cell? (ad.add k) = some (.int .u64 (x : Int)) := (hbel.cell (by rw [add_block]; exact had)).trans hcell
      have M := Lib.hid (fun W : World => read_any x W hx64)
      have HX := Lib.hid hx
      obtain ⟨m, hm⟩ : ∃ m, m = rdV x := ⟨_, rfl⟩
      have z0 := hbel.size
      by_cases hg : rdE x = 0
      · rw [hg, ← hm] at M
        have HG := Lib.hid hg
        have hown2 : ∀ j, ((wr.drewN j).alloc (.cells #[.int .u64 (x : Int)] 22)).ownsRow w.heap.size 22 1 u3 s.length (u64s s) := fun j => World.ownsRow.alloc (show (wr.drewN j).ownsRow w.heap.size 22 1 u3 s.length (u64s s) from hown.out) _
        have HO := Lib.hid hown2
        clear hcell hx had hx64 hm hg hbel hown2
        go_wp2_with fail
        refine (M.out _).mono ?_
        rintro e w1 ⟨rfl, j, rfl⟩
        go_wp2_with (at_builtin; refine wpList_append_own_at _ rfl _ _ 39 rfl w.heap.size 22 i0 (.int .u64 0) 1 8 Try.underlying39 HI.out.1 HI.out.2.1 HI.out.2.2.1 HI.out.2.2.2 rfl (by decide) u3 s.length (u64s s) rfl (HO.out j) ⟨wr.heap.size, 0, none⟩ 1 1 [.int .u64 (x : Int)] rfl rfl (cell_one_new (wr.drewN j) _ _) (one_cell _) (by unfold maxLen; omega) (by omega) (by simp; omega) ?_; intro v3 w3 hO hgr hnil hloc)
        refine ⟨⟨k + 1, s ++ [x], hlt, by go_num, ?_, ?_, ?_⟩, by simp [intOf]; omega⟩
        · show _ = _
          rw [goods_more HX.out HG.out, ← hs.out]
        · show w3.ownsRow w.heap.size 22 1 v3 (s ++ [x]).length (u64s (s ++ [x]))
          rw [u64s_more, List.length_append]
          exact hO
        · have h1 : Below w.heap.size w (wr.drewN j) := HBEL.out.trans ⟨rfl, rfl, rfl, Nat.le_refl _, fun _ _ => rfl⟩
          exact (h1.alloc z0 _).grown hgr (by simp; omega) (fun k hk => ((HO.out j).lt k hk).1)
      · obtain ⟨q, hq⟩ : ∃ q, q = rdE x := ⟨_, rfl⟩
        rw [← hq, ← hm] at M
        have hq0 : ((q : Int) == 0) = false := by rw [hq]; simpa using hg
        have HG := Lib.hid hg
        clear hcell hx had hx64 hm hg hbel hq
        go_wp2_with fail
        refine (M.out _).mono ?_
        rintro e w1 ⟨rfl, j, rfl⟩
        go_wp2_with fail
        refine ⟨⟨k + 1, s, hlt, by go_num, ?_, hown, ?_⟩, by simp [intOf]; omega⟩
        · show _ = _
          rw [goods_same HX.out HG.out, ← hs.out]
        · exact HBEL.out.trans ⟨rfl, rfl, rfl, Nat.le_refl _, fun _ _ => rfl⟩
    · obtain rfl : k = l.length := by omega
      have es : s = goods l := by rw [hs.out, List.take_length]
      have z0 := hbel.size
      have C := Lib.hid (sorted_row s u3 z0 hown.out (by rw [es]; exact HK.out) hsl)
      have ES := Lib.hid es
      clear es hs hown hbel
      go_wp2_with fail
      refine C.out.mono ?_
      rintro e w2 ⟨rfl, q, cap, t, rfl, h1, h2, h3, h4⟩
      go_wp2
      go_ret
      exact ⟨q, cap, t, rfl, h1, by rw [← ES.out]; exact h2, h3, HBEL.out.trans h4⟩

end Go.Proofs.Ytalhajnekpbkoaa
