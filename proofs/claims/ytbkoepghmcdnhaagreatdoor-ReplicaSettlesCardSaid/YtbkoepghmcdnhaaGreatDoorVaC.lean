/- Which shapes are empty: the program. -/
import Derived.Test.YtbkoepghmcdnhaaGreatDoorVaB
import Derived.Deep.Light
namespace Go.Proofs.YtbkoepghmcdnhaaGreatDoor
open Go.RowKit Go.Shelf Go.Lib Go.Sort
set_option linter.unusedVariables false
set_option linter.unusedSimpArgs false
set_option maxRecDepth 20000

def zWl (rep : Int) (cpu : Int) (mem : Int) (lab : List Lab) (sel : List Req) (tol_ : List Lab) (warm : Int) : Bool := decide (rep = 0) && (decide (cpu = 0) && decide (mem = 0)) && decide (lab.length = 0) && decide (sel.length = 0) && decide (tol_.length = 0) && decide (warm = 0)
def zPd (own : ByteArray) (node : ByteArray) (ph : Int) (since : Int) (cpu : Int) (mem : Int) (lab : List Lab) (sel : List Req) (tol_ : List Lab) (warm : Int) : Bool := decide (own.size = 0) && decide (node.size = 0) && decide (ph = 0) && decide (since = 0) && (decide (cpu = 0) && decide (mem = 0)) && decide (lab.length = 0) && decide (sel.length = 0) && decide (tol_.length = 0) && decide (warm = 0)
def zNd (grp : ByteArray) (cpu : Int) (mem : Int) (lab : List Lab) (tnt : List Lab) (since : Int) (closed : Bool) : Bool := decide (grp.size = 0) && (decide (cpu = 0) && decide (mem = 0)) && decide (lab.length = 0) && decide (tnt.length = 0) && decide (since = 0) && !closed
def zGp (mn : Int) (mx : Int) (tgt : Int) (cpu : Int) (mem : Int) (lab : List Lab) (tnt : List Lab) (prio : Int) : Bool := decide (mn = 0) && decide (mx = 0) && decide (tgt = 0) && (decide (cpu = 0) && decide (mem = 0)) && decide (lab.length = 0) && decide (tnt.length = 0) && decide (prio = 0)

set_option maxHeartbeats 2000000 in
theorem noWorkload_any (w : World) (rep : Int) (cpu : Int) (mem : Int) (warm : Int) (q_lab : Option Addr) (k_lab : Nat) (lab : List Lab) (q_sel : Option Addr) (k_sel : Nat) (sel : List Req) (q_tol_ : Option Addr) (k_tol_ : Nat) (tol_ : List Lab) :
    Calls Tryz.prog 83 #[.agg #[.int .i64 rep, .int .i64 cpu, .int .i64 mem, .slice q_lab lab.length k_lab, .slice q_sel sel.length k_sel, .slice q_tol_ tol_.length k_tol_, .int .i64 warm]] w fun e w' => e = .returned (.bool (zWl rep cpu mem lab sel tol_ warm)) ∧ Gr w w' := by
  have HZ : Hid (zWl rep cpu mem lab sel tol_ warm = (decide (rep = 0) && (decide (cpu = 0) && decide (mem = 0)) && decide (lab.length = 0) && decide (sel.length = 0) && decide (tol_.length = 0) && decide (warm = 0))) := rfl
  have eb_rep : (rep == 0) = decide (rep = 0) := by rw [Bool.eq_iff_iff]; simp
  generalize hb_rep : (decide (rep = 0) : Bool) = b_rep at HZ eb_rep
  have eb_cpu : (cpu == 0) = decide (cpu = 0) := by rw [Bool.eq_iff_iff]; simp
  generalize hb_cpu : (decide (cpu = 0) : Bool) = b_cpu at HZ eb_cpu
  have eb_mem : (mem == 0) = decide (mem = 0) := by rw [Bool.eq_iff_iff]; simp
  generalize hb_mem : (decide (mem = 0) : Bool) = b_mem at HZ eb_mem
  have eb_lab : ((lab.length : Int) == 0) = decide (lab.length = 0) := by rw [Bool.eq_iff_iff]; simp
  generalize hb_lab : (decide (lab.length = 0) : Bool) = b_lab at HZ eb_lab
  have eb_sel : ((sel.length : Int) == 0) = decide (sel.length = 0) := by rw [Bool.eq_iff_iff]; simp
  generalize hb_sel : (decide (sel.length = 0) : Bool) = b_sel at HZ eb_sel
  have eb_tol_ : ((tol_.length : Int) == 0) = decide (tol_.length = 0) := by rw [Bool.eq_iff_iff]; simp
  generalize hb_tol_ : (decide (tol_.length = 0) : Bool) = b_tol_ at HZ eb_tol_
  have eb_warm : (warm == 0) = decide (warm = 0) := by rw [Bool.eq_iff_iff]; simp
  generalize hb_warm : (decide (warm = 0) : Bool) = b_warm at HZ eb_warm
  clear hb_rep hb_cpu hb_mem hb_lab hb_sel hb_tol_ hb_warm
  generalize lab.length = n_lab at *
  generalize sel.length = n_sel at *
  generalize tol_.length = n_tol_ at *
  go_enter Tryz.func83, Tryz.ntmps83
  go_wp2
  all_goals
    go_ret
    refine ⟨ret_b ?_, (Gr.refl _).alloc _⟩
    rw [HZ.out]
    go_light
    first | (simp [*]; done) | (simp_all; done)

set_option maxHeartbeats 2000000 in
theorem noPod_any (w : World) (own : ByteArray) (node : ByteArray) (ph : Int) (since : Int) (cpu : Int) (mem : Int) (warm : Int) (q_lab : Option Addr) (k_lab : Nat) (lab : List Lab) (q_sel : Option Addr) (k_sel : Nat) (sel : List Req) (q_tol_ : Option Addr) (k_tol_ : Nat) (tol_ : List Lab) :
    Calls Tryz.prog 84 #[.agg #[.string own, .string node, .int .i64 ph, .int .i64 since, .int .i64 cpu, .int .i64 mem, .slice q_lab lab.length k_lab, .slice q_sel sel.length k_sel, .slice q_tol_ tol_.length k_tol_, .int .i64 warm]] w fun e w' => e = .returned (.bool (zPd own node ph since cpu mem lab sel tol_ warm)) ∧ Gr w w' := by
  have HZ : Hid (zPd own node ph since cpu mem lab sel tol_ warm = (decide (own.size = 0) && decide (node.size = 0) && decide (ph = 0) && decide (since = 0) && (decide (cpu = 0) && decide (mem = 0)) && decide (lab.length = 0) && decide (sel.length = 0) && decide (tol_.length = 0) && decide (warm = 0))) := rfl
  have eb_own : (own.toList == ([] : List UInt8)) = decide (own.size = 0) := empty_test own
  generalize hb_own : (decide (own.size = 0) : Bool) = b_own at HZ eb_own
  have eb_node : (node.toList == ([] : List UInt8)) = decide (node.size = 0) := empty_test node
  generalize hb_node : (decide (node.size = 0) : Bool) = b_node at HZ eb_node
  have eb_ph : (ph == 0) = decide (ph = 0) := by rw [Bool.eq_iff_iff]; simp
  generalize hb_ph : (decide (ph = 0) : Bool) = b_ph at HZ eb_ph
  have eb_since : (since == 0) = decide (since = 0) := by rw [Bool.eq_iff_iff]; simp
  generalize hb_since : (decide (since = 0) : Bool) = b_since at HZ eb_since
  have eb_cpu : (cpu == 0) = decide (cpu = 0) := by rw [Bool.eq_iff_iff]; simp
  generalize hb_cpu : (decide (cpu = 0) : Bool) = b_cpu at HZ eb_cpu
  have eb_mem : (mem == 0) = decide (mem = 0) := by rw [Bool.eq_iff_iff]; simp
  generalize hb_mem : (decide (mem = 0) : Bool) = b_mem at HZ eb_mem
  have eb_lab : ((lab.length : Int) == 0) = decide (lab.length = 0) := by rw [Bool.eq_iff_iff]; simp
  generalize hb_lab : (decide (lab.length = 0) : Bool) = b_lab at HZ eb_lab
  have eb_sel : ((sel.length : Int) == 0) = decide (sel.length = 0) := by rw [Bool.eq_iff_iff]; simp
  generalize hb_sel : (decide (sel.length = 0) : Bool) = b_sel at HZ eb_sel
  have eb_tol_ : ((tol_.length : Int) == 0) = decide (tol_.length = 0) := by rw [Bool.eq_iff_iff]; simp
  generalize hb_tol_ : (decide (tol_.length = 0) : Bool) = b_tol_ at HZ eb_tol_
  have eb_warm : (warm == 0) = decide (warm = 0) := by rw [Bool.eq_iff_iff]; simp
  generalize hb_warm : (decide (warm = 0) : Bool) = b_warm at HZ eb_warm
  clear hb_own hb_node hb_ph hb_since hb_cpu hb_mem hb_lab hb_sel hb_tol_ hb_warm
  generalize lab.length = n_lab at *
  generalize sel.length = n_sel at *
  generalize tol_.length = n_tol_ at *
  go_enter Tryz.func84, Tryz.ntmps84
  go_wp2
  all_goals
    go_ret
    refine ⟨ret_b ?_, (Gr.refl _).alloc _⟩
    rw [HZ.out]
    go_light
    first | (simp [*]; done) | (simp_all; done)

set_option maxHeartbeats 2000000 in
theorem noNode_any (w : World) (grp : ByteArray) (cpu : Int) (mem : Int) (since : Int) (closed : Bool) (q_lab : Option Addr) (k_lab : Nat) (lab : List Lab) (q_tnt : Option Addr) (k_tnt : Nat) (tnt : List Lab) :
    Calls Tryz.prog 85 #[.agg #[.string grp, .int .i64 cpu, .int .i64 mem, .slice q_lab lab.length k_lab, .slice q_tnt tnt.length k_tnt, .int .i64 since, .bool closed]] w fun e w' => e = .returned (.bool (zNd grp cpu mem lab tnt since closed)) ∧ Gr w w' := by
  have HZ : Hid (zNd grp cpu mem lab tnt since closed = (decide (grp.size = 0) && (decide (cpu = 0) && decide (mem = 0)) && decide (lab.length = 0) && decide (tnt.length = 0) && decide (since = 0) && !closed)) := rfl
  have eb_grp : (grp.toList == ([] : List UInt8)) = decide (grp.size = 0) := empty_test grp
  generalize hb_grp : (decide (grp.size = 0) : Bool) = b_grp at HZ eb_grp
  have eb_cpu : (cpu == 0) = decide (cpu = 0) := by rw [Bool.eq_iff_iff]; simp
  generalize hb_cpu : (decide (cpu = 0) : Bool) = b_cpu at HZ eb_cpu
  have eb_mem : (mem == 0) = decide (mem = 0) := by rw [Bool.eq_iff_iff]; simp
  generalize hb_mem : (decide (mem = 0) : Bool) = b_mem at HZ eb_mem
  have eb_lab : ((lab.length : Int) == 0) = decide (lab.length = 0) := by rw [Bool.eq_iff_iff]; simp
  generalize hb_lab : (decide (lab.length = 0) : Bool) = b_lab at HZ eb_lab
  have eb_tnt : ((tnt.length : Int) == 0) = decide (tnt.length = 0) := by rw [Bool.eq_iff_iff]; simp
  generalize hb_tnt : (decide (tnt.length = 0) : Bool) = b_tnt at HZ eb_tnt
  have eb_since : (since == 0) = decide (since = 0) := by rw [Bool.eq_iff_iff]; simp
  generalize hb_since : (decide (since = 0) : Bool) = b_since at HZ eb_since
  clear hb_grp hb_cpu hb_mem hb_lab hb_tnt hb_since
  generalize lab.length = n_lab at *
  generalize tnt.length = n_tnt at *
  go_enter Tryz.func85, Tryz.ntmps85
  go_wp2
  all_goals
    go_ret
    refine ⟨ret_b ?_, (Gr.refl _).alloc _⟩
    rw [HZ.out]
    go_light
    first | (simp [*]; done) | (simp_all; done)

set_option maxHeartbeats 2000000 in
theorem noGroup_any (w : World) (mn : Int) (mx : Int) (tgt : Int) (cpu : Int) (mem : Int) (prio : Int) (q_lab : Option Addr) (k_lab : Nat) (lab : List Lab) (q_tnt : Option Addr) (k_tnt : Nat) (tnt : List Lab) :
    Calls Tryz.prog 86 #[.agg #[.int .i64 mn, .int .i64 mx, .int .i64 tgt, .int .i64 cpu, .int .i64 mem, .slice q_lab lab.length k_lab, .slice q_tnt tnt.length k_tnt, .int .i64 prio]] w fun e w' => e = .returned (.bool (zGp mn mx tgt cpu mem lab tnt prio)) ∧ Gr w w' := by
  have HZ : Hid (zGp mn mx tgt cpu mem lab tnt prio = (decide (mn = 0) && decide (mx = 0) && decide (tgt = 0) && (decide (cpu = 0) && decide (mem = 0)) && decide (lab.length = 0) && decide (tnt.length = 0) && decide (prio = 0))) := rfl
  have eb_mn : (mn == 0) = decide (mn = 0) := by rw [Bool.eq_iff_iff]; simp
  generalize hb_mn : (decide (mn = 0) : Bool) = b_mn at HZ eb_mn
  have eb_mx : (mx == 0) = decide (mx = 0) := by rw [Bool.eq_iff_iff]; simp
  generalize hb_mx : (decide (mx = 0) : Bool) = b_mx at HZ eb_mx
  have eb_tgt : (tgt == 0) = decide (tgt = 0) := by rw [Bool.eq_iff_iff]; simp
  generalize hb_tgt : (decide (tgt = 0) : Bool) = b_tgt at HZ eb_tgt
  have eb_cpu : (cpu == 0) = decide (cpu = 0) := by rw [Bool.eq_iff_iff]; simp
  generalize hb_cpu : (decide (cpu = 0) : Bool) = b_cpu at HZ eb_cpu
  have eb_mem : (mem == 0) = decide (mem = 0) := by rw [Bool.eq_iff_iff]; simp
  generalize hb_mem : (decide (mem = 0) : Bool) = b_mem at HZ eb_mem
  have eb_lab : ((lab.length : Int) == 0) = decide (lab.length = 0) := by rw [Bool.eq_iff_iff]; simp
  generalize hb_lab : (decide (lab.length = 0) : Bool) = b_lab at HZ eb_lab
  have eb_tnt : ((tnt.length : Int) == 0) = decide (tnt.length = 0) := by rw [Bool.eq_iff_iff]; simp
  generalize hb_tnt : (decide (tnt.length = 0) : Bool) = b_tnt at HZ eb_tnt
  have eb_prio : (prio == 0) = decide (prio = 0) := by rw [Bool.eq_iff_iff]; simp
  generalize hb_prio : (decide (prio = 0) : Bool) = b_prio at HZ eb_prio
  clear hb_mn hb_mx hb_tgt hb_cpu hb_mem hb_lab hb_tnt hb_prio
  generalize lab.length = n_lab at *
  generalize tnt.length = n_tnt at *
  go_enter Tryz.func86, Tryz.ntmps86
  go_wp2
  all_goals
    go_ret
    refine ⟨ret_b ?_, (Gr.refl _).alloc _⟩
    rw [HZ.out]
    go_light
    first | (simp [*]; done) | (simp_all; done)
end Go.Proofs.YtbkoepghmcdnhaaGreatDoor
