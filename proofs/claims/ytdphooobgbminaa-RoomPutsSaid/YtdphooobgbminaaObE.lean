/- The document's Empty. -/
import Derived.Test.YtdphooobgbminaaObEa
import Derived.Test.YtdphooobgbminaaHeldG
import Derived.Test.YtdphooobgbminaaObN
import Derived.BigRegion
import Derived.Deep.DeepCutAuto
import Derived.Deep.CutRange
import Derived.Deep.Light
namespace Go.Proofs.Ytdphooobgbminaa
open Go.RowKit Go.Shelf Go.Lib Go.Sort
set_option linter.unusedVariables false
set_option linter.unusedSimpArgs false
set_option maxRecDepth 20000

def e_w (o : Ob) : Bool := decide (o.w.rep = 0) && (decide (o.w.cpu = 0) && decide (o.w.mem = 0)) && (decide (o.w.lab.length = 0) && decide (o.w.sel.length = 0) && decide (o.w.tol.length = 0)) && decide (o.w.warm = 0)
def e_p (o : Ob) : Bool := decide (o.p.own.size = 0) && decide (o.p.node.size = 0) && decide (o.p.ph = 0) && decide (o.p.since = 0) && (decide (o.p.cpu = 0) && decide (o.p.mem = 0)) && (decide (o.p.lab.length = 0) && decide (o.p.sel.length = 0) && decide (o.p.tol.length = 0)) && decide (o.p.warm = 0)
def e_n (o : Ob) : Bool := decide (o.n.grp.size = 0) && (decide (o.n.cpu = 0) && decide (o.n.mem = 0)) && (decide (o.n.lab.length = 0) && decide (o.n.tnt.length = 0)) && decide (o.n.since = 0) && !o.n.closed
def e_g (o : Ob) : Bool := decide (o.g.mn = 0) && decide (o.g.mx = 0) && decide (o.g.tg = 0) && (decide (o.g.cpu = 0) && decide (o.g.mem = 0)) && (decide (o.g.lab.length = 0) && decide (o.g.tnt.length = 0)) && decide (o.g.prio = 0)
def e_h (o : Ob) : Bool := decide (o.h.tg.size = 0) && decide (o.h.mn = 0) && decide (o.h.mx = 0) && (decide (o.h.met.length = 0) && decide (o.h.past.length = 0)) && decide (o.h.tol = 0) && decide (o.h.uw = 0) && decide (o.h.up = 0) && decide (o.h.upol.length = 0) && decide (o.h.dw = 0) && decide (o.h.dp = 0) && decide (o.h.dpol.length = 0)
def empE (o : Ob) : Bool := (e_w o || (o.kind == 0)) && (e_p o || (o.kind == 1)) && (e_n o || (o.kind == 2)) && (e_g o || (o.kind == 3)) && (e_h o || (o.kind == 4))
/-- Rows are no longer than memory. -/
structure LensO (o : Ob) : Prop where
  l6 : o.w.lab.length ≤ 140737488355328
  l7 : o.w.sel.length ≤ 140737488355328
  l8 : o.w.tol.length ≤ 140737488355328
  l16 : o.p.lab.length ≤ 140737488355328
  l17 : o.p.sel.length ≤ 140737488355328
  l18 : o.p.tol.length ≤ 140737488355328
  l23 : o.n.lab.length ≤ 140737488355328
  l24 : o.n.tnt.length ≤ 140737488355328
  l32 : o.g.lab.length ≤ 140737488355328
  l33 : o.g.tnt.length ≤ 140737488355328
  l38 : o.h.met.length ≤ 140737488355328
  l42 : o.h.upol.length ≤ 140737488355328
  l45 : o.h.dpol.length ≤ 140737488355328
  l46 : o.h.past.length ≤ 140737488355328

set_option maxHeartbeats 16000000 in
theorem rempty_any (w : World) (cs : Array Value) (ob : Ob) (hv : ObjV w cs ob) (hk : 0 ≤ ob.kind ∧ ob.kind ≤ 4) (hL : LensO ob) :
    Calls Try.prog 25 #[.agg cs] w fun e w' => e = .returned (.bool (empE ob)) ∧ Gr w w' := by
  have mixed : Try.prog.follows .mixedOrders = true := by kernel_rfl
  obtain ⟨m6, m7, m8, m16, m17, m18, m23, m24, m32, m33, m38, m42, m45, m46⟩ := hL
  obtain ⟨kk, name, ver, W, P, N, G, H⟩ := ob
  obtain ⟨hsz, ⟨c0, c1, c2, hver⟩, hW, hP, hN, hG, hH⟩ := hv
  obtain ⟨v3, v4, v5, l6, l7, l8, v9⟩ := W
  obtain ⟨v10, v11, v12, v13, v14, v15, l16, l17, l18, v19⟩ := P
  obtain ⟨v20, v21, v22, l23, l24, v25, v26⟩ := N
  obtain ⟨v27, v28, v29, v30, v31, l32, l33, v34⟩ := G
  obtain ⟨v35, v36, v37, l38, v39, v40, v41, l42, v43, v44, l45, l46⟩ := H
  obtain ⟨c3, c4, c5, ⟨q6, k6, c6, r6⟩, ⟨q7, k7, c7, r7⟩, ⟨q8, k8, c8, r8⟩, c9⟩ := hW
  obtain ⟨c10, c11, c12, c13, c14, c15, ⟨q16, k16, c16, r16⟩, ⟨q17, k17, c17, r17⟩, ⟨q18, k18, c18, r18⟩, c19⟩ := hP
  obtain ⟨c20, c21, c22, ⟨q23, k23, c23, r23⟩, ⟨q24, k24, c24, r24⟩, c25, c26⟩ := hN
  obtain ⟨c27, c28, c29, c30, c31, ⟨q32, k32, c32, r32⟩, ⟨q33, k33, c33, r33⟩, c34⟩ := hG
  obtain ⟨c35, c36, c37, ⟨q38, k38, c38, r38⟩, c39, c40, c41, ⟨q42, k42, c42, r42⟩, c43, c44, ⟨q45, k45, c45, r45⟩, ⟨q46, k46, c46, r46⟩⟩ := hH
  dsimp only at *
  have HO : Hid (empE ⟨kk, name, ver, ⟨v3, v4, v5, l6, l7, l8, v9⟩, ⟨v10, v11, v12, v13, v14, v15, l16, l17, l18, v19⟩, ⟨v20, v21, v22, l23, l24, v25, v26⟩, ⟨v27, v28, v29, v30, v31, l32, l33, v34⟩, ⟨v35, v36, v37, l38, v39, v40, v41, l42, v43, v44, l45, l46⟩⟩ = ((e_w ⟨kk, name, ver, ⟨v3, v4, v5, l6, l7, l8, v9⟩, ⟨v10, v11, v12, v13, v14, v15, l16, l17, l18, v19⟩, ⟨v20, v21, v22, l23, l24, v25, v26⟩, ⟨v27, v28, v29, v30, v31, l32, l33, v34⟩, ⟨v35, v36, v37, l38, v39, v40, v41, l42, v43, v44, l45, l46⟩⟩ || (kk == 0)) && (e_p ⟨kk, name, ver, ⟨v3, v4, v5, l6, l7, l8, v9⟩, ⟨v10, v11, v12, v13, v14, v15, l16, l17, l18, v19⟩, ⟨v20, v21, v22, l23, l24, v25, v26⟩, ⟨v27, v28, v29, v30, v31, l32, l33, v34⟩, ⟨v35, v36, v37, l38, v39, v40, v41, l42, v43, v44, l45, l46⟩⟩ || (kk == 1)) && (e_n ⟨kk, name, ver, ⟨v3, v4, v5, l6, l7, l8, v9⟩, ⟨v10, v11, v12, v13, v14, v15, l16, l17, l18, v19⟩, ⟨v20, v21, v22, l23, l24, v25, v26⟩, ⟨v27, v28, v29, v30, v31, l32, l33, v34⟩, ⟨v35, v36, v37, l38, v39, v40, v41, l42, v43, v44, l45, l46⟩⟩ || (kk == 2)) && (e_g ⟨kk, name, ver, ⟨v3, v4, v5, l6, l7, l8, v9⟩, ⟨v10, v11, v12, v13, v14, v15, l16, l17, l18, v19⟩, ⟨v20, v21, v22, l23, l24, v25, v26⟩, ⟨v27, v28, v29, v30, v31, l32, l33, v34⟩, ⟨v35, v36, v37, l38, v39, v40, v41, l42, v43, v44, l45, l46⟩⟩ || (kk == 3)) && (e_h ⟨kk, name, ver, ⟨v3, v4, v5, l6, l7, l8, v9⟩, ⟨v10, v11, v12, v13, v14, v15, l16, l17, l18, v19⟩, ⟨v20, v21, v22, l23, l24, v25, v26⟩, ⟨v27, v28, v29, v30, v31, l32, l33, v34⟩, ⟨v35, v36, v37, l38, v39, v40, v41, l42, v43, v44, l45, l46⟩⟩ || (kk == 4)))) := rfl
  have ZZs : e_w ⟨kk, name, ver, ⟨v3, v4, v5, l6, l7, l8, v9⟩, ⟨v10, v11, v12, v13, v14, v15, l16, l17, l18, v19⟩, ⟨v20, v21, v22, l23, l24, v25, v26⟩, ⟨v27, v28, v29, v30, v31, l32, l33, v34⟩, ⟨v35, v36, v37, l38, v39, v40, v41, l42, v43, v44, l45, l46⟩⟩ = (decide (v3 = 0) && (decide (v4 = 0) && decide (v5 = 0)) && (decide (l6.length = 0) && decide (l7.length = 0) && decide (l8.length = 0)) && decide (v9 = 0)) ∧ e_p ⟨kk, name, ver, ⟨v3, v4, v5, l6, l7, l8, v9⟩, ⟨v10, v11, v12, v13, v14, v15, l16, l17, l18, v19⟩, ⟨v20, v21, v22, l23, l24, v25, v26⟩, ⟨v27, v28, v29, v30, v31, l32, l33, v34⟩, ⟨v35, v36, v37, l38, v39, v40, v41, l42, v43, v44, l45, l46⟩⟩ = (decide (v10.size = 0) && decide (v11.size = 0) && decide (v12 = 0) && decide (v13 = 0) && (decide (v14 = 0) && decide (v15 = 0)) && (decide (l16.length = 0) && decide (l17.length = 0) && decide (l18.length = 0)) && decide (v19 = 0)) ∧ e_n ⟨kk, name, ver, ⟨v3, v4, v5, l6, l7, l8, v9⟩, ⟨v10, v11, v12, v13, v14, v15, l16, l17, l18, v19⟩, ⟨v20, v21, v22, l23, l24, v25, v26⟩, ⟨v27, v28, v29, v30, v31, l32, l33, v34⟩, ⟨v35, v36, v37, l38, v39, v40, v41, l42, v43, v44, l45, l46⟩⟩ = (decide (v20.size = 0) && (decide (v21 = 0) && decide (v22 = 0)) && (decide (l23.length = 0) && decide (l24.length = 0)) && decide (v25 = 0) && !v26) ∧ e_g ⟨kk, name, ver, ⟨v3, v4, v5, l6, l7, l8, v9⟩, ⟨v10, v11, v12, v13, v14, v15, l16, l17, l18, v19⟩, ⟨v20, v21, v22, l23, l24, v25, v26⟩, ⟨v27, v28, v29, v30, v31, l32, l33, v34⟩, ⟨v35, v36, v37, l38, v39, v40, v41, l42, v43, v44, l45, l46⟩⟩ = (decide (v27 = 0) && decide (v28 = 0) && decide (v29 = 0) && (decide (v30 = 0) && decide (v31 = 0)) && (decide (l32.length = 0) && decide (l33.length = 0)) && decide (v34 = 0)) ∧ e_h ⟨kk, name, ver, ⟨v3, v4, v5, l6, l7, l8, v9⟩, ⟨v10, v11, v12, v13, v14, v15, l16, l17, l18, v19⟩, ⟨v20, v21, v22, l23, l24, v25, v26⟩, ⟨v27, v28, v29, v30, v31, l32, l33, v34⟩, ⟨v35, v36, v37, l38, v39, v40, v41, l42, v43, v44, l45, l46⟩⟩ = (decide (v35.size = 0) && decide (v36 = 0) && decide (v37 = 0) && (decide (l38.length = 0) && decide (l46.length = 0)) && decide (v39 = 0) && decide (v40 = 0) && decide (v41 = 0) && decide (l42.length = 0) && decide (v43 = 0) && decide (v44 = 0) && decide (l45.length = 0)) := ⟨rfl, rfl, rfl, rfl, rfl⟩
  generalize hz0 : e_w ⟨kk, name, ver, ⟨v3, v4, v5, l6, l7, l8, v9⟩, ⟨v10, v11, v12, v13, v14, v15, l16, l17, l18, v19⟩, ⟨v20, v21, v22, l23, l24, v25, v26⟩, ⟨v27, v28, v29, v30, v31, l32, l33, v34⟩, ⟨v35, v36, v37, l38, v39, v40, v41, l42, v43, v44, l45, l46⟩⟩ = zz0 at HO ZZs
  generalize hz1 : e_p ⟨kk, name, ver, ⟨v3, v4, v5, l6, l7, l8, v9⟩, ⟨v10, v11, v12, v13, v14, v15, l16, l17, l18, v19⟩, ⟨v20, v21, v22, l23, l24, v25, v26⟩, ⟨v27, v28, v29, v30, v31, l32, l33, v34⟩, ⟨v35, v36, v37, l38, v39, v40, v41, l42, v43, v44, l45, l46⟩⟩ = zz1 at HO ZZs
  generalize hz2 : e_n ⟨kk, name, ver, ⟨v3, v4, v5, l6, l7, l8, v9⟩, ⟨v10, v11, v12, v13, v14, v15, l16, l17, l18, v19⟩, ⟨v20, v21, v22, l23, l24, v25, v26⟩, ⟨v27, v28, v29, v30, v31, l32, l33, v34⟩, ⟨v35, v36, v37, l38, v39, v40, v41, l42, v43, v44, l45, l46⟩⟩ = zz2 at HO ZZs
  generalize hz3 : e_g ⟨kk, name, ver, ⟨v3, v4, v5, l6, l7, l8, v9⟩, ⟨v10, v11, v12, v13, v14, v15, l16, l17, l18, v19⟩, ⟨v20, v21, v22, l23, l24, v25, v26⟩, ⟨v27, v28, v29, v30, v31, l32, l33, v34⟩, ⟨v35, v36, v37, l38, v39, v40, v41, l42, v43, v44, l45, l46⟩⟩ = zz3 at HO ZZs
  generalize hz4 : e_h ⟨kk, name, ver, ⟨v3, v4, v5, l6, l7, l8, v9⟩, ⟨v10, v11, v12, v13, v14, v15, l16, l17, l18, v19⟩, ⟨v20, v21, v22, l23, l24, v25, v26⟩, ⟨v27, v28, v29, v30, v31, l32, l33, v34⟩, ⟨v35, v36, v37, l38, v39, v40, v41, l42, v43, v44, l45, l46⟩⟩ = zz4 at HO ZZs
  obtain ⟨Z0, Z1, Z2, Z3, Z4⟩ := ZZs
  clear hz0 hz1 hz2 hz3 hz4
  have t3 : ((v3 == 0)) = (decide (v3 = 0)) := num_test _
  generalize hy3 : (decide (v3 = 0)) = y3 at Z0 t3
  clear hy3
  have t4 : ((v4 == 0)) = (decide (v4 = 0)) := num_test _
  generalize hy4 : (decide (v4 = 0)) = y4 at Z0 t4
  clear hy4
  have t5 : ((v5 == 0)) = (decide (v5 = 0)) := num_test _
  generalize hy5 : (decide (v5 = 0)) = y5 at Z0 t5
  clear hy5
  have t6 : ((l6.length : Int) + (l7.length : Int) + (l8.length : Int) == 0) = (decide (l6.length = 0) && decide (l7.length = 0) && decide (l8.length = 0)) := len_test3 _ _ _
  generalize hy6 : (decide (l6.length = 0) && decide (l7.length = 0) && decide (l8.length = 0)) = y6 at Z0 t6
  clear hy6
  have t9 : ((v9 == 0)) = (decide (v9 = 0)) := num_test _
  generalize hy9 : (decide (v9 = 0)) = y9 at Z0 t9
  clear hy9
  have t10 : ((v10.toList == ([] : List UInt8))) = (decide (v10.size = 0)) := empty_test _
  generalize hy10 : (decide (v10.size = 0)) = y10 at Z1 t10
  clear hy10
  have t11 : ((v11.toList == ([] : List UInt8))) = (decide (v11.size = 0)) := empty_test _
  generalize hy11 : (decide (v11.size = 0)) = y11 at Z1 t11
  clear hy11
  have t12 : ((v12 == 0)) = (decide (v12 = 0)) := num_test _
  generalize hy12 : (decide (v12 = 0)) = y12 at Z1 t12
  clear hy12
  have t13 : ((v13 == 0)) = (decide (v13 = 0)) := num_test _
  generalize hy13 : (decide (v13 = 0)) = y13 at Z1 t13
  clear hy13
  have t14 : ((v14 == 0)) = (decide (v14 = 0)) := num_test _
  generalize hy14 : (decide (v14 = 0)) = y14 at Z1 t14
  clear hy14
  have t15 : ((v15 == 0)) = (decide (v15 = 0)) := num_test _
  generalize hy15 : (decide (v15 = 0)) = y15 at Z1 t15
  clear hy15
  have t16 : ((l16.length : Int) + (l17.length : Int) + (l18.length : Int) == 0) = (decide (l16.length = 0) && decide (l17.length = 0) && decide (l18.length = 0)) := len_test3 _ _ _
  generalize hy16 : (decide (l16.length = 0) && decide (l17.length = 0) && decide (l18.length = 0)) = y16 at Z1 t16
  clear hy16
  have t19 : ((v19 == 0)) = (decide (v19 = 0)) := num_test _
  generalize hy19 : (decide (v19 = 0)) = y19 at Z1 t19
  clear hy19
  have t20 : ((v20.toList == ([] : List UInt8))) = (decide (v20.size = 0)) := empty_test _
  generalize hy20 : (decide (v20.size = 0)) = y20 at Z2 t20
  clear hy20
  have t21 : ((v21 == 0)) = (decide (v21 = 0)) := num_test _
  generalize hy21 : (decide (v21 = 0)) = y21 at Z2 t21
  clear hy21
  have t22 : ((v22 == 0)) = (decide (v22 = 0)) := num_test _
  generalize hy22 : (decide (v22 = 0)) = y22 at Z2 t22
  clear hy22
  have t23 : ((l23.length : Int) + (l24.length : Int) == 0) = (decide (l23.length = 0) && decide (l24.length = 0)) := len_test2 _ _
  generalize hy23 : (decide (l23.length = 0) && decide (l24.length = 0)) = y23 at Z2 t23
  clear hy23
  have t25 : ((v25 == 0)) = (decide (v25 = 0)) := num_test _
  generalize hy25 : (decide (v25 = 0)) = y25 at Z2 t25
  clear hy25
  have t27 : ((v27 == 0)) = (decide (v27 = 0)) := num_test _
  generalize hy27 : (decide (v27 = 0)) = y27 at Z3 t27
  clear hy27
  have t28 : ((v28 == 0)) = (decide (v28 = 0)) := num_test _
  generalize hy28 : (decide (v28 = 0)) = y28 at Z3 t28
  clear hy28
  have t29 : ((v29 == 0)) = (decide (v29 = 0)) := num_test _
  generalize hy29 : (decide (v29 = 0)) = y29 at Z3 t29
  clear hy29
  have t30 : ((v30 == 0)) = (decide (v30 = 0)) := num_test _
  generalize hy30 : (decide (v30 = 0)) = y30 at Z3 t30
  clear hy30
  have t31 : ((v31 == 0)) = (decide (v31 = 0)) := num_test _
  generalize hy31 : (decide (v31 = 0)) = y31 at Z3 t31
  clear hy31
  have t32 : ((l32.length : Int) + (l33.length : Int) == 0) = (decide (l32.length = 0) && decide (l33.length = 0)) := len_test2 _ _
  generalize hy32 : (decide (l32.length = 0) && decide (l33.length = 0)) = y32 at Z3 t32
  clear hy32
  have t34 : ((v34 == 0)) = (decide (v34 = 0)) := num_test _
  generalize hy34 : (decide (v34 = 0)) = y34 at Z3 t34
  clear hy34
  have t35 : ((v35.toList == ([] : List UInt8))) = (decide (v35.size = 0)) := empty_test _
  generalize hy35 : (decide (v35.size = 0)) = y35 at Z4 t35
  clear hy35
  have t36 : ((v36 == 0)) = (decide (v36 = 0)) := num_test _
  generalize hy36 : (decide (v36 = 0)) = y36 at Z4 t36
  clear hy36
  have t37 : ((v37 == 0)) = (decide (v37 = 0)) := num_test _
  generalize hy37 : (decide (v37 = 0)) = y37 at Z4 t37
  clear hy37
  have t38 : ((l38.length : Int) + (l46.length : Int) == 0) = (decide (l38.length = 0) && decide (l46.length = 0)) := len_test2 _ _
  generalize hy38 : (decide (l38.length = 0) && decide (l46.length = 0)) = y38 at Z4 t38
  clear hy38
  have t39 : ((v39 == 0)) = (decide (v39 = 0)) := num_test _
  generalize hy39 : (decide (v39 = 0)) = y39 at Z4 t39
  clear hy39
  have t40 : ((v40 == 0)) = (decide (v40 = 0)) := num_test _
  generalize hy40 : (decide (v40 = 0)) = y40 at Z4 t40
  clear hy40
  have t41 : ((v41 == 0)) = (decide (v41 = 0)) := num_test _
  generalize hy41 : (decide (v41 = 0)) = y41 at Z4 t41
  clear hy41
  have t42 : ((l42.length : Int) == 0) = (decide (l42.length = 0)) := len_test1 _
  generalize hy42 : (decide (l42.length = 0)) = y42 at Z4 t42
  clear hy42
  have t43 : ((v43 == 0)) = (decide (v43 = 0)) := num_test _
  generalize hy43 : (decide (v43 = 0)) = y43 at Z4 t43
  clear hy43
  have t44 : ((v44 == 0)) = (decide (v44 = 0)) := num_test _
  generalize hy44 : (decide (v44 = 0)) = y44 at Z4 t44
  clear hy44
  have t45 : ((l45.length : Int) == 0) = (decide (l45.length = 0)) := len_test1 _
  generalize hy45 : (decide (l45.length = 0)) = y45 at Z4 t45
  clear hy45
  generalize empE ⟨kk, name, ver, ⟨v3, v4, v5, l6, l7, l8, v9⟩, ⟨v10, v11, v12, v13, v14, v15, l16, l17, l18, v19⟩, ⟨v20, v21, v22, l23, l24, v25, v26⟩, ⟨v27, v28, v29, v30, v31, l32, l33, v34⟩, ⟨v35, v36, v37, l38, v39, v40, v41, l42, v43, v44, l45, l46⟩⟩ = em at HO ⊢
  generalize l6.length = n6 at *
  generalize l7.length = n7 at *
  generalize l8.length = n8 at *
  generalize l16.length = n16 at *
  generalize l17.length = n17 at *
  generalize l18.length = n18 at *
  generalize l23.length = n23 at *
  generalize l24.length = n24 at *
  generalize l32.length = n32 at *
  generalize l33.length = n33 at *
  generalize l38.length = n38 at *
  generalize l42.length = n42 at *
  generalize l45.length = n45 at *
  generalize l46.length = n46 at *
  clear c1 c2 hver r6 r7 r8 r16 r17 r18 r23 r24 r32 r33 r38 r42 r45 r46
  have ZZ0 := Lib.hid Z0
  have TT0 := Lib.hid (And.intro t3 (And.intro t4 (And.intro t5 (And.intro t6 (And.intro t9 (And.intro m6 (And.intro m7 m8)))))))
  clear t3 t4 t5 t6 t9 m6 m7 m8
  have ZZ1 := Lib.hid Z1
  have TT1 := Lib.hid (And.intro t10 (And.intro t11 (And.intro t12 (And.intro t13 (And.intro t14 (And.intro t15 (And.intro t16 (And.intro t19 (And.intro m16 (And.intro m17 m18))))))))))
  clear t10 t11 t12 t13 t14 t15 t16 t19 m16 m17 m18
  have ZZ2 := Lib.hid Z2
  have TT2 := Lib.hid (And.intro t20 (And.intro t21 (And.intro t22 (And.intro t23 (And.intro t25 (And.intro m23 m24))))))
  clear t20 t21 t22 t23 t25 m23 m24
  have ZZ3 := Lib.hid Z3
  have TT3 := Lib.hid (And.intro t27 (And.intro t28 (And.intro t29 (And.intro t30 (And.intro t31 (And.intro t32 (And.intro t34 (And.intro m32 m33))))))))
  clear t27 t28 t29 t30 t31 t32 t34 m32 m33
  have ZZ4 := Lib.hid Z4
  have TT4 := Lib.hid (And.intro t35 (And.intro t36 (And.intro t37 (And.intro t38 (And.intro t39 (And.intro t40 (And.intro t41 (And.intro t42 (And.intro t43 (And.intro t44 (And.intro t45 (And.intro m38 (And.intro m42 (And.intro m45 m46))))))))))))))
  clear t35 t36 t37 t38 t39 t40 t41 t42 t43 t44 t45 m38 m42 m45 m46
  clear Z0 Z1 Z2 Z3 Z4
  have HK := Lib.hid hk
  clear hk
  obtain ⟨B, hB⟩ : ∃ B, B = w.heap.size := ⟨_, rfl⟩
  obtain ⟨wb, hwb⟩ : ∃ wb, wb = w.alloc (.cells cs 44) := ⟨_, rfl⟩
  have GB : Gr w wb := hwb ▸ (Gr.refl w).alloc _
  have hz : B < wb.heap.size := by rw [hwb, hB]; simp
  have d0 : wb.cell? ⟨B, 0, none⟩ = some (.int .i64 kk) := by rw [hwb, hB]; simp [c0]
  obtain ⟨L0, hL0⟩ : ∃ L : List Value, L = [.int .i64 v3, .int .i64 v4, .int .i64 v5, .slice q6 n6 k6, .slice q7 n7 k7, .slice q8 n8 k8, .int .i64 v9] := ⟨_, rfl⟩
  have r0 : wb.rangeAt B 3 L0 := by rw [hwb, hB, hL0]; exact Rg.laid (Rg.cons c3 (Rg.cons c4 (Rg.cons c5 (Rg.cons c6 (Rg.cons c7 (Rg.cons c8 (Rg.cons c9 (Rg.nil _ _)))))))) w _
  obtain ⟨L1, hL1⟩ : ∃ L : List Value, L = [.string v10, .string v11, .int .i64 v12, .int .i64 v13, .int .i64 v14, .int .i64 v15, .slice q16 n16 k16, .slice q17 n17 k17, .slice q18 n18 k18, .int .i64 v19] := ⟨_, rfl⟩
  have r1 : wb.rangeAt B 10 L1 := by rw [hwb, hB, hL1]; exact Rg.laid (Rg.cons c10 (Rg.cons c11 (Rg.cons c12 (Rg.cons c13 (Rg.cons c14 (Rg.cons c15 (Rg.cons c16 (Rg.cons c17 (Rg.cons c18 (Rg.cons c19 (Rg.nil _ _))))))))))) w _
  obtain ⟨L2, hL2⟩ : ∃ L : List Value, L = [.string v20, .int .i64 v21, .int .i64 v22, .slice q23 n23 k23, .slice q24 n24 k24, .int .i64 v25, .bool v26] := ⟨_, rfl⟩
  have r2 : wb.rangeAt B 20 L2 := by rw [hwb, hB, hL2]; exact Rg.laid (Rg.cons c20 (Rg.cons c21 (Rg.cons c22 (Rg.cons c23 (Rg.cons c24 (Rg.cons c25 (Rg.cons c26 (Rg.nil _ _)))))))) w _
  obtain ⟨L3, hL3⟩ : ∃ L : List Value, L = [.int .i64 v27, .int .i64 v28, .int .i64 v29, .int .i64 v30, .int .i64 v31, .slice q32 n32 k32, .slice q33 n33 k33, .int .i64 v34] := ⟨_, rfl⟩
  have r3 : wb.rangeAt B 27 L3 := by rw [hwb, hB, hL3]; exact Rg.laid (Rg.cons c27 (Rg.cons c28 (Rg.cons c29 (Rg.cons c30 (Rg.cons c31 (Rg.cons c32 (Rg.cons c33 (Rg.cons c34 (Rg.nil _ _))))))))) w _
  obtain ⟨L4, hL4⟩ : ∃ L : List Value, L = [.string v35, .int .i64 v36, .int .i64 v37, .slice q38 n38 k38, .int .i64 v39, .int .i64 v40, .int .i64 v41, .slice q42 n42 k42, .int .i64 v43, .int .i64 v44, .slice q45 n45 k45, .slice q46 n46 k46] := ⟨_, rfl⟩
  have r4 : wb.rangeAt B 35 L4 := by rw [hwb, hB, hL4]; exact Rg.laid (Rg.cons c35 (Rg.cons c36 (Rg.cons c37 (Rg.cons c38 (Rg.cons c39 (Rg.cons c40 (Rg.cons c41 (Rg.cons c42 (Rg.cons c43 (Rg.cons c44 (Rg.cons c45 (Rg.cons c46 (Rg.nil _ _))))))))))))) w _
  have HL := Lib.hid (And.intro hL0 (And.intro hL1 (And.intro hL2 (And.intro hL3 hL4))))
  have l0 : L0.length = 7 := by rw [hL0]; rfl
  have o0 : Ones L0 := by rw [hL0]; exact (Ones.cons rfl (Ones.cons rfl (Ones.cons rfl (Ones.cons rfl (Ones.cons rfl (Ones.cons rfl (Ones.cons rfl Ones.nil)))))))
  have l1 : L1.length = 10 := by rw [hL1]; rfl
  have o1 : Ones L1 := by rw [hL1]; exact (Ones.cons rfl (Ones.cons rfl (Ones.cons rfl (Ones.cons rfl (Ones.cons rfl (Ones.cons rfl (Ones.cons rfl (Ones.cons rfl (Ones.cons rfl (Ones.cons rfl Ones.nil))))))))))
  have l2 : L2.length = 7 := by rw [hL2]; rfl
  have o2 : Ones L2 := by rw [hL2]; exact (Ones.cons rfl (Ones.cons rfl (Ones.cons rfl (Ones.cons rfl (Ones.cons rfl (Ones.cons rfl (Ones.cons rfl Ones.nil)))))))
  have l3 : L3.length = 8 := by rw [hL3]; rfl
  have o3 : Ones L3 := by rw [hL3]; exact (Ones.cons rfl (Ones.cons rfl (Ones.cons rfl (Ones.cons rfl (Ones.cons rfl (Ones.cons rfl (Ones.cons rfl (Ones.cons rfl Ones.nil))))))))
  have l4 : L4.length = 12 := by rw [hL4]; rfl
  have o4 : Ones L4 := by rw [hL4]; exact (Ones.cons rfl (Ones.cons rfl (Ones.cons rfl (Ones.cons rfl (Ones.cons rfl (Ones.cons rfl (Ones.cons rfl (Ones.cons rfl (Ones.cons rfl (Ones.cons rfl (Ones.cons rfl (Ones.cons rfl Ones.nil))))))))))))
  have HW := Lib.hid (And.intro hwb hB)
  have GB0 := Lib.hid GB
  clear GB hwb hB hsz hL0 hL1 hL2 hL3 hL4 c0 c3 c4 c5 c6 c7 c8 c9 c10 c11 c12 c13 c14 c15 c16 c17 c18 c19 c20 c21 c22 c23 c24 c25 c26 c27 c28 c29 c30 c31 c32 c33 c34 c35 c36 c37 c38 c39 c40 c41 c42 c43 c44 c45 c46
  have H0 := Lib.hid (And.intro d0 hz)
  have HR := Lib.hid (And.intro r0 (And.intro r1 (And.intro r2 (And.intro r3 r4))))
  clear d0 hz r0 r1 r2 r3 r4
  go_enter Try.func25, Try.ntmps25
  go_wp2_with fail
  rw [← HW.out.1, ← HW.out.2]
  refine wp_region_held_drew (S := fun w' => Bd wb.heap.size wb w') mixed (Bd.refl _ wb).drew (fun hHeld => ?_)
  refine wpAnyH_takeD (i := 0) (d := 13) (v := .pointer (some ⟨B, 3, none⟩)) _ rfl rfl (by kernel_rfl) (by kernel_rfl) (by kernel_rfl) (fun _ _ _ h => h) (Or.inl ⟨by kernel_rfl, fun ws hSw => by go_simp⟩) hHeld ?_
  simp only [Act.put, List.setIfInBounds_toArray, List.set_cons_zero, List.set_cons_succ]
  refine wpAnyH_takeD (i := 1) (d := 14) (v := .agg L0.toArray) _ rfl rfl (by kernel_rfl) (by kernel_rfl) (by kernel_rfl) (fun _ _ _ h => h) (yieldsIf_load_mid (by kernel_rfl) _ _ rfl B 3 (by kernel_rfl) L0 _ (fun ws hSw => rangeAt_below HR.out.1 hSw.below H0.out.2) Try.underlying29 rfl (by rw [l0]; kernel_rfl)) hHeld ?_
  simp only [Act.put, List.setIfInBounds_toArray, List.set_cons_zero, List.set_cons_succ]
  refine wpAnyH_takeD (i := 2) (d := 15) (v := .pointer (some ⟨B, 10, none⟩)) _ rfl rfl (by kernel_rfl) (by kernel_rfl) (by kernel_rfl) (fun _ _ _ h => h) (Or.inl ⟨by kernel_rfl, fun ws hSw => by go_simp⟩) hHeld ?_
  simp only [Act.put, List.setIfInBounds_toArray, List.set_cons_zero, List.set_cons_succ]
  refine wpAnyH_takeD (i := 3) (d := 16) (v := .agg L1.toArray) _ rfl rfl (by kernel_rfl) (by kernel_rfl) (by kernel_rfl) (fun _ _ _ h => h) (yieldsIf_load_mid (by kernel_rfl) _ _ rfl B 10 (by kernel_rfl) L1 _ (fun ws hSw => rangeAt_below HR.out.2.1 hSw.below H0.out.2) Try.underlying31 rfl (by rw [l1]; kernel_rfl)) hHeld ?_
  simp only [Act.put, List.setIfInBounds_toArray, List.set_cons_zero, List.set_cons_succ]
  refine wpAnyH_takeD (i := 4) (d := 17) (v := .pointer (some ⟨B, 20, none⟩)) _ rfl rfl (by kernel_rfl) (by kernel_rfl) (by kernel_rfl) (fun _ _ _ h => h) (Or.inl ⟨by kernel_rfl, fun ws hSw => by go_simp⟩) hHeld ?_
  simp only [Act.put, List.setIfInBounds_toArray, List.set_cons_zero, List.set_cons_succ]
  refine wpAnyH_takeD (i := 5) (d := 18) (v := .agg L2.toArray) _ rfl rfl (by kernel_rfl) (by kernel_rfl) (by kernel_rfl) (fun _ _ _ h => h) (yieldsIf_load_mid (by kernel_rfl) _ _ rfl B 20 (by kernel_rfl) L2 _ (fun ws hSw => rangeAt_below HR.out.2.2.1 hSw.below H0.out.2) Try.underlying33 rfl (by rw [l2]; kernel_rfl)) hHeld ?_
  simp only [Act.put, List.setIfInBounds_toArray, List.set_cons_zero, List.set_cons_succ]
  refine wpAnyH_takeD (i := 6) (d := 19) (v := .pointer (some ⟨B, 27, none⟩)) _ rfl rfl (by kernel_rfl) (by kernel_rfl) (by kernel_rfl) (fun _ _ _ h => h) (Or.inl ⟨by kernel_rfl, fun ws hSw => by go_simp⟩) hHeld ?_
  simp only [Act.put, List.setIfInBounds_toArray, List.set_cons_zero, List.set_cons_succ]
  refine wpAnyH_takeD (i := 7) (d := 20) (v := .agg L3.toArray) _ rfl rfl (by kernel_rfl) (by kernel_rfl) (by kernel_rfl) (fun _ _ _ h => h) (yieldsIf_load_mid (by kernel_rfl) _ _ rfl B 27 (by kernel_rfl) L3 _ (fun ws hSw => rangeAt_below HR.out.2.2.2.1 hSw.below H0.out.2) Try.underlying35 rfl (by rw [l3]; kernel_rfl)) hHeld ?_
  simp only [Act.put, List.setIfInBounds_toArray, List.set_cons_zero, List.set_cons_succ]
  refine wpAnyH_takeD (i := 8) (d := 21) (v := .pointer (some ⟨B, 35, none⟩)) _ rfl rfl (by kernel_rfl) (by kernel_rfl) (by kernel_rfl) (fun _ _ _ h => h) (Or.inl ⟨by kernel_rfl, fun ws hSw => by go_simp⟩) hHeld ?_
  simp only [Act.put, List.setIfInBounds_toArray, List.set_cons_zero, List.set_cons_succ]
  refine wpAnyH_takeD (i := 9) (d := 22) (v := .agg L4.toArray) _ rfl rfl (by kernel_rfl) (by kernel_rfl) (by kernel_rfl) (fun _ _ _ h => h) (yieldsIf_load_mid (by kernel_rfl) _ _ rfl B 35 (by kernel_rfl) L4 _ (fun ws hSw => rangeAt_below HR.out.2.2.2.2 hSw.below H0.out.2) Try.underlying42 rfl (by rw [l4]; kernel_rfl)) hHeld ?_
  simp only [Act.put, List.setIfInBounds_toArray, List.set_cons_zero, List.set_cons_succ]
  refine five_all (N := wb.heap.size) 3 14 _ (Nat.le_refl _)
    ⟨⟨_, rfl, rfl, fun _ => rfl, fun a ws => by go_simp; rfl⟩⟩ ⟨⟨_, rfl, rfl, fun _ => rfl, fun a ws => by go_simp; rfl⟩⟩ ⟨⟨_, rfl, rfl, fun _ => rfl, fun a ws => by go_simp; rfl⟩⟩ ⟨⟨_, rfl, rfl, fun _ => rfl, fun a ws => by go_simp; rfl⟩⟩ ⟨⟨_, rfl, rfl, fun _ => rfl, fun a ws => by go_simp; rfl⟩⟩
    (by intro t0 t1 t2 t3 t4 hf; cases t0 <;> cases t1 <;> cases t2 <;> cases t3 <;> cases t4 <;> first | (cases hf; done) | kernel_rfl)
    ⟨⟨_, _, rfl, rfl, fun _ => rfl, rfl, by kernel_rfl⟩⟩ ⟨⟨_, _, rfl, rfl, fun _ => rfl, rfl, by kernel_rfl⟩⟩ ⟨⟨_, _, rfl, rfl, fun _ => rfl, rfl, by kernel_rfl⟩⟩ ⟨⟨_, _, rfl, rfl, fun _ => rfl, rfl, by kernel_rfl⟩⟩ ⟨⟨_, _, rfl, rfl, fun _ => rfl, rfl, by kernel_rfl⟩⟩
    (by kernel_rfl) (by kernel_rfl) (by kernel_rfl) (by kernel_rfl) (by kernel_rfl) (by kernel_rfl)
    (by decide) l0 l1 l2 l3 l4 o0 o1 o2 o3 o4
    (fun _ _ _ _ _ => ⟨by kernel_rfl, by kernel_rfl, by kernel_rfl, by kernel_rfl, by kernel_rfl⟩) (fun _ _ _ _ _ => ⟨by kernel_rfl, by kernel_rfl, by kernel_rfl, by kernel_rfl, by kernel_rfl⟩) ?_ (by kernel_rfl) hHeld
  clear hHeld l0 l1 l2 l3 l4 o0 o1 o2 o3 o4
  intro b0 b1 b2 b3 b4 w1 hb p0 p1 p2 p3 p4 r0 r1 r2 r3 r4
  simp only [act5, Act.put, Nat.reduceAdd, List.setIfInBounds_toArray, List.set_cons_zero, List.set_cons_succ]
  have HB : Hid (Gr w w1) := GB0.out.trans hb.gr
  have E0 : Hid (w1.cell? ⟨B, 0, none⟩ = some (.int .i64 kk)) := by show _ = _; rw [World.cell?_of_block (hb.below.block B H0.out.2)]; exact H0.out.1
  rw [HL.out.1] at r0
  have R0 := Lib.hid r0
  rw [HL.out.2.1] at r1
  have R1 := Lib.hid r1
  rw [HL.out.2.2.1] at r2
  have R2 := Lib.hid r2
  rw [HL.out.2.2.2.1] at r3
  have R3 := Lib.hid r3
  rw [HL.out.2.2.2.2] at r4
  have R4 := Lib.hid r4
  clear r0 r1 r2 r3 r4 hb p0 p1 p2 p3 p4 HL HR H0 HW GB0
  go_upto_region 2 with fail
  go_cut [8] from 23 to 50 (fun v wx => v = .bool zz0 ∧ wx = w1)
  case first =>
    have f3 : w1.cell? ⟨b0, 0, none⟩ = some (.int .i64 v3) := range_cell R0.out rfl
    have f4 : w1.cell? ⟨b0, 1, none⟩ = some (.int .i64 v4) := range_cell R0.out rfl
    have f5 : w1.cell? ⟨b0, 2, none⟩ = some (.int .i64 v5) := range_cell R0.out rfl
    have f6 : w1.cell? ⟨b0, 3, none⟩ = some (.slice q6 n6 k6) := range_cell R0.out rfl
    have f7 : w1.cell? ⟨b0, 4, none⟩ = some (.slice q7 n7 k7) := range_cell R0.out rfl
    have f8 : w1.cell? ⟨b0, 5, none⟩ = some (.slice q8 n8 k8) := range_cell R0.out rfl
    have f9 : w1.cell? ⟨b0, 6, none⟩ = some (.int .i64 v9) := range_cell R0.out rfl
    obtain ⟨t3, t4, t5, t6, t9, m6, m7, m8⟩ := TT0.out
    go_wp2_with fail
    all_goals
      go_meet
      case rel => refine ⟨congrArg Value.bool ?_, rfl⟩; go_light; rw [ZZ0.out]; first | rfl | (simp [*]; done) | (simp_all; done)
  obtain ⟨rfl, hw0⟩ := hcut
  replace hw0 := hw0.symm
  subst hw0
  clear R0 ZZ0 TT0
  go_upto_region 3 with fail
  go_cut [9] from 51 to 93 (fun v wx => v = .bool zz1 ∧ wx = w1)
  case first =>
    have f10 : w1.cell? ⟨b1, 0, none⟩ = some (.string v10) := range_cell R1.out rfl
    have f11 : w1.cell? ⟨b1, 1, none⟩ = some (.string v11) := range_cell R1.out rfl
    have f12 : w1.cell? ⟨b1, 2, none⟩ = some (.int .i64 v12) := range_cell R1.out rfl
    have f13 : w1.cell? ⟨b1, 3, none⟩ = some (.int .i64 v13) := range_cell R1.out rfl
    have f14 : w1.cell? ⟨b1, 4, none⟩ = some (.int .i64 v14) := range_cell R1.out rfl
    have f15 : w1.cell? ⟨b1, 5, none⟩ = some (.int .i64 v15) := range_cell R1.out rfl
    have f16 : w1.cell? ⟨b1, 6, none⟩ = some (.slice q16 n16 k16) := range_cell R1.out rfl
    have f17 : w1.cell? ⟨b1, 7, none⟩ = some (.slice q17 n17 k17) := range_cell R1.out rfl
    have f18 : w1.cell? ⟨b1, 8, none⟩ = some (.slice q18 n18 k18) := range_cell R1.out rfl
    have f19 : w1.cell? ⟨b1, 9, none⟩ = some (.int .i64 v19) := range_cell R1.out rfl
    obtain ⟨t10, t11, t12, t13, t14, t15, t16, t19, m16, m17, m18⟩ := TT1.out
    go_wp2_with fail
    all_goals
      go_meet
      case rel => refine ⟨congrArg Value.bool ?_, rfl⟩; go_light; rw [ZZ1.out]; first | rfl | (simp [*]; done) | (simp_all; done)
  obtain ⟨rfl, hw1⟩ := hcut
  replace hw1 := hw1.symm
  subst hw1
  clear R1 ZZ1 TT1
  go_upto_region 4 with fail
  go_cut [10] from 94 to 122 (fun v wx => v = .bool zz2 ∧ wx = w1)
  case first =>
    have f20 : w1.cell? ⟨b2, 0, none⟩ = some (.string v20) := range_cell R2.out rfl
    have f21 : w1.cell? ⟨b2, 1, none⟩ = some (.int .i64 v21) := range_cell R2.out rfl
    have f22 : w1.cell? ⟨b2, 2, none⟩ = some (.int .i64 v22) := range_cell R2.out rfl
    have f23 : w1.cell? ⟨b2, 3, none⟩ = some (.slice q23 n23 k23) := range_cell R2.out rfl
    have f24 : w1.cell? ⟨b2, 4, none⟩ = some (.slice q24 n24 k24) := range_cell R2.out rfl
    have f25 : w1.cell? ⟨b2, 5, none⟩ = some (.int .i64 v25) := range_cell R2.out rfl
    have f26 : w1.cell? ⟨b2, 6, none⟩ = some (.bool v26) := range_cell R2.out rfl
    obtain ⟨t20, t21, t22, t23, t25, m23, m24⟩ := TT2.out
    go_wp2_with fail
    all_goals
      go_meet
      case rel => refine ⟨congrArg Value.bool ?_, rfl⟩; go_light; rw [ZZ2.out]; first | rfl | (simp [*]; done) | (simp_all; done)
  obtain ⟨rfl, hw2⟩ := hcut
  replace hw2 := hw2.symm
  subst hw2
  clear R2 ZZ2 TT2
  go_upto_region 5 with fail
  go_cut [11] from 123 to 156 (fun v wx => v = .bool zz3 ∧ wx = w1)
  case first =>
    have f27 : w1.cell? ⟨b3, 0, none⟩ = some (.int .i64 v27) := range_cell R3.out rfl
    have f28 : w1.cell? ⟨b3, 1, none⟩ = some (.int .i64 v28) := range_cell R3.out rfl
    have f29 : w1.cell? ⟨b3, 2, none⟩ = some (.int .i64 v29) := range_cell R3.out rfl
    have f30 : w1.cell? ⟨b3, 3, none⟩ = some (.int .i64 v30) := range_cell R3.out rfl
    have f31 : w1.cell? ⟨b3, 4, none⟩ = some (.int .i64 v31) := range_cell R3.out rfl
    have f32 : w1.cell? ⟨b3, 5, none⟩ = some (.slice q32 n32 k32) := range_cell R3.out rfl
    have f33 : w1.cell? ⟨b3, 6, none⟩ = some (.slice q33 n33 k33) := range_cell R3.out rfl
    have f34 : w1.cell? ⟨b3, 7, none⟩ = some (.int .i64 v34) := range_cell R3.out rfl
    obtain ⟨t27, t28, t29, t30, t31, t32, t34, m32, m33⟩ := TT3.out
    go_wp2_with fail
    all_goals
      go_meet
      case rel => refine ⟨congrArg Value.bool ?_, rfl⟩; go_light; rw [ZZ3.out]; first | rfl | (simp [*]; done) | (simp_all; done)
  obtain ⟨rfl, hw3⟩ := hcut
  replace hw3 := hw3.symm
  subst hw3
  clear R3 ZZ3 TT3
  go_upto_region 6 with fail
  go_cut [12] from 157 to 222 (fun v wx => v = .bool zz4 ∧ wx = w1)
  case first =>
    have f35 : w1.cell? ⟨b4, 0, none⟩ = some (.string v35) := range_cell R4.out rfl
    have f36 : w1.cell? ⟨b4, 1, none⟩ = some (.int .i64 v36) := range_cell R4.out rfl
    have f37 : w1.cell? ⟨b4, 2, none⟩ = some (.int .i64 v37) := range_cell R4.out rfl
    have f38 : w1.cell? ⟨b4, 3, none⟩ = some (.slice q38 n38 k38) := range_cell R4.out rfl
    have f39 : w1.cell? ⟨b4, 4, none⟩ = some (.int .i64 v39) := range_cell R4.out rfl
    have f40 : w1.cell? ⟨b4, 5, none⟩ = some (.int .i64 v40) := range_cell R4.out rfl
    have f41 : w1.cell? ⟨b4, 6, none⟩ = some (.int .i64 v41) := range_cell R4.out rfl
    have f42 : w1.cell? ⟨b4, 7, none⟩ = some (.slice q42 n42 k42) := range_cell R4.out rfl
    have f43 : w1.cell? ⟨b4, 8, none⟩ = some (.int .i64 v43) := range_cell R4.out rfl
    have f44 : w1.cell? ⟨b4, 9, none⟩ = some (.int .i64 v44) := range_cell R4.out rfl
    have f45 : w1.cell? ⟨b4, 10, none⟩ = some (.slice q45 n45 k45) := range_cell R4.out rfl
    have f46 : w1.cell? ⟨b4, 11, none⟩ = some (.slice q46 n46 k46) := range_cell R4.out rfl
    obtain ⟨t35, t36, t37, t38, t39, t40, t41, t42, t43, t44, t45, m38, m42, m45, m46⟩ := TT4.out
    simp only [List.append_eq, List.cons_append, List.nil_append]
    go_wp2_with fail
    all_goals
      go_meet
      case rel => refine ⟨congrArg Value.bool ?_, rfl⟩; go_light; rw [ZZ4.out]; first | rfl | (simp [*]; done) | (simp_all; done)
  obtain ⟨rfl, hw4⟩ := hcut
  replace hw4 := hw4.symm
  subst hw4
  clear R4 ZZ4 TT4
  have f0 := E0.out
  have hk5 : kk = 0 ∨ kk = 1 ∨ kk = 2 ∨ kk = 3 ∨ kk = 4 := by have := HK.out; omega
  rcases hk5 with rfl | rfl | rfl | rfl | rfl
  · go_wp2_with fail
    all_goals
      go_ret
      refine ⟨ret_b ?_, HB.out⟩; go_light; rw [HO.out]; first | rfl | (simp [*]; done)
  · go_wp2_with fail
    all_goals
      go_ret
      refine ⟨ret_b ?_, HB.out⟩; go_light; rw [HO.out]; first | rfl | (simp [*]; done)
  · go_wp2_with fail
    all_goals
      go_ret
      refine ⟨ret_b ?_, HB.out⟩; go_light; rw [HO.out]; first | rfl | (simp [*]; done)
  · go_wp2_with fail
    all_goals
      go_ret
      refine ⟨ret_b ?_, HB.out⟩; go_light; rw [HO.out]; first | rfl | (simp [*]; done)
  · go_wp2_with fail
    all_goals
      go_ret
      refine ⟨ret_b ?_, HB.out⟩; go_light; rw [HO.out]; first | rfl | (simp [*]; done)
end Go.Proofs.Ytdphooobgbminaa
