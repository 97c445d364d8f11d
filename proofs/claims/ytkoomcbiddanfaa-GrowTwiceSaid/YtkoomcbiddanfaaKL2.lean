/- The walk of GrowTwice. -/
import Derived.Test.YtkoomcbiddanfaaK31
import Derived.Deep.AppendLies
import Derived.Deep.RegionHeld3
import Derived.Deep.DeepCutAuto
import Derived.Deep.DrawnRows
import Derived.RegionTactic
namespace Go.Proofs.Ytkoomcbiddanfaa
open Go.RowKit
attribute [local go_sem ↓] Go.wp_at_zero Go.wp_at_succ

attribute [local go_sem] beq_self_eq_true bne_self_eq_false
set_option maxRecDepth 100000 in
set_option maxHeartbeats 4000000 in
theorem twice_not (R : Option Addr) (l : List HC) (n q : Nat) (keep root xk xv yk yv : Int) (w : World) (hA : HcSl w R n q l) (hf : fineB ⟨l, keep⟩ root 40 = false) :
    Calls Try.prog 4 #[.agg #[.slice R n q, .int .i64 keep, .int .i64 root, .int .i64 xk, .int .i64 xv, .int .i64 yk, .int .i64 yv]] w fun e w' => e = .returned (.bool true) ∧ Ext w w' := by
  have A_1 := Lib.hid (hA)
  have X_2 := Lib.hid (Ext.refl w)
  clear hA
  have HF := Lib.hid hf
  clear hf
  go_enter Try.func4, Try.ntmps4
  go_wp2_with (go_at_call 6; refine stop_here ?_)
  refine stop_on ?_
  generalize hW : (World.alloc (World.alloc (World.alloc (World.alloc w _) _) _) _) = W3
  obtain ⟨hx, hb0, hb1, hb2, hb3⟩ := allocs4 hW
  clear hW
  have A_4 := Lib.hid (A_1.out.ext hx)
  have X_4 := Lib.hid (X_2.out.ext hx)
  clear A_1 X_2
  have wi_5 := Lib.hid hb0
  have h_6 := Lib.hid hb1
  have x_7 := Lib.hid hb2
  have y_8 := Lib.hid hb3
  clear hx hb0 hb1 hb2 hb3
  refine (shown_any _).mono ?_
  rintro e w9 ⟨rfl, hx⟩
  have A_10 := Lib.hid (A_4.out.ext hx)
  have X_10 := Lib.hid (X_4.out.ext hx)
  have wi_10 := Lib.hid (wi_5.out.ext hx)
  have h_10 := Lib.hid (h_6.out.ext hx)
  have x_10 := Lib.hid (x_7.out.ext hx)
  have y_10 := Lib.hid (y_8.out.ext hx)
  clear A_4 X_4 wi_5 h_6 x_7 y_8
  clear hx
  have qwi0 : w9.cell? ⟨w.heap.size, 0, none⟩ = some (.slice R n q) := wi_10.out.at 0 _ rfl
  have qwi1 : w9.cell? ⟨w.heap.size, 1, none⟩ = some (.int .i64 keep) := wi_10.out.at 1 _ rfl
  have qwi2 : w9.cell? ⟨w.heap.size, 2, none⟩ = some (.int .i64 root) := wi_10.out.at 2 _ rfl
  have qwi3 : w9.cell? ⟨w.heap.size, 3, none⟩ = some (.int .i64 xk) := wi_10.out.at 3 _ rfl
  have qwi4 : w9.cell? ⟨w.heap.size, 4, none⟩ = some (.int .i64 xv) := wi_10.out.at 4 _ rfl
  have qwi5 : w9.cell? ⟨w.heap.size, 5, none⟩ = some (.int .i64 yk) := wi_10.out.at 5 _ rfl
  have qwi6 : w9.cell? ⟨w.heap.size, 6, none⟩ = some (.int .i64 yv) := wi_10.out.at 6 _ rfl
  have zwi := wi_10.out.lt
  have qh0 : w9.cell? ⟨w.heap.size + 1, 0, none⟩ = some (.slice R n q) := h_10.out.at 0 _ rfl
  have qh1 : w9.cell? ⟨w.heap.size + 1, 1, none⟩ = some (.int .i64 keep) := h_10.out.at 1 _ rfl
  have zh := h_10.out.lt
  have qx0 : w9.cell? ⟨w.heap.size + 1 + 1, 0, none⟩ = some (.int .i64 xk) := x_10.out.at 0 _ rfl
  have qx1 : w9.cell? ⟨w.heap.size + 1 + 1, 1, none⟩ = some (.int .i64 xv) := x_10.out.at 1 _ rfl
  have zx := x_10.out.lt
  have qy0 : w9.cell? ⟨w.heap.size + 1 + 1 + 1, 0, none⟩ = some (.int .i64 yk) := y_10.out.at 0 _ rfl
  have qy1 : w9.cell? ⟨w.heap.size + 1 + 1 + 1, 1, none⟩ = some (.int .i64 yv) := y_10.out.at 1 _ rfl
  have zy := y_10.out.lt
  go_wp2_with (go_at_call 7; refine stop_here ?_)
  refine stop_on ?_
  clear qwi0 qwi1 qwi2 qwi3 qwi4 qwi5 qwi6 zwi qh0 qh1 zh qx0 qx1 zx qy0 qy1 zy
  generalize hW : (World.alloc w9 _) = W11
  obtain ⟨hx, hb0⟩ := allocs1 hW
  clear hW
  have A_12 := Lib.hid (A_10.out.ext hx)
  have X_12 := Lib.hid (X_10.out.ext hx)
  have wi_12 := Lib.hid (wi_10.out.ext hx)
  have h_12 := Lib.hid (h_10.out.ext hx)
  have x_12 := Lib.hid (x_10.out.ext hx)
  have y_12 := Lib.hid (y_10.out.ext hx)
  clear A_10 X_10 wi_10 h_10 x_10 y_10
  have rt_13 := Lib.hid hb0
  clear hx hb0
  refine (growFine_is _ 1 40 HF.out A_12.out (show Sl _ _ 1 1 ([root].map iv) from rt_13.out.slP 1 (by unfold maxLen; omega))).mono ?_
  rintro e w14 ⟨rfl, hx⟩
  have A_15 := Lib.hid (A_12.out.ext hx)
  have X_15 := Lib.hid (X_12.out.ext hx)
  have wi_15 := Lib.hid (wi_12.out.ext hx)
  have h_15 := Lib.hid (h_12.out.ext hx)
  have x_15 := Lib.hid (x_12.out.ext hx)
  have y_15 := Lib.hid (y_12.out.ext hx)
  have rt_15 := Lib.hid (rt_13.out.ext hx)
  clear A_12 X_12 wi_12 h_12 x_12 y_12 rt_13
  clear hx
  have zwi := wi_15.out.lt
  have qh0 : w14.cell? ⟨w.heap.size + 1, 0, none⟩ = some (.slice R n q) := h_15.out.at 0 _ rfl
  have qh1 : w14.cell? ⟨w.heap.size + 1, 1, none⟩ = some (.int .i64 keep) := h_15.out.at 1 _ rfl
  have zh := h_15.out.lt
  have qx0 : w14.cell? ⟨w.heap.size + 1 + 1, 0, none⟩ = some (.int .i64 xk) := x_15.out.at 0 _ rfl
  have qx1 : w14.cell? ⟨w.heap.size + 1 + 1, 1, none⟩ = some (.int .i64 xv) := x_15.out.at 1 _ rfl
  have zx := x_15.out.lt
  have qy0 : w14.cell? ⟨w.heap.size + 1 + 1 + 1, 0, none⟩ = some (.int .i64 yk) := y_15.out.at 0 _ rfl
  have qy1 : w14.cell? ⟨w.heap.size + 1 + 1 + 1, 1, none⟩ = some (.int .i64 yv) := y_15.out.at 1 _ rfl
  have zy := y_15.out.lt
  have qrt0 : w14.cell? ⟨w9.heap.size, 0, none⟩ = some (.int .i64 root) := rt_15.out.at 0 _ rfl
  have zrt := rt_15.out.lt
  go_wp2
  go_ret
  exact ⟨rfl, X_15.out⟩
set_option maxRecDepth 100000 in
set_option maxHeartbeats 4000000 in
theorem twice_first (R : Option Addr) (l : List HC) (n q : Nat) (keep root xk xv yk yv : Int) (w : World) (hA : HcSl w R n q l) (hf : fineB ⟨l, keep⟩ root 40 = true) (c1 c2 : List HC) (r1 r2 e1 e2 : Int) (hp1 : putR ⟨l, keep⟩ root (xk, xv) true = (c1, r1, e1)) (hp2 : putR ⟨l, keep⟩ root (yk, yv) true = (c2, r2, e2)) (h : e1 ≠ 0) :
    Calls Try.prog 4 #[.agg #[.slice R n q, .int .i64 keep, .int .i64 root, .int .i64 xk, .int .i64 xv, .int .i64 yk, .int .i64 yv]] w fun e w' => e = .returned (.bool true) ∧ Ext w w' := by
  have A_16 := Lib.hid (hA)
  have X_17 := Lib.hid (Ext.refl w)
  clear hA
  have HM := Lib.hid (mayT_of hf)
  have HF := Lib.hid hf
  have HP1 := Lib.hid hp1
  have HP2 := Lib.hid hp2
  have t0 : (e1 != 0) = true := by simp [h]
  clear hf hp1 hp2 h
  go_enter Try.func4, Try.ntmps4
  go_wp2_with (go_at_call 6; refine stop_here ?_)
  refine stop_on ?_
  generalize hW : (World.alloc (World.alloc (World.alloc (World.alloc w _) _) _) _) = W18
  obtain ⟨hx, hb0, hb1, hb2, hb3⟩ := allocs4 hW
  clear hW
  have A_19 := Lib.hid (A_16.out.ext hx)
  have X_19 := Lib.hid (X_17.out.ext hx)
  clear A_16 X_17
  have wi_20 := Lib.hid hb0
  have h_21 := Lib.hid hb1
  have x_22 := Lib.hid hb2
  have y_23 := Lib.hid hb3
  clear hx hb0 hb1 hb2 hb3
  refine (shown_any _).mono ?_
  rintro e w24 ⟨rfl, hx⟩
  have A_25 := Lib.hid (A_19.out.ext hx)
  have X_25 := Lib.hid (X_19.out.ext hx)
  have wi_25 := Lib.hid (wi_20.out.ext hx)
  have h_25 := Lib.hid (h_21.out.ext hx)
  have x_25 := Lib.hid (x_22.out.ext hx)
  have y_25 := Lib.hid (y_23.out.ext hx)
  clear A_19 X_19 wi_20 h_21 x_22 y_23
  clear hx
  have qwi0 : w24.cell? ⟨w.heap.size, 0, none⟩ = some (.slice R n q) := wi_25.out.at 0 _ rfl
  have qwi1 : w24.cell? ⟨w.heap.size, 1, none⟩ = some (.int .i64 keep) := wi_25.out.at 1 _ rfl
  have qwi2 : w24.cell? ⟨w.heap.size, 2, none⟩ = some (.int .i64 root) := wi_25.out.at 2 _ rfl
  have qwi3 : w24.cell? ⟨w.heap.size, 3, none⟩ = some (.int .i64 xk) := wi_25.out.at 3 _ rfl
  have qwi4 : w24.cell? ⟨w.heap.size, 4, none⟩ = some (.int .i64 xv) := wi_25.out.at 4 _ rfl
  have qwi5 : w24.cell? ⟨w.heap.size, 5, none⟩ = some (.int .i64 yk) := wi_25.out.at 5 _ rfl
  have qwi6 : w24.cell? ⟨w.heap.size, 6, none⟩ = some (.int .i64 yv) := wi_25.out.at 6 _ rfl
  have zwi := wi_25.out.lt
  have qh0 : w24.cell? ⟨w.heap.size + 1, 0, none⟩ = some (.slice R n q) := h_25.out.at 0 _ rfl
  have qh1 : w24.cell? ⟨w.heap.size + 1, 1, none⟩ = some (.int .i64 keep) := h_25.out.at 1 _ rfl
  have zh := h_25.out.lt
  have qx0 : w24.cell? ⟨w.heap.size + 1 + 1, 0, none⟩ = some (.int .i64 xk) := x_25.out.at 0 _ rfl
  have qx1 : w24.cell? ⟨w.heap.size + 1 + 1, 1, none⟩ = some (.int .i64 xv) := x_25.out.at 1 _ rfl
  have zx := x_25.out.lt
  have qy0 : w24.cell? ⟨w.heap.size + 1 + 1 + 1, 0, none⟩ = some (.int .i64 yk) := y_25.out.at 0 _ rfl
  have qy1 : w24.cell? ⟨w.heap.size + 1 + 1 + 1, 1, none⟩ = some (.int .i64 yv) := y_25.out.at 1 _ rfl
  have zy := y_25.out.lt
  go_wp2_with (go_at_call 7; refine stop_here ?_)
  refine stop_on ?_
  clear qwi0 qwi1 qwi2 qwi3 qwi4 qwi5 qwi6 zwi qh0 qh1 zh qx0 qx1 zx qy0 qy1 zy
  generalize hW : (World.alloc w24 _) = W26
  obtain ⟨hx, hb0⟩ := allocs1 hW
  clear hW
  have A_27 := Lib.hid (A_25.out.ext hx)
  have X_27 := Lib.hid (X_25.out.ext hx)
  have wi_27 := Lib.hid (wi_25.out.ext hx)
  have h_27 := Lib.hid (h_25.out.ext hx)
  have x_27 := Lib.hid (x_25.out.ext hx)
  have y_27 := Lib.hid (y_25.out.ext hx)
  clear A_25 X_25 wi_25 h_25 x_25 y_25
  have rt_28 := Lib.hid hb0
  clear hx hb0
  refine (growFine_is _ 1 40 HF.out A_27.out (show Sl _ _ 1 1 ([root].map iv) from rt_28.out.slP 1 (by unfold maxLen; omega))).mono ?_
  rintro e w29 ⟨rfl, hx⟩
  have A_30 := Lib.hid (A_27.out.ext hx)
  have X_30 := Lib.hid (X_27.out.ext hx)
  have wi_30 := Lib.hid (wi_27.out.ext hx)
  have h_30 := Lib.hid (h_27.out.ext hx)
  have x_30 := Lib.hid (x_27.out.ext hx)
  have y_30 := Lib.hid (y_27.out.ext hx)
  have rt_30 := Lib.hid (rt_28.out.ext hx)
  clear A_27 X_27 wi_27 h_27 x_27 y_27 rt_28
  clear hx
  have zwi := wi_30.out.lt
  have qh0 : w29.cell? ⟨w.heap.size + 1, 0, none⟩ = some (.slice R n q) := h_30.out.at 0 _ rfl
  have qh1 : w29.cell? ⟨w.heap.size + 1, 1, none⟩ = some (.int .i64 keep) := h_30.out.at 1 _ rfl
  have zh := h_30.out.lt
  have qx0 : w29.cell? ⟨w.heap.size + 1 + 1, 0, none⟩ = some (.int .i64 xk) := x_30.out.at 0 _ rfl
  have qx1 : w29.cell? ⟨w.heap.size + 1 + 1, 1, none⟩ = some (.int .i64 xv) := x_30.out.at 1 _ rfl
  have zx := x_30.out.lt
  have qy0 : w29.cell? ⟨w.heap.size + 1 + 1 + 1, 0, none⟩ = some (.int .i64 yk) := y_30.out.at 0 _ rfl
  have qy1 : w29.cell? ⟨w.heap.size + 1 + 1 + 1, 1, none⟩ = some (.int .i64 yv) := y_30.out.at 1 _ rfl
  have zy := y_30.out.lt
  have qrt0 : w29.cell? ⟨w24.heap.size, 0, none⟩ = some (.int .i64 root) := rt_30.out.at 0 _ rfl
  have zrt := rt_30.out.lt
  go_wp2_with (go_at_call 8; refine stop_here ?_)
  refine stop_on ?_
  clear zwi qh0 qh1 zh qx0 qx1 zx qy0 qy1 zy qrt0 zrt
  refine (growPut_is (by decide) HM.out HP1.out A_30.out).mono ?_
  rintro e w31 ⟨S1, t1, rfl, h3, hx⟩
  have A_32 := Lib.hid (A_30.out.ext hx)
  have X_32 := Lib.hid (X_30.out.ext hx)
  have wi_32 := Lib.hid (wi_30.out.ext hx)
  have h_32 := Lib.hid (h_30.out.ext hx)
  have x_32 := Lib.hid (x_30.out.ext hx)
  have y_32 := Lib.hid (y_30.out.ext hx)
  have rt_32 := Lib.hid (rt_30.out.ext hx)
  clear A_30 X_30 wi_30 h_30 x_30 y_30 rt_30
  have B_33 := Lib.hid h3
  clear hx h3
  have zwi := wi_32.out.lt
  have qh0 : w31.cell? ⟨w.heap.size + 1, 0, none⟩ = some (.slice R n q) := h_32.out.at 0 _ rfl
  have qh1 : w31.cell? ⟨w.heap.size + 1, 1, none⟩ = some (.int .i64 keep) := h_32.out.at 1 _ rfl
  have zh := h_32.out.lt
  have qx0 : w31.cell? ⟨w.heap.size + 1 + 1, 0, none⟩ = some (.int .i64 xk) := x_32.out.at 0 _ rfl
  have qx1 : w31.cell? ⟨w.heap.size + 1 + 1, 1, none⟩ = some (.int .i64 xv) := x_32.out.at 1 _ rfl
  have zx := x_32.out.lt
  have qy0 : w31.cell? ⟨w.heap.size + 1 + 1 + 1, 0, none⟩ = some (.int .i64 yk) := y_32.out.at 0 _ rfl
  have qy1 : w31.cell? ⟨w.heap.size + 1 + 1 + 1, 1, none⟩ = some (.int .i64 yv) := y_32.out.at 1 _ rfl
  have zy := y_32.out.lt
  have zrt := rt_32.out.lt
  go_wp2_with (go_at_call 8; refine stop_here ?_)
  refine stop_on ?_
  clear zwi qh0 qh1 zh qx0 qx1 zx qy0 qy1 zy zrt
  generalize hW : (World.alloc w31 _) = W34
  obtain ⟨hx, hb0⟩ := allocs1 hW
  clear hW
  have A_35 := Lib.hid (A_32.out.ext hx)
  have X_35 := Lib.hid (X_32.out.ext hx)
  have wi_35 := Lib.hid (wi_32.out.ext hx)
  have h_35 := Lib.hid (h_32.out.ext hx)
  have x_35 := Lib.hid (x_32.out.ext hx)
  have y_35 := Lib.hid (y_32.out.ext hx)
  have rt_35 := Lib.hid (rt_32.out.ext hx)
  have B_35 := Lib.hid (B_33.out.ext hx)
  clear A_32 X_32 wi_32 h_32 x_32 y_32 rt_32 B_33
  have a_36 := Lib.hid hb0
  clear hx hb0
  refine (growPut_is (by decide) HM.out HP2.out A_35.out).mono ?_
  rintro e w37 ⟨S2, t2, rfl, h3, hx⟩
  have A_38 := Lib.hid (A_35.out.ext hx)
  have X_38 := Lib.hid (X_35.out.ext hx)
  have wi_38 := Lib.hid (wi_35.out.ext hx)
  have h_38 := Lib.hid (h_35.out.ext hx)
  have x_38 := Lib.hid (x_35.out.ext hx)
  have y_38 := Lib.hid (y_35.out.ext hx)
  have rt_38 := Lib.hid (rt_35.out.ext hx)
  have B_38 := Lib.hid (B_35.out.ext hx)
  have a_38 := Lib.hid (a_36.out.ext hx)
  clear A_35 X_35 wi_35 h_35 x_35 y_35 rt_35 B_35 a_36
  have C_39 := Lib.hid h3
  clear hx h3
  have zwi := wi_38.out.lt
  have qh0 : w37.cell? ⟨w.heap.size + 1, 0, none⟩ = some (.slice R n q) := h_38.out.at 0 _ rfl
  have qh1 : w37.cell? ⟨w.heap.size + 1, 1, none⟩ = some (.int .i64 keep) := h_38.out.at 1 _ rfl
  have zh := h_38.out.lt
  have qx0 : w37.cell? ⟨w.heap.size + 1 + 1, 0, none⟩ = some (.int .i64 xk) := x_38.out.at 0 _ rfl
  have qx1 : w37.cell? ⟨w.heap.size + 1 + 1, 1, none⟩ = some (.int .i64 xv) := x_38.out.at 1 _ rfl
  have zx := x_38.out.lt
  have qy0 : w37.cell? ⟨w.heap.size + 1 + 1 + 1, 0, none⟩ = some (.int .i64 yk) := y_38.out.at 0 _ rfl
  have qy1 : w37.cell? ⟨w.heap.size + 1 + 1 + 1, 1, none⟩ = some (.int .i64 yv) := y_38.out.at 1 _ rfl
  have zy := y_38.out.lt
  have zrt := rt_38.out.lt
  have qa0 : w37.cell? ⟨w31.heap.size, 0, none⟩ = some (.slice S1 n t1) := a_38.out.at 0 _ rfl
  have qa1 : w37.cell? ⟨w31.heap.size, 1, none⟩ = some (.int .i64 keep) := a_38.out.at 1 _ rfl
  have za := a_38.out.lt
  go_wp2
  go_ret
  exact ⟨rfl, X_38.out.alloc _⟩
set_option maxRecDepth 100000 in
set_option maxHeartbeats 4000000 in
theorem twice_second (R : Option Addr) (l : List HC) (n q : Nat) (keep root xk xv yk yv : Int) (w : World) (hA : HcSl w R n q l) (hf : fineB ⟨l, keep⟩ root 40 = true) (c1 c2 : List HC) (r1 r2 e2 : Int) (hp1 : putR ⟨l, keep⟩ root (xk, xv) true = (c1, r1, 0)) (hp2 : putR ⟨l, keep⟩ root (yk, yv) true = (c2, r2, e2)) (h : e2 ≠ 0) :
    Calls Try.prog 4 #[.agg #[.slice R n q, .int .i64 keep, .int .i64 root, .int .i64 xk, .int .i64 xv, .int .i64 yk, .int .i64 yv]] w fun e w' => e = .returned (.bool true) ∧ Ext w w' := by
  have A_40 := Lib.hid (hA)
  have X_41 := Lib.hid (Ext.refl w)
  clear hA
  have HM := Lib.hid (mayT_of hf)
  have HF := Lib.hid hf
  have HP1 := Lib.hid hp1
  have HP2 := Lib.hid hp2
  have t0 : (e2 != 0) = true := by simp [h]
  clear hf hp1 hp2 h
  go_enter Try.func4, Try.ntmps4
  go_wp2_with (go_at_call 6; refine stop_here ?_)
  refine stop_on ?_
  generalize hW : (World.alloc (World.alloc (World.alloc (World.alloc w _) _) _) _) = W42
  obtain ⟨hx, hb0, hb1, hb2, hb3⟩ := allocs4 hW
  clear hW
  have A_43 := Lib.hid (A_40.out.ext hx)
  have X_43 := Lib.hid (X_41.out.ext hx)
  clear A_40 X_41
  have wi_44 := Lib.hid hb0
  have h_45 := Lib.hid hb1
  have x_46 := Lib.hid hb2
  have y_47 := Lib.hid hb3
  clear hx hb0 hb1 hb2 hb3
  refine (shown_any _).mono ?_
  rintro e w48 ⟨rfl, hx⟩
  have A_49 := Lib.hid (A_43.out.ext hx)
  have X_49 := Lib.hid (X_43.out.ext hx)
  have wi_49 := Lib.hid (wi_44.out.ext hx)
  have h_49 := Lib.hid (h_45.out.ext hx)
  have x_49 := Lib.hid (x_46.out.ext hx)
  have y_49 := Lib.hid (y_47.out.ext hx)
  clear A_43 X_43 wi_44 h_45 x_46 y_47
  clear hx
  have qwi0 : w48.cell? ⟨w.heap.size, 0, none⟩ = some (.slice R n q) := wi_49.out.at 0 _ rfl
  have qwi1 : w48.cell? ⟨w.heap.size, 1, none⟩ = some (.int .i64 keep) := wi_49.out.at 1 _ rfl
  have qwi2 : w48.cell? ⟨w.heap.size, 2, none⟩ = some (.int .i64 root) := wi_49.out.at 2 _ rfl
  have qwi3 : w48.cell? ⟨w.heap.size, 3, none⟩ = some (.int .i64 xk) := wi_49.out.at 3 _ rfl
  have qwi4 : w48.cell? ⟨w.heap.size, 4, none⟩ = some (.int .i64 xv) := wi_49.out.at 4 _ rfl
  have qwi5 : w48.cell? ⟨w.heap.size, 5, none⟩ = some (.int .i64 yk) := wi_49.out.at 5 _ rfl
  have qwi6 : w48.cell? ⟨w.heap.size, 6, none⟩ = some (.int .i64 yv) := wi_49.out.at 6 _ rfl
  have zwi := wi_49.out.lt
  have qh0 : w48.cell? ⟨w.heap.size + 1, 0, none⟩ = some (.slice R n q) := h_49.out.at 0 _ rfl
  have qh1 : w48.cell? ⟨w.heap.size + 1, 1, none⟩ = some (.int .i64 keep) := h_49.out.at 1 _ rfl
  have zh := h_49.out.lt
  have qx0 : w48.cell? ⟨w.heap.size + 1 + 1, 0, none⟩ = some (.int .i64 xk) := x_49.out.at 0 _ rfl
  have qx1 : w48.cell? ⟨w.heap.size + 1 + 1, 1, none⟩ = some (.int .i64 xv) := x_49.out.at 1 _ rfl
  have zx := x_49.out.lt
  have qy0 : w48.cell? ⟨w.heap.size + 1 + 1 + 1, 0, none⟩ = some (.int .i64 yk) := y_49.out.at 0 _ rfl
  have qy1 : w48.cell? ⟨w.heap.size + 1 + 1 + 1, 1, none⟩ = some (.int .i64 yv) := y_49.out.at 1 _ rfl
  have zy := y_49.out.lt
  go_wp2_with (go_at_call 7; refine stop_here ?_)
  refine stop_on ?_
  clear qwi0 qwi1 qwi2 qwi3 qwi4 qwi5 qwi6 zwi qh0 qh1 zh qx0 qx1 zx qy0 qy1 zy
  generalize hW : (World.alloc w48 _) = W50
  obtain ⟨hx, hb0⟩ := allocs1 hW
  clear hW
  have A_51 := Lib.hid (A_49.out.ext hx)
  have X_51 := Lib.hid (X_49.out.ext hx)
  have wi_51 := Lib.hid (wi_49.out.ext hx)
  have h_51 := Lib.hid (h_49.out.ext hx)
  have x_51 := Lib.hid (x_49.out.ext hx)
  have y_51 := Lib.hid (y_49.out.ext hx)
  clear A_49 X_49 wi_49 h_49 x_49 y_49
  have rt_52 := Lib.hid hb0
  clear hx hb0
  refine (growFine_is _ 1 40 HF.out A_51.out (show Sl _ _ 1 1 ([root].map iv) from rt_52.out.slP 1 (by unfold maxLen; omega))).mono ?_
  rintro e w53 ⟨rfl, hx⟩
  have A_54 := Lib.hid (A_51.out.ext hx)
  have X_54 := Lib.hid (X_51.out.ext hx)
  have wi_54 := Lib.hid (wi_51.out.ext hx)
  have h_54 := Lib.hid (h_51.out.ext hx)
  have x_54 := Lib.hid (x_51.out.ext hx)
  have y_54 := Lib.hid (y_51.out.ext hx)
  have rt_54 := Lib.hid (rt_52.out.ext hx)
  clear A_51 X_51 wi_51 h_51 x_51 y_51 rt_52
  clear hx
  have zwi := wi_54.out.lt
  have qh0 : w53.cell? ⟨w.heap.size + 1, 0, none⟩ = some (.slice R n q) := h_54.out.at 0 _ rfl
  have qh1 : w53.cell? ⟨w.heap.size + 1, 1, none⟩ = some (.int .i64 keep) := h_54.out.at 1 _ rfl
  have zh := h_54.out.lt
  have qx0 : w53.cell? ⟨w.heap.size + 1 + 1, 0, none⟩ = some (.int .i64 xk) := x_54.out.at 0 _ rfl
  have qx1 : w53.cell? ⟨w.heap.size + 1 + 1, 1, none⟩ = some (.int .i64 xv) := x_54.out.at 1 _ rfl
  have zx := x_54.out.lt
  have qy0 : w53.cell? ⟨w.heap.size + 1 + 1 + 1, 0, none⟩ = some (.int .i64 yk) := y_54.out.at 0 _ rfl
  have qy1 : w53.cell? ⟨w.heap.size + 1 + 1 + 1, 1, none⟩ = some (.int .i64 yv) := y_54.out.at 1 _ rfl
  have zy := y_54.out.lt
  have qrt0 : w53.cell? ⟨w48.heap.size, 0, none⟩ = some (.int .i64 root) := rt_54.out.at 0 _ rfl
  have zrt := rt_54.out.lt
  go_wp2_with (go_at_call 8; refine stop_here ?_)
  refine stop_on ?_
  clear zwi qh0 qh1 zh qx0 qx1 zx qy0 qy1 zy qrt0 zrt
  refine (growPut_is (by decide) HM.out HP1.out A_54.out).mono ?_
  rintro e w55 ⟨S1, t1, rfl, h3, hx⟩
  have A_56 := Lib.hid (A_54.out.ext hx)
  have X_56 := Lib.hid (X_54.out.ext hx)
  have wi_56 := Lib.hid (wi_54.out.ext hx)
  have h_56 := Lib.hid (h_54.out.ext hx)
  have x_56 := Lib.hid (x_54.out.ext hx)
  have y_56 := Lib.hid (y_54.out.ext hx)
  have rt_56 := Lib.hid (rt_54.out.ext hx)
  clear A_54 X_54 wi_54 h_54 x_54 y_54 rt_54
  have B_57 := Lib.hid h3
  clear hx h3
  have zwi := wi_56.out.lt
  have qh0 : w55.cell? ⟨w.heap.size + 1, 0, none⟩ = some (.slice R n q) := h_56.out.at 0 _ rfl
  have qh1 : w55.cell? ⟨w.heap.size + 1, 1, none⟩ = some (.int .i64 keep) := h_56.out.at 1 _ rfl
  have zh := h_56.out.lt
  have qx0 : w55.cell? ⟨w.heap.size + 1 + 1, 0, none⟩ = some (.int .i64 xk) := x_56.out.at 0 _ rfl
  have qx1 : w55.cell? ⟨w.heap.size + 1 + 1, 1, none⟩ = some (.int .i64 xv) := x_56.out.at 1 _ rfl
  have zx := x_56.out.lt
  have qy0 : w55.cell? ⟨w.heap.size + 1 + 1 + 1, 0, none⟩ = some (.int .i64 yk) := y_56.out.at 0 _ rfl
  have qy1 : w55.cell? ⟨w.heap.size + 1 + 1 + 1, 1, none⟩ = some (.int .i64 yv) := y_56.out.at 1 _ rfl
  have zy := y_56.out.lt
  have zrt := rt_56.out.lt
  go_wp2_with (go_at_call 8; refine stop_here ?_)
  refine stop_on ?_
  clear zwi qh0 qh1 zh qx0 qx1 zx qy0 qy1 zy zrt
  generalize hW : (World.alloc w55 _) = W58
  obtain ⟨hx, hb0⟩ := allocs1 hW
  clear hW
  have A_59 := Lib.hid (A_56.out.ext hx)
  have X_59 := Lib.hid (X_56.out.ext hx)
  have wi_59 := Lib.hid (wi_56.out.ext hx)
  have h_59 := Lib.hid (h_56.out.ext hx)
  have x_59 := Lib.hid (x_56.out.ext hx)
  have y_59 := Lib.hid (y_56.out.ext hx)
  have rt_59 := Lib.hid (rt_56.out.ext hx)
  have B_59 := Lib.hid (B_57.out.ext hx)
  clear A_56 X_56 wi_56 h_56 x_56 y_56 rt_56 B_57
  have a_60 := Lib.hid hb0
  clear hx hb0
  refine (growPut_is (by decide) HM.out HP2.out A_59.out).mono ?_
  rintro e w61 ⟨S2, t2, rfl, h3, hx⟩
  have A_62 := Lib.hid (A_59.out.ext hx)
  have X_62 := Lib.hid (X_59.out.ext hx)
  have wi_62 := Lib.hid (wi_59.out.ext hx)
  have h_62 := Lib.hid (h_59.out.ext hx)
  have x_62 := Lib.hid (x_59.out.ext hx)
  have y_62 := Lib.hid (y_59.out.ext hx)
  have rt_62 := Lib.hid (rt_59.out.ext hx)
  have B_62 := Lib.hid (B_59.out.ext hx)
  have a_62 := Lib.hid (a_60.out.ext hx)
  clear A_59 X_59 wi_59 h_59 x_59 y_59 rt_59 B_59 a_60
  have C_63 := Lib.hid h3
  clear hx h3
  have zwi := wi_62.out.lt
  have qh0 : w61.cell? ⟨w.heap.size + 1, 0, none⟩ = some (.slice R n q) := h_62.out.at 0 _ rfl
  have qh1 : w61.cell? ⟨w.heap.size + 1, 1, none⟩ = some (.int .i64 keep) := h_62.out.at 1 _ rfl
  have zh := h_62.out.lt
  have qx0 : w61.cell? ⟨w.heap.size + 1 + 1, 0, none⟩ = some (.int .i64 xk) := x_62.out.at 0 _ rfl
  have qx1 : w61.cell? ⟨w.heap.size + 1 + 1, 1, none⟩ = some (.int .i64 xv) := x_62.out.at 1 _ rfl
  have zx := x_62.out.lt
  have qy0 : w61.cell? ⟨w.heap.size + 1 + 1 + 1, 0, none⟩ = some (.int .i64 yk) := y_62.out.at 0 _ rfl
  have qy1 : w61.cell? ⟨w.heap.size + 1 + 1 + 1, 1, none⟩ = some (.int .i64 yv) := y_62.out.at 1 _ rfl
  have zy := y_62.out.lt
  have zrt := rt_62.out.lt
  have qa0 : w61.cell? ⟨w55.heap.size, 0, none⟩ = some (.slice S1 n t1) := a_62.out.at 0 _ rfl
  have qa1 : w61.cell? ⟨w55.heap.size, 1, none⟩ = some (.int .i64 keep) := a_62.out.at 1 _ rfl
  have za := a_62.out.lt
  go_wp2
  go_ret
  exact ⟨rfl, X_62.out.alloc _⟩
set_option maxRecDepth 100000 in
set_option maxHeartbeats 4000000 in
theorem twice_third (R : Option Addr) (l : List HC) (n q : Nat) (keep root xk xv yk yv : Int) (w : World) (hA : HcSl w R n q l) (hf : fineB ⟨l, keep⟩ root 40 = true) (c1 c2 : List HC) (r1 r2 : Int) (hp1 : putR ⟨l, keep⟩ root (xk, xv) true = (c1, r1, 0)) (hp2 : putR ⟨l, keep⟩ root (yk, yv) true = (c2, r2, 0)) (c3 c4 : List HC) (r3 r4 e4 : Int) (hp3 : putR ⟨c1, keep⟩ r1 (yk, yv) true = (c3, r3, 3)) (hp4 : putR ⟨c2, keep⟩ r2 (xk, xv) true = (c4, r4, e4)) :
    Calls Try.prog 4 #[.agg #[.slice R n q, .int .i64 keep, .int .i64 root, .int .i64 xk, .int .i64 xv, .int .i64 yk, .int .i64 yv]] w fun e w' => e = .returned (.bool true) ∧ Ext w w' := by
  have A_64 := Lib.hid (hA)
  have X_65 := Lib.hid (Ext.refl w)
  clear hA
  have HM := Lib.hid (mayT_of hf)
  have HF := Lib.hid hf
  have HP1 := Lib.hid hp1
  have HP2 := Lib.hid hp2
  obtain ⟨F1, l1, -⟩ := put_list (by decide) hf (by rw [hp1])
  obtain ⟨F2, l2, -⟩ := put_list (by decide) hf (by rw [hp2])
  rw [hp1] at F1 l1
  rw [hp2] at F2 l2
  simp only at F1 l1 F2 l2
  have HM1 := Lib.hid (mayT_of F1)
  have HM2 := Lib.hid (mayT_of F2)
  have M1 := Lib.hid (fine_all F1).2.2.2
  have M2 := Lib.hid (fine_all F2).2.2.2
  have HP3 := Lib.hid hp3
  have HP4 := Lib.hid hp4
  clear hf hp1 hp2 hp3 hp4 F1 F2 l1 l2
  go_enter Try.func4, Try.ntmps4
  go_wp2_with (go_at_call 6; refine stop_here ?_)
  refine stop_on ?_
  generalize hW : (World.alloc (World.alloc (World.alloc (World.alloc w _) _) _) _) = W66
  obtain ⟨hx, hb0, hb1, hb2, hb3⟩ := allocs4 hW
  clear hW
  have A_67 := Lib.hid (A_64.out.ext hx)
  have X_67 := Lib.hid (X_65.out.ext hx)
  clear A_64 X_65
  have wi_68 := Lib.hid hb0
  have h_69 := Lib.hid hb1
  have x_70 := Lib.hid hb2
  have y_71 := Lib.hid hb3
  clear hx hb0 hb1 hb2 hb3
  refine (shown_any _).mono ?_
  rintro e w72 ⟨rfl, hx⟩
  have A_73 := Lib.hid (A_67.out.ext hx)
  have X_73 := Lib.hid (X_67.out.ext hx)
  have wi_73 := Lib.hid (wi_68.out.ext hx)
  have h_73 := Lib.hid (h_69.out.ext hx)
  have x_73 := Lib.hid (x_70.out.ext hx)
  have y_73 := Lib.hid (y_71.out.ext hx)
  clear A_67 X_67 wi_68 h_69 x_70 y_71
  clear hx
  have qwi0 : w72.cell? ⟨w.heap.size, 0, none⟩ = some (.slice R n q) := wi_73.out.at 0 _ rfl
  have qwi1 : w72.cell? ⟨w.heap.size, 1, none⟩ = some (.int .i64 keep) := wi_73.out.at 1 _ rfl
  have qwi2 : w72.cell? ⟨w.heap.size, 2, none⟩ = some (.int .i64 root) := wi_73.out.at 2 _ rfl
  have qwi3 : w72.cell? ⟨w.heap.size, 3, none⟩ = some (.int .i64 xk) := wi_73.out.at 3 _ rfl
  have qwi4 : w72.cell? ⟨w.heap.size, 4, none⟩ = some (.int .i64 xv) := wi_73.out.at 4 _ rfl
  have qwi5 : w72.cell? ⟨w.heap.size, 5, none⟩ = some (.int .i64 yk) := wi_73.out.at 5 _ rfl
  have qwi6 : w72.cell? ⟨w.heap.size, 6, none⟩ = some (.int .i64 yv) := wi_73.out.at 6 _ rfl
  have zwi := wi_73.out.lt
  have qh0 : w72.cell? ⟨w.heap.size + 1, 0, none⟩ = some (.slice R n q) := h_73.out.at 0 _ rfl
  have qh1 : w72.cell? ⟨w.heap.size + 1, 1, none⟩ = some (.int .i64 keep) := h_73.out.at 1 _ rfl
  have zh := h_73.out.lt
  have qx0 : w72.cell? ⟨w.heap.size + 1 + 1, 0, none⟩ = some (.int .i64 xk) := x_73.out.at 0 _ rfl
  have qx1 : w72.cell? ⟨w.heap.size + 1 + 1, 1, none⟩ = some (.int .i64 xv) := x_73.out.at 1 _ rfl
  have zx := x_73.out.lt
  have qy0 : w72.cell? ⟨w.heap.size + 1 + 1 + 1, 0, none⟩ = some (.int .i64 yk) := y_73.out.at 0 _ rfl
  have qy1 : w72.cell? ⟨w.heap.size + 1 + 1 + 1, 1, none⟩ = some (.int .i64 yv) := y_73.out.at 1 _ rfl
  have zy := y_73.out.lt
  go_wp2_with (go_at_call 7; refine stop_here ?_)
  refine stop_on ?_
  clear qwi0 qwi1 qwi2 qwi3 qwi4 qwi5 qwi6 zwi qh0 qh1 zh qx0 qx1 zx qy0 qy1 zy
  generalize hW : (World.alloc w72 _) = W74
  obtain ⟨hx, hb0⟩ := allocs1 hW
  clear hW
  have A_75 := Lib.hid (A_73.out.ext hx)
  have X_75 := Lib.hid (X_73.out.ext hx)
  have wi_75 := Lib.hid (wi_73.out.ext hx)
  have h_75 := Lib.hid (h_73.out.ext hx)
  have x_75 := Lib.hid (x_73.out.ext hx)
  have y_75 := Lib.hid (y_73.out.ext hx)
  clear A_73 X_73 wi_73 h_73 x_73 y_73
  have rt_76 := Lib.hid hb0
  clear hx hb0
  refine (growFine_is _ 1 40 HF.out A_75.out (show Sl _ _ 1 1 ([root].map iv) from rt_76.out.slP 1 (by unfold maxLen; omega))).mono ?_
  rintro e w77 ⟨rfl, hx⟩
  have A_78 := Lib.hid (A_75.out.ext hx)
  have X_78 := Lib.hid (X_75.out.ext hx)
  have wi_78 := Lib.hid (wi_75.out.ext hx)
  have h_78 := Lib.hid (h_75.out.ext hx)
  have x_78 := Lib.hid (x_75.out.ext hx)
  have y_78 := Lib.hid (y_75.out.ext hx)
  have rt_78 := Lib.hid (rt_76.out.ext hx)
  clear A_75 X_75 wi_75 h_75 x_75 y_75 rt_76
  clear hx
  have zwi := wi_78.out.lt
  have qh0 : w77.cell? ⟨w.heap.size + 1, 0, none⟩ = some (.slice R n q) := h_78.out.at 0 _ rfl
  have qh1 : w77.cell? ⟨w.heap.size + 1, 1, none⟩ = some (.int .i64 keep) := h_78.out.at 1 _ rfl
  have zh := h_78.out.lt
  have qx0 : w77.cell? ⟨w.heap.size + 1 + 1, 0, none⟩ = some (.int .i64 xk) := x_78.out.at 0 _ rfl
  have qx1 : w77.cell? ⟨w.heap.size + 1 + 1, 1, none⟩ = some (.int .i64 xv) := x_78.out.at 1 _ rfl
  have zx := x_78.out.lt
  have qy0 : w77.cell? ⟨w.heap.size + 1 + 1 + 1, 0, none⟩ = some (.int .i64 yk) := y_78.out.at 0 _ rfl
  have qy1 : w77.cell? ⟨w.heap.size + 1 + 1 + 1, 1, none⟩ = some (.int .i64 yv) := y_78.out.at 1 _ rfl
  have zy := y_78.out.lt
  have qrt0 : w77.cell? ⟨w72.heap.size, 0, none⟩ = some (.int .i64 root) := rt_78.out.at 0 _ rfl
  have zrt := rt_78.out.lt
  go_wp2_with (go_at_call 8; refine stop_here ?_)
  refine stop_on ?_
  clear zwi qh0 qh1 zh qx0 qx1 zx qy0 qy1 zy qrt0 zrt
  refine (growPut_is (by decide) HM.out HP1.out A_78.out).mono ?_
  rintro e w79 ⟨S1, t1, rfl, h3, hx⟩
  have A_80 := Lib.hid (A_78.out.ext hx)
  have X_80 := Lib.hid (X_78.out.ext hx)
  have wi_80 := Lib.hid (wi_78.out.ext hx)
  have h_80 := Lib.hid (h_78.out.ext hx)
  have x_80 := Lib.hid (x_78.out.ext hx)
  have y_80 := Lib.hid (y_78.out.ext hx)
  have rt_80 := Lib.hid (rt_78.out.ext hx)
  clear A_78 X_78 wi_78 h_78 x_78 y_78 rt_78
  have B_81 := Lib.hid h3
  clear hx h3
  have zwi := wi_80.out.lt
  have qh0 : w79.cell? ⟨w.heap.size + 1, 0, none⟩ = some (.slice R n q) := h_80.out.at 0 _ rfl
  have qh1 : w79.cell? ⟨w.heap.size + 1, 1, none⟩ = some (.int .i64 keep) := h_80.out.at 1 _ rfl
  have zh := h_80.out.lt
  have qx0 : w79.cell? ⟨w.heap.size + 1 + 1, 0, none⟩ = some (.int .i64 xk) := x_80.out.at 0 _ rfl
  have qx1 : w79.cell? ⟨w.heap.size + 1 + 1, 1, none⟩ = some (.int .i64 xv) := x_80.out.at 1 _ rfl
  have zx := x_80.out.lt
  have qy0 : w79.cell? ⟨w.heap.size + 1 + 1 + 1, 0, none⟩ = some (.int .i64 yk) := y_80.out.at 0 _ rfl
  have qy1 : w79.cell? ⟨w.heap.size + 1 + 1 + 1, 1, none⟩ = some (.int .i64 yv) := y_80.out.at 1 _ rfl
  have zy := y_80.out.lt
  have zrt := rt_80.out.lt
  go_wp2_with (go_at_call 8; refine stop_here ?_)
  refine stop_on ?_
  clear zwi qh0 qh1 zh qx0 qx1 zx qy0 qy1 zy zrt
  generalize hW : (World.alloc w79 _) = W82
  obtain ⟨hx, hb0⟩ := allocs1 hW
  clear hW
  have A_83 := Lib.hid (A_80.out.ext hx)
  have X_83 := Lib.hid (X_80.out.ext hx)
  have wi_83 := Lib.hid (wi_80.out.ext hx)
  have h_83 := Lib.hid (h_80.out.ext hx)
  have x_83 := Lib.hid (x_80.out.ext hx)
  have y_83 := Lib.hid (y_80.out.ext hx)
  have rt_83 := Lib.hid (rt_80.out.ext hx)
  have B_83 := Lib.hid (B_81.out.ext hx)
  clear A_80 X_80 wi_80 h_80 x_80 y_80 rt_80 B_81
  have a_84 := Lib.hid hb0
  clear hx hb0
  refine (growPut_is (by decide) HM.out HP2.out A_83.out).mono ?_
  rintro e w85 ⟨S2, t2, rfl, h3, hx⟩
  have A_86 := Lib.hid (A_83.out.ext hx)
  have X_86 := Lib.hid (X_83.out.ext hx)
  have wi_86 := Lib.hid (wi_83.out.ext hx)
  have h_86 := Lib.hid (h_83.out.ext hx)
  have x_86 := Lib.hid (x_83.out.ext hx)
  have y_86 := Lib.hid (y_83.out.ext hx)
  have rt_86 := Lib.hid (rt_83.out.ext hx)
  have B_86 := Lib.hid (B_83.out.ext hx)
  have a_86 := Lib.hid (a_84.out.ext hx)
  clear A_83 X_83 wi_83 h_83 x_83 y_83 rt_83 B_83 a_84
  have C_87 := Lib.hid h3
  clear hx h3
  have zwi := wi_86.out.lt
  have qh0 : w85.cell? ⟨w.heap.size + 1, 0, none⟩ = some (.slice R n q) := h_86.out.at 0 _ rfl
  have qh1 : w85.cell? ⟨w.heap.size + 1, 1, none⟩ = some (.int .i64 keep) := h_86.out.at 1 _ rfl
  have zh := h_86.out.lt
  have qx0 : w85.cell? ⟨w.heap.size + 1 + 1, 0, none⟩ = some (.int .i64 xk) := x_86.out.at 0 _ rfl
  have qx1 : w85.cell? ⟨w.heap.size + 1 + 1, 1, none⟩ = some (.int .i64 xv) := x_86.out.at 1 _ rfl
  have zx := x_86.out.lt
  have qy0 : w85.cell? ⟨w.heap.size + 1 + 1 + 1, 0, none⟩ = some (.int .i64 yk) := y_86.out.at 0 _ rfl
  have qy1 : w85.cell? ⟨w.heap.size + 1 + 1 + 1, 1, none⟩ = some (.int .i64 yv) := y_86.out.at 1 _ rfl
  have zy := y_86.out.lt
  have zrt := rt_86.out.lt
  have qa0 : w85.cell? ⟨w79.heap.size, 0, none⟩ = some (.slice S1 n t1) := a_86.out.at 0 _ rfl
  have qa1 : w85.cell? ⟨w79.heap.size, 1, none⟩ = some (.int .i64 keep) := a_86.out.at 1 _ rfl
  have za := a_86.out.lt
  go_wp2_with (go_at_call 11; refine stop_here ?_)
  refine stop_on ?_
  clear zwi qh0 qh1 zh qx0 qx1 zx qy0 qy1 zy zrt qa0 qa1 za
  generalize hW : (World.alloc w85 _) = W88
  obtain ⟨hx, hb0⟩ := allocs1 hW
  clear hW
  have A_89 := Lib.hid (A_86.out.ext hx)
  have X_89 := Lib.hid (X_86.out.ext hx)
  have wi_89 := Lib.hid (wi_86.out.ext hx)
  have h_89 := Lib.hid (h_86.out.ext hx)
  have x_89 := Lib.hid (x_86.out.ext hx)
  have y_89 := Lib.hid (y_86.out.ext hx)
  have rt_89 := Lib.hid (rt_86.out.ext hx)
  have B_89 := Lib.hid (B_86.out.ext hx)
  have a_89 := Lib.hid (a_86.out.ext hx)
  have C_89 := Lib.hid (C_87.out.ext hx)
  clear A_86 X_86 wi_86 h_86 x_86 y_86 rt_86 B_86 a_86 C_87
  have b_90 := Lib.hid hb0
  clear hx hb0
  refine (growMay_is 40 M1.out B_89.out).mono ?_
  rintro e w91 ⟨rfl, hx⟩
  have A_92 := Lib.hid (A_89.out.ext hx)
  have X_92 := Lib.hid (X_89.out.ext hx)
  have wi_92 := Lib.hid (wi_89.out.ext hx)
  have h_92 := Lib.hid (h_89.out.ext hx)
  have x_92 := Lib.hid (x_89.out.ext hx)
  have y_92 := Lib.hid (y_89.out.ext hx)
  have rt_92 := Lib.hid (rt_89.out.ext hx)
  have B_92 := Lib.hid (B_89.out.ext hx)
  have a_92 := Lib.hid (a_89.out.ext hx)
  have C_92 := Lib.hid (C_89.out.ext hx)
  have b_92 := Lib.hid (b_90.out.ext hx)
  clear A_89 X_89 wi_89 h_89 x_89 y_89 rt_89 B_89 a_89 C_89 b_90
  clear hx
  have zwi := wi_92.out.lt
  have qh0 : w91.cell? ⟨w.heap.size + 1, 0, none⟩ = some (.slice R n q) := h_92.out.at 0 _ rfl
  have qh1 : w91.cell? ⟨w.heap.size + 1, 1, none⟩ = some (.int .i64 keep) := h_92.out.at 1 _ rfl
  have zh := h_92.out.lt
  have qx0 : w91.cell? ⟨w.heap.size + 1 + 1, 0, none⟩ = some (.int .i64 xk) := x_92.out.at 0 _ rfl
  have qx1 : w91.cell? ⟨w.heap.size + 1 + 1, 1, none⟩ = some (.int .i64 xv) := x_92.out.at 1 _ rfl
  have zx := x_92.out.lt
  have qy0 : w91.cell? ⟨w.heap.size + 1 + 1 + 1, 0, none⟩ = some (.int .i64 yk) := y_92.out.at 0 _ rfl
  have qy1 : w91.cell? ⟨w.heap.size + 1 + 1 + 1, 1, none⟩ = some (.int .i64 yv) := y_92.out.at 1 _ rfl
  have zy := y_92.out.lt
  have zrt := rt_92.out.lt
  have qa0 : w91.cell? ⟨w79.heap.size, 0, none⟩ = some (.slice S1 n t1) := a_92.out.at 0 _ rfl
  have qa1 : w91.cell? ⟨w79.heap.size, 1, none⟩ = some (.int .i64 keep) := a_92.out.at 1 _ rfl
  have za := a_92.out.lt
  have qb0 : w91.cell? ⟨w85.heap.size, 0, none⟩ = some (.slice S2 n t2) := b_92.out.at 0 _ rfl
  have qb1 : w91.cell? ⟨w85.heap.size, 1, none⟩ = some (.int .i64 keep) := b_92.out.at 1 _ rfl
  have zb := b_92.out.lt
  go_wp2_with (go_at_call 11; refine stop_here ?_)
  refine stop_on ?_
  clear zwi qh0 qh1 zh qx0 qx1 zx qy0 qy1 zy zrt qa0 qa1 za qb0 qb1 zb
  refine (growMay_is 40 M2.out C_92.out).mono ?_
  rintro e w93 ⟨rfl, hx⟩
  have A_94 := Lib.hid (A_92.out.ext hx)
  have X_94 := Lib.hid (X_92.out.ext hx)
  have wi_94 := Lib.hid (wi_92.out.ext hx)
  have h_94 := Lib.hid (h_92.out.ext hx)
  have x_94 := Lib.hid (x_92.out.ext hx)
  have y_94 := Lib.hid (y_92.out.ext hx)
  have rt_94 := Lib.hid (rt_92.out.ext hx)
  have B_94 := Lib.hid (B_92.out.ext hx)
  have a_94 := Lib.hid (a_92.out.ext hx)
  have C_94 := Lib.hid (C_92.out.ext hx)
  have b_94 := Lib.hid (b_92.out.ext hx)
  clear A_92 X_92 wi_92 h_92 x_92 y_92 rt_92 B_92 a_92 C_92 b_92
  clear hx
  have zwi := wi_94.out.lt
  have qh0 : w93.cell? ⟨w.heap.size + 1, 0, none⟩ = some (.slice R n q) := h_94.out.at 0 _ rfl
  have qh1 : w93.cell? ⟨w.heap.size + 1, 1, none⟩ = some (.int .i64 keep) := h_94.out.at 1 _ rfl
  have zh := h_94.out.lt
  have qx0 : w93.cell? ⟨w.heap.size + 1 + 1, 0, none⟩ = some (.int .i64 xk) := x_94.out.at 0 _ rfl
  have qx1 : w93.cell? ⟨w.heap.size + 1 + 1, 1, none⟩ = some (.int .i64 xv) := x_94.out.at 1 _ rfl
  have zx := x_94.out.lt
  have qy0 : w93.cell? ⟨w.heap.size + 1 + 1 + 1, 0, none⟩ = some (.int .i64 yk) := y_94.out.at 0 _ rfl
  have qy1 : w93.cell? ⟨w.heap.size + 1 + 1 + 1, 1, none⟩ = some (.int .i64 yv) := y_94.out.at 1 _ rfl
  have zy := y_94.out.lt
  have zrt := rt_94.out.lt
  have qa0 : w93.cell? ⟨w79.heap.size, 0, none⟩ = some (.slice S1 n t1) := a_94.out.at 0 _ rfl
  have qa1 : w93.cell? ⟨w79.heap.size, 1, none⟩ = some (.int .i64 keep) := a_94.out.at 1 _ rfl
  have za := a_94.out.lt
  have qb0 : w93.cell? ⟨w85.heap.size, 0, none⟩ = some (.slice S2 n t2) := b_94.out.at 0 _ rfl
  have qb1 : w93.cell? ⟨w85.heap.size, 1, none⟩ = some (.int .i64 keep) := b_94.out.at 1 _ rfl
  have zb := b_94.out.lt
  go_wp2_with (go_at_call 8; refine stop_here ?_)
  refine stop_on ?_
  clear zwi qh0 qh1 zh qx0 qx1 zx qy0 qy1 zy zrt qa0 qa1 za qb0 qb1 zb
  refine (growPut_is (by decide) HM1.out HP3.out B_94.out).mono ?_
  rintro e w95 ⟨S3, t3, rfl, h3, hx⟩
  have A_96 := Lib.hid (A_94.out.ext hx)
  have X_96 := Lib.hid (X_94.out.ext hx)
  have wi_96 := Lib.hid (wi_94.out.ext hx)
  have h_96 := Lib.hid (h_94.out.ext hx)
  have x_96 := Lib.hid (x_94.out.ext hx)
  have y_96 := Lib.hid (y_94.out.ext hx)
  have rt_96 := Lib.hid (rt_94.out.ext hx)
  have B_96 := Lib.hid (B_94.out.ext hx)
  have a_96 := Lib.hid (a_94.out.ext hx)
  have C_96 := Lib.hid (C_94.out.ext hx)
  have b_96 := Lib.hid (b_94.out.ext hx)
  clear A_94 X_94 wi_94 h_94 x_94 y_94 rt_94 B_94 a_94 C_94 b_94
  have D_97 := Lib.hid h3
  clear hx h3
  have zwi := wi_96.out.lt
  have qh0 : w95.cell? ⟨w.heap.size + 1, 0, none⟩ = some (.slice R n q) := h_96.out.at 0 _ rfl
  have qh1 : w95.cell? ⟨w.heap.size + 1, 1, none⟩ = some (.int .i64 keep) := h_96.out.at 1 _ rfl
  have zh := h_96.out.lt
  have qx0 : w95.cell? ⟨w.heap.size + 1 + 1, 0, none⟩ = some (.int .i64 xk) := x_96.out.at 0 _ rfl
  have qx1 : w95.cell? ⟨w.heap.size + 1 + 1, 1, none⟩ = some (.int .i64 xv) := x_96.out.at 1 _ rfl
  have zx := x_96.out.lt
  have qy0 : w95.cell? ⟨w.heap.size + 1 + 1 + 1, 0, none⟩ = some (.int .i64 yk) := y_96.out.at 0 _ rfl
  have qy1 : w95.cell? ⟨w.heap.size + 1 + 1 + 1, 1, none⟩ = some (.int .i64 yv) := y_96.out.at 1 _ rfl
  have zy := y_96.out.lt
  have zrt := rt_96.out.lt
  have qa0 : w95.cell? ⟨w79.heap.size, 0, none⟩ = some (.slice S1 n t1) := a_96.out.at 0 _ rfl
  have qa1 : w95.cell? ⟨w79.heap.size, 1, none⟩ = some (.int .i64 keep) := a_96.out.at 1 _ rfl
  have za := a_96.out.lt
  have qb0 : w95.cell? ⟨w85.heap.size, 0, none⟩ = some (.slice S2 n t2) := b_96.out.at 0 _ rfl
  have qb1 : w95.cell? ⟨w85.heap.size, 1, none⟩ = some (.int .i64 keep) := b_96.out.at 1 _ rfl
  have zb := b_96.out.lt
  go_wp2_with (go_at_call 8; refine stop_here ?_)
  refine stop_on ?_
  clear zwi qh0 qh1 zh qx0 qx1 zx qy0 qy1 zy zrt qa0 qa1 za qb0 qb1 zb
  generalize hW : (World.alloc w95 _) = W98
  obtain ⟨hx, hb0⟩ := allocs1 hW
  clear hW
  have A_99 := Lib.hid (A_96.out.ext hx)
  have X_99 := Lib.hid (X_96.out.ext hx)
  have wi_99 := Lib.hid (wi_96.out.ext hx)
  have h_99 := Lib.hid (h_96.out.ext hx)
  have x_99 := Lib.hid (x_96.out.ext hx)
  have y_99 := Lib.hid (y_96.out.ext hx)
  have rt_99 := Lib.hid (rt_96.out.ext hx)
  have B_99 := Lib.hid (B_96.out.ext hx)
  have a_99 := Lib.hid (a_96.out.ext hx)
  have C_99 := Lib.hid (C_96.out.ext hx)
  have b_99 := Lib.hid (b_96.out.ext hx)
  have D_99 := Lib.hid (D_97.out.ext hx)
  clear A_96 X_96 wi_96 h_96 x_96 y_96 rt_96 B_96 a_96 C_96 b_96 D_97
  have c_100 := Lib.hid hb0
  clear hx hb0
  refine (growPut_is (by decide) HM2.out HP4.out C_99.out).mono ?_
  rintro e w101 ⟨S4, t4, rfl, h3, hx⟩
  have A_102 := Lib.hid (A_99.out.ext hx)
  have X_102 := Lib.hid (X_99.out.ext hx)
  have wi_102 := Lib.hid (wi_99.out.ext hx)
  have h_102 := Lib.hid (h_99.out.ext hx)
  have x_102 := Lib.hid (x_99.out.ext hx)
  have y_102 := Lib.hid (y_99.out.ext hx)
  have rt_102 := Lib.hid (rt_99.out.ext hx)
  have B_102 := Lib.hid (B_99.out.ext hx)
  have a_102 := Lib.hid (a_99.out.ext hx)
  have C_102 := Lib.hid (C_99.out.ext hx)
  have b_102 := Lib.hid (b_99.out.ext hx)
  have D_102 := Lib.hid (D_99.out.ext hx)
  have c_102 := Lib.hid (c_100.out.ext hx)
  clear A_99 X_99 wi_99 h_99 x_99 y_99 rt_99 B_99 a_99 C_99 b_99 D_99 c_100
  have E_103 := Lib.hid h3
  clear hx h3
  have zwi := wi_102.out.lt
  have qh0 : w101.cell? ⟨w.heap.size + 1, 0, none⟩ = some (.slice R n q) := h_102.out.at 0 _ rfl
  have qh1 : w101.cell? ⟨w.heap.size + 1, 1, none⟩ = some (.int .i64 keep) := h_102.out.at 1 _ rfl
  have zh := h_102.out.lt
  have qx0 : w101.cell? ⟨w.heap.size + 1 + 1, 0, none⟩ = some (.int .i64 xk) := x_102.out.at 0 _ rfl
  have qx1 : w101.cell? ⟨w.heap.size + 1 + 1, 1, none⟩ = some (.int .i64 xv) := x_102.out.at 1 _ rfl
  have zx := x_102.out.lt
  have qy0 : w101.cell? ⟨w.heap.size + 1 + 1 + 1, 0, none⟩ = some (.int .i64 yk) := y_102.out.at 0 _ rfl
  have qy1 : w101.cell? ⟨w.heap.size + 1 + 1 + 1, 1, none⟩ = some (.int .i64 yv) := y_102.out.at 1 _ rfl
  have zy := y_102.out.lt
  have zrt := rt_102.out.lt
  have qa0 : w101.cell? ⟨w79.heap.size, 0, none⟩ = some (.slice S1 n t1) := a_102.out.at 0 _ rfl
  have qa1 : w101.cell? ⟨w79.heap.size, 1, none⟩ = some (.int .i64 keep) := a_102.out.at 1 _ rfl
  have za := a_102.out.lt
  have qb0 : w101.cell? ⟨w85.heap.size, 0, none⟩ = some (.slice S2 n t2) := b_102.out.at 0 _ rfl
  have qb1 : w101.cell? ⟨w85.heap.size, 1, none⟩ = some (.int .i64 keep) := b_102.out.at 1 _ rfl
  have zb := b_102.out.lt
  have qc0 : w101.cell? ⟨w95.heap.size, 0, none⟩ = some (.slice S3 n t3) := c_102.out.at 0 _ rfl
  have qc1 : w101.cell? ⟨w95.heap.size, 1, none⟩ = some (.int .i64 keep) := c_102.out.at 1 _ rfl
  have zc := c_102.out.lt
  go_wp2
  go_ret
  exact ⟨rfl, X_102.out.alloc _⟩
set_option maxRecDepth 100000 in
set_option maxHeartbeats 4000000 in
theorem twice_fourth (R : Option Addr) (l : List HC) (n q : Nat) (keep root xk xv yk yv : Int) (w : World) (hA : HcSl w R n q l) (hf : fineB ⟨l, keep⟩ root 40 = true) (c1 c2 : List HC) (r1 r2 : Int) (hp1 : putR ⟨l, keep⟩ root (xk, xv) true = (c1, r1, 0)) (hp2 : putR ⟨l, keep⟩ root (yk, yv) true = (c2, r2, 0)) (c3 c4 : List HC) (r3 r4 : Int) (hp3 : putR ⟨c1, keep⟩ r1 (yk, yv) true = (c3, r3, 0)) (hp4 : putR ⟨c2, keep⟩ r2 (xk, xv) true = (c4, r4, 3)) :
    Calls Try.prog 4 #[.agg #[.slice R n q, .int .i64 keep, .int .i64 root, .int .i64 xk, .int .i64 xv, .int .i64 yk, .int .i64 yv]] w fun e w' => e = .returned (.bool true) ∧ Ext w w' := by
  have A_104 := Lib.hid (hA)
  have X_105 := Lib.hid (Ext.refl w)
  clear hA
  have HM := Lib.hid (mayT_of hf)
  have HF := Lib.hid hf
  have HP1 := Lib.hid hp1
  have HP2 := Lib.hid hp2
  obtain ⟨F1, l1, -⟩ := put_list (by decide) hf (by rw [hp1])
  obtain ⟨F2, l2, -⟩ := put_list (by decide) hf (by rw [hp2])
  rw [hp1] at F1 l1
  rw [hp2] at F2 l2
  simp only at F1 l1 F2 l2
  have HM1 := Lib.hid (mayT_of F1)
  have HM2 := Lib.hid (mayT_of F2)
  have M1 := Lib.hid (fine_all F1).2.2.2
  have M2 := Lib.hid (fine_all F2).2.2.2
  have HP3 := Lib.hid hp3
  have HP4 := Lib.hid hp4
  clear hf hp1 hp2 hp3 hp4 F1 F2 l1 l2
  go_enter Try.func4, Try.ntmps4
  go_wp2_with (go_at_call 6; refine stop_here ?_)
  refine stop_on ?_
  generalize hW : (World.alloc (World.alloc (World.alloc (World.alloc w _) _) _) _) = W106
  obtain ⟨hx, hb0, hb1, hb2, hb3⟩ := allocs4 hW
  clear hW
  have A_107 := Lib.hid (A_104.out.ext hx)
  have X_107 := Lib.hid (X_105.out.ext hx)
  clear A_104 X_105
  have wi_108 := Lib.hid hb0
  have h_109 := Lib.hid hb1
  have x_110 := Lib.hid hb2
  have y_111 := Lib.hid hb3
  clear hx hb0 hb1 hb2 hb3
  refine (shown_any _).mono ?_
  rintro e w112 ⟨rfl, hx⟩
  have A_113 := Lib.hid (A_107.out.ext hx)
  have X_113 := Lib.hid (X_107.out.ext hx)
  have wi_113 := Lib.hid (wi_108.out.ext hx)
  have h_113 := Lib.hid (h_109.out.ext hx)
  have x_113 := Lib.hid (x_110.out.ext hx)
  have y_113 := Lib.hid (y_111.out.ext hx)
  clear A_107 X_107 wi_108 h_109 x_110 y_111
  clear hx
  have qwi0 : w112.cell? ⟨w.heap.size, 0, none⟩ = some (.slice R n q) := wi_113.out.at 0 _ rfl
  have qwi1 : w112.cell? ⟨w.heap.size, 1, none⟩ = some (.int .i64 keep) := wi_113.out.at 1 _ rfl
  have qwi2 : w112.cell? ⟨w.heap.size, 2, none⟩ = some (.int .i64 root) := wi_113.out.at 2 _ rfl
  have qwi3 : w112.cell? ⟨w.heap.size, 3, none⟩ = some (.int .i64 xk) := wi_113.out.at 3 _ rfl
  have qwi4 : w112.cell? ⟨w.heap.size, 4, none⟩ = some (.int .i64 xv) := wi_113.out.at 4 _ rfl
  have qwi5 : w112.cell? ⟨w.heap.size, 5, none⟩ = some (.int .i64 yk) := wi_113.out.at 5 _ rfl
  have qwi6 : w112.cell? ⟨w.heap.size, 6, none⟩ = some (.int .i64 yv) := wi_113.out.at 6 _ rfl
  have zwi := wi_113.out.lt
  have qh0 : w112.cell? ⟨w.heap.size + 1, 0, none⟩ = some (.slice R n q) := h_113.out.at 0 _ rfl
  have qh1 : w112.cell? ⟨w.heap.size + 1, 1, none⟩ = some (.int .i64 keep) := h_113.out.at 1 _ rfl
  have zh := h_113.out.lt
  have qx0 : w112.cell? ⟨w.heap.size + 1 + 1, 0, none⟩ = some (.int .i64 xk) := x_113.out.at 0 _ rfl
  have qx1 : w112.cell? ⟨w.heap.size + 1 + 1, 1, none⟩ = some (.int .i64 xv) := x_113.out.at 1 _ rfl
  have zx := x_113.out.lt
  have qy0 : w112.cell? ⟨w.heap.size + 1 + 1 + 1, 0, none⟩ = some (.int .i64 yk) := y_113.out.at 0 _ rfl
  have qy1 : w112.cell? ⟨w.heap.size + 1 + 1 + 1, 1, none⟩ = some (.int .i64 yv) := y_113.out.at 1 _ rfl
  have zy := y_113.out.lt
  go_wp2_with (go_at_call 7; refine stop_here ?_)
  refine stop_on ?_
  clear qwi0 qwi1 qwi2 qwi3 qwi4 qwi5 qwi6 zwi qh0 qh1 zh qx0 qx1 zx qy0 qy1 zy
  generalize hW : (World.alloc w112 _) = W114
  obtain ⟨hx, hb0⟩ := allocs1 hW
  clear hW
  have A_115 := Lib.hid (A_113.out.ext hx)
  have X_115 := Lib.hid (X_113.out.ext hx)
  have wi_115 := Lib.hid (wi_113.out.ext hx)
  have h_115 := Lib.hid (h_113.out.ext hx)
  have x_115 := Lib.hid (x_113.out.ext hx)
  have y_115 := Lib.hid (y_113.out.ext hx)
  clear A_113 X_113 wi_113 h_113 x_113 y_113
  have rt_116 := Lib.hid hb0
  clear hx hb0
  refine (growFine_is _ 1 40 HF.out A_115.out (show Sl _ _ 1 1 ([root].map iv) from rt_116.out.slP 1 (by unfold maxLen; omega))).mono ?_
  rintro e w117 ⟨rfl, hx⟩
  have A_118 := Lib.hid (A_115.out.ext hx)
  have X_118 := Lib.hid (X_115.out.ext hx)
  have wi_118 := Lib.hid (wi_115.out.ext hx)
  have h_118 := Lib.hid (h_115.out.ext hx)
  have x_118 := Lib.hid (x_115.out.ext hx)
  have y_118 := Lib.hid (y_115.out.ext hx)
  have rt_118 := Lib.hid (rt_116.out.ext hx)
  clear A_115 X_115 wi_115 h_115 x_115 y_115 rt_116
  clear hx
  have zwi := wi_118.out.lt
  have qh0 : w117.cell? ⟨w.heap.size + 1, 0, none⟩ = some (.slice R n q) := h_118.out.at 0 _ rfl
  have qh1 : w117.cell? ⟨w.heap.size + 1, 1, none⟩ = some (.int .i64 keep) := h_118.out.at 1 _ rfl
  have zh := h_118.out.lt
  have qx0 : w117.cell? ⟨w.heap.size + 1 + 1, 0, none⟩ = some (.int .i64 xk) := x_118.out.at 0 _ rfl
  have qx1 : w117.cell? ⟨w.heap.size + 1 + 1, 1, none⟩ = some (.int .i64 xv) := x_118.out.at 1 _ rfl
  have zx := x_118.out.lt
  have qy0 : w117.cell? ⟨w.heap.size + 1 + 1 + 1, 0, none⟩ = some (.int .i64 yk) := y_118.out.at 0 _ rfl
  have qy1 : w117.cell? ⟨w.heap.size + 1 + 1 + 1, 1, none⟩ = some (.int .i64 yv) := y_118.out.at 1 _ rfl
  have zy := y_118.out.lt
  have qrt0 : w117.cell? ⟨w112.heap.size, 0, none⟩ = some (.int .i64 root) := rt_118.out.at 0 _ rfl
  have zrt := rt_118.out.lt
  go_wp2_with (go_at_call 8; refine stop_here ?_)
  refine stop_on ?_
  clear zwi qh0 qh1 zh qx0 qx1 zx qy0 qy1 zy qrt0 zrt
  refine (growPut_is (by decide) HM.out HP1.out A_118.out).mono ?_
  rintro e w119 ⟨S1, t1, rfl, h3, hx⟩
  have A_120 := Lib.hid (A_118.out.ext hx)
  have X_120 := Lib.hid (X_118.out.ext hx)
  have wi_120 := Lib.hid (wi_118.out.ext hx)
  have h_120 := Lib.hid (h_118.out.ext hx)
  have x_120 := Lib.hid (x_118.out.ext hx)
  have y_120 := Lib.hid (y_118.out.ext hx)
  have rt_120 := Lib.hid (rt_118.out.ext hx)
  clear A_118 X_118 wi_118 h_118 x_118 y_118 rt_118
  have B_121 := Lib.hid h3
  clear hx h3
  have zwi := wi_120.out.lt
  have qh0 : w119.cell? ⟨w.heap.size + 1, 0, none⟩ = some (.slice R n q) := h_120.out.at 0 _ rfl
  have qh1 : w119.cell? ⟨w.heap.size + 1, 1, none⟩ = some (.int .i64 keep) := h_120.out.at 1 _ rfl
  have zh := h_120.out.lt
  have qx0 : w119.cell? ⟨w.heap.size + 1 + 1, 0, none⟩ = some (.int .i64 xk) := x_120.out.at 0 _ rfl
  have qx1 : w119.cell? ⟨w.heap.size + 1 + 1, 1, none⟩ = some (.int .i64 xv) := x_120.out.at 1 _ rfl
  have zx := x_120.out.lt
  have qy0 : w119.cell? ⟨w.heap.size + 1 + 1 + 1, 0, none⟩ = some (.int .i64 yk) := y_120.out.at 0 _ rfl
  have qy1 : w119.cell? ⟨w.heap.size + 1 + 1 + 1, 1, none⟩ = some (.int .i64 yv) := y_120.out.at 1 _ rfl
  have zy := y_120.out.lt
  have zrt := rt_120.out.lt
  go_wp2_with (go_at_call 8; refine stop_here ?_)
  refine stop_on ?_
  clear zwi qh0 qh1 zh qx0 qx1 zx qy0 qy1 zy zrt
  generalize hW : (World.alloc w119 _) = W122
  obtain ⟨hx, hb0⟩ := allocs1 hW
  clear hW
  have A_123 := Lib.hid (A_120.out.ext hx)
  have X_123 := Lib.hid (X_120.out.ext hx)
  have wi_123 := Lib.hid (wi_120.out.ext hx)
  have h_123 := Lib.hid (h_120.out.ext hx)
  have x_123 := Lib.hid (x_120.out.ext hx)
  have y_123 := Lib.hid (y_120.out.ext hx)
  have rt_123 := Lib.hid (rt_120.out.ext hx)
  have B_123 := Lib.hid (B_121.out.ext hx)
  clear A_120 X_120 wi_120 h_120 x_120 y_120 rt_120 B_121
  have a_124 := Lib.hid hb0
  clear hx hb0
  refine (growPut_is (by decide) HM.out HP2.out A_123.out).mono ?_
  rintro e w125 ⟨S2, t2, rfl, h3, hx⟩
  have A_126 := Lib.hid (A_123.out.ext hx)
  have X_126 := Lib.hid (X_123.out.ext hx)
  have wi_126 := Lib.hid (wi_123.out.ext hx)
  have h_126 := Lib.hid (h_123.out.ext hx)
  have x_126 := Lib.hid (x_123.out.ext hx)
  have y_126 := Lib.hid (y_123.out.ext hx)
  have rt_126 := Lib.hid (rt_123.out.ext hx)
  have B_126 := Lib.hid (B_123.out.ext hx)
  have a_126 := Lib.hid (a_124.out.ext hx)
  clear A_123 X_123 wi_123 h_123 x_123 y_123 rt_123 B_123 a_124
  have C_127 := Lib.hid h3
  clear hx h3
  have zwi := wi_126.out.lt
  have qh0 : w125.cell? ⟨w.heap.size + 1, 0, none⟩ = some (.slice R n q) := h_126.out.at 0 _ rfl
  have qh1 : w125.cell? ⟨w.heap.size + 1, 1, none⟩ = some (.int .i64 keep) := h_126.out.at 1 _ rfl
  have zh := h_126.out.lt
  have qx0 : w125.cell? ⟨w.heap.size + 1 + 1, 0, none⟩ = some (.int .i64 xk) := x_126.out.at 0 _ rfl
  have qx1 : w125.cell? ⟨w.heap.size + 1 + 1, 1, none⟩ = some (.int .i64 xv) := x_126.out.at 1 _ rfl
  have zx := x_126.out.lt
  have qy0 : w125.cell? ⟨w.heap.size + 1 + 1 + 1, 0, none⟩ = some (.int .i64 yk) := y_126.out.at 0 _ rfl
  have qy1 : w125.cell? ⟨w.heap.size + 1 + 1 + 1, 1, none⟩ = some (.int .i64 yv) := y_126.out.at 1 _ rfl
  have zy := y_126.out.lt
  have zrt := rt_126.out.lt
  have qa0 : w125.cell? ⟨w119.heap.size, 0, none⟩ = some (.slice S1 n t1) := a_126.out.at 0 _ rfl
  have qa1 : w125.cell? ⟨w119.heap.size, 1, none⟩ = some (.int .i64 keep) := a_126.out.at 1 _ rfl
  have za := a_126.out.lt
  go_wp2_with (go_at_call 11; refine stop_here ?_)
  refine stop_on ?_
  clear zwi qh0 qh1 zh qx0 qx1 zx qy0 qy1 zy zrt qa0 qa1 za
  generalize hW : (World.alloc w125 _) = W128
  obtain ⟨hx, hb0⟩ := allocs1 hW
  clear hW
  have A_129 := Lib.hid (A_126.out.ext hx)
  have X_129 := Lib.hid (X_126.out.ext hx)
  have wi_129 := Lib.hid (wi_126.out.ext hx)
  have h_129 := Lib.hid (h_126.out.ext hx)
  have x_129 := Lib.hid (x_126.out.ext hx)
  have y_129 := Lib.hid (y_126.out.ext hx)
  have rt_129 := Lib.hid (rt_126.out.ext hx)
  have B_129 := Lib.hid (B_126.out.ext hx)
  have a_129 := Lib.hid (a_126.out.ext hx)
  have C_129 := Lib.hid (C_127.out.ext hx)
  clear A_126 X_126 wi_126 h_126 x_126 y_126 rt_126 B_126 a_126 C_127
  have b_130 := Lib.hid hb0
  clear hx hb0
  refine (growMay_is 40 M1.out B_129.out).mono ?_
  rintro e w131 ⟨rfl, hx⟩
  have A_132 := Lib.hid (A_129.out.ext hx)
  have X_132 := Lib.hid (X_129.out.ext hx)
  have wi_132 := Lib.hid (wi_129.out.ext hx)
  have h_132 := Lib.hid (h_129.out.ext hx)
  have x_132 := Lib.hid (x_129.out.ext hx)
  have y_132 := Lib.hid (y_129.out.ext hx)
  have rt_132 := Lib.hid (rt_129.out.ext hx)
  have B_132 := Lib.hid (B_129.out.ext hx)
  have a_132 := Lib.hid (a_129.out.ext hx)
  have C_132 := Lib.hid (C_129.out.ext hx)
  have b_132 := Lib.hid (b_130.out.ext hx)
  clear A_129 X_129 wi_129 h_129 x_129 y_129 rt_129 B_129 a_129 C_129 b_130
  clear hx
  have zwi := wi_132.out.lt
  have qh0 : w131.cell? ⟨w.heap.size + 1, 0, none⟩ = some (.slice R n q) := h_132.out.at 0 _ rfl
  have qh1 : w131.cell? ⟨w.heap.size + 1, 1, none⟩ = some (.int .i64 keep) := h_132.out.at 1 _ rfl
  have zh := h_132.out.lt
  have qx0 : w131.cell? ⟨w.heap.size + 1 + 1, 0, none⟩ = some (.int .i64 xk) := x_132.out.at 0 _ rfl
  have qx1 : w131.cell? ⟨w.heap.size + 1 + 1, 1, none⟩ = some (.int .i64 xv) := x_132.out.at 1 _ rfl
  have zx := x_132.out.lt
  have qy0 : w131.cell? ⟨w.heap.size + 1 + 1 + 1, 0, none⟩ = some (.int .i64 yk) := y_132.out.at 0 _ rfl
  have qy1 : w131.cell? ⟨w.heap.size + 1 + 1 + 1, 1, none⟩ = some (.int .i64 yv) := y_132.out.at 1 _ rfl
  have zy := y_132.out.lt
  have zrt := rt_132.out.lt
  have qa0 : w131.cell? ⟨w119.heap.size, 0, none⟩ = some (.slice S1 n t1) := a_132.out.at 0 _ rfl
  have qa1 : w131.cell? ⟨w119.heap.size, 1, none⟩ = some (.int .i64 keep) := a_132.out.at 1 _ rfl
  have za := a_132.out.lt
  have qb0 : w131.cell? ⟨w125.heap.size, 0, none⟩ = some (.slice S2 n t2) := b_132.out.at 0 _ rfl
  have qb1 : w131.cell? ⟨w125.heap.size, 1, none⟩ = some (.int .i64 keep) := b_132.out.at 1 _ rfl
  have zb := b_132.out.lt
  go_wp2_with (go_at_call 11; refine stop_here ?_)
  refine stop_on ?_
  clear zwi qh0 qh1 zh qx0 qx1 zx qy0 qy1 zy zrt qa0 qa1 za qb0 qb1 zb
  refine (growMay_is 40 M2.out C_132.out).mono ?_
  rintro e w133 ⟨rfl, hx⟩
  have A_134 := Lib.hid (A_132.out.ext hx)
  have X_134 := Lib.hid (X_132.out.ext hx)
  have wi_134 := Lib.hid (wi_132.out.ext hx)
  have h_134 := Lib.hid (h_132.out.ext hx)
  have x_134 := Lib.hid (x_132.out.ext hx)
  have y_134 := Lib.hid (y_132.out.ext hx)
  have rt_134 := Lib.hid (rt_132.out.ext hx)
  have B_134 := Lib.hid (B_132.out.ext hx)
  have a_134 := Lib.hid (a_132.out.ext hx)
  have C_134 := Lib.hid (C_132.out.ext hx)
  have b_134 := Lib.hid (b_132.out.ext hx)
  clear A_132 X_132 wi_132 h_132 x_132 y_132 rt_132 B_132 a_132 C_132 b_132
  clear hx
  have zwi := wi_134.out.lt
  have qh0 : w133.cell? ⟨w.heap.size + 1, 0, none⟩ = some (.slice R n q) := h_134.out.at 0 _ rfl
  have qh1 : w133.cell? ⟨w.heap.size + 1, 1, none⟩ = some (.int .i64 keep) := h_134.out.at 1 _ rfl
  have zh := h_134.out.lt
  have qx0 : w133.cell? ⟨w.heap.size + 1 + 1, 0, none⟩ = some (.int .i64 xk) := x_134.out.at 0 _ rfl
  have qx1 : w133.cell? ⟨w.heap.size + 1 + 1, 1, none⟩ = some (.int .i64 xv) := x_134.out.at 1 _ rfl
  have zx := x_134.out.lt
  have qy0 : w133.cell? ⟨w.heap.size + 1 + 1 + 1, 0, none⟩ = some (.int .i64 yk) := y_134.out.at 0 _ rfl
  have qy1 : w133.cell? ⟨w.heap.size + 1 + 1 + 1, 1, none⟩ = some (.int .i64 yv) := y_134.out.at 1 _ rfl
  have zy := y_134.out.lt
  have zrt := rt_134.out.lt
  have qa0 : w133.cell? ⟨w119.heap.size, 0, none⟩ = some (.slice S1 n t1) := a_134.out.at 0 _ rfl
  have qa1 : w133.cell? ⟨w119.heap.size, 1, none⟩ = some (.int .i64 keep) := a_134.out.at 1 _ rfl
  have za := a_134.out.lt
  have qb0 : w133.cell? ⟨w125.heap.size, 0, none⟩ = some (.slice S2 n t2) := b_134.out.at 0 _ rfl
  have qb1 : w133.cell? ⟨w125.heap.size, 1, none⟩ = some (.int .i64 keep) := b_134.out.at 1 _ rfl
  have zb := b_134.out.lt
  go_wp2_with (go_at_call 8; refine stop_here ?_)
  refine stop_on ?_
  clear zwi qh0 qh1 zh qx0 qx1 zx qy0 qy1 zy zrt qa0 qa1 za qb0 qb1 zb
  refine (growPut_is (by decide) HM1.out HP3.out B_134.out).mono ?_
  rintro e w135 ⟨S3, t3, rfl, h3, hx⟩
  have A_136 := Lib.hid (A_134.out.ext hx)
  have X_136 := Lib.hid (X_134.out.ext hx)
  have wi_136 := Lib.hid (wi_134.out.ext hx)
  have h_136 := Lib.hid (h_134.out.ext hx)
  have x_136 := Lib.hid (x_134.out.ext hx)
  have y_136 := Lib.hid (y_134.out.ext hx)
  have rt_136 := Lib.hid (rt_134.out.ext hx)
  have B_136 := Lib.hid (B_134.out.ext hx)
  have a_136 := Lib.hid (a_134.out.ext hx)
  have C_136 := Lib.hid (C_134.out.ext hx)
  have b_136 := Lib.hid (b_134.out.ext hx)
  clear A_134 X_134 wi_134 h_134 x_134 y_134 rt_134 B_134 a_134 C_134 b_134
  have D_137 := Lib.hid h3
  clear hx h3
  have zwi := wi_136.out.lt
  have qh0 : w135.cell? ⟨w.heap.size + 1, 0, none⟩ = some (.slice R n q) := h_136.out.at 0 _ rfl
  have qh1 : w135.cell? ⟨w.heap.size + 1, 1, none⟩ = some (.int .i64 keep) := h_136.out.at 1 _ rfl
  have zh := h_136.out.lt
  have qx0 : w135.cell? ⟨w.heap.size + 1 + 1, 0, none⟩ = some (.int .i64 xk) := x_136.out.at 0 _ rfl
  have qx1 : w135.cell? ⟨w.heap.size + 1 + 1, 1, none⟩ = some (.int .i64 xv) := x_136.out.at 1 _ rfl
  have zx := x_136.out.lt
  have qy0 : w135.cell? ⟨w.heap.size + 1 + 1 + 1, 0, none⟩ = some (.int .i64 yk) := y_136.out.at 0 _ rfl
  have qy1 : w135.cell? ⟨w.heap.size + 1 + 1 + 1, 1, none⟩ = some (.int .i64 yv) := y_136.out.at 1 _ rfl
  have zy := y_136.out.lt
  have zrt := rt_136.out.lt
  have qa0 : w135.cell? ⟨w119.heap.size, 0, none⟩ = some (.slice S1 n t1) := a_136.out.at 0 _ rfl
  have qa1 : w135.cell? ⟨w119.heap.size, 1, none⟩ = some (.int .i64 keep) := a_136.out.at 1 _ rfl
  have za := a_136.out.lt
  have qb0 : w135.cell? ⟨w125.heap.size, 0, none⟩ = some (.slice S2 n t2) := b_136.out.at 0 _ rfl
  have qb1 : w135.cell? ⟨w125.heap.size, 1, none⟩ = some (.int .i64 keep) := b_136.out.at 1 _ rfl
  have zb := b_136.out.lt
  go_wp2_with (go_at_call 8; refine stop_here ?_)
  refine stop_on ?_
  clear zwi qh0 qh1 zh qx0 qx1 zx qy0 qy1 zy zrt qa0 qa1 za qb0 qb1 zb
  generalize hW : (World.alloc w135 _) = W138
  obtain ⟨hx, hb0⟩ := allocs1 hW
  clear hW
  have A_139 := Lib.hid (A_136.out.ext hx)
  have X_139 := Lib.hid (X_136.out.ext hx)
  have wi_139 := Lib.hid (wi_136.out.ext hx)
  have h_139 := Lib.hid (h_136.out.ext hx)
  have x_139 := Lib.hid (x_136.out.ext hx)
  have y_139 := Lib.hid (y_136.out.ext hx)
  have rt_139 := Lib.hid (rt_136.out.ext hx)
  have B_139 := Lib.hid (B_136.out.ext hx)
  have a_139 := Lib.hid (a_136.out.ext hx)
  have C_139 := Lib.hid (C_136.out.ext hx)
  have b_139 := Lib.hid (b_136.out.ext hx)
  have D_139 := Lib.hid (D_137.out.ext hx)
  clear A_136 X_136 wi_136 h_136 x_136 y_136 rt_136 B_136 a_136 C_136 b_136 D_137
  have c_140 := Lib.hid hb0
  clear hx hb0
  refine (growPut_is (by decide) HM2.out HP4.out C_139.out).mono ?_
  rintro e w141 ⟨S4, t4, rfl, h3, hx⟩
  have A_142 := Lib.hid (A_139.out.ext hx)
  have X_142 := Lib.hid (X_139.out.ext hx)
  have wi_142 := Lib.hid (wi_139.out.ext hx)
  have h_142 := Lib.hid (h_139.out.ext hx)
  have x_142 := Lib.hid (x_139.out.ext hx)
  have y_142 := Lib.hid (y_139.out.ext hx)
  have rt_142 := Lib.hid (rt_139.out.ext hx)
  have B_142 := Lib.hid (B_139.out.ext hx)
  have a_142 := Lib.hid (a_139.out.ext hx)
  have C_142 := Lib.hid (C_139.out.ext hx)
  have b_142 := Lib.hid (b_139.out.ext hx)
  have D_142 := Lib.hid (D_139.out.ext hx)
  have c_142 := Lib.hid (c_140.out.ext hx)
  clear A_139 X_139 wi_139 h_139 x_139 y_139 rt_139 B_139 a_139 C_139 b_139 D_139 c_140
  have E_143 := Lib.hid h3
  clear hx h3
  have zwi := wi_142.out.lt
  have qh0 : w141.cell? ⟨w.heap.size + 1, 0, none⟩ = some (.slice R n q) := h_142.out.at 0 _ rfl
  have qh1 : w141.cell? ⟨w.heap.size + 1, 1, none⟩ = some (.int .i64 keep) := h_142.out.at 1 _ rfl
  have zh := h_142.out.lt
  have qx0 : w141.cell? ⟨w.heap.size + 1 + 1, 0, none⟩ = some (.int .i64 xk) := x_142.out.at 0 _ rfl
  have qx1 : w141.cell? ⟨w.heap.size + 1 + 1, 1, none⟩ = some (.int .i64 xv) := x_142.out.at 1 _ rfl
  have zx := x_142.out.lt
  have qy0 : w141.cell? ⟨w.heap.size + 1 + 1 + 1, 0, none⟩ = some (.int .i64 yk) := y_142.out.at 0 _ rfl
  have qy1 : w141.cell? ⟨w.heap.size + 1 + 1 + 1, 1, none⟩ = some (.int .i64 yv) := y_142.out.at 1 _ rfl
  have zy := y_142.out.lt
  have zrt := rt_142.out.lt
  have qa0 : w141.cell? ⟨w119.heap.size, 0, none⟩ = some (.slice S1 n t1) := a_142.out.at 0 _ rfl
  have qa1 : w141.cell? ⟨w119.heap.size, 1, none⟩ = some (.int .i64 keep) := a_142.out.at 1 _ rfl
  have za := a_142.out.lt
  have qb0 : w141.cell? ⟨w125.heap.size, 0, none⟩ = some (.slice S2 n t2) := b_142.out.at 0 _ rfl
  have qb1 : w141.cell? ⟨w125.heap.size, 1, none⟩ = some (.int .i64 keep) := b_142.out.at 1 _ rfl
  have zb := b_142.out.lt
  have qc0 : w141.cell? ⟨w135.heap.size, 0, none⟩ = some (.slice S3 n t3) := c_142.out.at 0 _ rfl
  have qc1 : w141.cell? ⟨w135.heap.size, 1, none⟩ = some (.int .i64 keep) := c_142.out.at 1 _ rfl
  have zc := c_142.out.lt
  go_wp2
  go_ret
  exact ⟨rfl, X_142.out.alloc _⟩
set_option maxRecDepth 100000 in
set_option maxHeartbeats 4000000 in
theorem twice_two (R : Option Addr) (l : List HC) (n q : Nat) (keep root xk xv yk yv : Int) (w : World) (hA : HcSl w R n q l) (hf : fineB ⟨l, keep⟩ root 40 = true) (c1 c2 : List HC) (r1 r2 : Int) (hp1 : putR ⟨l, keep⟩ root (xk, xv) true = (c1, r1, 0)) (hp2 : putR ⟨l, keep⟩ root (yk, yv) true = (c2, r2, 0)) (c3 c4 : List HC) (r3 r4 : Int) (hp3 : putR ⟨c1, keep⟩ r1 (yk, yv) true = (c3, r3, 0)) (hp4 : putR ⟨c2, keep⟩ r2 (xk, xv) true = (c4, r4, 0)) (h : xk ≠ yk) :
    Calls Try.prog 4 #[.agg #[.slice R n q, .int .i64 keep, .int .i64 root, .int .i64 xk, .int .i64 xv, .int .i64 yk, .int .i64 yv]] w fun e w' => e = .returned (.bool true) ∧ Ext w w' := by
  have A_144 := Lib.hid (hA)
  have X_145 := Lib.hid (Ext.refl w)
  clear hA
  have HM := Lib.hid (mayT_of hf)
  have HF := Lib.hid hf
  have HP1 := Lib.hid hp1
  have HP2 := Lib.hid hp2
  obtain ⟨F1, l1, -⟩ := put_list (by decide) hf (by rw [hp1])
  obtain ⟨F2, l2, -⟩ := put_list (by decide) hf (by rw [hp2])
  rw [hp1] at F1 l1
  rw [hp2] at F2 l2
  simp only at F1 l1 F2 l2
  have HM1 := Lib.hid (mayT_of F1)
  have HM2 := Lib.hid (mayT_of F2)
  have M1 := Lib.hid (fine_all F1).2.2.2
  have M2 := Lib.hid (fine_all F2).2.2.2
  have HP3 := Lib.hid hp3
  have HP4 := Lib.hid hp4
  obtain ⟨F3, l3, -⟩ := put_list (by decide) F1 (by rw [hp3])
  obtain ⟨F4, l4, -⟩ := put_list (by decide) F2 (by rw [hp4])
  rw [hp3] at F3 l3
  rw [hp4] at F4 l4
  simp only at F3 l3 F4 l4
  have M3 := Lib.hid (fine_all F3).2.2.2
  have M4 := Lib.hid (fine_all F4).2.2.2
  have hasc : Asc (listT l root) := by
    obtain ⟨f1, f2, _⟩ := fine_may hf
    exact listT_rise (may_iff f1).2.2 f2
  obtain ⟨a1, b1, d1, _⟩ := fine_all F1
  have A1 := Lib.hid a1
  have B1 := Lib.hid b1
  have D1 := Lib.hid d1
  obtain ⟨a3, b3, d3, _⟩ := fine_all F3
  have A3 := Lib.hid a3
  have B3 := Lib.hid b3
  have D3 := Lib.hid d3
  obtain ⟨a4, b4, d4, _⟩ := fine_all F4
  have A4 := Lib.hid a4
  have B4 := Lib.hid b4
  have D4 := Lib.hid d4
  have hq : listT c4 r4 = listT c3 r3 := by rw [l4, l3, l2, l1]; exact (insL_swap hasc h).symm
  obtain ⟨LL, hLL⟩ : ∃ L, listT c3 r3 = L := ⟨_, rfl⟩
  rw [hLL] at hq
  obtain ⟨ll, hll⟩ : ∃ k, LL.length = k := ⟨_, rfl⟩
  have HL3 := Lib.hid hLL
  have HL4 := Lib.hid hq
  have HLN := Lib.hid hll
  have t9 : (xk != yk) = true := by simp [h]
  clear hf hp1 hp2 hp3 hp4 F1 F2 F3 F4 l1 l2 l3 l4 hasc hq hLL hll h a1 a3 a4 b1 b3 b4 d1 d3 d4
  go_enter Try.func4, Try.ntmps4
  go_wp2_with (go_at_call 6; refine stop_here ?_)
  refine stop_on ?_
  generalize hW : (World.alloc (World.alloc (World.alloc (World.alloc w _) _) _) _) = W146
  obtain ⟨hx, hb0, hb1, hb2, hb3⟩ := allocs4 hW
  clear hW
  have A_147 := Lib.hid (A_144.out.ext hx)
  have X_147 := Lib.hid (X_145.out.ext hx)
  clear A_144 X_145
  have wi_148 := Lib.hid hb0
  have h_149 := Lib.hid hb1
  have x_150 := Lib.hid hb2
  have y_151 := Lib.hid hb3
  clear hx hb0 hb1 hb2 hb3
  refine (shown_any _).mono ?_
  rintro e w152 ⟨rfl, hx⟩
  have A_153 := Lib.hid (A_147.out.ext hx)
  have X_153 := Lib.hid (X_147.out.ext hx)
  have wi_153 := Lib.hid (wi_148.out.ext hx)
  have h_153 := Lib.hid (h_149.out.ext hx)
  have x_153 := Lib.hid (x_150.out.ext hx)
  have y_153 := Lib.hid (y_151.out.ext hx)
  clear A_147 X_147 wi_148 h_149 x_150 y_151
  clear hx
  have qwi0 : w152.cell? ⟨w.heap.size, 0, none⟩ = some (.slice R n q) := wi_153.out.at 0 _ rfl
  have qwi1 : w152.cell? ⟨w.heap.size, 1, none⟩ = some (.int .i64 keep) := wi_153.out.at 1 _ rfl
  have qwi2 : w152.cell? ⟨w.heap.size, 2, none⟩ = some (.int .i64 root) := wi_153.out.at 2 _ rfl
  have qwi3 : w152.cell? ⟨w.heap.size, 3, none⟩ = some (.int .i64 xk) := wi_153.out.at 3 _ rfl
  have qwi4 : w152.cell? ⟨w.heap.size, 4, none⟩ = some (.int .i64 xv) := wi_153.out.at 4 _ rfl
  have qwi5 : w152.cell? ⟨w.heap.size, 5, none⟩ = some (.int .i64 yk) := wi_153.out.at 5 _ rfl
  have qwi6 : w152.cell? ⟨w.heap.size, 6, none⟩ = some (.int .i64 yv) := wi_153.out.at 6 _ rfl
  have zwi := wi_153.out.lt
  have qh0 : w152.cell? ⟨w.heap.size + 1, 0, none⟩ = some (.slice R n q) := h_153.out.at 0 _ rfl
  have qh1 : w152.cell? ⟨w.heap.size + 1, 1, none⟩ = some (.int .i64 keep) := h_153.out.at 1 _ rfl
  have zh := h_153.out.lt
  have qx0 : w152.cell? ⟨w.heap.size + 1 + 1, 0, none⟩ = some (.int .i64 xk) := x_153.out.at 0 _ rfl
  have qx1 : w152.cell? ⟨w.heap.size + 1 + 1, 1, none⟩ = some (.int .i64 xv) := x_153.out.at 1 _ rfl
  have zx := x_153.out.lt
  have qy0 : w152.cell? ⟨w.heap.size + 1 + 1 + 1, 0, none⟩ = some (.int .i64 yk) := y_153.out.at 0 _ rfl
  have qy1 : w152.cell? ⟨w.heap.size + 1 + 1 + 1, 1, none⟩ = some (.int .i64 yv) := y_153.out.at 1 _ rfl
  have zy := y_153.out.lt
  go_wp2_with (go_at_call 7; refine stop_here ?_)
  refine stop_on ?_
  clear qwi0 qwi1 qwi2 qwi3 qwi4 qwi5 qwi6 zwi qh0 qh1 zh qx0 qx1 zx qy0 qy1 zy
  generalize hW : (World.alloc w152 _) = W154
  obtain ⟨hx, hb0⟩ := allocs1 hW
  clear hW
  have A_155 := Lib.hid (A_153.out.ext hx)
  have X_155 := Lib.hid (X_153.out.ext hx)
  have wi_155 := Lib.hid (wi_153.out.ext hx)
  have h_155 := Lib.hid (h_153.out.ext hx)
  have x_155 := Lib.hid (x_153.out.ext hx)
  have y_155 := Lib.hid (y_153.out.ext hx)
  clear A_153 X_153 wi_153 h_153 x_153 y_153
  have rt_156 := Lib.hid hb0
  clear hx hb0
  refine (growFine_is _ 1 40 HF.out A_155.out (show Sl _ _ 1 1 ([root].map iv) from rt_156.out.slP 1 (by unfold maxLen; omega))).mono ?_
  rintro e w157 ⟨rfl, hx⟩
  have A_158 := Lib.hid (A_155.out.ext hx)
  have X_158 := Lib.hid (X_155.out.ext hx)
  have wi_158 := Lib.hid (wi_155.out.ext hx)
  have h_158 := Lib.hid (h_155.out.ext hx)
  have x_158 := Lib.hid (x_155.out.ext hx)
  have y_158 := Lib.hid (y_155.out.ext hx)
  have rt_158 := Lib.hid (rt_156.out.ext hx)
  clear A_155 X_155 wi_155 h_155 x_155 y_155 rt_156
  clear hx
  have zwi := wi_158.out.lt
  have qh0 : w157.cell? ⟨w.heap.size + 1, 0, none⟩ = some (.slice R n q) := h_158.out.at 0 _ rfl
  have qh1 : w157.cell? ⟨w.heap.size + 1, 1, none⟩ = some (.int .i64 keep) := h_158.out.at 1 _ rfl
  have zh := h_158.out.lt
  have qx0 : w157.cell? ⟨w.heap.size + 1 + 1, 0, none⟩ = some (.int .i64 xk) := x_158.out.at 0 _ rfl
  have qx1 : w157.cell? ⟨w.heap.size + 1 + 1, 1, none⟩ = some (.int .i64 xv) := x_158.out.at 1 _ rfl
  have zx := x_158.out.lt
  have qy0 : w157.cell? ⟨w.heap.size + 1 + 1 + 1, 0, none⟩ = some (.int .i64 yk) := y_158.out.at 0 _ rfl
  have qy1 : w157.cell? ⟨w.heap.size + 1 + 1 + 1, 1, none⟩ = some (.int .i64 yv) := y_158.out.at 1 _ rfl
  have zy := y_158.out.lt
  have qrt0 : w157.cell? ⟨w152.heap.size, 0, none⟩ = some (.int .i64 root) := rt_158.out.at 0 _ rfl
  have zrt := rt_158.out.lt
  go_wp2_with (go_at_call 8; refine stop_here ?_)
  refine stop_on ?_
  clear zwi qh0 qh1 zh qx0 qx1 zx qy0 qy1 zy qrt0 zrt
  refine (growPut_is (by decide) HM.out HP1.out A_158.out).mono ?_
  rintro e w159 ⟨S1, t1, rfl, h3, hx⟩
  have A_160 := Lib.hid (A_158.out.ext hx)
  have X_160 := Lib.hid (X_158.out.ext hx)
  have wi_160 := Lib.hid (wi_158.out.ext hx)
  have h_160 := Lib.hid (h_158.out.ext hx)
  have x_160 := Lib.hid (x_158.out.ext hx)
  have y_160 := Lib.hid (y_158.out.ext hx)
  have rt_160 := Lib.hid (rt_158.out.ext hx)
  clear A_158 X_158 wi_158 h_158 x_158 y_158 rt_158
  have B_161 := Lib.hid h3
  clear hx h3
  have zwi := wi_160.out.lt
  have qh0 : w159.cell? ⟨w.heap.size + 1, 0, none⟩ = some (.slice R n q) := h_160.out.at 0 _ rfl
  have qh1 : w159.cell? ⟨w.heap.size + 1, 1, none⟩ = some (.int .i64 keep) := h_160.out.at 1 _ rfl
  have zh := h_160.out.lt
  have qx0 : w159.cell? ⟨w.heap.size + 1 + 1, 0, none⟩ = some (.int .i64 xk) := x_160.out.at 0 _ rfl
  have qx1 : w159.cell? ⟨w.heap.size + 1 + 1, 1, none⟩ = some (.int .i64 xv) := x_160.out.at 1 _ rfl
  have zx := x_160.out.lt
  have qy0 : w159.cell? ⟨w.heap.size + 1 + 1 + 1, 0, none⟩ = some (.int .i64 yk) := y_160.out.at 0 _ rfl
  have qy1 : w159.cell? ⟨w.heap.size + 1 + 1 + 1, 1, none⟩ = some (.int .i64 yv) := y_160.out.at 1 _ rfl
  have zy := y_160.out.lt
  have zrt := rt_160.out.lt
  go_wp2_with (go_at_call 8; refine stop_here ?_)
  refine stop_on ?_
  clear zwi qh0 qh1 zh qx0 qx1 zx qy0 qy1 zy zrt
  generalize hW : (World.alloc w159 _) = W162
  obtain ⟨hx, hb0⟩ := allocs1 hW
  clear hW
  have A_163 := Lib.hid (A_160.out.ext hx)
  have X_163 := Lib.hid (X_160.out.ext hx)
  have wi_163 := Lib.hid (wi_160.out.ext hx)
  have h_163 := Lib.hid (h_160.out.ext hx)
  have x_163 := Lib.hid (x_160.out.ext hx)
  have y_163 := Lib.hid (y_160.out.ext hx)
  have rt_163 := Lib.hid (rt_160.out.ext hx)
  have B_163 := Lib.hid (B_161.out.ext hx)
  clear A_160 X_160 wi_160 h_160 x_160 y_160 rt_160 B_161
  have a_164 := Lib.hid hb0
  clear hx hb0
  refine (growPut_is (by decide) HM.out HP2.out A_163.out).mono ?_
  rintro e w165 ⟨S2, t2, rfl, h3, hx⟩
  have A_166 := Lib.hid (A_163.out.ext hx)
  have X_166 := Lib.hid (X_163.out.ext hx)
  have wi_166 := Lib.hid (wi_163.out.ext hx)
  have h_166 := Lib.hid (h_163.out.ext hx)
  have x_166 := Lib.hid (x_163.out.ext hx)
  have y_166 := Lib.hid (y_163.out.ext hx)
  have rt_166 := Lib.hid (rt_163.out.ext hx)
  have B_166 := Lib.hid (B_163.out.ext hx)
  have a_166 := Lib.hid (a_164.out.ext hx)
  clear A_163 X_163 wi_163 h_163 x_163 y_163 rt_163 B_163 a_164
  have C_167 := Lib.hid h3
  clear hx h3
  have zwi := wi_166.out.lt
  have qh0 : w165.cell? ⟨w.heap.size + 1, 0, none⟩ = some (.slice R n q) := h_166.out.at 0 _ rfl
  have qh1 : w165.cell? ⟨w.heap.size + 1, 1, none⟩ = some (.int .i64 keep) := h_166.out.at 1 _ rfl
  have zh := h_166.out.lt
  have qx0 : w165.cell? ⟨w.heap.size + 1 + 1, 0, none⟩ = some (.int .i64 xk) := x_166.out.at 0 _ rfl
  have qx1 : w165.cell? ⟨w.heap.size + 1 + 1, 1, none⟩ = some (.int .i64 xv) := x_166.out.at 1 _ rfl
  have zx := x_166.out.lt
  have qy0 : w165.cell? ⟨w.heap.size + 1 + 1 + 1, 0, none⟩ = some (.int .i64 yk) := y_166.out.at 0 _ rfl
  have qy1 : w165.cell? ⟨w.heap.size + 1 + 1 + 1, 1, none⟩ = some (.int .i64 yv) := y_166.out.at 1 _ rfl
  have zy := y_166.out.lt
  have zrt := rt_166.out.lt
  have qa0 : w165.cell? ⟨w159.heap.size, 0, none⟩ = some (.slice S1 n t1) := a_166.out.at 0 _ rfl
  have qa1 : w165.cell? ⟨w159.heap.size, 1, none⟩ = some (.int .i64 keep) := a_166.out.at 1 _ rfl
  have za := a_166.out.lt
  go_wp2_with (go_at_call 11; refine stop_here ?_)
  refine stop_on ?_
  clear zwi qh0 qh1 zh qx0 qx1 zx qy0 qy1 zy zrt qa0 qa1 za
  generalize hW : (World.alloc w165 _) = W168
  obtain ⟨hx, hb0⟩ := allocs1 hW
  clear hW
  have A_169 := Lib.hid (A_166.out.ext hx)
  have X_169 := Lib.hid (X_166.out.ext hx)
  have wi_169 := Lib.hid (wi_166.out.ext hx)
  have h_169 := Lib.hid (h_166.out.ext hx)
  have x_169 := Lib.hid (x_166.out.ext hx)
  have y_169 := Lib.hid (y_166.out.ext hx)
  have rt_169 := Lib.hid (rt_166.out.ext hx)
  have B_169 := Lib.hid (B_166.out.ext hx)
  have a_169 := Lib.hid (a_166.out.ext hx)
  have C_169 := Lib.hid (C_167.out.ext hx)
  clear A_166 X_166 wi_166 h_166 x_166 y_166 rt_166 B_166 a_166 C_167
  have b_170 := Lib.hid hb0
  clear hx hb0
  refine (growMay_is 40 M1.out B_169.out).mono ?_
  rintro e w171 ⟨rfl, hx⟩
  have A_172 := Lib.hid (A_169.out.ext hx)
  have X_172 := Lib.hid (X_169.out.ext hx)
  have wi_172 := Lib.hid (wi_169.out.ext hx)
  have h_172 := Lib.hid (h_169.out.ext hx)
  have x_172 := Lib.hid (x_169.out.ext hx)
  have y_172 := Lib.hid (y_169.out.ext hx)
  have rt_172 := Lib.hid (rt_169.out.ext hx)
  have B_172 := Lib.hid (B_169.out.ext hx)
  have a_172 := Lib.hid (a_169.out.ext hx)
  have C_172 := Lib.hid (C_169.out.ext hx)
  have b_172 := Lib.hid (b_170.out.ext hx)
  clear A_169 X_169 wi_169 h_169 x_169 y_169 rt_169 B_169 a_169 C_169 b_170
  clear hx
  have zwi := wi_172.out.lt
  have qh0 : w171.cell? ⟨w.heap.size + 1, 0, none⟩ = some (.slice R n q) := h_172.out.at 0 _ rfl
  have qh1 : w171.cell? ⟨w.heap.size + 1, 1, none⟩ = some (.int .i64 keep) := h_172.out.at 1 _ rfl
  have zh := h_172.out.lt
  have qx0 : w171.cell? ⟨w.heap.size + 1 + 1, 0, none⟩ = some (.int .i64 xk) := x_172.out.at 0 _ rfl
  have qx1 : w171.cell? ⟨w.heap.size + 1 + 1, 1, none⟩ = some (.int .i64 xv) := x_172.out.at 1 _ rfl
  have zx := x_172.out.lt
  have qy0 : w171.cell? ⟨w.heap.size + 1 + 1 + 1, 0, none⟩ = some (.int .i64 yk) := y_172.out.at 0 _ rfl
  have qy1 : w171.cell? ⟨w.heap.size + 1 + 1 + 1, 1, none⟩ = some (.int .i64 yv) := y_172.out.at 1 _ rfl
  have zy := y_172.out.lt
  have zrt := rt_172.out.lt
  have qa0 : w171.cell? ⟨w159.heap.size, 0, none⟩ = some (.slice S1 n t1) := a_172.out.at 0 _ rfl
  have qa1 : w171.cell? ⟨w159.heap.size, 1, none⟩ = some (.int .i64 keep) := a_172.out.at 1 _ rfl
  have za := a_172.out.lt
  have qb0 : w171.cell? ⟨w165.heap.size, 0, none⟩ = some (.slice S2 n t2) := b_172.out.at 0 _ rfl
  have qb1 : w171.cell? ⟨w165.heap.size, 1, none⟩ = some (.int .i64 keep) := b_172.out.at 1 _ rfl
  have zb := b_172.out.lt
  go_wp2_with (go_at_call 11; refine stop_here ?_)
  refine stop_on ?_
  clear zwi qh0 qh1 zh qx0 qx1 zx qy0 qy1 zy zrt qa0 qa1 za qb0 qb1 zb
  refine (growMay_is 40 M2.out C_172.out).mono ?_
  rintro e w173 ⟨rfl, hx⟩
  have A_174 := Lib.hid (A_172.out.ext hx)
  have X_174 := Lib.hid (X_172.out.ext hx)
  have wi_174 := Lib.hid (wi_172.out.ext hx)
  have h_174 := Lib.hid (h_172.out.ext hx)
  have x_174 := Lib.hid (x_172.out.ext hx)
  have y_174 := Lib.hid (y_172.out.ext hx)
  have rt_174 := Lib.hid (rt_172.out.ext hx)
  have B_174 := Lib.hid (B_172.out.ext hx)
  have a_174 := Lib.hid (a_172.out.ext hx)
  have C_174 := Lib.hid (C_172.out.ext hx)
  have b_174 := Lib.hid (b_172.out.ext hx)
  clear A_172 X_172 wi_172 h_172 x_172 y_172 rt_172 B_172 a_172 C_172 b_172
  clear hx
  have zwi := wi_174.out.lt
  have qh0 : w173.cell? ⟨w.heap.size + 1, 0, none⟩ = some (.slice R n q) := h_174.out.at 0 _ rfl
  have qh1 : w173.cell? ⟨w.heap.size + 1, 1, none⟩ = some (.int .i64 keep) := h_174.out.at 1 _ rfl
  have zh := h_174.out.lt
  have qx0 : w173.cell? ⟨w.heap.size + 1 + 1, 0, none⟩ = some (.int .i64 xk) := x_174.out.at 0 _ rfl
  have qx1 : w173.cell? ⟨w.heap.size + 1 + 1, 1, none⟩ = some (.int .i64 xv) := x_174.out.at 1 _ rfl
  have zx := x_174.out.lt
  have qy0 : w173.cell? ⟨w.heap.size + 1 + 1 + 1, 0, none⟩ = some (.int .i64 yk) := y_174.out.at 0 _ rfl
  have qy1 : w173.cell? ⟨w.heap.size + 1 + 1 + 1, 1, none⟩ = some (.int .i64 yv) := y_174.out.at 1 _ rfl
  have zy := y_174.out.lt
  have zrt := rt_174.out.lt
  have qa0 : w173.cell? ⟨w159.heap.size, 0, none⟩ = some (.slice S1 n t1) := a_174.out.at 0 _ rfl
  have qa1 : w173.cell? ⟨w159.heap.size, 1, none⟩ = some (.int .i64 keep) := a_174.out.at 1 _ rfl
  have za := a_174.out.lt
  have qb0 : w173.cell? ⟨w165.heap.size, 0, none⟩ = some (.slice S2 n t2) := b_174.out.at 0 _ rfl
  have qb1 : w173.cell? ⟨w165.heap.size, 1, none⟩ = some (.int .i64 keep) := b_174.out.at 1 _ rfl
  have zb := b_174.out.lt
  go_wp2_with (go_at_call 8; refine stop_here ?_)
  refine stop_on ?_
  clear zwi qh0 qh1 zh qx0 qx1 zx qy0 qy1 zy zrt qa0 qa1 za qb0 qb1 zb
  refine (growPut_is (by decide) HM1.out HP3.out B_174.out).mono ?_
  rintro e w175 ⟨S3, t3, rfl, h3, hx⟩
  have A_176 := Lib.hid (A_174.out.ext hx)
  have X_176 := Lib.hid (X_174.out.ext hx)
  have wi_176 := Lib.hid (wi_174.out.ext hx)
  have h_176 := Lib.hid (h_174.out.ext hx)
  have x_176 := Lib.hid (x_174.out.ext hx)
  have y_176 := Lib.hid (y_174.out.ext hx)
  have rt_176 := Lib.hid (rt_174.out.ext hx)
  have B_176 := Lib.hid (B_174.out.ext hx)
  have a_176 := Lib.hid (a_174.out.ext hx)
  have C_176 := Lib.hid (C_174.out.ext hx)
  have b_176 := Lib.hid (b_174.out.ext hx)
  clear A_174 X_174 wi_174 h_174 x_174 y_174 rt_174 B_174 a_174 C_174 b_174
  have D_177 := Lib.hid h3
  clear hx h3
  have zwi := wi_176.out.lt
  have qh0 : w175.cell? ⟨w.heap.size + 1, 0, none⟩ = some (.slice R n q) := h_176.out.at 0 _ rfl
  have qh1 : w175.cell? ⟨w.heap.size + 1, 1, none⟩ = some (.int .i64 keep) := h_176.out.at 1 _ rfl
  have zh := h_176.out.lt
  have qx0 : w175.cell? ⟨w.heap.size + 1 + 1, 0, none⟩ = some (.int .i64 xk) := x_176.out.at 0 _ rfl
  have qx1 : w175.cell? ⟨w.heap.size + 1 + 1, 1, none⟩ = some (.int .i64 xv) := x_176.out.at 1 _ rfl
  have zx := x_176.out.lt
  have qy0 : w175.cell? ⟨w.heap.size + 1 + 1 + 1, 0, none⟩ = some (.int .i64 yk) := y_176.out.at 0 _ rfl
  have qy1 : w175.cell? ⟨w.heap.size + 1 + 1 + 1, 1, none⟩ = some (.int .i64 yv) := y_176.out.at 1 _ rfl
  have zy := y_176.out.lt
  have zrt := rt_176.out.lt
  have qa0 : w175.cell? ⟨w159.heap.size, 0, none⟩ = some (.slice S1 n t1) := a_176.out.at 0 _ rfl
  have qa1 : w175.cell? ⟨w159.heap.size, 1, none⟩ = some (.int .i64 keep) := a_176.out.at 1 _ rfl
  have za := a_176.out.lt
  have qb0 : w175.cell? ⟨w165.heap.size, 0, none⟩ = some (.slice S2 n t2) := b_176.out.at 0 _ rfl
  have qb1 : w175.cell? ⟨w165.heap.size, 1, none⟩ = some (.int .i64 keep) := b_176.out.at 1 _ rfl
  have zb := b_176.out.lt
  go_wp2_with (go_at_call 8; refine stop_here ?_)
  refine stop_on ?_
  clear zwi qh0 qh1 zh qx0 qx1 zx qy0 qy1 zy zrt qa0 qa1 za qb0 qb1 zb
  generalize hW : (World.alloc w175 _) = W178
  obtain ⟨hx, hb0⟩ := allocs1 hW
  clear hW
  have A_179 := Lib.hid (A_176.out.ext hx)
  have X_179 := Lib.hid (X_176.out.ext hx)
  have wi_179 := Lib.hid (wi_176.out.ext hx)
  have h_179 := Lib.hid (h_176.out.ext hx)
  have x_179 := Lib.hid (x_176.out.ext hx)
  have y_179 := Lib.hid (y_176.out.ext hx)
  have rt_179 := Lib.hid (rt_176.out.ext hx)
  have B_179 := Lib.hid (B_176.out.ext hx)
  have a_179 := Lib.hid (a_176.out.ext hx)
  have C_179 := Lib.hid (C_176.out.ext hx)
  have b_179 := Lib.hid (b_176.out.ext hx)
  have D_179 := Lib.hid (D_177.out.ext hx)
  clear A_176 X_176 wi_176 h_176 x_176 y_176 rt_176 B_176 a_176 C_176 b_176 D_177
  have c_180 := Lib.hid hb0
  clear hx hb0
  refine (growPut_is (by decide) HM2.out HP4.out C_179.out).mono ?_
  rintro e w181 ⟨S4, t4, rfl, h3, hx⟩
  have A_182 := Lib.hid (A_179.out.ext hx)
  have X_182 := Lib.hid (X_179.out.ext hx)
  have wi_182 := Lib.hid (wi_179.out.ext hx)
  have h_182 := Lib.hid (h_179.out.ext hx)
  have x_182 := Lib.hid (x_179.out.ext hx)
  have y_182 := Lib.hid (y_179.out.ext hx)
  have rt_182 := Lib.hid (rt_179.out.ext hx)
  have B_182 := Lib.hid (B_179.out.ext hx)
  have a_182 := Lib.hid (a_179.out.ext hx)
  have C_182 := Lib.hid (C_179.out.ext hx)
  have b_182 := Lib.hid (b_179.out.ext hx)
  have D_182 := Lib.hid (D_179.out.ext hx)
  have c_182 := Lib.hid (c_180.out.ext hx)
  clear A_179 X_179 wi_179 h_179 x_179 y_179 rt_179 B_179 a_179 C_179 b_179 D_179 c_180
  have E_183 := Lib.hid h3
  clear hx h3
  have zwi := wi_182.out.lt
  have qh0 : w181.cell? ⟨w.heap.size + 1, 0, none⟩ = some (.slice R n q) := h_182.out.at 0 _ rfl
  have qh1 : w181.cell? ⟨w.heap.size + 1, 1, none⟩ = some (.int .i64 keep) := h_182.out.at 1 _ rfl
  have zh := h_182.out.lt
  have qx0 : w181.cell? ⟨w.heap.size + 1 + 1, 0, none⟩ = some (.int .i64 xk) := x_182.out.at 0 _ rfl
  have qx1 : w181.cell? ⟨w.heap.size + 1 + 1, 1, none⟩ = some (.int .i64 xv) := x_182.out.at 1 _ rfl
  have zx := x_182.out.lt
  have qy0 : w181.cell? ⟨w.heap.size + 1 + 1 + 1, 0, none⟩ = some (.int .i64 yk) := y_182.out.at 0 _ rfl
  have qy1 : w181.cell? ⟨w.heap.size + 1 + 1 + 1, 1, none⟩ = some (.int .i64 yv) := y_182.out.at 1 _ rfl
  have zy := y_182.out.lt
  have zrt := rt_182.out.lt
  have qa0 : w181.cell? ⟨w159.heap.size, 0, none⟩ = some (.slice S1 n t1) := a_182.out.at 0 _ rfl
  have qa1 : w181.cell? ⟨w159.heap.size, 1, none⟩ = some (.int .i64 keep) := a_182.out.at 1 _ rfl
  have za := a_182.out.lt
  have qb0 : w181.cell? ⟨w165.heap.size, 0, none⟩ = some (.slice S2 n t2) := b_182.out.at 0 _ rfl
  have qb1 : w181.cell? ⟨w165.heap.size, 1, none⟩ = some (.int .i64 keep) := b_182.out.at 1 _ rfl
  have zb := b_182.out.lt
  have qc0 : w181.cell? ⟨w175.heap.size, 0, none⟩ = some (.slice S3 n t3) := c_182.out.at 0 _ rfl
  have qc1 : w181.cell? ⟨w175.heap.size, 1, none⟩ = some (.int .i64 keep) := c_182.out.at 1 _ rfl
  have zc := c_182.out.lt
  go_wp2_with (go_at_call 11; refine stop_here ?_)
  refine stop_on ?_
  clear zwi qh0 qh1 zh qx0 qx1 zx qy0 qy1 zy zrt qa0 qa1 za qb0 qb1 zb qc0 qc1 zc
  generalize hW : (World.alloc w181 _) = W184
  obtain ⟨hx, hb0⟩ := allocs1 hW
  clear hW
  have A_185 := Lib.hid (A_182.out.ext hx)
  have X_185 := Lib.hid (X_182.out.ext hx)
  have wi_185 := Lib.hid (wi_182.out.ext hx)
  have h_185 := Lib.hid (h_182.out.ext hx)
  have x_185 := Lib.hid (x_182.out.ext hx)
  have y_185 := Lib.hid (y_182.out.ext hx)
  have rt_185 := Lib.hid (rt_182.out.ext hx)
  have B_185 := Lib.hid (B_182.out.ext hx)
  have a_185 := Lib.hid (a_182.out.ext hx)
  have C_185 := Lib.hid (C_182.out.ext hx)
  have b_185 := Lib.hid (b_182.out.ext hx)
  have D_185 := Lib.hid (D_182.out.ext hx)
  have c_185 := Lib.hid (c_182.out.ext hx)
  have E_185 := Lib.hid (E_183.out.ext hx)
  clear A_182 X_182 wi_182 h_182 x_182 y_182 rt_182 B_182 a_182 C_182 b_182 D_182 c_182 E_183
  have d_186 := Lib.hid hb0
  clear hx hb0
  refine (growMay_is 40 M3.out D_185.out).mono ?_
  rintro e w187 ⟨rfl, hx⟩
  have A_188 := Lib.hid (A_185.out.ext hx)
  have X_188 := Lib.hid (X_185.out.ext hx)
  have wi_188 := Lib.hid (wi_185.out.ext hx)
  have h_188 := Lib.hid (h_185.out.ext hx)
  have x_188 := Lib.hid (x_185.out.ext hx)
  have y_188 := Lib.hid (y_185.out.ext hx)
  have rt_188 := Lib.hid (rt_185.out.ext hx)
  have B_188 := Lib.hid (B_185.out.ext hx)
  have a_188 := Lib.hid (a_185.out.ext hx)
  have C_188 := Lib.hid (C_185.out.ext hx)
  have b_188 := Lib.hid (b_185.out.ext hx)
  have D_188 := Lib.hid (D_185.out.ext hx)
  have c_188 := Lib.hid (c_185.out.ext hx)
  have E_188 := Lib.hid (E_185.out.ext hx)
  have d_188 := Lib.hid (d_186.out.ext hx)
  clear A_185 X_185 wi_185 h_185 x_185 y_185 rt_185 B_185 a_185 C_185 b_185 D_185 c_185 E_185 d_186
  clear hx
  have zwi := wi_188.out.lt
  have qh0 : w187.cell? ⟨w.heap.size + 1, 0, none⟩ = some (.slice R n q) := h_188.out.at 0 _ rfl
  have qh1 : w187.cell? ⟨w.heap.size + 1, 1, none⟩ = some (.int .i64 keep) := h_188.out.at 1 _ rfl
  have zh := h_188.out.lt
  have qx0 : w187.cell? ⟨w.heap.size + 1 + 1, 0, none⟩ = some (.int .i64 xk) := x_188.out.at 0 _ rfl
  have qx1 : w187.cell? ⟨w.heap.size + 1 + 1, 1, none⟩ = some (.int .i64 xv) := x_188.out.at 1 _ rfl
  have zx := x_188.out.lt
  have qy0 : w187.cell? ⟨w.heap.size + 1 + 1 + 1, 0, none⟩ = some (.int .i64 yk) := y_188.out.at 0 _ rfl
  have qy1 : w187.cell? ⟨w.heap.size + 1 + 1 + 1, 1, none⟩ = some (.int .i64 yv) := y_188.out.at 1 _ rfl
  have zy := y_188.out.lt
  have zrt := rt_188.out.lt
  have qa0 : w187.cell? ⟨w159.heap.size, 0, none⟩ = some (.slice S1 n t1) := a_188.out.at 0 _ rfl
  have qa1 : w187.cell? ⟨w159.heap.size, 1, none⟩ = some (.int .i64 keep) := a_188.out.at 1 _ rfl
  have za := a_188.out.lt
  have qb0 : w187.cell? ⟨w165.heap.size, 0, none⟩ = some (.slice S2 n t2) := b_188.out.at 0 _ rfl
  have qb1 : w187.cell? ⟨w165.heap.size, 1, none⟩ = some (.int .i64 keep) := b_188.out.at 1 _ rfl
  have zb := b_188.out.lt
  have qc0 : w187.cell? ⟨w175.heap.size, 0, none⟩ = some (.slice S3 n t3) := c_188.out.at 0 _ rfl
  have qc1 : w187.cell? ⟨w175.heap.size, 1, none⟩ = some (.int .i64 keep) := c_188.out.at 1 _ rfl
  have zc := c_188.out.lt
  have qd0 : w187.cell? ⟨w181.heap.size, 0, none⟩ = some (.slice S4 n t4) := d_188.out.at 0 _ rfl
  have qd1 : w187.cell? ⟨w181.heap.size, 1, none⟩ = some (.int .i64 keep) := d_188.out.at 1 _ rfl
  have zd := d_188.out.lt
  go_wp2_with (go_at_call 11; refine stop_here ?_)
  refine stop_on ?_
  clear zwi qh0 qh1 zh qx0 qx1 zx qy0 qy1 zy zrt qa0 qa1 za qb0 qb1 zb qc0 qc1 zc qd0 qd1 zd
  refine (growMay_is 40 M4.out E_188.out).mono ?_
  rintro e w189 ⟨rfl, hx⟩
  have A_190 := Lib.hid (A_188.out.ext hx)
  have X_190 := Lib.hid (X_188.out.ext hx)
  have wi_190 := Lib.hid (wi_188.out.ext hx)
  have h_190 := Lib.hid (h_188.out.ext hx)
  have x_190 := Lib.hid (x_188.out.ext hx)
  have y_190 := Lib.hid (y_188.out.ext hx)
  have rt_190 := Lib.hid (rt_188.out.ext hx)
  have B_190 := Lib.hid (B_188.out.ext hx)
  have a_190 := Lib.hid (a_188.out.ext hx)
  have C_190 := Lib.hid (C_188.out.ext hx)
  have b_190 := Lib.hid (b_188.out.ext hx)
  have D_190 := Lib.hid (D_188.out.ext hx)
  have c_190 := Lib.hid (c_188.out.ext hx)
  have E_190 := Lib.hid (E_188.out.ext hx)
  have d_190 := Lib.hid (d_188.out.ext hx)
  clear A_188 X_188 wi_188 h_188 x_188 y_188 rt_188 B_188 a_188 C_188 b_188 D_188 c_188 E_188 d_188
  clear hx
  have zwi := wi_190.out.lt
  have qh0 : w189.cell? ⟨w.heap.size + 1, 0, none⟩ = some (.slice R n q) := h_190.out.at 0 _ rfl
  have qh1 : w189.cell? ⟨w.heap.size + 1, 1, none⟩ = some (.int .i64 keep) := h_190.out.at 1 _ rfl
  have zh := h_190.out.lt
  have qx0 : w189.cell? ⟨w.heap.size + 1 + 1, 0, none⟩ = some (.int .i64 xk) := x_190.out.at 0 _ rfl
  have qx1 : w189.cell? ⟨w.heap.size + 1 + 1, 1, none⟩ = some (.int .i64 xv) := x_190.out.at 1 _ rfl
  have zx := x_190.out.lt
  have qy0 : w189.cell? ⟨w.heap.size + 1 + 1 + 1, 0, none⟩ = some (.int .i64 yk) := y_190.out.at 0 _ rfl
  have qy1 : w189.cell? ⟨w.heap.size + 1 + 1 + 1, 1, none⟩ = some (.int .i64 yv) := y_190.out.at 1 _ rfl
  have zy := y_190.out.lt
  have zrt := rt_190.out.lt
  have qa0 : w189.cell? ⟨w159.heap.size, 0, none⟩ = some (.slice S1 n t1) := a_190.out.at 0 _ rfl
  have qa1 : w189.cell? ⟨w159.heap.size, 1, none⟩ = some (.int .i64 keep) := a_190.out.at 1 _ rfl
  have za := a_190.out.lt
  have qb0 : w189.cell? ⟨w165.heap.size, 0, none⟩ = some (.slice S2 n t2) := b_190.out.at 0 _ rfl
  have qb1 : w189.cell? ⟨w165.heap.size, 1, none⟩ = some (.int .i64 keep) := b_190.out.at 1 _ rfl
  have zb := b_190.out.lt
  have qc0 : w189.cell? ⟨w175.heap.size, 0, none⟩ = some (.slice S3 n t3) := c_190.out.at 0 _ rfl
  have qc1 : w189.cell? ⟨w175.heap.size, 1, none⟩ = some (.int .i64 keep) := c_190.out.at 1 _ rfl
  have zc := c_190.out.lt
  have qd0 : w189.cell? ⟨w181.heap.size, 0, none⟩ = some (.slice S4 n t4) := d_190.out.at 0 _ rfl
  have qd1 : w189.cell? ⟨w181.heap.size, 1, none⟩ = some (.int .i64 keep) := d_190.out.at 1 _ rfl
  have zd := d_190.out.lt
  go_wp2_with fail
  have HK191 := Lib.hid (fun w' (hx : Ext w189 w') => (show w'.cell? ⟨w175.heap.size, 0, none⟩ = some (.slice S3 n t3) ∧ w'.cell? ⟨w175.heap.size, 1, none⟩ = some (.int .i64 keep) ∧ w'.cell? ⟨w181.heap.size, 0, none⟩ = some (.slice S4 n t4) ∧ w'.cell? ⟨w181.heap.size, 1, none⟩ = some (.int .i64 keep) from ⟨(c_190.out.ext hx).at 0 _ rfl, (c_190.out.ext hx).at 1 _ rfl, (d_190.out.ext hx).at 0 _ rfl, (d_190.out.ext hx).at 1 _ rfl⟩))
  have G191_0 := Lib.hid (fun w' (hx : Ext w189 w') => growList_is A3.out B3.out D3.out HL3.out HLN.out (D_190.out.ext hx))
  have G191_1 := Lib.hid (fun w' (hx : Ext w189 w') => growList_is A4.out B4.out D4.out HL4.out HLN.out (E_190.out.ext hx))
  clear zwi qh0 qh1 zh qx0 qx1 zx qy0 qy1 zy zrt qa0 qa1 za qb0 qb1 zb qc0 qc1 zc qd0 qd1 zd
  have qc0 : w189.cell? ⟨w175.heap.size, 0, none⟩ = some (.slice S3 n t3) := c_190.out.at 0 _ rfl
  have qc1 : w189.cell? ⟨w175.heap.size, 1, none⟩ = some (.int .i64 keep) := c_190.out.at 1 _ rfl
  have zc := c_190.out.lt
  have qd0 : w189.cell? ⟨w181.heap.size, 0, none⟩ = some (.slice S4 n t4) := d_190.out.at 0 _ rfl
  have qd1 : w189.cell? ⟨w181.heap.size, 1, none⟩ = some (.int .i64 keep) := d_190.out.at 1 _ rfl
  have zd := d_190.out.lt
  go_region_held3 (fun w' => w'.cell? ⟨w175.heap.size, 0, none⟩ = some (.slice S3 n t3) ∧ w'.cell? ⟨w175.heap.size, 1, none⟩ = some (.int .i64 keep) ∧ w'.cell? ⟨w181.heap.size, 0, none⟩ = some (.slice S4 n t4) ∧ w'.cell? ⟨w181.heap.size, 1, none⟩ = some (.int .i64 keep))
    (first | exact HK191.out _ E191_2.out | exact HK191.out _ E191_1.out | exact HK191.out _ E191_0.out | exact HK191.out _ (Ext.refl w189).drew | exact HK191.out _ (Ext.refl w189))
    (first
      | ((go_at_call 12
          have hc := growItems_is S5 S6 LL ll t5 t6 HLN.out P5_191_1.out P6_191_1.out
          with_reducible refine hc.mono ?_
          clear hc
          rintro e v191_2 ⟨rfl, hx⟩
          have E191_2 := Lib.hid (E191_1.out.trans hx)
          have P5_191_2 := Lib.hid (P5_191_1.out.ext hx)
          have P6_191_2 := Lib.hid (P6_191_1.out.ext hx)
          clear hx))
      | ((go_at_call 13
          with_reducible refine (G191_1.out _ E191_0.out).mono ?_
          rintro e v191_1 ⟨S6, t6, rfl, h6, hx⟩
          have E191_1 := Lib.hid (E191_0.out.trans hx)
          have P5_191_1 := Lib.hid (P5_191_0.out.ext hx)
          have P6_191_1 := Lib.hid h6
          clear hx h6))
      | ((go_at_call 13
          with_reducible refine (G191_0.out _ ?_).mono ?_
          (first | exact Ext.refl _ | exact (Ext.refl _).drew)
          rintro e v191_0 ⟨S5, t5, rfl, h5, hx⟩
          have E191_0 := Lib.hid (show Ext w189 v191_0 from by first | exact hx | exact (Ext.refl w189).drew.trans hx)
          have P5_191_0 := Lib.hid h5
          clear hx h5)))
  clear qc0 qc1 zc qd0 qd1 zd
  go_wp2
  go_ret
  exact ⟨rfl, X_190.out.trans E191_2.out⟩
set_option maxRecDepth 100000 in
set_option maxHeartbeats 4000000 in
theorem twice_one (R : Option Addr) (l : List HC) (n q : Nat) (keep root xk xv yk yv : Int) (w : World) (hA : HcSl w R n q l) (hf : fineB ⟨l, keep⟩ root 40 = true) (c1 c2 : List HC) (r1 r2 : Int) (hp1 : putR ⟨l, keep⟩ root (xk, xv) true = (c1, r1, 0)) (hp2 : putR ⟨l, keep⟩ root (yk, yv) true = (c2, r2, 0)) (c3 c4 : List HC) (r3 r4 : Int) (hp3 : putR ⟨c1, keep⟩ r1 (yk, yv) true = (c3, r3, 0)) (hp4 : putR ⟨c2, keep⟩ r2 (xk, xv) true = (c4, r4, 0)) (h : xk = yk) :
    Calls Try.prog 4 #[.agg #[.slice R n q, .int .i64 keep, .int .i64 root, .int .i64 xk, .int .i64 xv, .int .i64 yk, .int .i64 yv]] w fun e w' => e = .returned (.bool true) ∧ Ext w w' := by
  have A_192 := Lib.hid (hA)
  have X_193 := Lib.hid (Ext.refl w)
  clear hA
  have HM := Lib.hid (mayT_of hf)
  have HF := Lib.hid hf
  have HP1 := Lib.hid hp1
  have HP2 := Lib.hid hp2
  obtain ⟨F1, l1, -⟩ := put_list (by decide) hf (by rw [hp1])
  obtain ⟨F2, l2, -⟩ := put_list (by decide) hf (by rw [hp2])
  rw [hp1] at F1 l1
  rw [hp2] at F2 l2
  simp only at F1 l1 F2 l2
  have HM1 := Lib.hid (mayT_of F1)
  have HM2 := Lib.hid (mayT_of F2)
  have M1 := Lib.hid (fine_all F1).2.2.2
  have M2 := Lib.hid (fine_all F2).2.2.2
  have HP3 := Lib.hid hp3
  have HP4 := Lib.hid hp4
  obtain ⟨F3, l3, -⟩ := put_list (by decide) F1 (by rw [hp3])
  obtain ⟨F4, l4, -⟩ := put_list (by decide) F2 (by rw [hp4])
  rw [hp3] at F3 l3
  rw [hp4] at F4 l4
  simp only at F3 l3 F4 l4
  have M3 := Lib.hid (fine_all F3).2.2.2
  have M4 := Lib.hid (fine_all F4).2.2.2
  have hasc : Asc (listT l root) := by
    obtain ⟨f1, f2, _⟩ := fine_may hf
    exact listT_rise (may_iff f1).2.2 f2
  obtain ⟨a1, b1, d1, _⟩ := fine_all F1
  have A1 := Lib.hid a1
  have B1 := Lib.hid b1
  have D1 := Lib.hid d1
  obtain ⟨a3, b3, d3, _⟩ := fine_all F3
  have A3 := Lib.hid a3
  have B3 := Lib.hid b3
  have D3 := Lib.hid d3
  obtain ⟨a4, b4, d4, _⟩ := fine_all F4
  have A4 := Lib.hid a4
  have B4 := Lib.hid b4
  have D4 := Lib.hid d4
  have hgt : getT c3 r3 yk = some yv := by rw [getT_F, l3, getF_ins, if_pos rfl]
  have hln : (listT c3 r3).length = (listT c1 r1).length := by rw [l3, l1, insL_twice hasc h]; exact insL_len_same h.symm
  have t9 : (xk != yk) = false := by simp [h]
  obtain ⟨ll, hll⟩ : ∃ k, (listT c3 r3).length = k := ⟨_, rfl⟩
  rw [hll] at hln
  have HL3 := Lib.hid hll
  have HL1 := Lib.hid hln.symm
  have HGT := Lib.hid hgt
  clear hf hp1 hp2 hp3 hp4 F1 F2 F3 F4 l1 l2 l3 l4 hasc hln hgt hll h a1 a3 a4 b1 b3 b4 d1 d3 d4
  go_enter Try.func4, Try.ntmps4
  go_wp2_with (go_at_call 6; refine stop_here ?_)
  refine stop_on ?_
  generalize hW : (World.alloc (World.alloc (World.alloc (World.alloc w _) _) _) _) = W194
  obtain ⟨hx, hb0, hb1, hb2, hb3⟩ := allocs4 hW
  clear hW
  have A_195 := Lib.hid (A_192.out.ext hx)
  have X_195 := Lib.hid (X_193.out.ext hx)
  clear A_192 X_193
  have wi_196 := Lib.hid hb0
  have h_197 := Lib.hid hb1
  have x_198 := Lib.hid hb2
  have y_199 := Lib.hid hb3
  clear hx hb0 hb1 hb2 hb3
  refine (shown_any _).mono ?_
  rintro e w200 ⟨rfl, hx⟩
  have A_201 := Lib.hid (A_195.out.ext hx)
  have X_201 := Lib.hid (X_195.out.ext hx)
  have wi_201 := Lib.hid (wi_196.out.ext hx)
  have h_201 := Lib.hid (h_197.out.ext hx)
  have x_201 := Lib.hid (x_198.out.ext hx)
  have y_201 := Lib.hid (y_199.out.ext hx)
  clear A_195 X_195 wi_196 h_197 x_198 y_199
  clear hx
  have qwi0 : w200.cell? ⟨w.heap.size, 0, none⟩ = some (.slice R n q) := wi_201.out.at 0 _ rfl
  have qwi1 : w200.cell? ⟨w.heap.size, 1, none⟩ = some (.int .i64 keep) := wi_201.out.at 1 _ rfl
  have qwi2 : w200.cell? ⟨w.heap.size, 2, none⟩ = some (.int .i64 root) := wi_201.out.at 2 _ rfl
  have qwi3 : w200.cell? ⟨w.heap.size, 3, none⟩ = some (.int .i64 xk) := wi_201.out.at 3 _ rfl
  have qwi4 : w200.cell? ⟨w.heap.size, 4, none⟩ = some (.int .i64 xv) := wi_201.out.at 4 _ rfl
  have qwi5 : w200.cell? ⟨w.heap.size, 5, none⟩ = some (.int .i64 yk) := wi_201.out.at 5 _ rfl
  have qwi6 : w200.cell? ⟨w.heap.size, 6, none⟩ = some (.int .i64 yv) := wi_201.out.at 6 _ rfl
  have zwi := wi_201.out.lt
  have qh0 : w200.cell? ⟨w.heap.size + 1, 0, none⟩ = some (.slice R n q) := h_201.out.at 0 _ rfl
  have qh1 : w200.cell? ⟨w.heap.size + 1, 1, none⟩ = some (.int .i64 keep) := h_201.out.at 1 _ rfl
  have zh := h_201.out.lt
  have qx0 : w200.cell? ⟨w.heap.size + 1 + 1, 0, none⟩ = some (.int .i64 xk) := x_201.out.at 0 _ rfl
  have qx1 : w200.cell? ⟨w.heap.size + 1 + 1, 1, none⟩ = some (.int .i64 xv) := x_201.out.at 1 _ rfl
  have zx := x_201.out.lt
  have qy0 : w200.cell? ⟨w.heap.size + 1 + 1 + 1, 0, none⟩ = some (.int .i64 yk) := y_201.out.at 0 _ rfl
  have qy1 : w200.cell? ⟨w.heap.size + 1 + 1 + 1, 1, none⟩ = some (.int .i64 yv) := y_201.out.at 1 _ rfl
  have zy := y_201.out.lt
  go_wp2_with (go_at_call 7; refine stop_here ?_)
  refine stop_on ?_
  clear qwi0 qwi1 qwi2 qwi3 qwi4 qwi5 qwi6 zwi qh0 qh1 zh qx0 qx1 zx qy0 qy1 zy
  generalize hW : (World.alloc w200 _) = W202
  obtain ⟨hx, hb0⟩ := allocs1 hW
  clear hW
  have A_203 := Lib.hid (A_201.out.ext hx)
  have X_203 := Lib.hid (X_201.out.ext hx)
  have wi_203 := Lib.hid (wi_201.out.ext hx)
  have h_203 := Lib.hid (h_201.out.ext hx)
  have x_203 := Lib.hid (x_201.out.ext hx)
  have y_203 := Lib.hid (y_201.out.ext hx)
  clear A_201 X_201 wi_201 h_201 x_201 y_201
  have rt_204 := Lib.hid hb0
  clear hx hb0
  refine (growFine_is _ 1 40 HF.out A_203.out (show Sl _ _ 1 1 ([root].map iv) from rt_204.out.slP 1 (by unfold maxLen; omega))).mono ?_
  rintro e w205 ⟨rfl, hx⟩
  have A_206 := Lib.hid (A_203.out.ext hx)
  have X_206 := Lib.hid (X_203.out.ext hx)
  have wi_206 := Lib.hid (wi_203.out.ext hx)
  have h_206 := Lib.hid (h_203.out.ext hx)
  have x_206 := Lib.hid (x_203.out.ext hx)
  have y_206 := Lib.hid (y_203.out.ext hx)
  have rt_206 := Lib.hid (rt_204.out.ext hx)
  clear A_203 X_203 wi_203 h_203 x_203 y_203 rt_204
  clear hx
  have zwi := wi_206.out.lt
  have qh0 : w205.cell? ⟨w.heap.size + 1, 0, none⟩ = some (.slice R n q) := h_206.out.at 0 _ rfl
  have qh1 : w205.cell? ⟨w.heap.size + 1, 1, none⟩ = some (.int .i64 keep) := h_206.out.at 1 _ rfl
  have zh := h_206.out.lt
  have qx0 : w205.cell? ⟨w.heap.size + 1 + 1, 0, none⟩ = some (.int .i64 xk) := x_206.out.at 0 _ rfl
  have qx1 : w205.cell? ⟨w.heap.size + 1 + 1, 1, none⟩ = some (.int .i64 xv) := x_206.out.at 1 _ rfl
  have zx := x_206.out.lt
  have qy0 : w205.cell? ⟨w.heap.size + 1 + 1 + 1, 0, none⟩ = some (.int .i64 yk) := y_206.out.at 0 _ rfl
  have qy1 : w205.cell? ⟨w.heap.size + 1 + 1 + 1, 1, none⟩ = some (.int .i64 yv) := y_206.out.at 1 _ rfl
  have zy := y_206.out.lt
  have qrt0 : w205.cell? ⟨w200.heap.size, 0, none⟩ = some (.int .i64 root) := rt_206.out.at 0 _ rfl
  have zrt := rt_206.out.lt
  go_wp2_with (go_at_call 8; refine stop_here ?_)
  refine stop_on ?_
  clear zwi qh0 qh1 zh qx0 qx1 zx qy0 qy1 zy qrt0 zrt
  refine (growPut_is (by decide) HM.out HP1.out A_206.out).mono ?_
  rintro e w207 ⟨S1, t1, rfl, h3, hx⟩
  have A_208 := Lib.hid (A_206.out.ext hx)
  have X_208 := Lib.hid (X_206.out.ext hx)
  have wi_208 := Lib.hid (wi_206.out.ext hx)
  have h_208 := Lib.hid (h_206.out.ext hx)
  have x_208 := Lib.hid (x_206.out.ext hx)
  have y_208 := Lib.hid (y_206.out.ext hx)
  have rt_208 := Lib.hid (rt_206.out.ext hx)
  clear A_206 X_206 wi_206 h_206 x_206 y_206 rt_206
  have B_209 := Lib.hid h3
  clear hx h3
  have zwi := wi_208.out.lt
  have qh0 : w207.cell? ⟨w.heap.size + 1, 0, none⟩ = some (.slice R n q) := h_208.out.at 0 _ rfl
  have qh1 : w207.cell? ⟨w.heap.size + 1, 1, none⟩ = some (.int .i64 keep) := h_208.out.at 1 _ rfl
  have zh := h_208.out.lt
  have qx0 : w207.cell? ⟨w.heap.size + 1 + 1, 0, none⟩ = some (.int .i64 xk) := x_208.out.at 0 _ rfl
  have qx1 : w207.cell? ⟨w.heap.size + 1 + 1, 1, none⟩ = some (.int .i64 xv) := x_208.out.at 1 _ rfl
  have zx := x_208.out.lt
  have qy0 : w207.cell? ⟨w.heap.size + 1 + 1 + 1, 0, none⟩ = some (.int .i64 yk) := y_208.out.at 0 _ rfl
  have qy1 : w207.cell? ⟨w.heap.size + 1 + 1 + 1, 1, none⟩ = some (.int .i64 yv) := y_208.out.at 1 _ rfl
  have zy := y_208.out.lt
  have zrt := rt_208.out.lt
  go_wp2_with (go_at_call 8; refine stop_here ?_)
  refine stop_on ?_
  clear zwi qh0 qh1 zh qx0 qx1 zx qy0 qy1 zy zrt
  generalize hW : (World.alloc w207 _) = W210
  obtain ⟨hx, hb0⟩ := allocs1 hW
  clear hW
  have A_211 := Lib.hid (A_208.out.ext hx)
  have X_211 := Lib.hid (X_208.out.ext hx)
  have wi_211 := Lib.hid (wi_208.out.ext hx)
  have h_211 := Lib.hid (h_208.out.ext hx)
  have x_211 := Lib.hid (x_208.out.ext hx)
  have y_211 := Lib.hid (y_208.out.ext hx)
  have rt_211 := Lib.hid (rt_208.out.ext hx)
  have B_211 := Lib.hid (B_209.out.ext hx)
  clear A_208 X_208 wi_208 h_208 x_208 y_208 rt_208 B_209
  have a_212 := Lib.hid hb0
  clear hx hb0
  refine (growPut_is (by decide) HM.out HP2.out A_211.out).mono ?_
  rintro e w213 ⟨S2, t2, rfl, h3, hx⟩
  have A_214 := Lib.hid (A_211.out.ext hx)
  have X_214 := Lib.hid (X_211.out.ext hx)
  have wi_214 := Lib.hid (wi_211.out.ext hx)
  have h_214 := Lib.hid (h_211.out.ext hx)
  have x_214 := Lib.hid (x_211.out.ext hx)
  have y_214 := Lib.hid (y_211.out.ext hx)
  have rt_214 := Lib.hid (rt_211.out.ext hx)
  have B_214 := Lib.hid (B_211.out.ext hx)
  have a_214 := Lib.hid (a_212.out.ext hx)
  clear A_211 X_211 wi_211 h_211 x_211 y_211 rt_211 B_211 a_212
  have C_215 := Lib.hid h3
  clear hx h3
  have zwi := wi_214.out.lt
  have qh0 : w213.cell? ⟨w.heap.size + 1, 0, none⟩ = some (.slice R n q) := h_214.out.at 0 _ rfl
  have qh1 : w213.cell? ⟨w.heap.size + 1, 1, none⟩ = some (.int .i64 keep) := h_214.out.at 1 _ rfl
  have zh := h_214.out.lt
  have qx0 : w213.cell? ⟨w.heap.size + 1 + 1, 0, none⟩ = some (.int .i64 xk) := x_214.out.at 0 _ rfl
  have qx1 : w213.cell? ⟨w.heap.size + 1 + 1, 1, none⟩ = some (.int .i64 xv) := x_214.out.at 1 _ rfl
  have zx := x_214.out.lt
  have qy0 : w213.cell? ⟨w.heap.size + 1 + 1 + 1, 0, none⟩ = some (.int .i64 yk) := y_214.out.at 0 _ rfl
  have qy1 : w213.cell? ⟨w.heap.size + 1 + 1 + 1, 1, none⟩ = some (.int .i64 yv) := y_214.out.at 1 _ rfl
  have zy := y_214.out.lt
  have zrt := rt_214.out.lt
  have qa0 : w213.cell? ⟨w207.heap.size, 0, none⟩ = some (.slice S1 n t1) := a_214.out.at 0 _ rfl
  have qa1 : w213.cell? ⟨w207.heap.size, 1, none⟩ = some (.int .i64 keep) := a_214.out.at 1 _ rfl
  have za := a_214.out.lt
  go_wp2_with (go_at_call 11; refine stop_here ?_)
  refine stop_on ?_
  clear zwi qh0 qh1 zh qx0 qx1 zx qy0 qy1 zy zrt qa0 qa1 za
  generalize hW : (World.alloc w213 _) = W216
  obtain ⟨hx, hb0⟩ := allocs1 hW
  clear hW
  have A_217 := Lib.hid (A_214.out.ext hx)
  have X_217 := Lib.hid (X_214.out.ext hx)
  have wi_217 := Lib.hid (wi_214.out.ext hx)
  have h_217 := Lib.hid (h_214.out.ext hx)
  have x_217 := Lib.hid (x_214.out.ext hx)
  have y_217 := Lib.hid (y_214.out.ext hx)
  have rt_217 := Lib.hid (rt_214.out.ext hx)
  have B_217 := Lib.hid (B_214.out.ext hx)
  have a_217 := Lib.hid (a_214.out.ext hx)
  have C_217 := Lib.hid (C_215.out.ext hx)
  clear A_214 X_214 wi_214 h_214 x_214 y_214 rt_214 B_214 a_214 C_215
  have b_218 := Lib.hid hb0
  clear hx hb0
  refine (growMay_is 40 M1.out B_217.out).mono ?_
  rintro e w219 ⟨rfl, hx⟩
  have A_220 := Lib.hid (A_217.out.ext hx)
  have X_220 := Lib.hid (X_217.out.ext hx)
  have wi_220 := Lib.hid (wi_217.out.ext hx)
  have h_220 := Lib.hid (h_217.out.ext hx)
  have x_220 := Lib.hid (x_217.out.ext hx)
  have y_220 := Lib.hid (y_217.out.ext hx)
  have rt_220 := Lib.hid (rt_217.out.ext hx)
  have B_220 := Lib.hid (B_217.out.ext hx)
  have a_220 := Lib.hid (a_217.out.ext hx)
  have C_220 := Lib.hid (C_217.out.ext hx)
  have b_220 := Lib.hid (b_218.out.ext hx)
  clear A_217 X_217 wi_217 h_217 x_217 y_217 rt_217 B_217 a_217 C_217 b_218
  clear hx
  have zwi := wi_220.out.lt
  have qh0 : w219.cell? ⟨w.heap.size + 1, 0, none⟩ = some (.slice R n q) := h_220.out.at 0 _ rfl
  have qh1 : w219.cell? ⟨w.heap.size + 1, 1, none⟩ = some (.int .i64 keep) := h_220.out.at 1 _ rfl
  have zh := h_220.out.lt
  have qx0 : w219.cell? ⟨w.heap.size + 1 + 1, 0, none⟩ = some (.int .i64 xk) := x_220.out.at 0 _ rfl
  have qx1 : w219.cell? ⟨w.heap.size + 1 + 1, 1, none⟩ = some (.int .i64 xv) := x_220.out.at 1 _ rfl
  have zx := x_220.out.lt
  have qy0 : w219.cell? ⟨w.heap.size + 1 + 1 + 1, 0, none⟩ = some (.int .i64 yk) := y_220.out.at 0 _ rfl
  have qy1 : w219.cell? ⟨w.heap.size + 1 + 1 + 1, 1, none⟩ = some (.int .i64 yv) := y_220.out.at 1 _ rfl
  have zy := y_220.out.lt
  have zrt := rt_220.out.lt
  have qa0 : w219.cell? ⟨w207.heap.size, 0, none⟩ = some (.slice S1 n t1) := a_220.out.at 0 _ rfl
  have qa1 : w219.cell? ⟨w207.heap.size, 1, none⟩ = some (.int .i64 keep) := a_220.out.at 1 _ rfl
  have za := a_220.out.lt
  have qb0 : w219.cell? ⟨w213.heap.size, 0, none⟩ = some (.slice S2 n t2) := b_220.out.at 0 _ rfl
  have qb1 : w219.cell? ⟨w213.heap.size, 1, none⟩ = some (.int .i64 keep) := b_220.out.at 1 _ rfl
  have zb := b_220.out.lt
  go_wp2_with (go_at_call 11; refine stop_here ?_)
  refine stop_on ?_
  clear zwi qh0 qh1 zh qx0 qx1 zx qy0 qy1 zy zrt qa0 qa1 za qb0 qb1 zb
  refine (growMay_is 40 M2.out C_220.out).mono ?_
  rintro e w221 ⟨rfl, hx⟩
  have A_222 := Lib.hid (A_220.out.ext hx)
  have X_222 := Lib.hid (X_220.out.ext hx)
  have wi_222 := Lib.hid (wi_220.out.ext hx)
  have h_222 := Lib.hid (h_220.out.ext hx)
  have x_222 := Lib.hid (x_220.out.ext hx)
  have y_222 := Lib.hid (y_220.out.ext hx)
  have rt_222 := Lib.hid (rt_220.out.ext hx)
  have B_222 := Lib.hid (B_220.out.ext hx)
  have a_222 := Lib.hid (a_220.out.ext hx)
  have C_222 := Lib.hid (C_220.out.ext hx)
  have b_222 := Lib.hid (b_220.out.ext hx)
  clear A_220 X_220 wi_220 h_220 x_220 y_220 rt_220 B_220 a_220 C_220 b_220
  clear hx
  have zwi := wi_222.out.lt
  have qh0 : w221.cell? ⟨w.heap.size + 1, 0, none⟩ = some (.slice R n q) := h_222.out.at 0 _ rfl
  have qh1 : w221.cell? ⟨w.heap.size + 1, 1, none⟩ = some (.int .i64 keep) := h_222.out.at 1 _ rfl
  have zh := h_222.out.lt
  have qx0 : w221.cell? ⟨w.heap.size + 1 + 1, 0, none⟩ = some (.int .i64 xk) := x_222.out.at 0 _ rfl
  have qx1 : w221.cell? ⟨w.heap.size + 1 + 1, 1, none⟩ = some (.int .i64 xv) := x_222.out.at 1 _ rfl
  have zx := x_222.out.lt
  have qy0 : w221.cell? ⟨w.heap.size + 1 + 1 + 1, 0, none⟩ = some (.int .i64 yk) := y_222.out.at 0 _ rfl
  have qy1 : w221.cell? ⟨w.heap.size + 1 + 1 + 1, 1, none⟩ = some (.int .i64 yv) := y_222.out.at 1 _ rfl
  have zy := y_222.out.lt
  have zrt := rt_222.out.lt
  have qa0 : w221.cell? ⟨w207.heap.size, 0, none⟩ = some (.slice S1 n t1) := a_222.out.at 0 _ rfl
  have qa1 : w221.cell? ⟨w207.heap.size, 1, none⟩ = some (.int .i64 keep) := a_222.out.at 1 _ rfl
  have za := a_222.out.lt
  have qb0 : w221.cell? ⟨w213.heap.size, 0, none⟩ = some (.slice S2 n t2) := b_222.out.at 0 _ rfl
  have qb1 : w221.cell? ⟨w213.heap.size, 1, none⟩ = some (.int .i64 keep) := b_222.out.at 1 _ rfl
  have zb := b_222.out.lt
  go_wp2_with (go_at_call 8; refine stop_here ?_)
  refine stop_on ?_
  clear zwi qh0 qh1 zh qx0 qx1 zx qy0 qy1 zy zrt qa0 qa1 za qb0 qb1 zb
  refine (growPut_is (by decide) HM1.out HP3.out B_222.out).mono ?_
  rintro e w223 ⟨S3, t3, rfl, h3, hx⟩
  have A_224 := Lib.hid (A_222.out.ext hx)
  have X_224 := Lib.hid (X_222.out.ext hx)
  have wi_224 := Lib.hid (wi_222.out.ext hx)
  have h_224 := Lib.hid (h_222.out.ext hx)
  have x_224 := Lib.hid (x_222.out.ext hx)
  have y_224 := Lib.hid (y_222.out.ext hx)
  have rt_224 := Lib.hid (rt_222.out.ext hx)
  have B_224 := Lib.hid (B_222.out.ext hx)
  have a_224 := Lib.hid (a_222.out.ext hx)
  have C_224 := Lib.hid (C_222.out.ext hx)
  have b_224 := Lib.hid (b_222.out.ext hx)
  clear A_222 X_222 wi_222 h_222 x_222 y_222 rt_222 B_222 a_222 C_222 b_222
  have D_225 := Lib.hid h3
  clear hx h3
  have zwi := wi_224.out.lt
  have qh0 : w223.cell? ⟨w.heap.size + 1, 0, none⟩ = some (.slice R n q) := h_224.out.at 0 _ rfl
  have qh1 : w223.cell? ⟨w.heap.size + 1, 1, none⟩ = some (.int .i64 keep) := h_224.out.at 1 _ rfl
  have zh := h_224.out.lt
  have qx0 : w223.cell? ⟨w.heap.size + 1 + 1, 0, none⟩ = some (.int .i64 xk) := x_224.out.at 0 _ rfl
  have qx1 : w223.cell? ⟨w.heap.size + 1 + 1, 1, none⟩ = some (.int .i64 xv) := x_224.out.at 1 _ rfl
  have zx := x_224.out.lt
  have qy0 : w223.cell? ⟨w.heap.size + 1 + 1 + 1, 0, none⟩ = some (.int .i64 yk) := y_224.out.at 0 _ rfl
  have qy1 : w223.cell? ⟨w.heap.size + 1 + 1 + 1, 1, none⟩ = some (.int .i64 yv) := y_224.out.at 1 _ rfl
  have zy := y_224.out.lt
  have zrt := rt_224.out.lt
  have qa0 : w223.cell? ⟨w207.heap.size, 0, none⟩ = some (.slice S1 n t1) := a_224.out.at 0 _ rfl
  have qa1 : w223.cell? ⟨w207.heap.size, 1, none⟩ = some (.int .i64 keep) := a_224.out.at 1 _ rfl
  have za := a_224.out.lt
  have qb0 : w223.cell? ⟨w213.heap.size, 0, none⟩ = some (.slice S2 n t2) := b_224.out.at 0 _ rfl
  have qb1 : w223.cell? ⟨w213.heap.size, 1, none⟩ = some (.int .i64 keep) := b_224.out.at 1 _ rfl
  have zb := b_224.out.lt
  go_wp2_with (go_at_call 8; refine stop_here ?_)
  refine stop_on ?_
  clear zwi qh0 qh1 zh qx0 qx1 zx qy0 qy1 zy zrt qa0 qa1 za qb0 qb1 zb
  generalize hW : (World.alloc w223 _) = W226
  obtain ⟨hx, hb0⟩ := allocs1 hW
  clear hW
  have A_227 := Lib.hid (A_224.out.ext hx)
  have X_227 := Lib.hid (X_224.out.ext hx)
  have wi_227 := Lib.hid (wi_224.out.ext hx)
  have h_227 := Lib.hid (h_224.out.ext hx)
  have x_227 := Lib.hid (x_224.out.ext hx)
  have y_227 := Lib.hid (y_224.out.ext hx)
  have rt_227 := Lib.hid (rt_224.out.ext hx)
  have B_227 := Lib.hid (B_224.out.ext hx)
  have a_227 := Lib.hid (a_224.out.ext hx)
  have C_227 := Lib.hid (C_224.out.ext hx)
  have b_227 := Lib.hid (b_224.out.ext hx)
  have D_227 := Lib.hid (D_225.out.ext hx)
  clear A_224 X_224 wi_224 h_224 x_224 y_224 rt_224 B_224 a_224 C_224 b_224 D_225
  have c_228 := Lib.hid hb0
  clear hx hb0
  refine (growPut_is (by decide) HM2.out HP4.out C_227.out).mono ?_
  rintro e w229 ⟨S4, t4, rfl, h3, hx⟩
  have A_230 := Lib.hid (A_227.out.ext hx)
  have X_230 := Lib.hid (X_227.out.ext hx)
  have wi_230 := Lib.hid (wi_227.out.ext hx)
  have h_230 := Lib.hid (h_227.out.ext hx)
  have x_230 := Lib.hid (x_227.out.ext hx)
  have y_230 := Lib.hid (y_227.out.ext hx)
  have rt_230 := Lib.hid (rt_227.out.ext hx)
  have B_230 := Lib.hid (B_227.out.ext hx)
  have a_230 := Lib.hid (a_227.out.ext hx)
  have C_230 := Lib.hid (C_227.out.ext hx)
  have b_230 := Lib.hid (b_227.out.ext hx)
  have D_230 := Lib.hid (D_227.out.ext hx)
  have c_230 := Lib.hid (c_228.out.ext hx)
  clear A_227 X_227 wi_227 h_227 x_227 y_227 rt_227 B_227 a_227 C_227 b_227 D_227 c_228
  have E_231 := Lib.hid h3
  clear hx h3
  have zwi := wi_230.out.lt
  have qh0 : w229.cell? ⟨w.heap.size + 1, 0, none⟩ = some (.slice R n q) := h_230.out.at 0 _ rfl
  have qh1 : w229.cell? ⟨w.heap.size + 1, 1, none⟩ = some (.int .i64 keep) := h_230.out.at 1 _ rfl
  have zh := h_230.out.lt
  have qx0 : w229.cell? ⟨w.heap.size + 1 + 1, 0, none⟩ = some (.int .i64 xk) := x_230.out.at 0 _ rfl
  have qx1 : w229.cell? ⟨w.heap.size + 1 + 1, 1, none⟩ = some (.int .i64 xv) := x_230.out.at 1 _ rfl
  have zx := x_230.out.lt
  have qy0 : w229.cell? ⟨w.heap.size + 1 + 1 + 1, 0, none⟩ = some (.int .i64 yk) := y_230.out.at 0 _ rfl
  have qy1 : w229.cell? ⟨w.heap.size + 1 + 1 + 1, 1, none⟩ = some (.int .i64 yv) := y_230.out.at 1 _ rfl
  have zy := y_230.out.lt
  have zrt := rt_230.out.lt
  have qa0 : w229.cell? ⟨w207.heap.size, 0, none⟩ = some (.slice S1 n t1) := a_230.out.at 0 _ rfl
  have qa1 : w229.cell? ⟨w207.heap.size, 1, none⟩ = some (.int .i64 keep) := a_230.out.at 1 _ rfl
  have za := a_230.out.lt
  have qb0 : w229.cell? ⟨w213.heap.size, 0, none⟩ = some (.slice S2 n t2) := b_230.out.at 0 _ rfl
  have qb1 : w229.cell? ⟨w213.heap.size, 1, none⟩ = some (.int .i64 keep) := b_230.out.at 1 _ rfl
  have zb := b_230.out.lt
  have qc0 : w229.cell? ⟨w223.heap.size, 0, none⟩ = some (.slice S3 n t3) := c_230.out.at 0 _ rfl
  have qc1 : w229.cell? ⟨w223.heap.size, 1, none⟩ = some (.int .i64 keep) := c_230.out.at 1 _ rfl
  have zc := c_230.out.lt
  go_wp2_with (go_at_call 11; refine stop_here ?_)
  refine stop_on ?_
  clear zwi qh0 qh1 zh qx0 qx1 zx qy0 qy1 zy zrt qa0 qa1 za qb0 qb1 zb qc0 qc1 zc
  generalize hW : (World.alloc w229 _) = W232
  obtain ⟨hx, hb0⟩ := allocs1 hW
  clear hW
  have A_233 := Lib.hid (A_230.out.ext hx)
  have X_233 := Lib.hid (X_230.out.ext hx)
  have wi_233 := Lib.hid (wi_230.out.ext hx)
  have h_233 := Lib.hid (h_230.out.ext hx)
  have x_233 := Lib.hid (x_230.out.ext hx)
  have y_233 := Lib.hid (y_230.out.ext hx)
  have rt_233 := Lib.hid (rt_230.out.ext hx)
  have B_233 := Lib.hid (B_230.out.ext hx)
  have a_233 := Lib.hid (a_230.out.ext hx)
  have C_233 := Lib.hid (C_230.out.ext hx)
  have b_233 := Lib.hid (b_230.out.ext hx)
  have D_233 := Lib.hid (D_230.out.ext hx)
  have c_233 := Lib.hid (c_230.out.ext hx)
  have E_233 := Lib.hid (E_231.out.ext hx)
  clear A_230 X_230 wi_230 h_230 x_230 y_230 rt_230 B_230 a_230 C_230 b_230 D_230 c_230 E_231
  have d_234 := Lib.hid hb0
  clear hx hb0
  refine (growMay_is 40 M3.out D_233.out).mono ?_
  rintro e w235 ⟨rfl, hx⟩
  have A_236 := Lib.hid (A_233.out.ext hx)
  have X_236 := Lib.hid (X_233.out.ext hx)
  have wi_236 := Lib.hid (wi_233.out.ext hx)
  have h_236 := Lib.hid (h_233.out.ext hx)
  have x_236 := Lib.hid (x_233.out.ext hx)
  have y_236 := Lib.hid (y_233.out.ext hx)
  have rt_236 := Lib.hid (rt_233.out.ext hx)
  have B_236 := Lib.hid (B_233.out.ext hx)
  have a_236 := Lib.hid (a_233.out.ext hx)
  have C_236 := Lib.hid (C_233.out.ext hx)
  have b_236 := Lib.hid (b_233.out.ext hx)
  have D_236 := Lib.hid (D_233.out.ext hx)
  have c_236 := Lib.hid (c_233.out.ext hx)
  have E_236 := Lib.hid (E_233.out.ext hx)
  have d_236 := Lib.hid (d_234.out.ext hx)
  clear A_233 X_233 wi_233 h_233 x_233 y_233 rt_233 B_233 a_233 C_233 b_233 D_233 c_233 E_233 d_234
  clear hx
  have zwi := wi_236.out.lt
  have qh0 : w235.cell? ⟨w.heap.size + 1, 0, none⟩ = some (.slice R n q) := h_236.out.at 0 _ rfl
  have qh1 : w235.cell? ⟨w.heap.size + 1, 1, none⟩ = some (.int .i64 keep) := h_236.out.at 1 _ rfl
  have zh := h_236.out.lt
  have qx0 : w235.cell? ⟨w.heap.size + 1 + 1, 0, none⟩ = some (.int .i64 xk) := x_236.out.at 0 _ rfl
  have qx1 : w235.cell? ⟨w.heap.size + 1 + 1, 1, none⟩ = some (.int .i64 xv) := x_236.out.at 1 _ rfl
  have zx := x_236.out.lt
  have qy0 : w235.cell? ⟨w.heap.size + 1 + 1 + 1, 0, none⟩ = some (.int .i64 yk) := y_236.out.at 0 _ rfl
  have qy1 : w235.cell? ⟨w.heap.size + 1 + 1 + 1, 1, none⟩ = some (.int .i64 yv) := y_236.out.at 1 _ rfl
  have zy := y_236.out.lt
  have zrt := rt_236.out.lt
  have qa0 : w235.cell? ⟨w207.heap.size, 0, none⟩ = some (.slice S1 n t1) := a_236.out.at 0 _ rfl
  have qa1 : w235.cell? ⟨w207.heap.size, 1, none⟩ = some (.int .i64 keep) := a_236.out.at 1 _ rfl
  have za := a_236.out.lt
  have qb0 : w235.cell? ⟨w213.heap.size, 0, none⟩ = some (.slice S2 n t2) := b_236.out.at 0 _ rfl
  have qb1 : w235.cell? ⟨w213.heap.size, 1, none⟩ = some (.int .i64 keep) := b_236.out.at 1 _ rfl
  have zb := b_236.out.lt
  have qc0 : w235.cell? ⟨w223.heap.size, 0, none⟩ = some (.slice S3 n t3) := c_236.out.at 0 _ rfl
  have qc1 : w235.cell? ⟨w223.heap.size, 1, none⟩ = some (.int .i64 keep) := c_236.out.at 1 _ rfl
  have zc := c_236.out.lt
  have qd0 : w235.cell? ⟨w229.heap.size, 0, none⟩ = some (.slice S4 n t4) := d_236.out.at 0 _ rfl
  have qd1 : w235.cell? ⟨w229.heap.size, 1, none⟩ = some (.int .i64 keep) := d_236.out.at 1 _ rfl
  have zd := d_236.out.lt
  go_wp2_with (go_at_call 11; refine stop_here ?_)
  refine stop_on ?_
  clear zwi qh0 qh1 zh qx0 qx1 zx qy0 qy1 zy zrt qa0 qa1 za qb0 qb1 zb qc0 qc1 zc qd0 qd1 zd
  refine (growMay_is 40 M4.out E_236.out).mono ?_
  rintro e w237 ⟨rfl, hx⟩
  have A_238 := Lib.hid (A_236.out.ext hx)
  have X_238 := Lib.hid (X_236.out.ext hx)
  have wi_238 := Lib.hid (wi_236.out.ext hx)
  have h_238 := Lib.hid (h_236.out.ext hx)
  have x_238 := Lib.hid (x_236.out.ext hx)
  have y_238 := Lib.hid (y_236.out.ext hx)
  have rt_238 := Lib.hid (rt_236.out.ext hx)
  have B_238 := Lib.hid (B_236.out.ext hx)
  have a_238 := Lib.hid (a_236.out.ext hx)
  have C_238 := Lib.hid (C_236.out.ext hx)
  have b_238 := Lib.hid (b_236.out.ext hx)
  have D_238 := Lib.hid (D_236.out.ext hx)
  have c_238 := Lib.hid (c_236.out.ext hx)
  have E_238 := Lib.hid (E_236.out.ext hx)
  have d_238 := Lib.hid (d_236.out.ext hx)
  clear A_236 X_236 wi_236 h_236 x_236 y_236 rt_236 B_236 a_236 C_236 b_236 D_236 c_236 E_236 d_236
  clear hx
  have zwi := wi_238.out.lt
  have qh0 : w237.cell? ⟨w.heap.size + 1, 0, none⟩ = some (.slice R n q) := h_238.out.at 0 _ rfl
  have qh1 : w237.cell? ⟨w.heap.size + 1, 1, none⟩ = some (.int .i64 keep) := h_238.out.at 1 _ rfl
  have zh := h_238.out.lt
  have qx0 : w237.cell? ⟨w.heap.size + 1 + 1, 0, none⟩ = some (.int .i64 xk) := x_238.out.at 0 _ rfl
  have qx1 : w237.cell? ⟨w.heap.size + 1 + 1, 1, none⟩ = some (.int .i64 xv) := x_238.out.at 1 _ rfl
  have zx := x_238.out.lt
  have qy0 : w237.cell? ⟨w.heap.size + 1 + 1 + 1, 0, none⟩ = some (.int .i64 yk) := y_238.out.at 0 _ rfl
  have qy1 : w237.cell? ⟨w.heap.size + 1 + 1 + 1, 1, none⟩ = some (.int .i64 yv) := y_238.out.at 1 _ rfl
  have zy := y_238.out.lt
  have zrt := rt_238.out.lt
  have qa0 : w237.cell? ⟨w207.heap.size, 0, none⟩ = some (.slice S1 n t1) := a_238.out.at 0 _ rfl
  have qa1 : w237.cell? ⟨w207.heap.size, 1, none⟩ = some (.int .i64 keep) := a_238.out.at 1 _ rfl
  have za := a_238.out.lt
  have qb0 : w237.cell? ⟨w213.heap.size, 0, none⟩ = some (.slice S2 n t2) := b_238.out.at 0 _ rfl
  have qb1 : w237.cell? ⟨w213.heap.size, 1, none⟩ = some (.int .i64 keep) := b_238.out.at 1 _ rfl
  have zb := b_238.out.lt
  have qc0 : w237.cell? ⟨w223.heap.size, 0, none⟩ = some (.slice S3 n t3) := c_238.out.at 0 _ rfl
  have qc1 : w237.cell? ⟨w223.heap.size, 1, none⟩ = some (.int .i64 keep) := c_238.out.at 1 _ rfl
  have zc := c_238.out.lt
  have qd0 : w237.cell? ⟨w229.heap.size, 0, none⟩ = some (.slice S4 n t4) := d_238.out.at 0 _ rfl
  have qd1 : w237.cell? ⟨w229.heap.size, 1, none⟩ = some (.int .i64 keep) := d_238.out.at 1 _ rfl
  have zd := d_238.out.lt
  go_wp2_with (go_at_call 14; refine stop_here ?_)
  refine stop_on ?_
  clear zwi qh0 qh1 zh qx0 qx1 zx qy0 qy1 zy zrt qa0 qa1 za qb0 qb1 zb qc0 qc1 zc qd0 qd1 zd
  refine (growGet_is yk A3.out B3.out D3.out HGT.out D_238.out).mono ?_
  rintro e w239 ⟨rfl, hx⟩
  have A_240 := Lib.hid (A_238.out.ext hx)
  have X_240 := Lib.hid (X_238.out.ext hx)
  have wi_240 := Lib.hid (wi_238.out.ext hx)
  have h_240 := Lib.hid (h_238.out.ext hx)
  have x_240 := Lib.hid (x_238.out.ext hx)
  have y_240 := Lib.hid (y_238.out.ext hx)
  have rt_240 := Lib.hid (rt_238.out.ext hx)
  have B_240 := Lib.hid (B_238.out.ext hx)
  have a_240 := Lib.hid (a_238.out.ext hx)
  have C_240 := Lib.hid (C_238.out.ext hx)
  have b_240 := Lib.hid (b_238.out.ext hx)
  have D_240 := Lib.hid (D_238.out.ext hx)
  have c_240 := Lib.hid (c_238.out.ext hx)
  have E_240 := Lib.hid (E_238.out.ext hx)
  have d_240 := Lib.hid (d_238.out.ext hx)
  clear A_238 X_238 wi_238 h_238 x_238 y_238 rt_238 B_238 a_238 C_238 b_238 D_238 c_238 E_238 d_238
  clear hx
  have zwi := wi_240.out.lt
  have qh0 : w239.cell? ⟨w.heap.size + 1, 0, none⟩ = some (.slice R n q) := h_240.out.at 0 _ rfl
  have qh1 : w239.cell? ⟨w.heap.size + 1, 1, none⟩ = some (.int .i64 keep) := h_240.out.at 1 _ rfl
  have zh := h_240.out.lt
  have qx0 : w239.cell? ⟨w.heap.size + 1 + 1, 0, none⟩ = some (.int .i64 xk) := x_240.out.at 0 _ rfl
  have qx1 : w239.cell? ⟨w.heap.size + 1 + 1, 1, none⟩ = some (.int .i64 xv) := x_240.out.at 1 _ rfl
  have zx := x_240.out.lt
  have qy0 : w239.cell? ⟨w.heap.size + 1 + 1 + 1, 0, none⟩ = some (.int .i64 yk) := y_240.out.at 0 _ rfl
  have qy1 : w239.cell? ⟨w.heap.size + 1 + 1 + 1, 1, none⟩ = some (.int .i64 yv) := y_240.out.at 1 _ rfl
  have zy := y_240.out.lt
  have zrt := rt_240.out.lt
  have qa0 : w239.cell? ⟨w207.heap.size, 0, none⟩ = some (.slice S1 n t1) := a_240.out.at 0 _ rfl
  have qa1 : w239.cell? ⟨w207.heap.size, 1, none⟩ = some (.int .i64 keep) := a_240.out.at 1 _ rfl
  have za := a_240.out.lt
  have qb0 : w239.cell? ⟨w213.heap.size, 0, none⟩ = some (.slice S2 n t2) := b_240.out.at 0 _ rfl
  have qb1 : w239.cell? ⟨w213.heap.size, 1, none⟩ = some (.int .i64 keep) := b_240.out.at 1 _ rfl
  have zb := b_240.out.lt
  have qc0 : w239.cell? ⟨w223.heap.size, 0, none⟩ = some (.slice S3 n t3) := c_240.out.at 0 _ rfl
  have qc1 : w239.cell? ⟨w223.heap.size, 1, none⟩ = some (.int .i64 keep) := c_240.out.at 1 _ rfl
  have zc := c_240.out.lt
  have qd0 : w239.cell? ⟨w229.heap.size, 0, none⟩ = some (.slice S4 n t4) := d_240.out.at 0 _ rfl
  have qd1 : w239.cell? ⟨w229.heap.size, 1, none⟩ = some (.int .i64 keep) := d_240.out.at 1 _ rfl
  have zd := d_240.out.lt
  go_wp2_with fail
  have HK241 := Lib.hid (fun w' (hx : Ext w239 w') => (show w'.cell? ⟨w.heap.size + 1 + 1 + 1, 0, none⟩ = some (.int .i64 yk) ∧ w'.cell? ⟨w.heap.size + 1 + 1 + 1, 1, none⟩ = some (.int .i64 yv) ∧ w'.cell? ⟨w207.heap.size, 0, none⟩ = some (.slice S1 n t1) ∧ w'.cell? ⟨w207.heap.size, 1, none⟩ = some (.int .i64 keep) ∧ w'.cell? ⟨w223.heap.size, 0, none⟩ = some (.slice S3 n t3) ∧ w'.cell? ⟨w223.heap.size, 1, none⟩ = some (.int .i64 keep) from ⟨(y_240.out.ext hx).at 0 _ rfl, (y_240.out.ext hx).at 1 _ rfl, (a_240.out.ext hx).at 0 _ rfl, (a_240.out.ext hx).at 1 _ rfl, (c_240.out.ext hx).at 0 _ rfl, (c_240.out.ext hx).at 1 _ rfl⟩))
  have G241_0 := Lib.hid (fun w' (hx : Ext w239 w') => growList_is A3.out B3.out D3.out rfl HL3.out (D_240.out.ext hx))
  have G241_1 := Lib.hid (fun w' (hx : Ext w239 w') => growList_is A1.out B1.out D1.out rfl HL1.out (B_240.out.ext hx))
  clear zwi qh0 qh1 zh qx0 qx1 zx qy0 qy1 zy zrt qa0 qa1 za qb0 qb1 zb qc0 qc1 zc qd0 qd1 zd
  have qy0 : w239.cell? ⟨w.heap.size + 1 + 1 + 1, 0, none⟩ = some (.int .i64 yk) := y_240.out.at 0 _ rfl
  have qy1 : w239.cell? ⟨w.heap.size + 1 + 1 + 1, 1, none⟩ = some (.int .i64 yv) := y_240.out.at 1 _ rfl
  have zy := y_240.out.lt
  have qa0 : w239.cell? ⟨w207.heap.size, 0, none⟩ = some (.slice S1 n t1) := a_240.out.at 0 _ rfl
  have qa1 : w239.cell? ⟨w207.heap.size, 1, none⟩ = some (.int .i64 keep) := a_240.out.at 1 _ rfl
  have za := a_240.out.lt
  have qc0 : w239.cell? ⟨w223.heap.size, 0, none⟩ = some (.slice S3 n t3) := c_240.out.at 0 _ rfl
  have qc1 : w239.cell? ⟨w223.heap.size, 1, none⟩ = some (.int .i64 keep) := c_240.out.at 1 _ rfl
  have zc := c_240.out.lt
  go_region_held3 (fun w' => w'.cell? ⟨w.heap.size + 1 + 1 + 1, 0, none⟩ = some (.int .i64 yk) ∧ w'.cell? ⟨w.heap.size + 1 + 1 + 1, 1, none⟩ = some (.int .i64 yv) ∧ w'.cell? ⟨w207.heap.size, 0, none⟩ = some (.slice S1 n t1) ∧ w'.cell? ⟨w207.heap.size, 1, none⟩ = some (.int .i64 keep) ∧ w'.cell? ⟨w223.heap.size, 0, none⟩ = some (.slice S3 n t3) ∧ w'.cell? ⟨w223.heap.size, 1, none⟩ = some (.int .i64 keep))
    (first | exact HK241.out _ E241_1.out | exact HK241.out _ E241_0.out | exact HK241.out _ (Ext.refl w239).drew | exact HK241.out _ (Ext.refl w239))
    (first
      | ((go_at_call 13
          with_reducible refine (G241_1.out _ E241_0.out).mono ?_
          rintro e v241_1 ⟨S6, t6, rfl, h6, hx⟩
          have E241_1 := Lib.hid (E241_0.out.trans hx)
          have P5_241_1 := Lib.hid (P5_241_0.out.ext hx)
          have P6_241_1 := Lib.hid h6
          clear hx h6))
      | ((go_at_call 13
          with_reducible refine (G241_0.out _ ?_).mono ?_
          (first | exact Ext.refl _ | exact (Ext.refl _).drew)
          rintro e v241_0 ⟨S5, t5, rfl, h5, hx⟩
          have E241_0 := Lib.hid (show Ext w239 v241_0 from by first | exact hx | exact (Ext.refl w239).drew.trans hx)
          have P5_241_0 := Lib.hid h5
          clear hx h5)))
  clear qy0 qy1 zy qa0 qa1 za qc0 qc1 zc
  go_wp2
  go_ret
  exact ⟨rfl, X_240.out.trans E241_1.out⟩
theorem twice_any (R : Option Addr) (l : List HC) (n q : Nat) (keep root xk xv yk yv : Int) (w : World) (hA : HcSl w R n q l) :
    Calls Try.prog 4 #[.agg #[.slice R n q, .int .i64 keep, .int .i64 root, .int .i64 xk, .int .i64 xv, .int .i64 yk, .int .i64 yv]] w fun e w' => e = .returned (.bool true) ∧ Ext w w' := by
  cases hf : fineB ⟨l, keep⟩ root 40
  · exact twice_not R l n q keep root xk xv yk yv w hA hf
  · obtain ⟨⟨c1, r1, e1⟩, hp1⟩ : ∃ pr, putR ⟨l, keep⟩ root (xk, xv) true = pr := ⟨_, rfl⟩
    obtain ⟨⟨c2, r2, e2⟩, hp2⟩ : ∃ pr, putR ⟨l, keep⟩ root (yk, yv) true = pr := ⟨_, rfl⟩
    by_cases h1 : e1 = 0
    rotate_left
    · exact twice_first R l n q keep root xk xv yk yv w hA hf c1 c2 r1 r2 e1 e2 hp1 hp2 h1
    subst h1
    by_cases h2 : e2 = 0
    rotate_left
    · exact twice_second R l n q keep root xk xv yk yv w hA hf c1 c2 r1 r2 e2 hp1 hp2 h2
    subst h2
    have hx := (put_zero (by rw [hp1])).1
    have hy := (put_zero (by rw [hp2])).1
    obtain ⟨⟨c3, r3, e3⟩, hp3⟩ : ∃ pr, putR ⟨c1, keep⟩ r1 (yk, yv) true = pr := ⟨_, rfl⟩
    obtain ⟨⟨c4, r4, e4⟩, hp4⟩ : ∃ pr, putR ⟨c2, keep⟩ r2 (xk, xv) true = pr := ⟨_, rfl⟩
    have h3 := put_when (c := c1) (keep := keep) (root := r1) (deep := true) hy
    have h4 := put_when (c := c2) (keep := keep) (root := r2) (deep := true) hx
    rw [hp3] at h3
    rw [hp4] at h4
    simp only at h3 h4
    rcases h3 with rfl | rfl
    · rcases h4 with rfl | rfl
      · by_cases h : xk = yk
        · exact twice_one R l n q keep root xk xv yk yv w hA hf c1 c2 r1 r2 hp1 hp2 c3 c4 r3 r4 hp3 hp4 h
        · exact twice_two R l n q keep root xk xv yk yv w hA hf c1 c2 r1 r2 hp1 hp2 c3 c4 r3 r4 hp3 hp4 h
      · exact twice_fourth R l n q keep root xk xv yk yv w hA hf c1 c2 r1 r2 hp1 hp2 c3 c4 r3 r4 hp3 hp4
    · exact twice_third R l n q keep root xk xv yk yv w hA hf c1 c2 r1 r2 hp1 hp2 c3 c4 r3 r4 e4 hp3 hp4
end Go.Proofs.Ytkoomcbiddanfaa

