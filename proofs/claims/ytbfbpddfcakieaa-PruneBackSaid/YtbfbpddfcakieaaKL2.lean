/- The walk of PruneBack. -/
import Derived.Test.YtbfbpddfcakieaaK39
import Derived.Deep.AppendLies
import Derived.Deep.RegionHeld3
import Derived.Deep.DeepCutAuto
import Derived.Deep.DrawnRows
import Derived.RegionTactic
namespace Go.Proofs.Ytbfbpddfcakieaa
open Go.RowKit
attribute [local go_sem ↓] Go.wp_at_zero Go.wp_at_succ

theorem out_ins {L : List It} {x : It} (h : Asc L) (hx : ¬ ∃ z ∈ L, z.1 = x.1) : outK (insL L x) x.1 = L := by
  unfold outK
  refine asc_ext ((insL_asc h x).filter _) h (fun z => ?_)
  rw [List.mem_filter, insL_mem, decide_eq_true_eq]
  constructor
  · rintro ⟨h1 | h1, h2⟩
    · subst h1; exact absurd rfl h2
    · exact h1.1
  · intro hz
    have hne : z.1 ≠ x.1 := fun e => hx ⟨z, hz, e⟩
    exact ⟨.inr ⟨hz, hne⟩, hne⟩
attribute [local go_sem] beq_self_eq_true bne_self_eq_false
set_option maxRecDepth 100000 in
set_option maxHeartbeats 4000000 in
theorem pback_not (R : Option Addr) (l : List HC) (n q : Nat) (keep root xk xv : Int) (w : World) (hA : HcSl w R n q l) (hf : fineB ⟨l, keep⟩ root 40 = false) :
    Calls Try.prog 5 #[.agg #[.slice R n q, .int .i64 keep], .int .i64 root, .agg #[.int .i64 xk, .int .i64 xv]] w fun e w' => e = .returned (.bool true) ∧ Ext w w' := by
  have A_1 := Lib.hid (hA)
  have X_2 := Lib.hid (Ext.refl w)
  clear hA
  have HF := Lib.hid hf
  clear hf
  go_enter Try.func5, Try.ntmps5
  go_wp2_with (go_at_call 6; refine stop_here ?_)
  refine stop_on ?_
  generalize hW : (World.alloc (World.alloc w _) _) = W3
  obtain ⟨hx, hb0, hb1⟩ := allocs2 hW
  clear hW
  have A_4 := Lib.hid (A_1.out.ext hx)
  have X_4 := Lib.hid (X_2.out.ext hx)
  clear A_1 X_2
  have h_5 := Lib.hid hb0
  have x_6 := Lib.hid hb1
  clear hx hb0 hb1
  refine (shown_any _).mono ?_
  rintro e w7 ⟨rfl, hx⟩
  have A_8 := Lib.hid (A_4.out.ext hx)
  have X_8 := Lib.hid (X_4.out.ext hx)
  have h_8 := Lib.hid (h_5.out.ext hx)
  have x_8 := Lib.hid (x_6.out.ext hx)
  clear A_4 X_4 h_5 x_6
  clear hx
  have qh0 : w7.cell? ⟨w.heap.size, 0, none⟩ = some (.slice R n q) := h_8.out.at 0 _ rfl
  have qh1 : w7.cell? ⟨w.heap.size, 1, none⟩ = some (.int .i64 keep) := h_8.out.at 1 _ rfl
  have zh := h_8.out.lt
  have qx0 : w7.cell? ⟨w.heap.size + 1, 0, none⟩ = some (.int .i64 xk) := x_8.out.at 0 _ rfl
  have qx1 : w7.cell? ⟨w.heap.size + 1, 1, none⟩ = some (.int .i64 xv) := x_8.out.at 1 _ rfl
  have zx := x_8.out.lt
  go_wp2_with (go_at_call 7; refine stop_here ?_)
  refine stop_on ?_
  clear qh0 qh1 zh qx0 qx1 zx
  generalize hW : (World.alloc w7 _) = W9
  obtain ⟨hx, hb0⟩ := allocs1 hW
  clear hW
  have A_10 := Lib.hid (A_8.out.ext hx)
  have X_10 := Lib.hid (X_8.out.ext hx)
  have h_10 := Lib.hid (h_8.out.ext hx)
  have x_10 := Lib.hid (x_8.out.ext hx)
  clear A_8 X_8 h_8 x_8
  have rt_11 := Lib.hid hb0
  clear hx hb0
  refine (rFine_is _ 1 40 HF.out A_10.out (show Sl _ _ 1 1 ([root].map iv) from rt_11.out.slQ 1 (by unfold maxLen; omega))).mono ?_
  rintro e w12 ⟨rfl, hx⟩
  have A_13 := Lib.hid (A_10.out.ext hx)
  have X_13 := Lib.hid (X_10.out.ext hx)
  have h_13 := Lib.hid (h_10.out.ext hx)
  have x_13 := Lib.hid (x_10.out.ext hx)
  have rt_13 := Lib.hid (rt_11.out.ext hx)
  clear A_10 X_10 h_10 x_10 rt_11
  clear hx
  have qh0 : w12.cell? ⟨w.heap.size, 0, none⟩ = some (.slice R n q) := h_13.out.at 0 _ rfl
  have qh1 : w12.cell? ⟨w.heap.size, 1, none⟩ = some (.int .i64 keep) := h_13.out.at 1 _ rfl
  have zh := h_13.out.lt
  have qx0 : w12.cell? ⟨w.heap.size + 1, 0, none⟩ = some (.int .i64 xk) := x_13.out.at 0 _ rfl
  have qx1 : w12.cell? ⟨w.heap.size + 1, 1, none⟩ = some (.int .i64 xv) := x_13.out.at 1 _ rfl
  have zx := x_13.out.lt
  have qrt0 : w12.cell? ⟨w7.heap.size, 0, none⟩ = some (.int .i64 root) := rt_13.out.at 0 _ rfl
  have zrt := rt_13.out.lt
  go_wp2
  go_ret
  exact ⟨rfl, X_13.out⟩
set_option maxRecDepth 100000 in
set_option maxHeartbeats 4000000 in
theorem pback_put (R : Option Addr) (l : List HC) (n q : Nat) (keep root xk xv : Int) (w : World) (hA : HcSl w R n q l) (hf : fineB ⟨l, keep⟩ root 40 = true) (c1 : List HC) (r1 e1 : Int) (hp1 : putR ⟨l, keep⟩ root (xk, xv) true = (c1, r1, e1)) (h : e1 ≠ 0) :
    Calls Try.prog 5 #[.agg #[.slice R n q, .int .i64 keep], .int .i64 root, .agg #[.int .i64 xk, .int .i64 xv]] w fun e w' => e = .returned (.bool true) ∧ Ext w w' := by
  have A_14 := Lib.hid (hA)
  have X_15 := Lib.hid (Ext.refl w)
  clear hA
  have HM := Lib.hid (mayT_ofP hf)
  obtain ⟨a1, a2, a3, a4⟩ := fine_allP hf
  have A1 := Lib.hid a1
  have A2 := Lib.hid a2
  have A3 := Lib.hid a3
  have HF := Lib.hid hf
  have HP1 := Lib.hid hp1
  obtain ⟨gv, hgv⟩ : ∃ x, getV (getT l root xk) = x := ⟨_, rfl⟩
  have HGV := Lib.hid hgv
  obtain ⟨ge, hge⟩ : ∃ x, getE (getT l root xk) = x := ⟨_, rfl⟩
  have HGE := Lib.hid hge
  have t0 : (e1 != 0) = true := by simp [h]
  clear hf hp1 h a1 a2 a3 a4 hgv hge
  go_enter Try.func5, Try.ntmps5
  go_wp2_with (go_at_call 6; refine stop_here ?_)
  refine stop_on ?_
  generalize hW : (World.alloc (World.alloc w _) _) = W16
  obtain ⟨hx, hb0, hb1⟩ := allocs2 hW
  clear hW
  have A_17 := Lib.hid (A_14.out.ext hx)
  have X_17 := Lib.hid (X_15.out.ext hx)
  clear A_14 X_15
  have h_18 := Lib.hid hb0
  have x_19 := Lib.hid hb1
  clear hx hb0 hb1
  refine (shown_any _).mono ?_
  rintro e w20 ⟨rfl, hx⟩
  have A_21 := Lib.hid (A_17.out.ext hx)
  have X_21 := Lib.hid (X_17.out.ext hx)
  have h_21 := Lib.hid (h_18.out.ext hx)
  have x_21 := Lib.hid (x_19.out.ext hx)
  clear A_17 X_17 h_18 x_19
  clear hx
  have qh0 : w20.cell? ⟨w.heap.size, 0, none⟩ = some (.slice R n q) := h_21.out.at 0 _ rfl
  have qh1 : w20.cell? ⟨w.heap.size, 1, none⟩ = some (.int .i64 keep) := h_21.out.at 1 _ rfl
  have zh := h_21.out.lt
  have qx0 : w20.cell? ⟨w.heap.size + 1, 0, none⟩ = some (.int .i64 xk) := x_21.out.at 0 _ rfl
  have qx1 : w20.cell? ⟨w.heap.size + 1, 1, none⟩ = some (.int .i64 xv) := x_21.out.at 1 _ rfl
  have zx := x_21.out.lt
  go_wp2_with (go_at_call 7; refine stop_here ?_)
  refine stop_on ?_
  clear qh0 qh1 zh qx0 qx1 zx
  generalize hW : (World.alloc w20 _) = W22
  obtain ⟨hx, hb0⟩ := allocs1 hW
  clear hW
  have A_23 := Lib.hid (A_21.out.ext hx)
  have X_23 := Lib.hid (X_21.out.ext hx)
  have h_23 := Lib.hid (h_21.out.ext hx)
  have x_23 := Lib.hid (x_21.out.ext hx)
  clear A_21 X_21 h_21 x_21
  have rt_24 := Lib.hid hb0
  clear hx hb0
  refine (rFine_is _ 1 40 HF.out A_23.out (show Sl _ _ 1 1 ([root].map iv) from rt_24.out.slQ 1 (by unfold maxLen; omega))).mono ?_
  rintro e w25 ⟨rfl, hx⟩
  have A_26 := Lib.hid (A_23.out.ext hx)
  have X_26 := Lib.hid (X_23.out.ext hx)
  have h_26 := Lib.hid (h_23.out.ext hx)
  have x_26 := Lib.hid (x_23.out.ext hx)
  have rt_26 := Lib.hid (rt_24.out.ext hx)
  clear A_23 X_23 h_23 x_23 rt_24
  clear hx
  have qh0 : w25.cell? ⟨w.heap.size, 0, none⟩ = some (.slice R n q) := h_26.out.at 0 _ rfl
  have qh1 : w25.cell? ⟨w.heap.size, 1, none⟩ = some (.int .i64 keep) := h_26.out.at 1 _ rfl
  have zh := h_26.out.lt
  have qx0 : w25.cell? ⟨w.heap.size + 1, 0, none⟩ = some (.int .i64 xk) := x_26.out.at 0 _ rfl
  have qx1 : w25.cell? ⟨w.heap.size + 1, 1, none⟩ = some (.int .i64 xv) := x_26.out.at 1 _ rfl
  have zx := x_26.out.lt
  have qrt0 : w25.cell? ⟨w20.heap.size, 0, none⟩ = some (.int .i64 root) := rt_26.out.at 0 _ rfl
  have zrt := rt_26.out.lt
  go_wp2_with (go_at_call 8; refine stop_here ?_)
  refine stop_on ?_
  clear qh0 qh1 zh qx0 qx1 zx qrt0 zrt
  refine (rGet_is xk A1.out A2.out A3.out HGV.out HGE.out A_26.out).mono ?_
  rintro e w27 ⟨rfl, hx⟩
  have A_28 := Lib.hid (A_26.out.ext hx)
  have X_28 := Lib.hid (X_26.out.ext hx)
  have h_28 := Lib.hid (h_26.out.ext hx)
  have x_28 := Lib.hid (x_26.out.ext hx)
  have rt_28 := Lib.hid (rt_26.out.ext hx)
  clear A_26 X_26 h_26 x_26 rt_26
  clear hx
  have qh0 : w27.cell? ⟨w.heap.size, 0, none⟩ = some (.slice R n q) := h_28.out.at 0 _ rfl
  have qh1 : w27.cell? ⟨w.heap.size, 1, none⟩ = some (.int .i64 keep) := h_28.out.at 1 _ rfl
  have zh := h_28.out.lt
  have qx0 : w27.cell? ⟨w.heap.size + 1, 0, none⟩ = some (.int .i64 xk) := x_28.out.at 0 _ rfl
  have qx1 : w27.cell? ⟨w.heap.size + 1, 1, none⟩ = some (.int .i64 xv) := x_28.out.at 1 _ rfl
  have zx := x_28.out.lt
  have zrt := rt_28.out.lt
  go_wp2_with (go_at_call 18; refine stop_here ?_)
  refine stop_on ?_
  clear qh0 qh1 zh qx0 qx1 zx zrt
  refine (rPut_is (by decide) HM.out HP1.out A_28.out).mono ?_
  rintro e w29 ⟨S1, t1, rfl, h3, hx⟩
  have A_30 := Lib.hid (A_28.out.ext hx)
  have X_30 := Lib.hid (X_28.out.ext hx)
  have h_30 := Lib.hid (h_28.out.ext hx)
  have x_30 := Lib.hid (x_28.out.ext hx)
  have rt_30 := Lib.hid (rt_28.out.ext hx)
  clear A_28 X_28 h_28 x_28 rt_28
  have B_31 := Lib.hid h3
  clear hx h3
  have qh0 : w29.cell? ⟨w.heap.size, 0, none⟩ = some (.slice R n q) := h_30.out.at 0 _ rfl
  have qh1 : w29.cell? ⟨w.heap.size, 1, none⟩ = some (.int .i64 keep) := h_30.out.at 1 _ rfl
  have zh := h_30.out.lt
  have qx0 : w29.cell? ⟨w.heap.size + 1, 0, none⟩ = some (.int .i64 xk) := x_30.out.at 0 _ rfl
  have qx1 : w29.cell? ⟨w.heap.size + 1, 1, none⟩ = some (.int .i64 xv) := x_30.out.at 1 _ rfl
  have zx := x_30.out.lt
  have zrt := rt_30.out.lt
  go_wp2
  go_ret
  exact ⟨rfl, X_30.out.alloc _⟩
set_option maxRecDepth 100000 in
set_option maxHeartbeats 4000000 in
theorem pback_there (R : Option Addr) (l : List HC) (n q : Nat) (keep root xk xv : Int) (w : World) (hA : HcSl w R n q l) (hf : fineB ⟨l, keep⟩ root 40 = true) (c1 : List HC) (r1 : Int) (hp1 : putR ⟨l, keep⟩ root (xk, xv) true = (c1, r1, 0)) (hg : getE (getT l root xk) = 0) :
    Calls Try.prog 5 #[.agg #[.slice R n q, .int .i64 keep], .int .i64 root, .agg #[.int .i64 xk, .int .i64 xv]] w fun e w' => e = .returned (.bool true) ∧ Ext w w' := by
  have A_32 := Lib.hid (hA)
  have X_33 := Lib.hid (Ext.refl w)
  clear hA
  have HM := Lib.hid (mayT_ofP hf)
  obtain ⟨a1, a2, a3, a4⟩ := fine_allP hf
  have A1 := Lib.hid a1
  have A2 := Lib.hid a2
  have A3 := Lib.hid a3
  have HF := Lib.hid hf
  have HP1 := Lib.hid hp1
  obtain ⟨gv, hgv⟩ : ∃ x, getV (getT l root xk) = x := ⟨_, rfl⟩
  have HGV := Lib.hid hgv
  obtain ⟨ge, hge⟩ : ∃ x, getE (getT l root xk) = x := ⟨_, rfl⟩
  have HGE := Lib.hid hge
  obtain rfl : ge = 0 := by rw [← hge, hg]
  clear hf hp1 hg a1 a2 a3 a4 hgv hge
  go_enter Try.func5, Try.ntmps5
  go_wp2_with (go_at_call 6; refine stop_here ?_)
  refine stop_on ?_
  generalize hW : (World.alloc (World.alloc w _) _) = W34
  obtain ⟨hx, hb0, hb1⟩ := allocs2 hW
  clear hW
  have A_35 := Lib.hid (A_32.out.ext hx)
  have X_35 := Lib.hid (X_33.out.ext hx)
  clear A_32 X_33
  have h_36 := Lib.hid hb0
  have x_37 := Lib.hid hb1
  clear hx hb0 hb1
  refine (shown_any _).mono ?_
  rintro e w38 ⟨rfl, hx⟩
  have A_39 := Lib.hid (A_35.out.ext hx)
  have X_39 := Lib.hid (X_35.out.ext hx)
  have h_39 := Lib.hid (h_36.out.ext hx)
  have x_39 := Lib.hid (x_37.out.ext hx)
  clear A_35 X_35 h_36 x_37
  clear hx
  have qh0 : w38.cell? ⟨w.heap.size, 0, none⟩ = some (.slice R n q) := h_39.out.at 0 _ rfl
  have qh1 : w38.cell? ⟨w.heap.size, 1, none⟩ = some (.int .i64 keep) := h_39.out.at 1 _ rfl
  have zh := h_39.out.lt
  have qx0 : w38.cell? ⟨w.heap.size + 1, 0, none⟩ = some (.int .i64 xk) := x_39.out.at 0 _ rfl
  have qx1 : w38.cell? ⟨w.heap.size + 1, 1, none⟩ = some (.int .i64 xv) := x_39.out.at 1 _ rfl
  have zx := x_39.out.lt
  go_wp2_with (go_at_call 7; refine stop_here ?_)
  refine stop_on ?_
  clear qh0 qh1 zh qx0 qx1 zx
  generalize hW : (World.alloc w38 _) = W40
  obtain ⟨hx, hb0⟩ := allocs1 hW
  clear hW
  have A_41 := Lib.hid (A_39.out.ext hx)
  have X_41 := Lib.hid (X_39.out.ext hx)
  have h_41 := Lib.hid (h_39.out.ext hx)
  have x_41 := Lib.hid (x_39.out.ext hx)
  clear A_39 X_39 h_39 x_39
  have rt_42 := Lib.hid hb0
  clear hx hb0
  refine (rFine_is _ 1 40 HF.out A_41.out (show Sl _ _ 1 1 ([root].map iv) from rt_42.out.slQ 1 (by unfold maxLen; omega))).mono ?_
  rintro e w43 ⟨rfl, hx⟩
  have A_44 := Lib.hid (A_41.out.ext hx)
  have X_44 := Lib.hid (X_41.out.ext hx)
  have h_44 := Lib.hid (h_41.out.ext hx)
  have x_44 := Lib.hid (x_41.out.ext hx)
  have rt_44 := Lib.hid (rt_42.out.ext hx)
  clear A_41 X_41 h_41 x_41 rt_42
  clear hx
  have qh0 : w43.cell? ⟨w.heap.size, 0, none⟩ = some (.slice R n q) := h_44.out.at 0 _ rfl
  have qh1 : w43.cell? ⟨w.heap.size, 1, none⟩ = some (.int .i64 keep) := h_44.out.at 1 _ rfl
  have zh := h_44.out.lt
  have qx0 : w43.cell? ⟨w.heap.size + 1, 0, none⟩ = some (.int .i64 xk) := x_44.out.at 0 _ rfl
  have qx1 : w43.cell? ⟨w.heap.size + 1, 1, none⟩ = some (.int .i64 xv) := x_44.out.at 1 _ rfl
  have zx := x_44.out.lt
  have qrt0 : w43.cell? ⟨w38.heap.size, 0, none⟩ = some (.int .i64 root) := rt_44.out.at 0 _ rfl
  have zrt := rt_44.out.lt
  go_wp2_with (go_at_call 8; refine stop_here ?_)
  refine stop_on ?_
  clear qh0 qh1 zh qx0 qx1 zx qrt0 zrt
  refine (rGet_is xk A1.out A2.out A3.out HGV.out HGE.out A_44.out).mono ?_
  rintro e w45 ⟨rfl, hx⟩
  have A_46 := Lib.hid (A_44.out.ext hx)
  have X_46 := Lib.hid (X_44.out.ext hx)
  have h_46 := Lib.hid (h_44.out.ext hx)
  have x_46 := Lib.hid (x_44.out.ext hx)
  have rt_46 := Lib.hid (rt_44.out.ext hx)
  clear A_44 X_44 h_44 x_44 rt_44
  clear hx
  have qh0 : w45.cell? ⟨w.heap.size, 0, none⟩ = some (.slice R n q) := h_46.out.at 0 _ rfl
  have qh1 : w45.cell? ⟨w.heap.size, 1, none⟩ = some (.int .i64 keep) := h_46.out.at 1 _ rfl
  have zh := h_46.out.lt
  have qx0 : w45.cell? ⟨w.heap.size + 1, 0, none⟩ = some (.int .i64 xk) := x_46.out.at 0 _ rfl
  have qx1 : w45.cell? ⟨w.heap.size + 1, 1, none⟩ = some (.int .i64 xv) := x_46.out.at 1 _ rfl
  have zx := x_46.out.lt
  have zrt := rt_46.out.lt
  go_wp2_with (go_at_call 18; refine stop_here ?_)
  refine stop_on ?_
  clear qh0 qh1 zh qx0 qx1 zx zrt
  refine (rPut_is (by decide) HM.out HP1.out A_46.out).mono ?_
  rintro e w47 ⟨S1, t1, rfl, h3, hx⟩
  have A_48 := Lib.hid (A_46.out.ext hx)
  have X_48 := Lib.hid (X_46.out.ext hx)
  have h_48 := Lib.hid (h_46.out.ext hx)
  have x_48 := Lib.hid (x_46.out.ext hx)
  have rt_48 := Lib.hid (rt_46.out.ext hx)
  clear A_46 X_46 h_46 x_46 rt_46
  have B_49 := Lib.hid h3
  clear hx h3
  have qh0 : w47.cell? ⟨w.heap.size, 0, none⟩ = some (.slice R n q) := h_48.out.at 0 _ rfl
  have qh1 : w47.cell? ⟨w.heap.size, 1, none⟩ = some (.int .i64 keep) := h_48.out.at 1 _ rfl
  have zh := h_48.out.lt
  have qx0 : w47.cell? ⟨w.heap.size + 1, 0, none⟩ = some (.int .i64 xk) := x_48.out.at 0 _ rfl
  have qx1 : w47.cell? ⟨w.heap.size + 1, 1, none⟩ = some (.int .i64 xv) := x_48.out.at 1 _ rfl
  have zx := x_48.out.lt
  have zrt := rt_48.out.lt
  go_wp2
  go_ret
  exact ⟨rfl, X_48.out.alloc _⟩
set_option maxRecDepth 100000 in
set_option maxHeartbeats 4000000 in
theorem pback_full (R : Option Addr) (l : List HC) (n q : Nat) (keep root xk xv : Int) (w : World) (hA : HcSl w R n q l) (hf : fineB ⟨l, keep⟩ root 40 = true) (c1 : List HC) (r1 : Int) (hp1 : putR ⟨l, keep⟩ root (xk, xv) true = (c1, r1, 0)) (hg : getE (getT l root xk) = 4) (hm1 : mayT ⟨c1, keep⟩ r1 40 = true) (c2 : List HC) (r2 : Int) (hp2 : delR ⟨c1, keep⟩ r1 xk = (c2, r2, 3)) :
    Calls Try.prog 5 #[.agg #[.slice R n q, .int .i64 keep], .int .i64 root, .agg #[.int .i64 xk, .int .i64 xv]] w fun e w' => e = .returned (.bool true) ∧ Ext w w' := by
  have A_50 := Lib.hid (hA)
  have X_51 := Lib.hid (Ext.refl w)
  clear hA
  have HM := Lib.hid (mayT_ofP hf)
  obtain ⟨a1, a2, a3, a4⟩ := fine_allP hf
  have A1 := Lib.hid a1
  have A2 := Lib.hid a2
  have A3 := Lib.hid a3
  have HF := Lib.hid hf
  have HP1 := Lib.hid hp1
  obtain ⟨gv, hgv⟩ : ∃ x, getV (getT l root xk) = x := ⟨_, rfl⟩
  have HGV := Lib.hid hgv
  obtain ⟨ge, hge⟩ : ∃ x, getE (getT l root xk) = x := ⟨_, rfl⟩
  have HGE := Lib.hid hge
  obtain rfl : ge = 4 := by rw [← hge, hg]
  have HM1 := Lib.hid hm1
  have HP2 := Lib.hid hp2
  clear hf hp1 hp2 hm1 hg a1 a2 a3 a4 hgv hge
  go_enter Try.func5, Try.ntmps5
  go_wp2_with (go_at_call 6; refine stop_here ?_)
  refine stop_on ?_
  generalize hW : (World.alloc (World.alloc w _) _) = W52
  obtain ⟨hx, hb0, hb1⟩ := allocs2 hW
  clear hW
  have A_53 := Lib.hid (A_50.out.ext hx)
  have X_53 := Lib.hid (X_51.out.ext hx)
  clear A_50 X_51
  have h_54 := Lib.hid hb0
  have x_55 := Lib.hid hb1
  clear hx hb0 hb1
  refine (shown_any _).mono ?_
  rintro e w56 ⟨rfl, hx⟩
  have A_57 := Lib.hid (A_53.out.ext hx)
  have X_57 := Lib.hid (X_53.out.ext hx)
  have h_57 := Lib.hid (h_54.out.ext hx)
  have x_57 := Lib.hid (x_55.out.ext hx)
  clear A_53 X_53 h_54 x_55
  clear hx
  have qh0 : w56.cell? ⟨w.heap.size, 0, none⟩ = some (.slice R n q) := h_57.out.at 0 _ rfl
  have qh1 : w56.cell? ⟨w.heap.size, 1, none⟩ = some (.int .i64 keep) := h_57.out.at 1 _ rfl
  have zh := h_57.out.lt
  have qx0 : w56.cell? ⟨w.heap.size + 1, 0, none⟩ = some (.int .i64 xk) := x_57.out.at 0 _ rfl
  have qx1 : w56.cell? ⟨w.heap.size + 1, 1, none⟩ = some (.int .i64 xv) := x_57.out.at 1 _ rfl
  have zx := x_57.out.lt
  go_wp2_with (go_at_call 7; refine stop_here ?_)
  refine stop_on ?_
  clear qh0 qh1 zh qx0 qx1 zx
  generalize hW : (World.alloc w56 _) = W58
  obtain ⟨hx, hb0⟩ := allocs1 hW
  clear hW
  have A_59 := Lib.hid (A_57.out.ext hx)
  have X_59 := Lib.hid (X_57.out.ext hx)
  have h_59 := Lib.hid (h_57.out.ext hx)
  have x_59 := Lib.hid (x_57.out.ext hx)
  clear A_57 X_57 h_57 x_57
  have rt_60 := Lib.hid hb0
  clear hx hb0
  refine (rFine_is _ 1 40 HF.out A_59.out (show Sl _ _ 1 1 ([root].map iv) from rt_60.out.slQ 1 (by unfold maxLen; omega))).mono ?_
  rintro e w61 ⟨rfl, hx⟩
  have A_62 := Lib.hid (A_59.out.ext hx)
  have X_62 := Lib.hid (X_59.out.ext hx)
  have h_62 := Lib.hid (h_59.out.ext hx)
  have x_62 := Lib.hid (x_59.out.ext hx)
  have rt_62 := Lib.hid (rt_60.out.ext hx)
  clear A_59 X_59 h_59 x_59 rt_60
  clear hx
  have qh0 : w61.cell? ⟨w.heap.size, 0, none⟩ = some (.slice R n q) := h_62.out.at 0 _ rfl
  have qh1 : w61.cell? ⟨w.heap.size, 1, none⟩ = some (.int .i64 keep) := h_62.out.at 1 _ rfl
  have zh := h_62.out.lt
  have qx0 : w61.cell? ⟨w.heap.size + 1, 0, none⟩ = some (.int .i64 xk) := x_62.out.at 0 _ rfl
  have qx1 : w61.cell? ⟨w.heap.size + 1, 1, none⟩ = some (.int .i64 xv) := x_62.out.at 1 _ rfl
  have zx := x_62.out.lt
  have qrt0 : w61.cell? ⟨w56.heap.size, 0, none⟩ = some (.int .i64 root) := rt_62.out.at 0 _ rfl
  have zrt := rt_62.out.lt
  go_wp2_with (go_at_call 8; refine stop_here ?_)
  refine stop_on ?_
  clear qh0 qh1 zh qx0 qx1 zx qrt0 zrt
  refine (rGet_is xk A1.out A2.out A3.out HGV.out HGE.out A_62.out).mono ?_
  rintro e w63 ⟨rfl, hx⟩
  have A_64 := Lib.hid (A_62.out.ext hx)
  have X_64 := Lib.hid (X_62.out.ext hx)
  have h_64 := Lib.hid (h_62.out.ext hx)
  have x_64 := Lib.hid (x_62.out.ext hx)
  have rt_64 := Lib.hid (rt_62.out.ext hx)
  clear A_62 X_62 h_62 x_62 rt_62
  clear hx
  have qh0 : w63.cell? ⟨w.heap.size, 0, none⟩ = some (.slice R n q) := h_64.out.at 0 _ rfl
  have qh1 : w63.cell? ⟨w.heap.size, 1, none⟩ = some (.int .i64 keep) := h_64.out.at 1 _ rfl
  have zh := h_64.out.lt
  have qx0 : w63.cell? ⟨w.heap.size + 1, 0, none⟩ = some (.int .i64 xk) := x_64.out.at 0 _ rfl
  have qx1 : w63.cell? ⟨w.heap.size + 1, 1, none⟩ = some (.int .i64 xv) := x_64.out.at 1 _ rfl
  have zx := x_64.out.lt
  have zrt := rt_64.out.lt
  go_wp2_with (go_at_call 18; refine stop_here ?_)
  refine stop_on ?_
  clear qh0 qh1 zh qx0 qx1 zx zrt
  refine (rPut_is (by decide) HM.out HP1.out A_64.out).mono ?_
  rintro e w65 ⟨S1, t1, rfl, h3, hx⟩
  have A_66 := Lib.hid (A_64.out.ext hx)
  have X_66 := Lib.hid (X_64.out.ext hx)
  have h_66 := Lib.hid (h_64.out.ext hx)
  have x_66 := Lib.hid (x_64.out.ext hx)
  have rt_66 := Lib.hid (rt_64.out.ext hx)
  clear A_64 X_64 h_64 x_64 rt_64
  have B_67 := Lib.hid h3
  clear hx h3
  have qh0 : w65.cell? ⟨w.heap.size, 0, none⟩ = some (.slice R n q) := h_66.out.at 0 _ rfl
  have qh1 : w65.cell? ⟨w.heap.size, 1, none⟩ = some (.int .i64 keep) := h_66.out.at 1 _ rfl
  have zh := h_66.out.lt
  have qx0 : w65.cell? ⟨w.heap.size + 1, 0, none⟩ = some (.int .i64 xk) := x_66.out.at 0 _ rfl
  have qx1 : w65.cell? ⟨w.heap.size + 1, 1, none⟩ = some (.int .i64 xv) := x_66.out.at 1 _ rfl
  have zx := x_66.out.lt
  have zrt := rt_66.out.lt
  go_wp2_with (go_at_call 9; refine stop_here ?_)
  refine stop_on ?_
  clear qh0 qh1 zh qx0 qx1 zx zrt
  generalize hW : (World.alloc w65 _) = W68
  obtain ⟨hx, hb0⟩ := allocs1 hW
  clear hW
  have A_69 := Lib.hid (A_66.out.ext hx)
  have X_69 := Lib.hid (X_66.out.ext hx)
  have h_69 := Lib.hid (h_66.out.ext hx)
  have x_69 := Lib.hid (x_66.out.ext hx)
  have rt_69 := Lib.hid (rt_66.out.ext hx)
  have B_69 := Lib.hid (B_67.out.ext hx)
  clear A_66 X_66 h_66 x_66 rt_66 B_67
  have a_70 := Lib.hid hb0
  clear hx hb0
  refine (pDel_is (by decide) HM1.out HP2.out B_69.out).mono ?_
  rintro e w71 ⟨S2, t2, rfl, h3, hx⟩
  have A_72 := Lib.hid (A_69.out.ext hx)
  have X_72 := Lib.hid (X_69.out.ext hx)
  have h_72 := Lib.hid (h_69.out.ext hx)
  have x_72 := Lib.hid (x_69.out.ext hx)
  have rt_72 := Lib.hid (rt_69.out.ext hx)
  have B_72 := Lib.hid (B_69.out.ext hx)
  have a_72 := Lib.hid (a_70.out.ext hx)
  clear A_69 X_69 h_69 x_69 rt_69 B_69 a_70
  have C_73 := Lib.hid h3
  clear hx h3
  have qh0 : w71.cell? ⟨w.heap.size, 0, none⟩ = some (.slice R n q) := h_72.out.at 0 _ rfl
  have qh1 : w71.cell? ⟨w.heap.size, 1, none⟩ = some (.int .i64 keep) := h_72.out.at 1 _ rfl
  have zh := h_72.out.lt
  have qx0 : w71.cell? ⟨w.heap.size + 1, 0, none⟩ = some (.int .i64 xk) := x_72.out.at 0 _ rfl
  have qx1 : w71.cell? ⟨w.heap.size + 1, 1, none⟩ = some (.int .i64 xv) := x_72.out.at 1 _ rfl
  have zx := x_72.out.lt
  have zrt := rt_72.out.lt
  have qa0 : w71.cell? ⟨w65.heap.size, 0, none⟩ = some (.slice S1 n t1) := a_72.out.at 0 _ rfl
  have qa1 : w71.cell? ⟨w65.heap.size, 1, none⟩ = some (.int .i64 keep) := a_72.out.at 1 _ rfl
  have za := a_72.out.lt
  go_wp2
  go_ret
  exact ⟨rfl, X_72.out.alloc _⟩
set_option maxRecDepth 100000 in
set_option maxHeartbeats 4000000 in
theorem pback_out (R : Option Addr) (l : List HC) (n q : Nat) (keep root xk xv : Int) (w : World) (hA : HcSl w R n q l) (hf : fineB ⟨l, keep⟩ root 40 = true) (c1 : List HC) (r1 : Int) (hp1 : putR ⟨l, keep⟩ root (xk, xv) true = (c1, r1, 0)) (hg : getE (getT l root xk) = 4) (hm1 : mayT ⟨c1, keep⟩ r1 40 = true) (c2 : List HC) (r2 : Int) (hp2 : delR ⟨c1, keep⟩ r1 xk = (c2, r2, 0)) (hf2 : fineB ⟨c2, keep⟩ r2 40 = true) (hl : listT c2 r2 = listT l root) :
    Calls Try.prog 5 #[.agg #[.slice R n q, .int .i64 keep], .int .i64 root, .agg #[.int .i64 xk, .int .i64 xv]] w fun e w' => e = .returned (.bool true) ∧ Ext w w' := by
  have A_74 := Lib.hid (hA)
  have X_75 := Lib.hid (Ext.refl w)
  clear hA
  have HM := Lib.hid (mayT_ofP hf)
  obtain ⟨a1, a2, a3, a4⟩ := fine_allP hf
  have A1 := Lib.hid a1
  have A2 := Lib.hid a2
  have A3 := Lib.hid a3
  have HF := Lib.hid hf
  have HP1 := Lib.hid hp1
  obtain ⟨gv, hgv⟩ : ∃ x, getV (getT l root xk) = x := ⟨_, rfl⟩
  have HGV := Lib.hid hgv
  obtain ⟨ge, hge⟩ : ∃ x, getE (getT l root xk) = x := ⟨_, rfl⟩
  have HGE := Lib.hid hge
  obtain rfl : ge = 4 := by rw [← hge, hg]
  have HM1 := Lib.hid hm1
  have HP2 := Lib.hid hp2
  obtain ⟨b1, b2, b3, b4⟩ := fine_allP hf2
  have B1 := Lib.hid b1
  have B2 := Lib.hid b2
  have B3 := Lib.hid b3
  have HF2 := Lib.hid hf2
  obtain ⟨LL, hLL⟩ : ∃ L, listT l root = L := ⟨_, rfl⟩
  rw [hLL] at hl
  obtain ⟨ll, hll⟩ : ∃ k, LL.length = k := ⟨_, rfl⟩
  have HL1 := Lib.hid hLL
  have HL2 := Lib.hid hl
  have HLN := Lib.hid hll
  clear hf hp1 hp2 hm1 hg a1 a2 a3 a4 hgv hge hf2 hl b1 b2 b3 b4 hLL hll
  go_enter Try.func5, Try.ntmps5
  go_wp2_with (go_at_call 6; refine stop_here ?_)
  refine stop_on ?_
  generalize hW : (World.alloc (World.alloc w _) _) = W76
  obtain ⟨hx, hb0, hb1⟩ := allocs2 hW
  clear hW
  have A_77 := Lib.hid (A_74.out.ext hx)
  have X_77 := Lib.hid (X_75.out.ext hx)
  clear A_74 X_75
  have h_78 := Lib.hid hb0
  have x_79 := Lib.hid hb1
  clear hx hb0 hb1
  refine (shown_any _).mono ?_
  rintro e w80 ⟨rfl, hx⟩
  have A_81 := Lib.hid (A_77.out.ext hx)
  have X_81 := Lib.hid (X_77.out.ext hx)
  have h_81 := Lib.hid (h_78.out.ext hx)
  have x_81 := Lib.hid (x_79.out.ext hx)
  clear A_77 X_77 h_78 x_79
  clear hx
  have qh0 : w80.cell? ⟨w.heap.size, 0, none⟩ = some (.slice R n q) := h_81.out.at 0 _ rfl
  have qh1 : w80.cell? ⟨w.heap.size, 1, none⟩ = some (.int .i64 keep) := h_81.out.at 1 _ rfl
  have zh := h_81.out.lt
  have qx0 : w80.cell? ⟨w.heap.size + 1, 0, none⟩ = some (.int .i64 xk) := x_81.out.at 0 _ rfl
  have qx1 : w80.cell? ⟨w.heap.size + 1, 1, none⟩ = some (.int .i64 xv) := x_81.out.at 1 _ rfl
  have zx := x_81.out.lt
  go_wp2_with (go_at_call 7; refine stop_here ?_)
  refine stop_on ?_
  clear qh0 qh1 zh qx0 qx1 zx
  generalize hW : (World.alloc w80 _) = W82
  obtain ⟨hx, hb0⟩ := allocs1 hW
  clear hW
  have A_83 := Lib.hid (A_81.out.ext hx)
  have X_83 := Lib.hid (X_81.out.ext hx)
  have h_83 := Lib.hid (h_81.out.ext hx)
  have x_83 := Lib.hid (x_81.out.ext hx)
  clear A_81 X_81 h_81 x_81
  have rt_84 := Lib.hid hb0
  clear hx hb0
  refine (rFine_is _ 1 40 HF.out A_83.out (show Sl _ _ 1 1 ([root].map iv) from rt_84.out.slQ 1 (by unfold maxLen; omega))).mono ?_
  rintro e w85 ⟨rfl, hx⟩
  have A_86 := Lib.hid (A_83.out.ext hx)
  have X_86 := Lib.hid (X_83.out.ext hx)
  have h_86 := Lib.hid (h_83.out.ext hx)
  have x_86 := Lib.hid (x_83.out.ext hx)
  have rt_86 := Lib.hid (rt_84.out.ext hx)
  clear A_83 X_83 h_83 x_83 rt_84
  clear hx
  have qh0 : w85.cell? ⟨w.heap.size, 0, none⟩ = some (.slice R n q) := h_86.out.at 0 _ rfl
  have qh1 : w85.cell? ⟨w.heap.size, 1, none⟩ = some (.int .i64 keep) := h_86.out.at 1 _ rfl
  have zh := h_86.out.lt
  have qx0 : w85.cell? ⟨w.heap.size + 1, 0, none⟩ = some (.int .i64 xk) := x_86.out.at 0 _ rfl
  have qx1 : w85.cell? ⟨w.heap.size + 1, 1, none⟩ = some (.int .i64 xv) := x_86.out.at 1 _ rfl
  have zx := x_86.out.lt
  have qrt0 : w85.cell? ⟨w80.heap.size, 0, none⟩ = some (.int .i64 root) := rt_86.out.at 0 _ rfl
  have zrt := rt_86.out.lt
  go_wp2_with (go_at_call 8; refine stop_here ?_)
  refine stop_on ?_
  clear qh0 qh1 zh qx0 qx1 zx qrt0 zrt
  refine (rGet_is xk A1.out A2.out A3.out HGV.out HGE.out A_86.out).mono ?_
  rintro e w87 ⟨rfl, hx⟩
  have A_88 := Lib.hid (A_86.out.ext hx)
  have X_88 := Lib.hid (X_86.out.ext hx)
  have h_88 := Lib.hid (h_86.out.ext hx)
  have x_88 := Lib.hid (x_86.out.ext hx)
  have rt_88 := Lib.hid (rt_86.out.ext hx)
  clear A_86 X_86 h_86 x_86 rt_86
  clear hx
  have qh0 : w87.cell? ⟨w.heap.size, 0, none⟩ = some (.slice R n q) := h_88.out.at 0 _ rfl
  have qh1 : w87.cell? ⟨w.heap.size, 1, none⟩ = some (.int .i64 keep) := h_88.out.at 1 _ rfl
  have zh := h_88.out.lt
  have qx0 : w87.cell? ⟨w.heap.size + 1, 0, none⟩ = some (.int .i64 xk) := x_88.out.at 0 _ rfl
  have qx1 : w87.cell? ⟨w.heap.size + 1, 1, none⟩ = some (.int .i64 xv) := x_88.out.at 1 _ rfl
  have zx := x_88.out.lt
  have zrt := rt_88.out.lt
  go_wp2_with (go_at_call 18; refine stop_here ?_)
  refine stop_on ?_
  clear qh0 qh1 zh qx0 qx1 zx zrt
  refine (rPut_is (by decide) HM.out HP1.out A_88.out).mono ?_
  rintro e w89 ⟨S1, t1, rfl, h3, hx⟩
  have A_90 := Lib.hid (A_88.out.ext hx)
  have X_90 := Lib.hid (X_88.out.ext hx)
  have h_90 := Lib.hid (h_88.out.ext hx)
  have x_90 := Lib.hid (x_88.out.ext hx)
  have rt_90 := Lib.hid (rt_88.out.ext hx)
  clear A_88 X_88 h_88 x_88 rt_88
  have B_91 := Lib.hid h3
  clear hx h3
  have qh0 : w89.cell? ⟨w.heap.size, 0, none⟩ = some (.slice R n q) := h_90.out.at 0 _ rfl
  have qh1 : w89.cell? ⟨w.heap.size, 1, none⟩ = some (.int .i64 keep) := h_90.out.at 1 _ rfl
  have zh := h_90.out.lt
  have qx0 : w89.cell? ⟨w.heap.size + 1, 0, none⟩ = some (.int .i64 xk) := x_90.out.at 0 _ rfl
  have qx1 : w89.cell? ⟨w.heap.size + 1, 1, none⟩ = some (.int .i64 xv) := x_90.out.at 1 _ rfl
  have zx := x_90.out.lt
  have zrt := rt_90.out.lt
  go_wp2_with (go_at_call 9; refine stop_here ?_)
  refine stop_on ?_
  clear qh0 qh1 zh qx0 qx1 zx zrt
  generalize hW : (World.alloc w89 _) = W92
  obtain ⟨hx, hb0⟩ := allocs1 hW
  clear hW
  have A_93 := Lib.hid (A_90.out.ext hx)
  have X_93 := Lib.hid (X_90.out.ext hx)
  have h_93 := Lib.hid (h_90.out.ext hx)
  have x_93 := Lib.hid (x_90.out.ext hx)
  have rt_93 := Lib.hid (rt_90.out.ext hx)
  have B_93 := Lib.hid (B_91.out.ext hx)
  clear A_90 X_90 h_90 x_90 rt_90 B_91
  have a_94 := Lib.hid hb0
  clear hx hb0
  refine (pDel_is (by decide) HM1.out HP2.out B_93.out).mono ?_
  rintro e w95 ⟨S2, t2, rfl, h3, hx⟩
  have A_96 := Lib.hid (A_93.out.ext hx)
  have X_96 := Lib.hid (X_93.out.ext hx)
  have h_96 := Lib.hid (h_93.out.ext hx)
  have x_96 := Lib.hid (x_93.out.ext hx)
  have rt_96 := Lib.hid (rt_93.out.ext hx)
  have B_96 := Lib.hid (B_93.out.ext hx)
  have a_96 := Lib.hid (a_94.out.ext hx)
  clear A_93 X_93 h_93 x_93 rt_93 B_93 a_94
  have C_97 := Lib.hid h3
  clear hx h3
  have qh0 : w95.cell? ⟨w.heap.size, 0, none⟩ = some (.slice R n q) := h_96.out.at 0 _ rfl
  have qh1 : w95.cell? ⟨w.heap.size, 1, none⟩ = some (.int .i64 keep) := h_96.out.at 1 _ rfl
  have zh := h_96.out.lt
  have qx0 : w95.cell? ⟨w.heap.size + 1, 0, none⟩ = some (.int .i64 xk) := x_96.out.at 0 _ rfl
  have qx1 : w95.cell? ⟨w.heap.size + 1, 1, none⟩ = some (.int .i64 xv) := x_96.out.at 1 _ rfl
  have zx := x_96.out.lt
  have zrt := rt_96.out.lt
  have qa0 : w95.cell? ⟨w89.heap.size, 0, none⟩ = some (.slice S1 n t1) := a_96.out.at 0 _ rfl
  have qa1 : w95.cell? ⟨w89.heap.size, 1, none⟩ = some (.int .i64 keep) := a_96.out.at 1 _ rfl
  have za := a_96.out.lt
  clear qh0 qh1 zh qx0 qx1 zx zrt qa0 qa1 za
  have qh0 : w95.cell? ⟨w.heap.size, 0, none⟩ = some (.slice R n q) := h_96.out.at 0 _ rfl
  have qh1 : w95.cell? ⟨w.heap.size, 1, none⟩ = some (.int .i64 keep) := h_96.out.at 1 _ rfl
  have zh := h_96.out.lt
  have qx0 : w95.cell? ⟨w.heap.size + 1, 0, none⟩ = some (.int .i64 xk) := x_96.out.at 0 _ rfl
  have qx1 : w95.cell? ⟨w.heap.size + 1, 1, none⟩ = some (.int .i64 xv) := x_96.out.at 1 _ rfl
  have zx := x_96.out.lt
  have zrt := rt_96.out.lt
  have za := a_96.out.lt
  go_wp2_with fail
  clear qh0 qh1 zh qx0 qx1 zx zrt za
  generalize hW : (World.alloc w95 _) = W98
  obtain ⟨hx, hb0⟩ := allocs1 hW
  clear hW
  have A_99 := Lib.hid (A_96.out.ext hx)
  have X_99 := Lib.hid (X_96.out.ext hx)
  have h_99 := Lib.hid (h_96.out.ext hx)
  have x_99 := Lib.hid (x_96.out.ext hx)
  have rt_99 := Lib.hid (rt_96.out.ext hx)
  have B_99 := Lib.hid (B_96.out.ext hx)
  have a_99 := Lib.hid (a_96.out.ext hx)
  have C_99 := Lib.hid (C_97.out.ext hx)
  clear A_96 X_96 h_96 x_96 rt_96 B_96 a_96 C_97
  have b_100 := Lib.hid hb0
  clear hx hb0
  have GF := Lib.hid (fun w' A (hx : Ext W98 w') (hR : Sl w' A 1 1 ([r2].map iv)) => rFine_is A 1 40 HF2.out (C_99.out.ext hx) hR)
  have GB := Lib.hid (fun w' (hx : Ext W98 w') => rList_is B1.out B2.out B3.out HL2.out HLN.out (C_99.out.ext hx))
  have GH := Lib.hid (fun w' (hx : Ext W98 w') => rList_is A1.out A2.out A3.out HL1.out HLN.out (A_99.out.ext hx))
  have EC := Lib.hid (Ext.refl W98)
  obtain ⟨p0, p1, p2⟩ := (b_100.out.ext EC.out).read2
  obtain ⟨g0, g1, g2⟩ := (h_99.out.ext EC.out).read2
  go_region_law
    (first
      | ((go_simp
          go_at_call 7
          with_reducible refine (GF.out _ _ ?_ ?_).mono ?_
          (first | exact (Ext.refl _).drew.alloc _ | exact ((Ext.refl _).alloc _).drew | exact (Ext.refl _).alloc _)
          (first | exact sl_lit' rfl _ 1 [.int .i64 r2] (by unfold maxLen; omega) | exact (sl_lit' rfl _ 1 [.int .i64 r2] (by unfold maxLen; omega)).ext (Ext.refl _).drew)
          rintro e wa ⟨rfl, hxa⟩
          have EC := Lib.hid (show Ext W98 wa from by first | exact ((Ext.refl _).drew.alloc _).trans hxa | exact ((Ext.refl _).alloc _).drew.trans hxa | exact ((Ext.refl _).alloc _).trans hxa)
          obtain ⟨p0, p1, p2⟩ := (b_100.out.ext EC.out).read2
          obtain ⟨g0, g1, g2⟩ := (h_99.out.ext EC.out).read2
          clear hxa))
      | ((go_simp
          go_at_call 15
          with_reducible refine (GB.out _ EC.out).mono ?_
          rintro e wb ⟨S6, t6, rfl, h6, hxb⟩
          have EC := Lib.hid (EC.out.trans hxb)
          have P6 := Lib.hid h6
          (try (have P7 := Lib.hid (P7.out.ext hxb)))
          obtain ⟨p0, p1, p2⟩ := (b_100.out.ext EC.out).read2
          obtain ⟨g0, g1, g2⟩ := (h_99.out.ext EC.out).read2
          clear hxb h6))
      | ((go_simp
          go_at_call 15
          with_reducible refine (GH.out _ EC.out).mono ?_
          rintro e wb ⟨S7, t7, rfl, h7, hxb⟩
          have EC := Lib.hid (EC.out.trans hxb)
          have P7 := Lib.hid h7
          (try (have P6 := Lib.hid (P6.out.ext hxb)))
          obtain ⟨p0, p1, p2⟩ := (b_100.out.ext EC.out).read2
          obtain ⟨g0, g1, g2⟩ := (h_99.out.ext EC.out).read2
          clear hxb h7))
      | ((go_simp
          go_at_call 17
          with_reducible refine (rItems_is _ _ LL ll _ _ HLN.out P6.out P7.out).mono ?_
          rintro e wb ⟨rfl, hxb⟩
          have EC := Lib.hid (EC.out.trans hxb)
          clear hxb)))
  all_goals
    go_wp2
    go_ret
    exact ⟨rfl, X_99.out.trans EC.out⟩
theorem pback_any (R : Option Addr) (l : List HC) (n q : Nat) (keep root xk xv : Int) (w : World) (hA : HcSl w R n q l) :
    Calls Try.prog 5 #[.agg #[.slice R n q, .int .i64 keep], .int .i64 root, .agg #[.int .i64 xk, .int .i64 xv]] w fun e w' => e = .returned (.bool true) ∧ Ext w w' := by
  cases hf : fineB ⟨l, keep⟩ root 40
  · exact pback_not R l n q keep root xk xv w hA hf
  · obtain ⟨⟨c1, r1, e1⟩, hp1⟩ : ∃ pr, putR ⟨l, keep⟩ root (xk, xv) true = pr := ⟨_, rfl⟩
    by_cases h1 : e1 = 0
    rotate_left
    · exact pback_put R l n q keep root xk xv w hA hf c1 r1 e1 hp1 h1
    subst h1
    cases hg : getT l root xk with
    | some v => exact pback_there R l n q keep root xk xv w hA hf c1 r1 hp1 (by rw [hg]; rfl)
    | none =>
      have hge : getE (getT l root xk) = 4 := by rw [hg]; rfl
      obtain ⟨F1, l1, -⟩ := put_list (by decide) hf (by rw [hp1])
      rw [hp1] at F1 l1
      simp only at F1 l1
      have hasc : Asc (listT l root) := by
        obtain ⟨f1, f2, _⟩ := fine_may hf
        exact listT_rise (may_iff f1).2.2 f2
      have hno : ¬ ∃ z ∈ listT l root, z.1 = xk := by
        rintro ⟨z, hz, hzk⟩
        unfold getT at hg
        rw [Option.map_eq_none_iff, List.find?_eq_none] at hg
        exact hg z hz (decide_eq_true hzk)
      have hin : ∃ z ∈ listT c1 r1, z.1 = xk := ⟨(xk, xv), by rw [l1, insL_mem]; exact .inl rfl, rfl⟩
      rcases del_when (by decide) F1 hin with ⟨e0, D, _⟩ | ⟨e3, q1, q2, _⟩
      · refine pback_out R l n q keep root xk xv w hA hf c1 r1 hp1 hge (mayT_ofP F1) _ _ (by rw [← e0]) D.fine ?_
        have := D.list
        rw [l1] at this
        exact this.trans (out_ins (x := (xk, xv)) hasc hno)
      · exact pback_full R l n q keep root xk xv w hA hf c1 r1 hp1 hge (mayT_ofP F1) c1 r1 (Prod.ext q1 (Prod.ext q2 e3))
end Go.Proofs.Ytbfbpddfcakieaa

