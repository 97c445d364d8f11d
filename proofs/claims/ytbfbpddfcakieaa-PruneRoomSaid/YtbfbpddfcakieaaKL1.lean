/- The walk of PruneRoom. -/
import Derived.Test.YtbfbpddfcakieaaK39
import Derived.Deep.AppendLies
import Derived.Deep.RegionHeld3
import Derived.Deep.DeepCutAuto
import Derived.Deep.DrawnRows
import Derived.RegionTactic
namespace Go.Proofs.Ytbfbpddfcakieaa
open Go.RowKit
attribute [local go_sem ↓] Go.wp_at_zero Go.wp_at_succ

attribute [local go_sem] beq_self_eq_true bne_self_eq_false
set_option maxRecDepth 100000 in
set_option maxHeartbeats 4000000 in
theorem proom_not (R : Option Addr) (l : List HC) (n q : Nat) (keep root key : Int) (w : World) (hA : HcSl w R n q l) (hf : fineB ⟨l, keep⟩ root 40 = false) :
    Calls Try.prog 3 #[.agg #[.slice R n q, .int .i64 keep], .int .i64 root, .int .i64 key] w fun e w' => e = .returned (.bool true) ∧ Ext w w' := by
  have A_1 := Lib.hid (hA)
  have X_2 := Lib.hid (Ext.refl w)
  clear hA
  have HF := Lib.hid hf
  clear hf
  go_enter Try.func3, Try.ntmps3
  go_wp2_with (go_at_call 6; refine stop_here ?_)
  refine stop_on ?_
  generalize hW : (World.alloc w _) = W3
  obtain ⟨hx, hb0⟩ := allocs1 hW
  clear hW
  have A_4 := Lib.hid (A_1.out.ext hx)
  have X_4 := Lib.hid (X_2.out.ext hx)
  clear A_1 X_2
  have h_5 := Lib.hid hb0
  clear hx hb0
  refine (shown_any _).mono ?_
  rintro e w6 ⟨rfl, hx⟩
  have A_7 := Lib.hid (A_4.out.ext hx)
  have X_7 := Lib.hid (X_4.out.ext hx)
  have h_7 := Lib.hid (h_5.out.ext hx)
  clear A_4 X_4 h_5
  clear hx
  have qh0 : w6.cell? ⟨w.heap.size, 0, none⟩ = some (.slice R n q) := h_7.out.at 0 _ rfl
  have qh1 : w6.cell? ⟨w.heap.size, 1, none⟩ = some (.int .i64 keep) := h_7.out.at 1 _ rfl
  have zh := h_7.out.lt
  go_wp2_with (go_at_call 7; refine stop_here ?_)
  refine stop_on ?_
  clear qh0 qh1 zh
  generalize hW : (World.alloc w6 _) = W8
  obtain ⟨hx, hb0⟩ := allocs1 hW
  clear hW
  have A_9 := Lib.hid (A_7.out.ext hx)
  have X_9 := Lib.hid (X_7.out.ext hx)
  have h_9 := Lib.hid (h_7.out.ext hx)
  clear A_7 X_7 h_7
  have rt_10 := Lib.hid hb0
  clear hx hb0
  refine (rFine_is _ 1 40 HF.out A_9.out (show Sl _ _ 1 1 ([root].map iv) from rt_10.out.slQ 1 (by unfold maxLen; omega))).mono ?_
  rintro e w11 ⟨rfl, hx⟩
  have A_12 := Lib.hid (A_9.out.ext hx)
  have X_12 := Lib.hid (X_9.out.ext hx)
  have h_12 := Lib.hid (h_9.out.ext hx)
  have rt_12 := Lib.hid (rt_10.out.ext hx)
  clear A_9 X_9 h_9 rt_10
  clear hx
  have qh0 : w11.cell? ⟨w.heap.size, 0, none⟩ = some (.slice R n q) := h_12.out.at 0 _ rfl
  have qh1 : w11.cell? ⟨w.heap.size, 1, none⟩ = some (.int .i64 keep) := h_12.out.at 1 _ rfl
  have zh := h_12.out.lt
  have qrt0 : w11.cell? ⟨w6.heap.size, 0, none⟩ = some (.int .i64 root) := rt_12.out.at 0 _ rfl
  have zrt := rt_12.out.lt
  go_wp2
  go_ret
  exact ⟨rfl, X_12.out⟩
set_option maxRecDepth 100000 in
set_option maxHeartbeats 4000000 in
theorem proom_none (R : Option Addr) (l : List HC) (n q : Nat) (keep root key : Int) (w : World) (hA : HcSl w R n q l) (hf : fineB ⟨l, keep⟩ root 40 = true) (hg : getT l root key = none) (hp : delR ⟨l, keep⟩ root key = (l, root, 4)) :
    Calls Try.prog 3 #[.agg #[.slice R n q, .int .i64 keep], .int .i64 root, .int .i64 key] w fun e w' => e = .returned (.bool true) ∧ Ext w w' := by
  have A_13 := Lib.hid (hA)
  have X_14 := Lib.hid (Ext.refl w)
  clear hA
  have HM := Lib.hid (mayT_ofP hf)
  obtain ⟨a1, a2, a3, a4⟩ := fine_allP hf
  have A1 := Lib.hid a1
  have A2 := Lib.hid a2
  have A3 := Lib.hid a3
  have HF := Lib.hid hf
  have HP := Lib.hid hp
  obtain ⟨H, hH⟩ : ∃ H, highT l root = H := ⟨_, rfl⟩
  have HH := Lib.hid hH
  have hb := high_boundsP l root
  obtain ⟨fr, hfr⟩ : ∃ f, l.countP freeC = f := ⟨_, rfl⟩
  have HFR := Lib.hid hfr
  have hfl : l.countP freeC ≤ l.length := List.countP_le_length
  rw [hH] at hb
  rw [hfr] at hfl
  obtain ⟨hb0, hb1⟩ := hb
  obtain ⟨gv, hgv⟩ : ∃ x, getV (getT l root key) = x := ⟨_, rfl⟩
  have HGV := Lib.hid hgv
  have HGE := Lib.hid (show getE (getT l root key) = 4 from by rw [hg]; rfl)
  clear hf hp hg a1 a2 a3 a4 hH hfr hgv
  go_enter Try.func3, Try.ntmps3
  go_wp2_with (go_at_call 6; refine stop_here ?_)
  refine stop_on ?_
  generalize hW : (World.alloc w _) = W15
  obtain ⟨hx, hb0⟩ := allocs1 hW
  clear hW
  have A_16 := Lib.hid (A_13.out.ext hx)
  have X_16 := Lib.hid (X_14.out.ext hx)
  clear A_13 X_14
  have h_17 := Lib.hid hb0
  clear hx hb0
  refine (shown_any _).mono ?_
  rintro e w18 ⟨rfl, hx⟩
  have A_19 := Lib.hid (A_16.out.ext hx)
  have X_19 := Lib.hid (X_16.out.ext hx)
  have h_19 := Lib.hid (h_17.out.ext hx)
  clear A_16 X_16 h_17
  clear hx
  have qh0 : w18.cell? ⟨w.heap.size, 0, none⟩ = some (.slice R n q) := h_19.out.at 0 _ rfl
  have qh1 : w18.cell? ⟨w.heap.size, 1, none⟩ = some (.int .i64 keep) := h_19.out.at 1 _ rfl
  have zh := h_19.out.lt
  go_wp2_with (go_at_call 7; refine stop_here ?_)
  refine stop_on ?_
  clear qh0 qh1 zh
  generalize hW : (World.alloc w18 _) = W20
  obtain ⟨hx, hb0⟩ := allocs1 hW
  clear hW
  have A_21 := Lib.hid (A_19.out.ext hx)
  have X_21 := Lib.hid (X_19.out.ext hx)
  have h_21 := Lib.hid (h_19.out.ext hx)
  clear A_19 X_19 h_19
  have rt_22 := Lib.hid hb0
  clear hx hb0
  refine (rFine_is _ 1 40 HF.out A_21.out (show Sl _ _ 1 1 ([root].map iv) from rt_22.out.slQ 1 (by unfold maxLen; omega))).mono ?_
  rintro e w23 ⟨rfl, hx⟩
  have A_24 := Lib.hid (A_21.out.ext hx)
  have X_24 := Lib.hid (X_21.out.ext hx)
  have h_24 := Lib.hid (h_21.out.ext hx)
  have rt_24 := Lib.hid (rt_22.out.ext hx)
  clear A_21 X_21 h_21 rt_22
  clear hx
  have qh0 : w23.cell? ⟨w.heap.size, 0, none⟩ = some (.slice R n q) := h_24.out.at 0 _ rfl
  have qh1 : w23.cell? ⟨w.heap.size, 1, none⟩ = some (.int .i64 keep) := h_24.out.at 1 _ rfl
  have zh := h_24.out.lt
  have qrt0 : w23.cell? ⟨w18.heap.size, 0, none⟩ = some (.int .i64 root) := rt_24.out.at 0 _ rfl
  have zrt := rt_24.out.lt
  go_wp2_with (go_at_call 8; refine stop_here ?_)
  refine stop_on ?_
  clear qh0 qh1 zh qrt0 zrt
  refine (rGet_is key A1.out A2.out A3.out HGV.out HGE.out A_24.out).mono ?_
  rintro e w25 ⟨rfl, hx⟩
  have A_26 := Lib.hid (A_24.out.ext hx)
  have X_26 := Lib.hid (X_24.out.ext hx)
  have h_26 := Lib.hid (h_24.out.ext hx)
  have rt_26 := Lib.hid (rt_24.out.ext hx)
  clear A_24 X_24 h_24 rt_24
  clear hx
  have qh0 : w25.cell? ⟨w.heap.size, 0, none⟩ = some (.slice R n q) := h_26.out.at 0 _ rfl
  have qh1 : w25.cell? ⟨w.heap.size, 1, none⟩ = some (.int .i64 keep) := h_26.out.at 1 _ rfl
  have zh := h_26.out.lt
  have zrt := rt_26.out.lt
  go_wp2_with (go_at_call 9; refine stop_here ?_)
  refine stop_on ?_
  clear qh0 qh1 zh zrt
  refine (pDel_is (by decide) HM.out HP.out A_26.out).mono ?_
  rintro e w27 ⟨S3, t3, rfl, h3, hx⟩
  have A_28 := Lib.hid (A_26.out.ext hx)
  have X_28 := Lib.hid (X_26.out.ext hx)
  have h_28 := Lib.hid (h_26.out.ext hx)
  have rt_28 := Lib.hid (rt_26.out.ext hx)
  clear A_26 X_26 h_26 rt_26
  have B_29 := Lib.hid h3
  clear hx h3
  have qh0 : w27.cell? ⟨w.heap.size, 0, none⟩ = some (.slice R n q) := h_28.out.at 0 _ rfl
  have qh1 : w27.cell? ⟨w.heap.size, 1, none⟩ = some (.int .i64 keep) := h_28.out.at 1 _ rfl
  have zh := h_28.out.lt
  have zrt := rt_28.out.lt
  go_wp2_with (go_at_call 10; refine stop_here ?_)
  refine stop_on ?_
  clear qh0 qh1 zh zrt
  generalize hW : (World.alloc w27 _) = W30
  obtain ⟨hx, hb0⟩ := allocs1 hW
  clear hW
  have A_31 := Lib.hid (A_28.out.ext hx)
  have X_31 := Lib.hid (X_28.out.ext hx)
  have h_31 := Lib.hid (h_28.out.ext hx)
  have rt_31 := Lib.hid (rt_28.out.ext hx)
  have B_31 := Lib.hid (B_29.out.ext hx)
  clear A_28 X_28 h_28 rt_28 B_29
  have g_32 := Lib.hid hb0
  clear hx hb0
  refine (rHigh_is A1.out A2.out A3.out HH.out A_31.out).mono ?_
  rintro e w33 ⟨rfl, hx⟩
  have A_34 := Lib.hid (A_31.out.ext hx)
  have X_34 := Lib.hid (X_31.out.ext hx)
  have h_34 := Lib.hid (h_31.out.ext hx)
  have rt_34 := Lib.hid (rt_31.out.ext hx)
  have B_34 := Lib.hid (B_31.out.ext hx)
  have g_34 := Lib.hid (g_32.out.ext hx)
  clear A_31 X_31 h_31 rt_31 B_31 g_32
  clear hx
  have qh0 : w33.cell? ⟨w.heap.size, 0, none⟩ = some (.slice R n q) := h_34.out.at 0 _ rfl
  have qh1 : w33.cell? ⟨w.heap.size, 1, none⟩ = some (.int .i64 keep) := h_34.out.at 1 _ rfl
  have zh := h_34.out.lt
  have zrt := rt_34.out.lt
  have qg0 : w33.cell? ⟨w27.heap.size, 0, none⟩ = some (.slice S3 n t3) := g_34.out.at 0 _ rfl
  have qg1 : w33.cell? ⟨w27.heap.size, 1, none⟩ = some (.int .i64 keep) := g_34.out.at 1 _ rfl
  have zg := g_34.out.lt
  go_wp2_with (go_at_call 11; refine stop_here ?_)
  refine stop_on ?_
  clear qh0 qh1 zh zrt qg0 qg1 zg
  refine (rFree_is HFR.out A_34.out).mono ?_
  rintro e w35 ⟨rfl, hx⟩
  have A_36 := Lib.hid (A_34.out.ext hx)
  have X_36 := Lib.hid (X_34.out.ext hx)
  have h_36 := Lib.hid (h_34.out.ext hx)
  have rt_36 := Lib.hid (rt_34.out.ext hx)
  have B_36 := Lib.hid (B_34.out.ext hx)
  have g_36 := Lib.hid (g_34.out.ext hx)
  clear A_34 X_34 h_34 rt_34 B_34 g_34
  clear hx
  have qh0 : w35.cell? ⟨w.heap.size, 0, none⟩ = some (.slice R n q) := h_36.out.at 0 _ rfl
  have qh1 : w35.cell? ⟨w.heap.size, 1, none⟩ = some (.int .i64 keep) := h_36.out.at 1 _ rfl
  have zh := h_36.out.lt
  have zrt := rt_36.out.lt
  have qg0 : w35.cell? ⟨w27.heap.size, 0, none⟩ = some (.slice S3 n t3) := g_36.out.at 0 _ rfl
  have qg1 : w35.cell? ⟨w27.heap.size, 1, none⟩ = some (.int .i64 keep) := g_36.out.at 1 _ rfl
  have zg := g_36.out.lt
  go_wp2
  go_ret
  exact ⟨rfl, X_36.out⟩
set_option maxRecDepth 100000 in
set_option maxHeartbeats 4000000 in
theorem proom_full (R : Option Addr) (l : List HC) (n q : Nat) (keep root key : Int) (w : World) (hA : HcSl w R n q l) (hf : fineB ⟨l, keep⟩ root 40 = true) (hg : getE (getT l root key) = 0) (hw : ¬ highT l root ≤ (l.countP freeC : Nat)) (hp : delR ⟨l, keep⟩ root key = (l, root, 3)) :
    Calls Try.prog 3 #[.agg #[.slice R n q, .int .i64 keep], .int .i64 root, .int .i64 key] w fun e w' => e = .returned (.bool true) ∧ Ext w w' := by
  have A_37 := Lib.hid (hA)
  have X_38 := Lib.hid (Ext.refl w)
  clear hA
  have HM := Lib.hid (mayT_ofP hf)
  obtain ⟨a1, a2, a3, a4⟩ := fine_allP hf
  have A1 := Lib.hid a1
  have A2 := Lib.hid a2
  have A3 := Lib.hid a3
  have HF := Lib.hid hf
  have HP := Lib.hid hp
  obtain ⟨H, hH⟩ : ∃ H, highT l root = H := ⟨_, rfl⟩
  have HH := Lib.hid hH
  have hb := high_boundsP l root
  obtain ⟨fr, hfr⟩ : ∃ f, l.countP freeC = f := ⟨_, rfl⟩
  have HFR := Lib.hid hfr
  have hfl : l.countP freeC ≤ l.length := List.countP_le_length
  rw [hH] at hb
  rw [hfr] at hfl
  obtain ⟨hb0, hb1⟩ := hb
  obtain ⟨gv, hgv⟩ : ∃ x, getV (getT l root key) = x := ⟨_, rfl⟩
  have HGV := Lib.hid hgv
  rw [hH, hfr] at hw
  have e1 : decide (H ≤ (fr : Int)) = false := decide_eq_false hw
  have HGE := Lib.hid hg
  clear hf hp hg a1 a2 a3 a4 hH hfr hgv hw
  go_enter Try.func3, Try.ntmps3
  go_wp2_with (go_at_call 6; refine stop_here ?_)
  refine stop_on ?_
  generalize hW : (World.alloc w _) = W39
  obtain ⟨hx, hb0⟩ := allocs1 hW
  clear hW
  have A_40 := Lib.hid (A_37.out.ext hx)
  have X_40 := Lib.hid (X_38.out.ext hx)
  clear A_37 X_38
  have h_41 := Lib.hid hb0
  clear hx hb0
  refine (shown_any _).mono ?_
  rintro e w42 ⟨rfl, hx⟩
  have A_43 := Lib.hid (A_40.out.ext hx)
  have X_43 := Lib.hid (X_40.out.ext hx)
  have h_43 := Lib.hid (h_41.out.ext hx)
  clear A_40 X_40 h_41
  clear hx
  have qh0 : w42.cell? ⟨w.heap.size, 0, none⟩ = some (.slice R n q) := h_43.out.at 0 _ rfl
  have qh1 : w42.cell? ⟨w.heap.size, 1, none⟩ = some (.int .i64 keep) := h_43.out.at 1 _ rfl
  have zh := h_43.out.lt
  go_wp2_with (go_at_call 7; refine stop_here ?_)
  refine stop_on ?_
  clear qh0 qh1 zh
  generalize hW : (World.alloc w42 _) = W44
  obtain ⟨hx, hb0⟩ := allocs1 hW
  clear hW
  have A_45 := Lib.hid (A_43.out.ext hx)
  have X_45 := Lib.hid (X_43.out.ext hx)
  have h_45 := Lib.hid (h_43.out.ext hx)
  clear A_43 X_43 h_43
  have rt_46 := Lib.hid hb0
  clear hx hb0
  refine (rFine_is _ 1 40 HF.out A_45.out (show Sl _ _ 1 1 ([root].map iv) from rt_46.out.slQ 1 (by unfold maxLen; omega))).mono ?_
  rintro e w47 ⟨rfl, hx⟩
  have A_48 := Lib.hid (A_45.out.ext hx)
  have X_48 := Lib.hid (X_45.out.ext hx)
  have h_48 := Lib.hid (h_45.out.ext hx)
  have rt_48 := Lib.hid (rt_46.out.ext hx)
  clear A_45 X_45 h_45 rt_46
  clear hx
  have qh0 : w47.cell? ⟨w.heap.size, 0, none⟩ = some (.slice R n q) := h_48.out.at 0 _ rfl
  have qh1 : w47.cell? ⟨w.heap.size, 1, none⟩ = some (.int .i64 keep) := h_48.out.at 1 _ rfl
  have zh := h_48.out.lt
  have qrt0 : w47.cell? ⟨w42.heap.size, 0, none⟩ = some (.int .i64 root) := rt_48.out.at 0 _ rfl
  have zrt := rt_48.out.lt
  go_wp2_with (go_at_call 8; refine stop_here ?_)
  refine stop_on ?_
  clear qh0 qh1 zh qrt0 zrt
  refine (rGet_is key A1.out A2.out A3.out HGV.out HGE.out A_48.out).mono ?_
  rintro e w49 ⟨rfl, hx⟩
  have A_50 := Lib.hid (A_48.out.ext hx)
  have X_50 := Lib.hid (X_48.out.ext hx)
  have h_50 := Lib.hid (h_48.out.ext hx)
  have rt_50 := Lib.hid (rt_48.out.ext hx)
  clear A_48 X_48 h_48 rt_48
  clear hx
  have qh0 : w49.cell? ⟨w.heap.size, 0, none⟩ = some (.slice R n q) := h_50.out.at 0 _ rfl
  have qh1 : w49.cell? ⟨w.heap.size, 1, none⟩ = some (.int .i64 keep) := h_50.out.at 1 _ rfl
  have zh := h_50.out.lt
  have zrt := rt_50.out.lt
  go_wp2_with (go_at_call 9; refine stop_here ?_)
  refine stop_on ?_
  clear qh0 qh1 zh zrt
  refine (pDel_is (by decide) HM.out HP.out A_50.out).mono ?_
  rintro e w51 ⟨S3, t3, rfl, h3, hx⟩
  have A_52 := Lib.hid (A_50.out.ext hx)
  have X_52 := Lib.hid (X_50.out.ext hx)
  have h_52 := Lib.hid (h_50.out.ext hx)
  have rt_52 := Lib.hid (rt_50.out.ext hx)
  clear A_50 X_50 h_50 rt_50
  have B_53 := Lib.hid h3
  clear hx h3
  have qh0 : w51.cell? ⟨w.heap.size, 0, none⟩ = some (.slice R n q) := h_52.out.at 0 _ rfl
  have qh1 : w51.cell? ⟨w.heap.size, 1, none⟩ = some (.int .i64 keep) := h_52.out.at 1 _ rfl
  have zh := h_52.out.lt
  have zrt := rt_52.out.lt
  go_wp2_with (go_at_call 10; refine stop_here ?_)
  refine stop_on ?_
  clear qh0 qh1 zh zrt
  generalize hW : (World.alloc w51 _) = W54
  obtain ⟨hx, hb0⟩ := allocs1 hW
  clear hW
  have A_55 := Lib.hid (A_52.out.ext hx)
  have X_55 := Lib.hid (X_52.out.ext hx)
  have h_55 := Lib.hid (h_52.out.ext hx)
  have rt_55 := Lib.hid (rt_52.out.ext hx)
  have B_55 := Lib.hid (B_53.out.ext hx)
  clear A_52 X_52 h_52 rt_52 B_53
  have g_56 := Lib.hid hb0
  clear hx hb0
  refine (rHigh_is A1.out A2.out A3.out HH.out A_55.out).mono ?_
  rintro e w57 ⟨rfl, hx⟩
  have A_58 := Lib.hid (A_55.out.ext hx)
  have X_58 := Lib.hid (X_55.out.ext hx)
  have h_58 := Lib.hid (h_55.out.ext hx)
  have rt_58 := Lib.hid (rt_55.out.ext hx)
  have B_58 := Lib.hid (B_55.out.ext hx)
  have g_58 := Lib.hid (g_56.out.ext hx)
  clear A_55 X_55 h_55 rt_55 B_55 g_56
  clear hx
  have qh0 : w57.cell? ⟨w.heap.size, 0, none⟩ = some (.slice R n q) := h_58.out.at 0 _ rfl
  have qh1 : w57.cell? ⟨w.heap.size, 1, none⟩ = some (.int .i64 keep) := h_58.out.at 1 _ rfl
  have zh := h_58.out.lt
  have zrt := rt_58.out.lt
  have qg0 : w57.cell? ⟨w51.heap.size, 0, none⟩ = some (.slice S3 n t3) := g_58.out.at 0 _ rfl
  have qg1 : w57.cell? ⟨w51.heap.size, 1, none⟩ = some (.int .i64 keep) := g_58.out.at 1 _ rfl
  have zg := g_58.out.lt
  go_wp2_with (go_at_call 11; refine stop_here ?_)
  refine stop_on ?_
  clear qh0 qh1 zh zrt qg0 qg1 zg
  refine (rFree_is HFR.out A_58.out).mono ?_
  rintro e w59 ⟨rfl, hx⟩
  have A_60 := Lib.hid (A_58.out.ext hx)
  have X_60 := Lib.hid (X_58.out.ext hx)
  have h_60 := Lib.hid (h_58.out.ext hx)
  have rt_60 := Lib.hid (rt_58.out.ext hx)
  have B_60 := Lib.hid (B_58.out.ext hx)
  have g_60 := Lib.hid (g_58.out.ext hx)
  clear A_58 X_58 h_58 rt_58 B_58 g_58
  clear hx
  have qh0 : w59.cell? ⟨w.heap.size, 0, none⟩ = some (.slice R n q) := h_60.out.at 0 _ rfl
  have qh1 : w59.cell? ⟨w.heap.size, 1, none⟩ = some (.int .i64 keep) := h_60.out.at 1 _ rfl
  have zh := h_60.out.lt
  have zrt := rt_60.out.lt
  have qg0 : w59.cell? ⟨w51.heap.size, 0, none⟩ = some (.slice S3 n t3) := g_60.out.at 0 _ rfl
  have qg1 : w59.cell? ⟨w51.heap.size, 1, none⟩ = some (.int .i64 keep) := g_60.out.at 1 _ rfl
  have zg := g_60.out.lt
  go_wp2
  go_ret
  exact ⟨rfl, X_60.out⟩
set_option maxRecDepth 100000 in
set_option maxHeartbeats 4000000 in
theorem proom_out (R : Option Addr) (l : List HC) (n q : Nat) (keep root key : Int) (w : World) (hA : HcSl w R n q l) (hf : fineB ⟨l, keep⟩ root 40 = true) (hg : getE (getT l root key) = 0) (hw : highT l root ≤ (l.countP freeC : Nat)) (c2 : List HC) (r2 : Int) (hp : delR ⟨l, keep⟩ root key = (c2, r2, 0)) (hu : (l.countP freeC : Int) ≤ c2.countP freeC + highT l root) :
    Calls Try.prog 3 #[.agg #[.slice R n q, .int .i64 keep], .int .i64 root, .int .i64 key] w fun e w' => e = .returned (.bool true) ∧ Ext w w' := by
  have A_61 := Lib.hid (hA)
  have X_62 := Lib.hid (Ext.refl w)
  clear hA
  have HM := Lib.hid (mayT_ofP hf)
  obtain ⟨a1, a2, a3, a4⟩ := fine_allP hf
  have A1 := Lib.hid a1
  have A2 := Lib.hid a2
  have A3 := Lib.hid a3
  have HF := Lib.hid hf
  have HP := Lib.hid hp
  obtain ⟨H, hH⟩ : ∃ H, highT l root = H := ⟨_, rfl⟩
  have HH := Lib.hid hH
  have hb := high_boundsP l root
  obtain ⟨fr, hfr⟩ : ∃ f, l.countP freeC = f := ⟨_, rfl⟩
  have HFR := Lib.hid hfr
  have hfl : l.countP freeC ≤ l.length := List.countP_le_length
  rw [hH] at hb
  rw [hfr] at hfl
  obtain ⟨hb0, hb1⟩ := hb
  obtain ⟨gv, hgv⟩ : ∃ x, getV (getT l root key) = x := ⟨_, rfl⟩
  have HGV := Lib.hid hgv
  rw [hH, hfr] at hw hu
  have e1 : decide (H ≤ (fr : Int)) = true := decide_eq_true hw
  have HGE := Lib.hid hg
  obtain ⟨lf, hlf⟩ : ∃ x, c2.countP freeC = x := ⟨_, rfl⟩
  have HLF := Lib.hid hlf
  rw [hlf] at hu
  have w4 : IntKind.i64.wrap ((fr : Int) - H) = (fr : Int) - H := by rw [IntKind.wrap_i64]; omega
  have e2 : decide ((fr : Int) - H ≤ (lf : Int)) = true := decide_eq_true (by omega)
  clear hf hp hg a1 a2 a3 a4 hH hfr hgv hw hlf hu
  go_enter Try.func3, Try.ntmps3
  go_wp2_with (go_at_call 6; refine stop_here ?_)
  refine stop_on ?_
  generalize hW : (World.alloc w _) = W63
  obtain ⟨hx, hb0⟩ := allocs1 hW
  clear hW
  have A_64 := Lib.hid (A_61.out.ext hx)
  have X_64 := Lib.hid (X_62.out.ext hx)
  clear A_61 X_62
  have h_65 := Lib.hid hb0
  clear hx hb0
  refine (shown_any _).mono ?_
  rintro e w66 ⟨rfl, hx⟩
  have A_67 := Lib.hid (A_64.out.ext hx)
  have X_67 := Lib.hid (X_64.out.ext hx)
  have h_67 := Lib.hid (h_65.out.ext hx)
  clear A_64 X_64 h_65
  clear hx
  have qh0 : w66.cell? ⟨w.heap.size, 0, none⟩ = some (.slice R n q) := h_67.out.at 0 _ rfl
  have qh1 : w66.cell? ⟨w.heap.size, 1, none⟩ = some (.int .i64 keep) := h_67.out.at 1 _ rfl
  have zh := h_67.out.lt
  go_wp2_with (go_at_call 7; refine stop_here ?_)
  refine stop_on ?_
  clear qh0 qh1 zh
  generalize hW : (World.alloc w66 _) = W68
  obtain ⟨hx, hb0⟩ := allocs1 hW
  clear hW
  have A_69 := Lib.hid (A_67.out.ext hx)
  have X_69 := Lib.hid (X_67.out.ext hx)
  have h_69 := Lib.hid (h_67.out.ext hx)
  clear A_67 X_67 h_67
  have rt_70 := Lib.hid hb0
  clear hx hb0
  refine (rFine_is _ 1 40 HF.out A_69.out (show Sl _ _ 1 1 ([root].map iv) from rt_70.out.slQ 1 (by unfold maxLen; omega))).mono ?_
  rintro e w71 ⟨rfl, hx⟩
  have A_72 := Lib.hid (A_69.out.ext hx)
  have X_72 := Lib.hid (X_69.out.ext hx)
  have h_72 := Lib.hid (h_69.out.ext hx)
  have rt_72 := Lib.hid (rt_70.out.ext hx)
  clear A_69 X_69 h_69 rt_70
  clear hx
  have qh0 : w71.cell? ⟨w.heap.size, 0, none⟩ = some (.slice R n q) := h_72.out.at 0 _ rfl
  have qh1 : w71.cell? ⟨w.heap.size, 1, none⟩ = some (.int .i64 keep) := h_72.out.at 1 _ rfl
  have zh := h_72.out.lt
  have qrt0 : w71.cell? ⟨w66.heap.size, 0, none⟩ = some (.int .i64 root) := rt_72.out.at 0 _ rfl
  have zrt := rt_72.out.lt
  go_wp2_with (go_at_call 8; refine stop_here ?_)
  refine stop_on ?_
  clear qh0 qh1 zh qrt0 zrt
  refine (rGet_is key A1.out A2.out A3.out HGV.out HGE.out A_72.out).mono ?_
  rintro e w73 ⟨rfl, hx⟩
  have A_74 := Lib.hid (A_72.out.ext hx)
  have X_74 := Lib.hid (X_72.out.ext hx)
  have h_74 := Lib.hid (h_72.out.ext hx)
  have rt_74 := Lib.hid (rt_72.out.ext hx)
  clear A_72 X_72 h_72 rt_72
  clear hx
  have qh0 : w73.cell? ⟨w.heap.size, 0, none⟩ = some (.slice R n q) := h_74.out.at 0 _ rfl
  have qh1 : w73.cell? ⟨w.heap.size, 1, none⟩ = some (.int .i64 keep) := h_74.out.at 1 _ rfl
  have zh := h_74.out.lt
  have zrt := rt_74.out.lt
  go_wp2_with (go_at_call 9; refine stop_here ?_)
  refine stop_on ?_
  clear qh0 qh1 zh zrt
  refine (pDel_is (by decide) HM.out HP.out A_74.out).mono ?_
  rintro e w75 ⟨S3, t3, rfl, h3, hx⟩
  have A_76 := Lib.hid (A_74.out.ext hx)
  have X_76 := Lib.hid (X_74.out.ext hx)
  have h_76 := Lib.hid (h_74.out.ext hx)
  have rt_76 := Lib.hid (rt_74.out.ext hx)
  clear A_74 X_74 h_74 rt_74
  have B_77 := Lib.hid h3
  clear hx h3
  have qh0 : w75.cell? ⟨w.heap.size, 0, none⟩ = some (.slice R n q) := h_76.out.at 0 _ rfl
  have qh1 : w75.cell? ⟨w.heap.size, 1, none⟩ = some (.int .i64 keep) := h_76.out.at 1 _ rfl
  have zh := h_76.out.lt
  have zrt := rt_76.out.lt
  go_wp2_with (go_at_call 10; refine stop_here ?_)
  refine stop_on ?_
  clear qh0 qh1 zh zrt
  generalize hW : (World.alloc w75 _) = W78
  obtain ⟨hx, hb0⟩ := allocs1 hW
  clear hW
  have A_79 := Lib.hid (A_76.out.ext hx)
  have X_79 := Lib.hid (X_76.out.ext hx)
  have h_79 := Lib.hid (h_76.out.ext hx)
  have rt_79 := Lib.hid (rt_76.out.ext hx)
  have B_79 := Lib.hid (B_77.out.ext hx)
  clear A_76 X_76 h_76 rt_76 B_77
  have g_80 := Lib.hid hb0
  clear hx hb0
  refine (rHigh_is A1.out A2.out A3.out HH.out A_79.out).mono ?_
  rintro e w81 ⟨rfl, hx⟩
  have A_82 := Lib.hid (A_79.out.ext hx)
  have X_82 := Lib.hid (X_79.out.ext hx)
  have h_82 := Lib.hid (h_79.out.ext hx)
  have rt_82 := Lib.hid (rt_79.out.ext hx)
  have B_82 := Lib.hid (B_79.out.ext hx)
  have g_82 := Lib.hid (g_80.out.ext hx)
  clear A_79 X_79 h_79 rt_79 B_79 g_80
  clear hx
  have qh0 : w81.cell? ⟨w.heap.size, 0, none⟩ = some (.slice R n q) := h_82.out.at 0 _ rfl
  have qh1 : w81.cell? ⟨w.heap.size, 1, none⟩ = some (.int .i64 keep) := h_82.out.at 1 _ rfl
  have zh := h_82.out.lt
  have zrt := rt_82.out.lt
  have qg0 : w81.cell? ⟨w75.heap.size, 0, none⟩ = some (.slice S3 n t3) := g_82.out.at 0 _ rfl
  have qg1 : w81.cell? ⟨w75.heap.size, 1, none⟩ = some (.int .i64 keep) := g_82.out.at 1 _ rfl
  have zg := g_82.out.lt
  go_wp2_with (go_at_call 11; refine stop_here ?_)
  refine stop_on ?_
  clear qh0 qh1 zh zrt qg0 qg1 zg
  refine (rFree_is HFR.out A_82.out).mono ?_
  rintro e w83 ⟨rfl, hx⟩
  have A_84 := Lib.hid (A_82.out.ext hx)
  have X_84 := Lib.hid (X_82.out.ext hx)
  have h_84 := Lib.hid (h_82.out.ext hx)
  have rt_84 := Lib.hid (rt_82.out.ext hx)
  have B_84 := Lib.hid (B_82.out.ext hx)
  have g_84 := Lib.hid (g_82.out.ext hx)
  clear A_82 X_82 h_82 rt_82 B_82 g_82
  clear hx
  have qh0 : w83.cell? ⟨w.heap.size, 0, none⟩ = some (.slice R n q) := h_84.out.at 0 _ rfl
  have qh1 : w83.cell? ⟨w.heap.size, 1, none⟩ = some (.int .i64 keep) := h_84.out.at 1 _ rfl
  have zh := h_84.out.lt
  have zrt := rt_84.out.lt
  have qg0 : w83.cell? ⟨w75.heap.size, 0, none⟩ = some (.slice S3 n t3) := g_84.out.at 0 _ rfl
  have qg1 : w83.cell? ⟨w75.heap.size, 1, none⟩ = some (.int .i64 keep) := g_84.out.at 1 _ rfl
  have zg := g_84.out.lt
  go_wp2_with (go_at_call 11; refine stop_here ?_)
  refine stop_on ?_
  clear qh0 qh1 zh zrt qg0 qg1 zg
  refine (rFree_is HLF.out B_84.out).mono ?_
  rintro e w85 ⟨rfl, hx⟩
  have A_86 := Lib.hid (A_84.out.ext hx)
  have X_86 := Lib.hid (X_84.out.ext hx)
  have h_86 := Lib.hid (h_84.out.ext hx)
  have rt_86 := Lib.hid (rt_84.out.ext hx)
  have B_86 := Lib.hid (B_84.out.ext hx)
  have g_86 := Lib.hid (g_84.out.ext hx)
  clear A_84 X_84 h_84 rt_84 B_84 g_84
  clear hx
  have qh0 : w85.cell? ⟨w.heap.size, 0, none⟩ = some (.slice R n q) := h_86.out.at 0 _ rfl
  have qh1 : w85.cell? ⟨w.heap.size, 1, none⟩ = some (.int .i64 keep) := h_86.out.at 1 _ rfl
  have zh := h_86.out.lt
  have zrt := rt_86.out.lt
  have qg0 : w85.cell? ⟨w75.heap.size, 0, none⟩ = some (.slice S3 n t3) := g_86.out.at 0 _ rfl
  have qg1 : w85.cell? ⟨w75.heap.size, 1, none⟩ = some (.int .i64 keep) := g_86.out.at 1 _ rfl
  have zg := g_86.out.lt
  go_wp2
  go_ret
  exact ⟨rfl, X_86.out⟩
theorem proom_any (R : Option Addr) (l : List HC) (n q : Nat) (keep root key : Int) (w : World) (hA : HcSl w R n q l) :
    Calls Try.prog 3 #[.agg #[.slice R n q, .int .i64 keep], .int .i64 root, .int .i64 key] w fun e w' => e = .returned (.bool true) ∧ Ext w w' := by
  cases hf : fineB ⟨l, keep⟩ root 40
  · exact proom_not R l n q keep root key w hA hf
  · by_cases hg : getT l root key = none
    · exact proom_none R l n q keep root key w hA hf hg (get_noneP hg)
    · have hge : getE (getT l root key) = 0 := by
        cases h : getT l root key with
        | none => exact absurd h hg
        | some v => rfl
      rcases del_when (by decide) hf (get_someP hg) with ⟨e0, D, hw⟩ | ⟨e3, e1, e2, hw⟩
      · exact proom_out R l n q keep root key w hA hf hge hw _ _ (by rw [← e0]) D.free.2
      · exact proom_full R l n q keep root key w hA hf hge hw (Prod.ext e1 (Prod.ext e2 e3))
end Go.Proofs.Ytbfbpddfcakieaa

