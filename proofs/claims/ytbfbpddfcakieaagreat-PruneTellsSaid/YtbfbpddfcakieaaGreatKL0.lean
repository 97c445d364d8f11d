/- The walk of PruneTells. -/
import Derived.Test.YtbfbpddfcakieaaGreatKPQ
import Derived.Deep.AppendLies
import Derived.Deep.RegionHeld3
import Derived.Deep.DeepCutAuto
import Derived.Deep.DrawnRows
import Derived.RegionTactic
namespace Go.Proofs.YtbfbpddfcakieaaGreat
open Go.RowKit
attribute [local go_sem ↓] Go.wp_at_zero Go.wp_at_succ

attribute [local go_sem] beq_self_eq_true bne_self_eq_false
set_option maxRecDepth 100000 in
set_option maxHeartbeats 4000000 in
theorem ptells_not (R : Option Addr) (l : List HC) (n q : Nat) (keep root key lo hi mo : Int) (w : World) (hA : HcSl w R n q l) (hf : mayR ⟨l, keep⟩ root 60 = false) :
    Calls Tryz.prog 3 #[.agg #[.slice R n q, .int .i64 keep, .int .i64 root, .int .i64 key, .int .i64 lo, .int .i64 hi, .int .u8 mo]] w fun e w' => e = .returned (.bool true) ∧ Ext w w' := by
  have A_1 := Lib.hid (hA)
  have X_2 := Lib.hid (Ext.refl w)
  clear hA
  have HF := Lib.hid hf
  clear hf
  go_enter Tryz.func3, Tryz.ntmps3
  go_wp2_with (go_at_call 4; refine stop_here ?_)
  refine stop_on ?_
  generalize hW : (World.alloc (World.alloc w _) _) = W3
  obtain ⟨hx, hb0, hb1⟩ := allocs2 hW
  clear hW
  have A_4 := Lib.hid (A_1.out.ext hx)
  have X_4 := Lib.hid (X_2.out.ext hx)
  clear A_1 X_2
  have wi_5 := Lib.hid hb0
  have h_6 := Lib.hid hb1
  clear hx hb0 hb1
  refine (shown_any _).mono ?_
  rintro e w7 ⟨rfl, hx⟩
  have A_8 := Lib.hid (A_4.out.ext hx)
  have X_8 := Lib.hid (X_4.out.ext hx)
  have wi_8 := Lib.hid (wi_5.out.ext hx)
  have h_8 := Lib.hid (h_6.out.ext hx)
  clear A_4 X_4 wi_5 h_6
  clear hx
  have qwi0 : w7.cell? ⟨w.heap.size, 0, none⟩ = some (.slice R n q) := wi_8.out.at 0 _ rfl
  have qwi1 : w7.cell? ⟨w.heap.size, 1, none⟩ = some (.int .i64 keep) := wi_8.out.at 1 _ rfl
  have qwi2 : w7.cell? ⟨w.heap.size, 2, none⟩ = some (.int .i64 root) := wi_8.out.at 2 _ rfl
  have qwi3 : w7.cell? ⟨w.heap.size, 3, none⟩ = some (.int .i64 key) := wi_8.out.at 3 _ rfl
  have qwi4 : w7.cell? ⟨w.heap.size, 4, none⟩ = some (.int .i64 lo) := wi_8.out.at 4 _ rfl
  have qwi5 : w7.cell? ⟨w.heap.size, 5, none⟩ = some (.int .i64 hi) := wi_8.out.at 5 _ rfl
  have qwi6 : w7.cell? ⟨w.heap.size, 6, none⟩ = some (.int .u8 mo) := wi_8.out.at 6 _ rfl
  have zwi := wi_8.out.lt
  have qh0 : w7.cell? ⟨w.heap.size + 1, 0, none⟩ = some (.slice R n q) := h_8.out.at 0 _ rfl
  have qh1 : w7.cell? ⟨w.heap.size + 1, 1, none⟩ = some (.int .i64 keep) := h_8.out.at 1 _ rfl
  have zh := h_8.out.lt
  go_wp2_with (go_at_call 5; refine stop_here ?_)
  refine stop_on ?_
  clear qwi0 qwi1 qwi2 qwi3 qwi4 qwi5 qwi6 zwi qh0 qh1 zh
  refine (rMay_is 60 HF.out A_8.out).mono ?_
  rintro e w9 ⟨rfl, hx⟩
  have A_10 := Lib.hid (A_8.out.ext hx)
  have X_10 := Lib.hid (X_8.out.ext hx)
  have wi_10 := Lib.hid (wi_8.out.ext hx)
  have h_10 := Lib.hid (h_8.out.ext hx)
  clear A_8 X_8 wi_8 h_8
  clear hx
  have zwi := wi_10.out.lt
  have qh0 : w9.cell? ⟨w.heap.size + 1, 0, none⟩ = some (.slice R n q) := h_10.out.at 0 _ rfl
  have qh1 : w9.cell? ⟨w.heap.size + 1, 1, none⟩ = some (.int .i64 keep) := h_10.out.at 1 _ rfl
  have zh := h_10.out.lt
  go_wp2
  go_ret
  exact ⟨rfl, X_10.out⟩
set_option maxRecDepth 100000 in
set_option maxHeartbeats 4000000 in
theorem ptells_may (R : Option Addr) (l : List HC) (n q : Nat) (keep root key lo hi mo : Int) (w : World) (hA : HcSl w R n q l) (hm : mayT ⟨l, keep⟩ root 60 = true) (c1 c3 : List HC) (r1 e1 r3 : Int) (hp1 : delR ⟨l, keep⟩ root key = (c1, r1, e1)) (hp3 : lowS 20 l root = (c3, r3)) (hf : fineB ⟨l, keep⟩ root 60 = false) :
    Calls Tryz.prog 3 #[.agg #[.slice R n q, .int .i64 keep, .int .i64 root, .int .i64 key, .int .i64 lo, .int .i64 hi, .int .u8 mo]] w fun e w' => e = .returned (.bool true) ∧ Ext w w' := by
  have A_11 := Lib.hid (hA)
  have X_12 := Lib.hid (Ext.refl w)
  clear hA
  have HM := Lib.hid hm
  have HR := Lib.hid (show mayR ⟨l, keep⟩ root 60 = true from hm)
  have HP1 := Lib.hid hp1
  have HP3 := Lib.hid hp3
  have HF := Lib.hid hf
  clear hm hp1 hp3 hf
  go_enter Tryz.func3, Tryz.ntmps3
  go_wp2_with (go_at_call 4; refine stop_here ?_)
  refine stop_on ?_
  generalize hW : (World.alloc (World.alloc w _) _) = W13
  obtain ⟨hx, hb0, hb1⟩ := allocs2 hW
  clear hW
  have A_14 := Lib.hid (A_11.out.ext hx)
  have X_14 := Lib.hid (X_12.out.ext hx)
  clear A_11 X_12
  have wi_15 := Lib.hid hb0
  have h_16 := Lib.hid hb1
  clear hx hb0 hb1
  refine (shown_any _).mono ?_
  rintro e w17 ⟨rfl, hx⟩
  have A_18 := Lib.hid (A_14.out.ext hx)
  have X_18 := Lib.hid (X_14.out.ext hx)
  have wi_18 := Lib.hid (wi_15.out.ext hx)
  have h_18 := Lib.hid (h_16.out.ext hx)
  clear A_14 X_14 wi_15 h_16
  clear hx
  have qwi0 : w17.cell? ⟨w.heap.size, 0, none⟩ = some (.slice R n q) := wi_18.out.at 0 _ rfl
  have qwi1 : w17.cell? ⟨w.heap.size, 1, none⟩ = some (.int .i64 keep) := wi_18.out.at 1 _ rfl
  have qwi2 : w17.cell? ⟨w.heap.size, 2, none⟩ = some (.int .i64 root) := wi_18.out.at 2 _ rfl
  have qwi3 : w17.cell? ⟨w.heap.size, 3, none⟩ = some (.int .i64 key) := wi_18.out.at 3 _ rfl
  have qwi4 : w17.cell? ⟨w.heap.size, 4, none⟩ = some (.int .i64 lo) := wi_18.out.at 4 _ rfl
  have qwi5 : w17.cell? ⟨w.heap.size, 5, none⟩ = some (.int .i64 hi) := wi_18.out.at 5 _ rfl
  have qwi6 : w17.cell? ⟨w.heap.size, 6, none⟩ = some (.int .u8 mo) := wi_18.out.at 6 _ rfl
  have zwi := wi_18.out.lt
  have qh0 : w17.cell? ⟨w.heap.size + 1, 0, none⟩ = some (.slice R n q) := h_18.out.at 0 _ rfl
  have qh1 : w17.cell? ⟨w.heap.size + 1, 1, none⟩ = some (.int .i64 keep) := h_18.out.at 1 _ rfl
  have zh := h_18.out.lt
  go_wp2_with (go_at_call 5; refine stop_here ?_)
  refine stop_on ?_
  clear qwi0 qwi1 qwi2 qwi3 qwi4 qwi5 qwi6 zwi qh0 qh1 zh
  refine (rMay_is 60 HR.out A_18.out).mono ?_
  rintro e w19 ⟨rfl, hx⟩
  have A_20 := Lib.hid (A_18.out.ext hx)
  have X_20 := Lib.hid (X_18.out.ext hx)
  have wi_20 := Lib.hid (wi_18.out.ext hx)
  have h_20 := Lib.hid (h_18.out.ext hx)
  clear A_18 X_18 wi_18 h_18
  clear hx
  have zwi := wi_20.out.lt
  have qh0 : w19.cell? ⟨w.heap.size + 1, 0, none⟩ = some (.slice R n q) := h_20.out.at 0 _ rfl
  have qh1 : w19.cell? ⟨w.heap.size + 1, 1, none⟩ = some (.int .i64 keep) := h_20.out.at 1 _ rfl
  have zh := h_20.out.lt
  go_wp2_with (go_at_call 6; refine stop_here ?_)
  refine stop_on ?_
  clear zwi qh0 qh1 zh
  refine (pDel_is (by decide) HM.out HP1.out A_20.out).mono ?_
  rintro e w21 ⟨S1, t1, rfl, h3, hx⟩
  have A_22 := Lib.hid (A_20.out.ext hx)
  have X_22 := Lib.hid (X_20.out.ext hx)
  have wi_22 := Lib.hid (wi_20.out.ext hx)
  have h_22 := Lib.hid (h_20.out.ext hx)
  clear A_20 X_20 wi_20 h_20
  have B_23 := Lib.hid h3
  clear hx h3
  have zwi := wi_22.out.lt
  have qh0 : w21.cell? ⟨w.heap.size + 1, 0, none⟩ = some (.slice R n q) := h_22.out.at 0 _ rfl
  have qh1 : w21.cell? ⟨w.heap.size + 1, 1, none⟩ = some (.int .i64 keep) := h_22.out.at 1 _ rfl
  have zh := h_22.out.lt
  go_wp2_with (go_at_call 7; refine stop_here ?_)
  refine stop_on ?_
  clear zwi qh0 qh1 zh
  generalize hW : (World.alloc w21 _) = W24
  obtain ⟨hx, hb0⟩ := allocs1 hW
  clear hW
  have A_25 := Lib.hid (A_22.out.ext hx)
  have X_25 := Lib.hid (X_22.out.ext hx)
  have wi_25 := Lib.hid (wi_22.out.ext hx)
  have h_25 := Lib.hid (h_22.out.ext hx)
  have B_25 := Lib.hid (B_23.out.ext hx)
  clear A_22 X_22 wi_22 h_22 B_23
  have a_26 := Lib.hid hb0
  clear hx hb0
  refine (rDel_is (by decide) HM.out HP1.out A_25.out).mono ?_
  rintro e w27 ⟨S2, t2, rfl, h3, hx⟩
  have A_28 := Lib.hid (A_25.out.ext hx)
  have X_28 := Lib.hid (X_25.out.ext hx)
  have wi_28 := Lib.hid (wi_25.out.ext hx)
  have h_28 := Lib.hid (h_25.out.ext hx)
  have B_28 := Lib.hid (B_25.out.ext hx)
  have a_28 := Lib.hid (a_26.out.ext hx)
  clear A_25 X_25 wi_25 h_25 B_25 a_26
  have C_29 := Lib.hid h3
  clear hx h3
  have zwi := wi_28.out.lt
  have qh0 : w27.cell? ⟨w.heap.size + 1, 0, none⟩ = some (.slice R n q) := h_28.out.at 0 _ rfl
  have qh1 : w27.cell? ⟨w.heap.size + 1, 1, none⟩ = some (.int .i64 keep) := h_28.out.at 1 _ rfl
  have zh := h_28.out.lt
  have qa0 : w27.cell? ⟨w21.heap.size, 0, none⟩ = some (.slice S1 n t1) := a_28.out.at 0 _ rfl
  have qa1 : w27.cell? ⟨w21.heap.size, 1, none⟩ = some (.int .i64 keep) := a_28.out.at 1 _ rfl
  have za := a_28.out.lt
  go_wp2_with (go_at_call 8; refine stop_here ?_)
  refine stop_on ?_
  clear zwi qh0 qh1 zh qa0 qa1 za
  generalize hW : (World.alloc w27 _) = W30
  obtain ⟨hx, hb0⟩ := allocs1 hW
  clear hW
  have A_31 := Lib.hid (A_28.out.ext hx)
  have X_31 := Lib.hid (X_28.out.ext hx)
  have wi_31 := Lib.hid (wi_28.out.ext hx)
  have h_31 := Lib.hid (h_28.out.ext hx)
  have B_31 := Lib.hid (B_28.out.ext hx)
  have a_31 := Lib.hid (a_28.out.ext hx)
  have C_31 := Lib.hid (C_29.out.ext hx)
  clear A_28 X_28 wi_28 h_28 B_28 a_28 C_29
  have b_32 := Lib.hid hb0
  clear hx hb0
  refine (pLow_is HM.out HP3.out A_31.out).mono ?_
  rintro e w33 ⟨S3, t3, rfl, h3, hx⟩
  have A_34 := Lib.hid (A_31.out.ext hx)
  have X_34 := Lib.hid (X_31.out.ext hx)
  have wi_34 := Lib.hid (wi_31.out.ext hx)
  have h_34 := Lib.hid (h_31.out.ext hx)
  have B_34 := Lib.hid (B_31.out.ext hx)
  have a_34 := Lib.hid (a_31.out.ext hx)
  have C_34 := Lib.hid (C_31.out.ext hx)
  have b_34 := Lib.hid (b_32.out.ext hx)
  clear A_31 X_31 wi_31 h_31 B_31 a_31 C_31 b_32
  have D_35 := Lib.hid h3
  clear hx h3
  have zwi := wi_34.out.lt
  have qh0 : w33.cell? ⟨w.heap.size + 1, 0, none⟩ = some (.slice R n q) := h_34.out.at 0 _ rfl
  have qh1 : w33.cell? ⟨w.heap.size + 1, 1, none⟩ = some (.int .i64 keep) := h_34.out.at 1 _ rfl
  have zh := h_34.out.lt
  have qa0 : w33.cell? ⟨w21.heap.size, 0, none⟩ = some (.slice S1 n t1) := a_34.out.at 0 _ rfl
  have qa1 : w33.cell? ⟨w21.heap.size, 1, none⟩ = some (.int .i64 keep) := a_34.out.at 1 _ rfl
  have za := a_34.out.lt
  have qb0 : w33.cell? ⟨w27.heap.size, 0, none⟩ = some (.slice S2 n t2) := b_34.out.at 0 _ rfl
  have qb1 : w33.cell? ⟨w27.heap.size, 1, none⟩ = some (.int .i64 keep) := b_34.out.at 1 _ rfl
  have zb := b_34.out.lt
  go_wp2_with (go_at_call 9; refine stop_here ?_)
  refine stop_on ?_
  clear zwi qh0 qh1 zh qa0 qa1 za qb0 qb1 zb
  generalize hW : (World.alloc w33 _) = W36
  obtain ⟨hx, hb0⟩ := allocs1 hW
  clear hW
  have A_37 := Lib.hid (A_34.out.ext hx)
  have X_37 := Lib.hid (X_34.out.ext hx)
  have wi_37 := Lib.hid (wi_34.out.ext hx)
  have h_37 := Lib.hid (h_34.out.ext hx)
  have B_37 := Lib.hid (B_34.out.ext hx)
  have a_37 := Lib.hid (a_34.out.ext hx)
  have C_37 := Lib.hid (C_34.out.ext hx)
  have b_37 := Lib.hid (b_34.out.ext hx)
  have D_37 := Lib.hid (D_35.out.ext hx)
  clear A_34 X_34 wi_34 h_34 B_34 a_34 C_34 b_34 D_35
  have c_38 := Lib.hid hb0
  clear hx hb0
  refine (rLow_is HM.out HP3.out A_37.out).mono ?_
  rintro e w39 ⟨S4, t4, rfl, h3, hx⟩
  have A_40 := Lib.hid (A_37.out.ext hx)
  have X_40 := Lib.hid (X_37.out.ext hx)
  have wi_40 := Lib.hid (wi_37.out.ext hx)
  have h_40 := Lib.hid (h_37.out.ext hx)
  have B_40 := Lib.hid (B_37.out.ext hx)
  have a_40 := Lib.hid (a_37.out.ext hx)
  have C_40 := Lib.hid (C_37.out.ext hx)
  have b_40 := Lib.hid (b_37.out.ext hx)
  have D_40 := Lib.hid (D_37.out.ext hx)
  have c_40 := Lib.hid (c_38.out.ext hx)
  clear A_37 X_37 wi_37 h_37 B_37 a_37 C_37 b_37 D_37 c_38
  have E_41 := Lib.hid h3
  clear hx h3
  have zwi := wi_40.out.lt
  have qh0 : w39.cell? ⟨w.heap.size + 1, 0, none⟩ = some (.slice R n q) := h_40.out.at 0 _ rfl
  have qh1 : w39.cell? ⟨w.heap.size + 1, 1, none⟩ = some (.int .i64 keep) := h_40.out.at 1 _ rfl
  have zh := h_40.out.lt
  have qa0 : w39.cell? ⟨w21.heap.size, 0, none⟩ = some (.slice S1 n t1) := a_40.out.at 0 _ rfl
  have qa1 : w39.cell? ⟨w21.heap.size, 1, none⟩ = some (.int .i64 keep) := a_40.out.at 1 _ rfl
  have za := a_40.out.lt
  have qb0 : w39.cell? ⟨w27.heap.size, 0, none⟩ = some (.slice S2 n t2) := b_40.out.at 0 _ rfl
  have qb1 : w39.cell? ⟨w27.heap.size, 1, none⟩ = some (.int .i64 keep) := b_40.out.at 1 _ rfl
  have zb := b_40.out.lt
  have qc0 : w39.cell? ⟨w33.heap.size, 0, none⟩ = some (.slice S3 n t3) := c_40.out.at 0 _ rfl
  have qc1 : w39.cell? ⟨w33.heap.size, 1, none⟩ = some (.int .i64 keep) := c_40.out.at 1 _ rfl
  have zc := c_40.out.lt
  go_wp2_with (go_at_call 10; refine stop_here ?_)
  refine stop_on ?_
  clear zwi qh0 qh1 zh qa0 qa1 za qb0 qb1 zb qc0 qc1 zc
  generalize hW : (World.alloc w39 _) = W42
  obtain ⟨hx, hb0⟩ := allocs1 hW
  clear hW
  have A_43 := Lib.hid (A_40.out.ext hx)
  have X_43 := Lib.hid (X_40.out.ext hx)
  have wi_43 := Lib.hid (wi_40.out.ext hx)
  have h_43 := Lib.hid (h_40.out.ext hx)
  have B_43 := Lib.hid (B_40.out.ext hx)
  have a_43 := Lib.hid (a_40.out.ext hx)
  have C_43 := Lib.hid (C_40.out.ext hx)
  have b_43 := Lib.hid (b_40.out.ext hx)
  have D_43 := Lib.hid (D_40.out.ext hx)
  have c_43 := Lib.hid (c_40.out.ext hx)
  have E_43 := Lib.hid (E_41.out.ext hx)
  clear A_40 X_40 wi_40 h_40 B_40 a_40 C_40 b_40 D_40 c_40 E_41
  have d_44 := Lib.hid hb0
  clear hx hb0
  refine (rSame_is S2 n t2 B_43.out C_43.out).mono ?_
  rintro e w45 ⟨rfl, hx⟩
  have A_46 := Lib.hid (A_43.out.ext hx)
  have X_46 := Lib.hid (X_43.out.ext hx)
  have wi_46 := Lib.hid (wi_43.out.ext hx)
  have h_46 := Lib.hid (h_43.out.ext hx)
  have B_46 := Lib.hid (B_43.out.ext hx)
  have a_46 := Lib.hid (a_43.out.ext hx)
  have C_46 := Lib.hid (C_43.out.ext hx)
  have b_46 := Lib.hid (b_43.out.ext hx)
  have D_46 := Lib.hid (D_43.out.ext hx)
  have c_46 := Lib.hid (c_43.out.ext hx)
  have E_46 := Lib.hid (E_43.out.ext hx)
  have d_46 := Lib.hid (d_44.out.ext hx)
  clear A_43 X_43 wi_43 h_43 B_43 a_43 C_43 b_43 D_43 c_43 E_43 d_44
  clear hx
  have zwi := wi_46.out.lt
  have qh0 : w45.cell? ⟨w.heap.size + 1, 0, none⟩ = some (.slice R n q) := h_46.out.at 0 _ rfl
  have qh1 : w45.cell? ⟨w.heap.size + 1, 1, none⟩ = some (.int .i64 keep) := h_46.out.at 1 _ rfl
  have zh := h_46.out.lt
  have qa0 : w45.cell? ⟨w21.heap.size, 0, none⟩ = some (.slice S1 n t1) := a_46.out.at 0 _ rfl
  have qa1 : w45.cell? ⟨w21.heap.size, 1, none⟩ = some (.int .i64 keep) := a_46.out.at 1 _ rfl
  have za := a_46.out.lt
  have qb0 : w45.cell? ⟨w27.heap.size, 0, none⟩ = some (.slice S2 n t2) := b_46.out.at 0 _ rfl
  have qb1 : w45.cell? ⟨w27.heap.size, 1, none⟩ = some (.int .i64 keep) := b_46.out.at 1 _ rfl
  have zb := b_46.out.lt
  have qc0 : w45.cell? ⟨w33.heap.size, 0, none⟩ = some (.slice S3 n t3) := c_46.out.at 0 _ rfl
  have qc1 : w45.cell? ⟨w33.heap.size, 1, none⟩ = some (.int .i64 keep) := c_46.out.at 1 _ rfl
  have zc := c_46.out.lt
  have qd0 : w45.cell? ⟨w39.heap.size, 0, none⟩ = some (.slice S4 n t4) := d_46.out.at 0 _ rfl
  have qd1 : w45.cell? ⟨w39.heap.size, 1, none⟩ = some (.int .i64 keep) := d_46.out.at 1 _ rfl
  have zd := d_46.out.lt
  go_wp2_with (go_at_call 10; refine stop_here ?_)
  refine stop_on ?_
  clear zwi qh0 qh1 zh qa0 qa1 za qb0 qb1 zb qc0 qc1 zc qd0 qd1 zd
  refine (rSame_is S4 n t4 D_46.out E_46.out).mono ?_
  rintro e w47 ⟨rfl, hx⟩
  have A_48 := Lib.hid (A_46.out.ext hx)
  have X_48 := Lib.hid (X_46.out.ext hx)
  have wi_48 := Lib.hid (wi_46.out.ext hx)
  have h_48 := Lib.hid (h_46.out.ext hx)
  have B_48 := Lib.hid (B_46.out.ext hx)
  have a_48 := Lib.hid (a_46.out.ext hx)
  have C_48 := Lib.hid (C_46.out.ext hx)
  have b_48 := Lib.hid (b_46.out.ext hx)
  have D_48 := Lib.hid (D_46.out.ext hx)
  have c_48 := Lib.hid (c_46.out.ext hx)
  have E_48 := Lib.hid (E_46.out.ext hx)
  have d_48 := Lib.hid (d_46.out.ext hx)
  clear A_46 X_46 wi_46 h_46 B_46 a_46 C_46 b_46 D_46 c_46 E_46 d_46
  clear hx
  have zwi := wi_48.out.lt
  have qh0 : w47.cell? ⟨w.heap.size + 1, 0, none⟩ = some (.slice R n q) := h_48.out.at 0 _ rfl
  have qh1 : w47.cell? ⟨w.heap.size + 1, 1, none⟩ = some (.int .i64 keep) := h_48.out.at 1 _ rfl
  have zh := h_48.out.lt
  have qa0 : w47.cell? ⟨w21.heap.size, 0, none⟩ = some (.slice S1 n t1) := a_48.out.at 0 _ rfl
  have qa1 : w47.cell? ⟨w21.heap.size, 1, none⟩ = some (.int .i64 keep) := a_48.out.at 1 _ rfl
  have za := a_48.out.lt
  have qb0 : w47.cell? ⟨w27.heap.size, 0, none⟩ = some (.slice S2 n t2) := b_48.out.at 0 _ rfl
  have qb1 : w47.cell? ⟨w27.heap.size, 1, none⟩ = some (.int .i64 keep) := b_48.out.at 1 _ rfl
  have zb := b_48.out.lt
  have qc0 : w47.cell? ⟨w33.heap.size, 0, none⟩ = some (.slice S3 n t3) := c_48.out.at 0 _ rfl
  have qc1 : w47.cell? ⟨w33.heap.size, 1, none⟩ = some (.int .i64 keep) := c_48.out.at 1 _ rfl
  have zc := c_48.out.lt
  have qd0 : w47.cell? ⟨w39.heap.size, 0, none⟩ = some (.slice S4 n t4) := d_48.out.at 0 _ rfl
  have qd1 : w47.cell? ⟨w39.heap.size, 1, none⟩ = some (.int .i64 keep) := d_48.out.at 1 _ rfl
  have zd := d_48.out.lt
  go_wp2_with (go_at_call 11; refine stop_here ?_)
  refine stop_on ?_
  clear zwi qh0 qh1 zh qa0 qa1 za qb0 qb1 zb qc0 qc1 zc qd0 qd1 zd
  generalize hW : (World.alloc w47 _) = W49
  obtain ⟨hx, hb0⟩ := allocs1 hW
  clear hW
  have A_50 := Lib.hid (A_48.out.ext hx)
  have X_50 := Lib.hid (X_48.out.ext hx)
  have wi_50 := Lib.hid (wi_48.out.ext hx)
  have h_50 := Lib.hid (h_48.out.ext hx)
  have B_50 := Lib.hid (B_48.out.ext hx)
  have a_50 := Lib.hid (a_48.out.ext hx)
  have C_50 := Lib.hid (C_48.out.ext hx)
  have b_50 := Lib.hid (b_48.out.ext hx)
  have D_50 := Lib.hid (D_48.out.ext hx)
  have c_50 := Lib.hid (c_48.out.ext hx)
  have E_50 := Lib.hid (E_48.out.ext hx)
  have d_50 := Lib.hid (d_48.out.ext hx)
  clear A_48 X_48 wi_48 h_48 B_48 a_48 C_48 b_48 D_48 c_48 E_48 d_48
  have rt_51 := Lib.hid hb0
  clear hx hb0
  refine (rFine_is _ 1 60 HF.out A_50.out (show Sl _ _ 1 1 ([root].map iv) from rt_51.out.slQ 1 (by unfold maxLen; omega))).mono ?_
  rintro e w52 ⟨rfl, hx⟩
  have A_53 := Lib.hid (A_50.out.ext hx)
  have X_53 := Lib.hid (X_50.out.ext hx)
  have wi_53 := Lib.hid (wi_50.out.ext hx)
  have h_53 := Lib.hid (h_50.out.ext hx)
  have B_53 := Lib.hid (B_50.out.ext hx)
  have a_53 := Lib.hid (a_50.out.ext hx)
  have C_53 := Lib.hid (C_50.out.ext hx)
  have b_53 := Lib.hid (b_50.out.ext hx)
  have D_53 := Lib.hid (D_50.out.ext hx)
  have c_53 := Lib.hid (c_50.out.ext hx)
  have E_53 := Lib.hid (E_50.out.ext hx)
  have d_53 := Lib.hid (d_50.out.ext hx)
  have rt_53 := Lib.hid (rt_51.out.ext hx)
  clear A_50 X_50 wi_50 h_50 B_50 a_50 C_50 b_50 D_50 c_50 E_50 d_50 rt_51
  clear hx
  have zwi := wi_53.out.lt
  have qh0 : w52.cell? ⟨w.heap.size + 1, 0, none⟩ = some (.slice R n q) := h_53.out.at 0 _ rfl
  have qh1 : w52.cell? ⟨w.heap.size + 1, 1, none⟩ = some (.int .i64 keep) := h_53.out.at 1 _ rfl
  have zh := h_53.out.lt
  have za := a_53.out.lt
  have zb := b_53.out.lt
  have zc := c_53.out.lt
  have zd := d_53.out.lt
  have qrt0 : w52.cell? ⟨w47.heap.size, 0, none⟩ = some (.int .i64 root) := rt_53.out.at 0 _ rfl
  have zrt := rt_53.out.lt
  go_wp2
  go_ret
  exact ⟨rfl, X_53.out⟩
set_option maxRecDepth 100000 in
set_option maxHeartbeats 4000000 in
theorem ptells_fine (R : Option Addr) (l : List HC) (n q : Nat) (keep root key lo hi mo : Int) (w : World) (hA : HcSl w R n q l) (hm : mayT ⟨l, keep⟩ root 60 = true) (c1 c3 : List HC) (r1 e1 r3 : Int) (hp1 : delR ⟨l, keep⟩ root key = (c1, r1, e1)) (hp3 : lowS 20 l root = (c3, r3)) (hf : fineB ⟨l, keep⟩ root 60 = true) (m : Nat) (hmo : mo % 8 = (m : Int)) (hm0 : 0 ≤ mo) (c2 : List HC) (r2 e2 : Int) (k : Nat) (hp2 : cutS keep lo hi m l root = (c2, r2, k, e2)) :
    Calls Tryz.prog 3 #[.agg #[.slice R n q, .int .i64 keep, .int .i64 root, .int .i64 key, .int .i64 lo, .int .i64 hi, .int .u8 mo]] w fun e w' => e = .returned (.bool true) ∧ Ext w w' := by
  have A_54 := Lib.hid (hA)
  have X_55 := Lib.hid (Ext.refl w)
  clear hA
  have HM := Lib.hid hm
  have HR := Lib.hid (show mayR ⟨l, keep⟩ root 60 = true from hm)
  have HP1 := Lib.hid hp1
  have HP3 := Lib.hid hp3
  have HF := Lib.hid hf
  have htm : mo.tmod 8 = (m : Int) := by rw [Int.tmod_eq_emod_of_nonneg hm0, hmo]
  have hm16 : m < 8 := by have := Int.emod_lt_of_pos mo (show (0 : Int) < 8 by omega); omega
  have hwu : IntKind.u8.wrap (m : Int) = (m : Int) := by rw [IntKind.wrap_u8]; omega
  have hwi : IntKind.i64.wrap (m : Int) = (m : Int) := by rw [IntKind.wrap_i64]; omega
  have HM1 := Lib.hid (show m ≤ 1000 by omega)
  have HP2 := Lib.hid hp2
  clear hm hp1 hp3 hf hmo hm0 hm16 hp2
  go_enter Tryz.func3, Tryz.ntmps3
  go_wp2_with (go_at_call 4; refine stop_here ?_)
  refine stop_on ?_
  generalize hW : (World.alloc (World.alloc w _) _) = W56
  obtain ⟨hx, hb0, hb1⟩ := allocs2 hW
  clear hW
  have A_57 := Lib.hid (A_54.out.ext hx)
  have X_57 := Lib.hid (X_55.out.ext hx)
  clear A_54 X_55
  have wi_58 := Lib.hid hb0
  have h_59 := Lib.hid hb1
  clear hx hb0 hb1
  refine (shown_any _).mono ?_
  rintro e w60 ⟨rfl, hx⟩
  have A_61 := Lib.hid (A_57.out.ext hx)
  have X_61 := Lib.hid (X_57.out.ext hx)
  have wi_61 := Lib.hid (wi_58.out.ext hx)
  have h_61 := Lib.hid (h_59.out.ext hx)
  clear A_57 X_57 wi_58 h_59
  clear hx
  have qwi0 : w60.cell? ⟨w.heap.size, 0, none⟩ = some (.slice R n q) := wi_61.out.at 0 _ rfl
  have qwi1 : w60.cell? ⟨w.heap.size, 1, none⟩ = some (.int .i64 keep) := wi_61.out.at 1 _ rfl
  have qwi2 : w60.cell? ⟨w.heap.size, 2, none⟩ = some (.int .i64 root) := wi_61.out.at 2 _ rfl
  have qwi3 : w60.cell? ⟨w.heap.size, 3, none⟩ = some (.int .i64 key) := wi_61.out.at 3 _ rfl
  have qwi4 : w60.cell? ⟨w.heap.size, 4, none⟩ = some (.int .i64 lo) := wi_61.out.at 4 _ rfl
  have qwi5 : w60.cell? ⟨w.heap.size, 5, none⟩ = some (.int .i64 hi) := wi_61.out.at 5 _ rfl
  have qwi6 : w60.cell? ⟨w.heap.size, 6, none⟩ = some (.int .u8 mo) := wi_61.out.at 6 _ rfl
  have zwi := wi_61.out.lt
  have qh0 : w60.cell? ⟨w.heap.size + 1, 0, none⟩ = some (.slice R n q) := h_61.out.at 0 _ rfl
  have qh1 : w60.cell? ⟨w.heap.size + 1, 1, none⟩ = some (.int .i64 keep) := h_61.out.at 1 _ rfl
  have zh := h_61.out.lt
  go_wp2_with (go_at_call 5; refine stop_here ?_)
  refine stop_on ?_
  clear qwi0 qwi1 qwi2 qwi3 qwi4 qwi5 qwi6 zwi qh0 qh1 zh
  refine (rMay_is 60 HR.out A_61.out).mono ?_
  rintro e w62 ⟨rfl, hx⟩
  have A_63 := Lib.hid (A_61.out.ext hx)
  have X_63 := Lib.hid (X_61.out.ext hx)
  have wi_63 := Lib.hid (wi_61.out.ext hx)
  have h_63 := Lib.hid (h_61.out.ext hx)
  clear A_61 X_61 wi_61 h_61
  clear hx
  have zwi := wi_63.out.lt
  have qh0 : w62.cell? ⟨w.heap.size + 1, 0, none⟩ = some (.slice R n q) := h_63.out.at 0 _ rfl
  have qh1 : w62.cell? ⟨w.heap.size + 1, 1, none⟩ = some (.int .i64 keep) := h_63.out.at 1 _ rfl
  have zh := h_63.out.lt
  go_wp2_with (go_at_call 6; refine stop_here ?_)
  refine stop_on ?_
  clear zwi qh0 qh1 zh
  refine (pDel_is (by decide) HM.out HP1.out A_63.out).mono ?_
  rintro e w64 ⟨S1, t1, rfl, h3, hx⟩
  have A_65 := Lib.hid (A_63.out.ext hx)
  have X_65 := Lib.hid (X_63.out.ext hx)
  have wi_65 := Lib.hid (wi_63.out.ext hx)
  have h_65 := Lib.hid (h_63.out.ext hx)
  clear A_63 X_63 wi_63 h_63
  have B_66 := Lib.hid h3
  clear hx h3
  have zwi := wi_65.out.lt
  have qh0 : w64.cell? ⟨w.heap.size + 1, 0, none⟩ = some (.slice R n q) := h_65.out.at 0 _ rfl
  have qh1 : w64.cell? ⟨w.heap.size + 1, 1, none⟩ = some (.int .i64 keep) := h_65.out.at 1 _ rfl
  have zh := h_65.out.lt
  go_wp2_with (go_at_call 7; refine stop_here ?_)
  refine stop_on ?_
  clear zwi qh0 qh1 zh
  generalize hW : (World.alloc w64 _) = W67
  obtain ⟨hx, hb0⟩ := allocs1 hW
  clear hW
  have A_68 := Lib.hid (A_65.out.ext hx)
  have X_68 := Lib.hid (X_65.out.ext hx)
  have wi_68 := Lib.hid (wi_65.out.ext hx)
  have h_68 := Lib.hid (h_65.out.ext hx)
  have B_68 := Lib.hid (B_66.out.ext hx)
  clear A_65 X_65 wi_65 h_65 B_66
  have a_69 := Lib.hid hb0
  clear hx hb0
  refine (rDel_is (by decide) HM.out HP1.out A_68.out).mono ?_
  rintro e w70 ⟨S2, t2, rfl, h3, hx⟩
  have A_71 := Lib.hid (A_68.out.ext hx)
  have X_71 := Lib.hid (X_68.out.ext hx)
  have wi_71 := Lib.hid (wi_68.out.ext hx)
  have h_71 := Lib.hid (h_68.out.ext hx)
  have B_71 := Lib.hid (B_68.out.ext hx)
  have a_71 := Lib.hid (a_69.out.ext hx)
  clear A_68 X_68 wi_68 h_68 B_68 a_69
  have C_72 := Lib.hid h3
  clear hx h3
  have zwi := wi_71.out.lt
  have qh0 : w70.cell? ⟨w.heap.size + 1, 0, none⟩ = some (.slice R n q) := h_71.out.at 0 _ rfl
  have qh1 : w70.cell? ⟨w.heap.size + 1, 1, none⟩ = some (.int .i64 keep) := h_71.out.at 1 _ rfl
  have zh := h_71.out.lt
  have qa0 : w70.cell? ⟨w64.heap.size, 0, none⟩ = some (.slice S1 n t1) := a_71.out.at 0 _ rfl
  have qa1 : w70.cell? ⟨w64.heap.size, 1, none⟩ = some (.int .i64 keep) := a_71.out.at 1 _ rfl
  have za := a_71.out.lt
  go_wp2_with (go_at_call 8; refine stop_here ?_)
  refine stop_on ?_
  clear zwi qh0 qh1 zh qa0 qa1 za
  generalize hW : (World.alloc w70 _) = W73
  obtain ⟨hx, hb0⟩ := allocs1 hW
  clear hW
  have A_74 := Lib.hid (A_71.out.ext hx)
  have X_74 := Lib.hid (X_71.out.ext hx)
  have wi_74 := Lib.hid (wi_71.out.ext hx)
  have h_74 := Lib.hid (h_71.out.ext hx)
  have B_74 := Lib.hid (B_71.out.ext hx)
  have a_74 := Lib.hid (a_71.out.ext hx)
  have C_74 := Lib.hid (C_72.out.ext hx)
  clear A_71 X_71 wi_71 h_71 B_71 a_71 C_72
  have b_75 := Lib.hid hb0
  clear hx hb0
  refine (pLow_is HM.out HP3.out A_74.out).mono ?_
  rintro e w76 ⟨S3, t3, rfl, h3, hx⟩
  have A_77 := Lib.hid (A_74.out.ext hx)
  have X_77 := Lib.hid (X_74.out.ext hx)
  have wi_77 := Lib.hid (wi_74.out.ext hx)
  have h_77 := Lib.hid (h_74.out.ext hx)
  have B_77 := Lib.hid (B_74.out.ext hx)
  have a_77 := Lib.hid (a_74.out.ext hx)
  have C_77 := Lib.hid (C_74.out.ext hx)
  have b_77 := Lib.hid (b_75.out.ext hx)
  clear A_74 X_74 wi_74 h_74 B_74 a_74 C_74 b_75
  have D_78 := Lib.hid h3
  clear hx h3
  have zwi := wi_77.out.lt
  have qh0 : w76.cell? ⟨w.heap.size + 1, 0, none⟩ = some (.slice R n q) := h_77.out.at 0 _ rfl
  have qh1 : w76.cell? ⟨w.heap.size + 1, 1, none⟩ = some (.int .i64 keep) := h_77.out.at 1 _ rfl
  have zh := h_77.out.lt
  have qa0 : w76.cell? ⟨w64.heap.size, 0, none⟩ = some (.slice S1 n t1) := a_77.out.at 0 _ rfl
  have qa1 : w76.cell? ⟨w64.heap.size, 1, none⟩ = some (.int .i64 keep) := a_77.out.at 1 _ rfl
  have za := a_77.out.lt
  have qb0 : w76.cell? ⟨w70.heap.size, 0, none⟩ = some (.slice S2 n t2) := b_77.out.at 0 _ rfl
  have qb1 : w76.cell? ⟨w70.heap.size, 1, none⟩ = some (.int .i64 keep) := b_77.out.at 1 _ rfl
  have zb := b_77.out.lt
  go_wp2_with (go_at_call 9; refine stop_here ?_)
  refine stop_on ?_
  clear zwi qh0 qh1 zh qa0 qa1 za qb0 qb1 zb
  generalize hW : (World.alloc w76 _) = W79
  obtain ⟨hx, hb0⟩ := allocs1 hW
  clear hW
  have A_80 := Lib.hid (A_77.out.ext hx)
  have X_80 := Lib.hid (X_77.out.ext hx)
  have wi_80 := Lib.hid (wi_77.out.ext hx)
  have h_80 := Lib.hid (h_77.out.ext hx)
  have B_80 := Lib.hid (B_77.out.ext hx)
  have a_80 := Lib.hid (a_77.out.ext hx)
  have C_80 := Lib.hid (C_77.out.ext hx)
  have b_80 := Lib.hid (b_77.out.ext hx)
  have D_80 := Lib.hid (D_78.out.ext hx)
  clear A_77 X_77 wi_77 h_77 B_77 a_77 C_77 b_77 D_78
  have c_81 := Lib.hid hb0
  clear hx hb0
  refine (rLow_is HM.out HP3.out A_80.out).mono ?_
  rintro e w82 ⟨S4, t4, rfl, h3, hx⟩
  have A_83 := Lib.hid (A_80.out.ext hx)
  have X_83 := Lib.hid (X_80.out.ext hx)
  have wi_83 := Lib.hid (wi_80.out.ext hx)
  have h_83 := Lib.hid (h_80.out.ext hx)
  have B_83 := Lib.hid (B_80.out.ext hx)
  have a_83 := Lib.hid (a_80.out.ext hx)
  have C_83 := Lib.hid (C_80.out.ext hx)
  have b_83 := Lib.hid (b_80.out.ext hx)
  have D_83 := Lib.hid (D_80.out.ext hx)
  have c_83 := Lib.hid (c_81.out.ext hx)
  clear A_80 X_80 wi_80 h_80 B_80 a_80 C_80 b_80 D_80 c_81
  have E_84 := Lib.hid h3
  clear hx h3
  have zwi := wi_83.out.lt
  have qh0 : w82.cell? ⟨w.heap.size + 1, 0, none⟩ = some (.slice R n q) := h_83.out.at 0 _ rfl
  have qh1 : w82.cell? ⟨w.heap.size + 1, 1, none⟩ = some (.int .i64 keep) := h_83.out.at 1 _ rfl
  have zh := h_83.out.lt
  have qa0 : w82.cell? ⟨w64.heap.size, 0, none⟩ = some (.slice S1 n t1) := a_83.out.at 0 _ rfl
  have qa1 : w82.cell? ⟨w64.heap.size, 1, none⟩ = some (.int .i64 keep) := a_83.out.at 1 _ rfl
  have za := a_83.out.lt
  have qb0 : w82.cell? ⟨w70.heap.size, 0, none⟩ = some (.slice S2 n t2) := b_83.out.at 0 _ rfl
  have qb1 : w82.cell? ⟨w70.heap.size, 1, none⟩ = some (.int .i64 keep) := b_83.out.at 1 _ rfl
  have zb := b_83.out.lt
  have qc0 : w82.cell? ⟨w76.heap.size, 0, none⟩ = some (.slice S3 n t3) := c_83.out.at 0 _ rfl
  have qc1 : w82.cell? ⟨w76.heap.size, 1, none⟩ = some (.int .i64 keep) := c_83.out.at 1 _ rfl
  have zc := c_83.out.lt
  go_wp2_with (go_at_call 10; refine stop_here ?_)
  refine stop_on ?_
  clear zwi qh0 qh1 zh qa0 qa1 za qb0 qb1 zb qc0 qc1 zc
  generalize hW : (World.alloc w82 _) = W85
  obtain ⟨hx, hb0⟩ := allocs1 hW
  clear hW
  have A_86 := Lib.hid (A_83.out.ext hx)
  have X_86 := Lib.hid (X_83.out.ext hx)
  have wi_86 := Lib.hid (wi_83.out.ext hx)
  have h_86 := Lib.hid (h_83.out.ext hx)
  have B_86 := Lib.hid (B_83.out.ext hx)
  have a_86 := Lib.hid (a_83.out.ext hx)
  have C_86 := Lib.hid (C_83.out.ext hx)
  have b_86 := Lib.hid (b_83.out.ext hx)
  have D_86 := Lib.hid (D_83.out.ext hx)
  have c_86 := Lib.hid (c_83.out.ext hx)
  have E_86 := Lib.hid (E_84.out.ext hx)
  clear A_83 X_83 wi_83 h_83 B_83 a_83 C_83 b_83 D_83 c_83 E_84
  have d_87 := Lib.hid hb0
  clear hx hb0
  refine (rSame_is S2 n t2 B_86.out C_86.out).mono ?_
  rintro e w88 ⟨rfl, hx⟩
  have A_89 := Lib.hid (A_86.out.ext hx)
  have X_89 := Lib.hid (X_86.out.ext hx)
  have wi_89 := Lib.hid (wi_86.out.ext hx)
  have h_89 := Lib.hid (h_86.out.ext hx)
  have B_89 := Lib.hid (B_86.out.ext hx)
  have a_89 := Lib.hid (a_86.out.ext hx)
  have C_89 := Lib.hid (C_86.out.ext hx)
  have b_89 := Lib.hid (b_86.out.ext hx)
  have D_89 := Lib.hid (D_86.out.ext hx)
  have c_89 := Lib.hid (c_86.out.ext hx)
  have E_89 := Lib.hid (E_86.out.ext hx)
  have d_89 := Lib.hid (d_87.out.ext hx)
  clear A_86 X_86 wi_86 h_86 B_86 a_86 C_86 b_86 D_86 c_86 E_86 d_87
  clear hx
  have zwi := wi_89.out.lt
  have qh0 : w88.cell? ⟨w.heap.size + 1, 0, none⟩ = some (.slice R n q) := h_89.out.at 0 _ rfl
  have qh1 : w88.cell? ⟨w.heap.size + 1, 1, none⟩ = some (.int .i64 keep) := h_89.out.at 1 _ rfl
  have zh := h_89.out.lt
  have qa0 : w88.cell? ⟨w64.heap.size, 0, none⟩ = some (.slice S1 n t1) := a_89.out.at 0 _ rfl
  have qa1 : w88.cell? ⟨w64.heap.size, 1, none⟩ = some (.int .i64 keep) := a_89.out.at 1 _ rfl
  have za := a_89.out.lt
  have qb0 : w88.cell? ⟨w70.heap.size, 0, none⟩ = some (.slice S2 n t2) := b_89.out.at 0 _ rfl
  have qb1 : w88.cell? ⟨w70.heap.size, 1, none⟩ = some (.int .i64 keep) := b_89.out.at 1 _ rfl
  have zb := b_89.out.lt
  have qc0 : w88.cell? ⟨w76.heap.size, 0, none⟩ = some (.slice S3 n t3) := c_89.out.at 0 _ rfl
  have qc1 : w88.cell? ⟨w76.heap.size, 1, none⟩ = some (.int .i64 keep) := c_89.out.at 1 _ rfl
  have zc := c_89.out.lt
  have qd0 : w88.cell? ⟨w82.heap.size, 0, none⟩ = some (.slice S4 n t4) := d_89.out.at 0 _ rfl
  have qd1 : w88.cell? ⟨w82.heap.size, 1, none⟩ = some (.int .i64 keep) := d_89.out.at 1 _ rfl
  have zd := d_89.out.lt
  go_wp2_with (go_at_call 10; refine stop_here ?_)
  refine stop_on ?_
  clear zwi qh0 qh1 zh qa0 qa1 za qb0 qb1 zb qc0 qc1 zc qd0 qd1 zd
  refine (rSame_is S4 n t4 D_89.out E_89.out).mono ?_
  rintro e w90 ⟨rfl, hx⟩
  have A_91 := Lib.hid (A_89.out.ext hx)
  have X_91 := Lib.hid (X_89.out.ext hx)
  have wi_91 := Lib.hid (wi_89.out.ext hx)
  have h_91 := Lib.hid (h_89.out.ext hx)
  have B_91 := Lib.hid (B_89.out.ext hx)
  have a_91 := Lib.hid (a_89.out.ext hx)
  have C_91 := Lib.hid (C_89.out.ext hx)
  have b_91 := Lib.hid (b_89.out.ext hx)
  have D_91 := Lib.hid (D_89.out.ext hx)
  have c_91 := Lib.hid (c_89.out.ext hx)
  have E_91 := Lib.hid (E_89.out.ext hx)
  have d_91 := Lib.hid (d_89.out.ext hx)
  clear A_89 X_89 wi_89 h_89 B_89 a_89 C_89 b_89 D_89 c_89 E_89 d_89
  clear hx
  have zwi := wi_91.out.lt
  have qh0 : w90.cell? ⟨w.heap.size + 1, 0, none⟩ = some (.slice R n q) := h_91.out.at 0 _ rfl
  have qh1 : w90.cell? ⟨w.heap.size + 1, 1, none⟩ = some (.int .i64 keep) := h_91.out.at 1 _ rfl
  have zh := h_91.out.lt
  have qa0 : w90.cell? ⟨w64.heap.size, 0, none⟩ = some (.slice S1 n t1) := a_91.out.at 0 _ rfl
  have qa1 : w90.cell? ⟨w64.heap.size, 1, none⟩ = some (.int .i64 keep) := a_91.out.at 1 _ rfl
  have za := a_91.out.lt
  have qb0 : w90.cell? ⟨w70.heap.size, 0, none⟩ = some (.slice S2 n t2) := b_91.out.at 0 _ rfl
  have qb1 : w90.cell? ⟨w70.heap.size, 1, none⟩ = some (.int .i64 keep) := b_91.out.at 1 _ rfl
  have zb := b_91.out.lt
  have qc0 : w90.cell? ⟨w76.heap.size, 0, none⟩ = some (.slice S3 n t3) := c_91.out.at 0 _ rfl
  have qc1 : w90.cell? ⟨w76.heap.size, 1, none⟩ = some (.int .i64 keep) := c_91.out.at 1 _ rfl
  have zc := c_91.out.lt
  have qd0 : w90.cell? ⟨w82.heap.size, 0, none⟩ = some (.slice S4 n t4) := d_91.out.at 0 _ rfl
  have qd1 : w90.cell? ⟨w82.heap.size, 1, none⟩ = some (.int .i64 keep) := d_91.out.at 1 _ rfl
  have zd := d_91.out.lt
  go_wp2_with (go_at_call 11; refine stop_here ?_)
  refine stop_on ?_
  clear zwi qh0 qh1 zh qa0 qa1 za qb0 qb1 zb qc0 qc1 zc qd0 qd1 zd
  generalize hW : (World.alloc w90 _) = W92
  obtain ⟨hx, hb0⟩ := allocs1 hW
  clear hW
  have A_93 := Lib.hid (A_91.out.ext hx)
  have X_93 := Lib.hid (X_91.out.ext hx)
  have wi_93 := Lib.hid (wi_91.out.ext hx)
  have h_93 := Lib.hid (h_91.out.ext hx)
  have B_93 := Lib.hid (B_91.out.ext hx)
  have a_93 := Lib.hid (a_91.out.ext hx)
  have C_93 := Lib.hid (C_91.out.ext hx)
  have b_93 := Lib.hid (b_91.out.ext hx)
  have D_93 := Lib.hid (D_91.out.ext hx)
  have c_93 := Lib.hid (c_91.out.ext hx)
  have E_93 := Lib.hid (E_91.out.ext hx)
  have d_93 := Lib.hid (d_91.out.ext hx)
  clear A_91 X_91 wi_91 h_91 B_91 a_91 C_91 b_91 D_91 c_91 E_91 d_91
  have rt_94 := Lib.hid hb0
  clear hx hb0
  refine (rFine_is _ 1 60 HF.out A_93.out (show Sl _ _ 1 1 ([root].map iv) from rt_94.out.slQ 1 (by unfold maxLen; omega))).mono ?_
  rintro e w95 ⟨rfl, hx⟩
  have A_96 := Lib.hid (A_93.out.ext hx)
  have X_96 := Lib.hid (X_93.out.ext hx)
  have wi_96 := Lib.hid (wi_93.out.ext hx)
  have h_96 := Lib.hid (h_93.out.ext hx)
  have B_96 := Lib.hid (B_93.out.ext hx)
  have a_96 := Lib.hid (a_93.out.ext hx)
  have C_96 := Lib.hid (C_93.out.ext hx)
  have b_96 := Lib.hid (b_93.out.ext hx)
  have D_96 := Lib.hid (D_93.out.ext hx)
  have c_96 := Lib.hid (c_93.out.ext hx)
  have E_96 := Lib.hid (E_93.out.ext hx)
  have d_96 := Lib.hid (d_93.out.ext hx)
  have rt_96 := Lib.hid (rt_94.out.ext hx)
  clear A_93 X_93 wi_93 h_93 B_93 a_93 C_93 b_93 D_93 c_93 E_93 d_93 rt_94
  clear hx
  have zwi := wi_96.out.lt
  have qh0 : w95.cell? ⟨w.heap.size + 1, 0, none⟩ = some (.slice R n q) := h_96.out.at 0 _ rfl
  have qh1 : w95.cell? ⟨w.heap.size + 1, 1, none⟩ = some (.int .i64 keep) := h_96.out.at 1 _ rfl
  have zh := h_96.out.lt
  have za := a_96.out.lt
  have zb := b_96.out.lt
  have zc := c_96.out.lt
  have zd := d_96.out.lt
  have qrt0 : w95.cell? ⟨w90.heap.size, 0, none⟩ = some (.int .i64 root) := rt_96.out.at 0 _ rfl
  have zrt := rt_96.out.lt
  go_wp2_with (go_at_call 12; refine stop_here ?_)
  refine stop_on ?_
  clear zwi qh0 qh1 zh za zb zc zd qrt0 zrt
  refine (pCut_is (by decide) HM1.out HF.out HP2.out A_96.out).mono ?_
  rintro e w97 ⟨S5, t5, rfl, h3, hx⟩
  have A_98 := Lib.hid (A_96.out.ext hx)
  have X_98 := Lib.hid (X_96.out.ext hx)
  have wi_98 := Lib.hid (wi_96.out.ext hx)
  have h_98 := Lib.hid (h_96.out.ext hx)
  have B_98 := Lib.hid (B_96.out.ext hx)
  have a_98 := Lib.hid (a_96.out.ext hx)
  have C_98 := Lib.hid (C_96.out.ext hx)
  have b_98 := Lib.hid (b_96.out.ext hx)
  have D_98 := Lib.hid (D_96.out.ext hx)
  have c_98 := Lib.hid (c_96.out.ext hx)
  have E_98 := Lib.hid (E_96.out.ext hx)
  have d_98 := Lib.hid (d_96.out.ext hx)
  have rt_98 := Lib.hid (rt_96.out.ext hx)
  clear A_96 X_96 wi_96 h_96 B_96 a_96 C_96 b_96 D_96 c_96 E_96 d_96 rt_96
  have G_99 := Lib.hid h3
  clear hx h3
  have zwi := wi_98.out.lt
  have qh0 : w97.cell? ⟨w.heap.size + 1, 0, none⟩ = some (.slice R n q) := h_98.out.at 0 _ rfl
  have qh1 : w97.cell? ⟨w.heap.size + 1, 1, none⟩ = some (.int .i64 keep) := h_98.out.at 1 _ rfl
  have zh := h_98.out.lt
  have za := a_98.out.lt
  have zb := b_98.out.lt
  have zc := c_98.out.lt
  have zd := d_98.out.lt
  have zrt := rt_98.out.lt
  go_wp2_with (go_at_call 13; refine stop_here ?_)
  refine stop_on ?_
  clear zwi qh0 qh1 zh za zb zc zd zrt
  generalize hW : (World.alloc w97 _) = W100
  obtain ⟨hx, hb0⟩ := allocs1 hW
  clear hW
  have A_101 := Lib.hid (A_98.out.ext hx)
  have X_101 := Lib.hid (X_98.out.ext hx)
  have wi_101 := Lib.hid (wi_98.out.ext hx)
  have h_101 := Lib.hid (h_98.out.ext hx)
  have B_101 := Lib.hid (B_98.out.ext hx)
  have a_101 := Lib.hid (a_98.out.ext hx)
  have C_101 := Lib.hid (C_98.out.ext hx)
  have b_101 := Lib.hid (b_98.out.ext hx)
  have D_101 := Lib.hid (D_98.out.ext hx)
  have c_101 := Lib.hid (c_98.out.ext hx)
  have E_101 := Lib.hid (E_98.out.ext hx)
  have d_101 := Lib.hid (d_98.out.ext hx)
  have rt_101 := Lib.hid (rt_98.out.ext hx)
  have G_101 := Lib.hid (G_99.out.ext hx)
  clear A_98 X_98 wi_98 h_98 B_98 a_98 C_98 b_98 D_98 c_98 E_98 d_98 rt_98 G_99
  have x_102 := Lib.hid hb0
  clear hx hb0
  refine (rCut_is (by decide) HM1.out HF.out HP2.out A_101.out).mono ?_
  rintro e w103 ⟨S6, t6, rfl, h3, hx⟩
  have A_104 := Lib.hid (A_101.out.ext hx)
  have X_104 := Lib.hid (X_101.out.ext hx)
  have wi_104 := Lib.hid (wi_101.out.ext hx)
  have h_104 := Lib.hid (h_101.out.ext hx)
  have B_104 := Lib.hid (B_101.out.ext hx)
  have a_104 := Lib.hid (a_101.out.ext hx)
  have C_104 := Lib.hid (C_101.out.ext hx)
  have b_104 := Lib.hid (b_101.out.ext hx)
  have D_104 := Lib.hid (D_101.out.ext hx)
  have c_104 := Lib.hid (c_101.out.ext hx)
  have E_104 := Lib.hid (E_101.out.ext hx)
  have d_104 := Lib.hid (d_101.out.ext hx)
  have rt_104 := Lib.hid (rt_101.out.ext hx)
  have G_104 := Lib.hid (G_101.out.ext hx)
  have x_104 := Lib.hid (x_102.out.ext hx)
  clear A_101 X_101 wi_101 h_101 B_101 a_101 C_101 b_101 D_101 c_101 E_101 d_101 rt_101 G_101 x_102
  have I_105 := Lib.hid h3
  clear hx h3
  have zwi := wi_104.out.lt
  have qh0 : w103.cell? ⟨w.heap.size + 1, 0, none⟩ = some (.slice R n q) := h_104.out.at 0 _ rfl
  have qh1 : w103.cell? ⟨w.heap.size + 1, 1, none⟩ = some (.int .i64 keep) := h_104.out.at 1 _ rfl
  have zh := h_104.out.lt
  have za := a_104.out.lt
  have zb := b_104.out.lt
  have zc := c_104.out.lt
  have zd := d_104.out.lt
  have zrt := rt_104.out.lt
  have qx0 : w103.cell? ⟨w97.heap.size, 0, none⟩ = some (.slice S5 n t5) := x_104.out.at 0 _ rfl
  have qx1 : w103.cell? ⟨w97.heap.size, 1, none⟩ = some (.int .i64 keep) := x_104.out.at 1 _ rfl
  have zx := x_104.out.lt
  go_wp2_with (go_at_call 10; refine stop_here ?_)
  refine stop_on ?_
  clear zwi qh0 qh1 zh za zb zc zd zrt qx0 qx1 zx
  generalize hW : (World.alloc w103 _) = W106
  obtain ⟨hx, hb0⟩ := allocs1 hW
  clear hW
  have A_107 := Lib.hid (A_104.out.ext hx)
  have X_107 := Lib.hid (X_104.out.ext hx)
  have wi_107 := Lib.hid (wi_104.out.ext hx)
  have h_107 := Lib.hid (h_104.out.ext hx)
  have B_107 := Lib.hid (B_104.out.ext hx)
  have a_107 := Lib.hid (a_104.out.ext hx)
  have C_107 := Lib.hid (C_104.out.ext hx)
  have b_107 := Lib.hid (b_104.out.ext hx)
  have D_107 := Lib.hid (D_104.out.ext hx)
  have c_107 := Lib.hid (c_104.out.ext hx)
  have E_107 := Lib.hid (E_104.out.ext hx)
  have d_107 := Lib.hid (d_104.out.ext hx)
  have rt_107 := Lib.hid (rt_104.out.ext hx)
  have G_107 := Lib.hid (G_104.out.ext hx)
  have x_107 := Lib.hid (x_104.out.ext hx)
  have I_107 := Lib.hid (I_105.out.ext hx)
  clear A_104 X_104 wi_104 h_104 B_104 a_104 C_104 b_104 D_104 c_104 E_104 d_104 rt_104 G_104 x_104 I_105
  have y_108 := Lib.hid hb0
  clear hx hb0
  refine (rSame_is S6 n t6 G_107.out I_107.out).mono ?_
  rintro e w109 ⟨rfl, hx⟩
  have A_110 := Lib.hid (A_107.out.ext hx)
  have X_110 := Lib.hid (X_107.out.ext hx)
  have wi_110 := Lib.hid (wi_107.out.ext hx)
  have h_110 := Lib.hid (h_107.out.ext hx)
  have B_110 := Lib.hid (B_107.out.ext hx)
  have a_110 := Lib.hid (a_107.out.ext hx)
  have C_110 := Lib.hid (C_107.out.ext hx)
  have b_110 := Lib.hid (b_107.out.ext hx)
  have D_110 := Lib.hid (D_107.out.ext hx)
  have c_110 := Lib.hid (c_107.out.ext hx)
  have E_110 := Lib.hid (E_107.out.ext hx)
  have d_110 := Lib.hid (d_107.out.ext hx)
  have rt_110 := Lib.hid (rt_107.out.ext hx)
  have G_110 := Lib.hid (G_107.out.ext hx)
  have x_110 := Lib.hid (x_107.out.ext hx)
  have I_110 := Lib.hid (I_107.out.ext hx)
  have y_110 := Lib.hid (y_108.out.ext hx)
  clear A_107 X_107 wi_107 h_107 B_107 a_107 C_107 b_107 D_107 c_107 E_107 d_107 rt_107 G_107 x_107 I_107 y_108
  clear hx
  have zwi := wi_110.out.lt
  have qh0 : w109.cell? ⟨w.heap.size + 1, 0, none⟩ = some (.slice R n q) := h_110.out.at 0 _ rfl
  have qh1 : w109.cell? ⟨w.heap.size + 1, 1, none⟩ = some (.int .i64 keep) := h_110.out.at 1 _ rfl
  have zh := h_110.out.lt
  have za := a_110.out.lt
  have zb := b_110.out.lt
  have zc := c_110.out.lt
  have zd := d_110.out.lt
  have zrt := rt_110.out.lt
  have qx0 : w109.cell? ⟨w97.heap.size, 0, none⟩ = some (.slice S5 n t5) := x_110.out.at 0 _ rfl
  have qx1 : w109.cell? ⟨w97.heap.size, 1, none⟩ = some (.int .i64 keep) := x_110.out.at 1 _ rfl
  have zx := x_110.out.lt
  have qy0 : w109.cell? ⟨w103.heap.size, 0, none⟩ = some (.slice S6 n t6) := y_110.out.at 0 _ rfl
  have qy1 : w109.cell? ⟨w103.heap.size, 1, none⟩ = some (.int .i64 keep) := y_110.out.at 1 _ rfl
  have zy := y_110.out.lt
  go_wp2
  go_ret
  exact ⟨rfl, X_110.out⟩
theorem ptells_any (R : Option Addr) (l : List HC) (n q : Nat) (keep root key lo hi mo : Int) (w : World) (hm0 : 0 ≤ mo) (hA : HcSl w R n q l) :
    Calls Tryz.prog 3 #[.agg #[.slice R n q, .int .i64 keep, .int .i64 root, .int .i64 key, .int .i64 lo, .int .i64 hi, .int .u8 mo]] w fun e w' => e = .returned (.bool true) ∧ Ext w w' := by
  cases hm : mayR ⟨l, keep⟩ root 60
  · exact ptells_not R l n q keep root key lo hi mo w hA hm
  · obtain ⟨⟨c1, r1, e1⟩, hp1⟩ : ∃ x, delR ⟨l, keep⟩ root key = x := ⟨_, rfl⟩
    obtain ⟨⟨c3, r3⟩, hp3⟩ : ∃ x, lowS 20 l root = x := ⟨_, rfl⟩
    cases hf : fineB ⟨l, keep⟩ root 60
    · exact ptells_may R l n q keep root key lo hi mo w hA hm c1 c3 r1 e1 r3 hp1 hp3 hf
    · obtain ⟨m, hmo⟩ : ∃ m : Nat, mo % 8 = (m : Int) := Int.eq_ofNat_of_zero_le (Int.emod_nonneg _ (by omega))
      obtain ⟨⟨c2, r2, k, e2⟩, hp2⟩ : ∃ x, cutS keep lo hi m l root = x := ⟨_, rfl⟩
      exact ptells_fine R l n q keep root key lo hi mo w hA hm c1 c3 r1 e1 r3 hp1 hp3 hf m hmo hm0 c2 r2 e2 k hp2
end Go.Proofs.YtbfbpddfcakieaaGreat

