/- The walk of TreeTells. -/
import Derived.Test.YthlencnlgnbpaaaTreeB
import Derived.Deep.AppendLies
import Derived.Deep.RegionHeld3
import Derived.Deep.DeepCutAuto
import Derived.Deep.DrawnRows
import Derived.RegionTactic
namespace Go.Proofs.Ythlencnlgnbpaaa
open Go.RowKit
attribute [local go_sem ↓] Go.wp_at_zero Go.wp_at_succ

attribute [local go_sem] beq_self_eq_true bne_self_eq_false
set_option maxRecDepth 100000 in
set_option maxHeartbeats 8000000 in
theorem tells_any (R : Option Addr) (l : List HC) (n q : Nat) (keep root : Int) (x : Nat) (w : World) (hx : x < 65536) (hA : HcSl w R n q l) :
    Calls Try.prog 3 #[.agg #[.slice R n q, .int .i64 keep], .int .i64 root, .int .u16 x] w fun e w' => e = .returned (.bool true) ∧ Ext w w' := by
  have A_1 := Lib.hid (hA)
  have X_2 := Lib.hid (Ext.refl w)
  have hw64 : wrap64 (x : Int) = (x : Int) := by unfold wrap64; omega
  have HXB := Lib.hid hx
  clear hA hx
  cases hr : mayH ⟨l, keep⟩ 60
  · have Hr := Lib.hid hr
    clear hr
    go_enter Try.func3, Try.ntmps3
    go_wp2_with (go_at_call 9; refine stop_here ?_)
    refine stop_on ?_
    generalize hW : (World.alloc w _) = W3
    obtain ⟨hx, hb0⟩ := allocs1 hW
    clear hW
    have A_4 := Lib.hid (A_1.out.ext hx)
    have X_4 := Lib.hid (X_2.out.ext hx)
    clear A_1 X_2
    have h_5 := Lib.hid hb0
    clear hx hb0
    refine (shown_any _).mono ?_
    rintro e w6 ⟨rfl, hx⟩
    have A_7 := Lib.hid (A_4.out.ext hx)
    have X_7 := Lib.hid (X_4.out.ext hx)
    have h_7 := Lib.hid (h_5.out.ext hx)
    clear A_4 X_4 h_5
    clear hx
    have qh0 : w6.cell? ⟨w.heap.size, 0, none⟩ = some (.slice R n q) := h_7.out.at 0 _ rfl
    have qh1 : w6.cell? ⟨w.heap.size, 1, none⟩ = some (.int .i64 keep) := h_7.out.at 1 _ rfl
    have zh := h_7.out.lt
    go_wp2_with (go_at_call 10; refine stop_here ?_)
    refine stop_on ?_
    clear qh0 qh1 zh
    refine (ref05May_is R l n q keep 60 _ A_7.out Hr.out).mono ?_
    rintro e w8 ⟨rfl, hx⟩
    have A_9 := Lib.hid (A_7.out.ext hx)
    have X_9 := Lib.hid (X_7.out.ext hx)
    have h_9 := Lib.hid (h_7.out.ext hx)
    clear A_7 X_7 h_7
    clear hx
    have qh0 : w8.cell? ⟨w.heap.size, 0, none⟩ = some (.slice R n q) := h_9.out.at 0 _ rfl
    have qh1 : w8.cell? ⟨w.heap.size, 1, none⟩ = some (.int .i64 keep) := h_9.out.at 1 _ rfl
    have zh := h_9.out.lt
    go_wp2
    go_ret
    exact ⟨rfl, X_9.out⟩
  obtain ⟨hl, hn⟩ := may_all hr
  have Hr := Lib.hid hr
  have HL := Lib.hid hl
  have HN := Lib.hid hn
  clear hr hl hn
  cases hrr : rightR ⟨l, keep⟩ root
  · have HRR := Lib.hid hrr
    clear hrr
    go_enter Try.func3, Try.ntmps3
    go_wp2_with (go_at_call 9; refine stop_here ?_)
    refine stop_on ?_
    generalize hW : (World.alloc w _) = W10
    obtain ⟨hx, hb0⟩ := allocs1 hW
    clear hW
    have A_11 := Lib.hid (A_1.out.ext hx)
    have X_11 := Lib.hid (X_2.out.ext hx)
    clear A_1 X_2
    have h_12 := Lib.hid hb0
    clear hx hb0
    refine (shown_any _).mono ?_
    rintro e w13 ⟨rfl, hx⟩
    have A_14 := Lib.hid (A_11.out.ext hx)
    have X_14 := Lib.hid (X_11.out.ext hx)
    have h_14 := Lib.hid (h_12.out.ext hx)
    clear A_11 X_11 h_12
    clear hx
    have qh0 : w13.cell? ⟨w.heap.size, 0, none⟩ = some (.slice R n q) := h_14.out.at 0 _ rfl
    have qh1 : w13.cell? ⟨w.heap.size, 1, none⟩ = some (.int .i64 keep) := h_14.out.at 1 _ rfl
    have zh := h_14.out.lt
    go_wp2_with (go_at_call 10; refine stop_here ?_)
    refine stop_on ?_
    clear qh0 qh1 zh
    refine (ref05May_is R l n q keep 60 _ A_14.out Hr.out).mono ?_
    rintro e w15 ⟨rfl, hx⟩
    have A_16 := Lib.hid (A_14.out.ext hx)
    have X_16 := Lib.hid (X_14.out.ext hx)
    have h_16 := Lib.hid (h_14.out.ext hx)
    clear A_14 X_14 h_14
    clear hx
    have qh0 : w15.cell? ⟨w.heap.size, 0, none⟩ = some (.slice R n q) := h_16.out.at 0 _ rfl
    have qh1 : w15.cell? ⟨w.heap.size, 1, none⟩ = some (.int .i64 keep) := h_16.out.at 1 _ rfl
    have zh := h_16.out.lt
    go_wp2_with (go_at_call 11; refine stop_here ?_)
    refine stop_on ?_
    clear qh0 qh1 zh
    have hc := ref07Right_any R l n q keep root _ HL.out HN.out A_16.out
    rw [HRR.out] at hc
    refine hc.mono ?_
    clear hc
    rintro e w17 ⟨rfl, hx⟩
    have A_18 := Lib.hid (A_16.out.ext hx)
    have X_18 := Lib.hid (X_16.out.ext hx)
    have h_18 := Lib.hid (h_16.out.ext hx)
    clear A_16 X_16 h_16
    clear hx
    have qh0 : w17.cell? ⟨w.heap.size, 0, none⟩ = some (.slice R n q) := h_18.out.at 0 _ rfl
    have qh1 : w17.cell? ⟨w.heap.size, 1, none⟩ = some (.int .i64 keep) := h_18.out.at 1 _ rfl
    have zh := h_18.out.lt
    go_wp2_with (go_at_call 12; refine stop_here ?_)
    refine stop_on ?_
    clear qh0 qh1 zh
    have hc := treeRight_any R l n q keep root _ HL.out HN.out A_18.out
    rw [HRR.out] at hc
    refine hc.mono ?_
    clear hc
    rintro e w19 ⟨rfl, hx⟩
    have A_20 := Lib.hid (A_18.out.ext hx)
    have X_20 := Lib.hid (X_18.out.ext hx)
    have h_20 := Lib.hid (h_18.out.ext hx)
    clear A_18 X_18 h_18
    clear hx
    have qh0 : w19.cell? ⟨w.heap.size, 0, none⟩ = some (.slice R n q) := h_20.out.at 0 _ rfl
    have qh1 : w19.cell? ⟨w.heap.size, 1, none⟩ = some (.int .i64 keep) := h_20.out.at 1 _ rfl
    have zh := h_20.out.lt
    go_wp2_with (go_at_call 13; refine stop_here ?_)
    refine stop_on ?_
    clear qh0 qh1 zh
    refine (treeNeed_any x _ (by omega) (by have := HXB.out; omega)).mono ?_
    rintro e w21 ⟨rfl, hx⟩
    have A_22 := Lib.hid (A_20.out.ext hx)
    have X_22 := Lib.hid (X_20.out.ext hx)
    have h_22 := Lib.hid (h_20.out.ext hx)
    clear A_20 X_20 h_20
    clear hx
    have qh0 : w21.cell? ⟨w.heap.size, 0, none⟩ = some (.slice R n q) := h_22.out.at 0 _ rfl
    have qh1 : w21.cell? ⟨w.heap.size, 1, none⟩ = some (.int .i64 keep) := h_22.out.at 1 _ rfl
    have zh := h_22.out.lt
    go_wp2_with (go_at_call 14; refine stop_here ?_)
    refine stop_on ?_
    clear qh0 qh1 zh
    refine (ref07Need_any x _ (by omega) (by have := HXB.out; omega)).mono ?_
    rintro e w_ ⟨rfl, rfl⟩
    have qh0 : w21.cell? ⟨w.heap.size, 0, none⟩ = some (.slice R n q) := h_22.out.at 0 _ rfl
    have qh1 : w21.cell? ⟨w.heap.size, 1, none⟩ = some (.int .i64 keep) := h_22.out.at 1 _ rfl
    have zh := h_22.out.lt
    go_wp2_with fail
    go_quiet (fail)
    clear qh0 qh1 zh
    go_wp2_with fail
    go_ret
    exact ⟨rfl, X_22.out.drewN nq⟩
  · have HRR := Lib.hid hrr
    clear hrr
    go_enter Try.func3, Try.ntmps3
    go_wp2_with (go_at_call 9; refine stop_here ?_)
    refine stop_on ?_
    generalize hW : (World.alloc w _) = W23
    obtain ⟨hx, hb0⟩ := allocs1 hW
    clear hW
    have A_24 := Lib.hid (A_1.out.ext hx)
    have X_24 := Lib.hid (X_2.out.ext hx)
    clear A_1 X_2
    have h_25 := Lib.hid hb0
    clear hx hb0
    refine (shown_any _).mono ?_
    rintro e w26 ⟨rfl, hx⟩
    have A_27 := Lib.hid (A_24.out.ext hx)
    have X_27 := Lib.hid (X_24.out.ext hx)
    have h_27 := Lib.hid (h_25.out.ext hx)
    clear A_24 X_24 h_25
    clear hx
    have qh0 : w26.cell? ⟨w.heap.size, 0, none⟩ = some (.slice R n q) := h_27.out.at 0 _ rfl
    have qh1 : w26.cell? ⟨w.heap.size, 1, none⟩ = some (.int .i64 keep) := h_27.out.at 1 _ rfl
    have zh := h_27.out.lt
    go_wp2_with (go_at_call 10; refine stop_here ?_)
    refine stop_on ?_
    clear qh0 qh1 zh
    refine (ref05May_is R l n q keep 60 _ A_27.out Hr.out).mono ?_
    rintro e w28 ⟨rfl, hx⟩
    have A_29 := Lib.hid (A_27.out.ext hx)
    have X_29 := Lib.hid (X_27.out.ext hx)
    have h_29 := Lib.hid (h_27.out.ext hx)
    clear A_27 X_27 h_27
    clear hx
    have qh0 : w28.cell? ⟨w.heap.size, 0, none⟩ = some (.slice R n q) := h_29.out.at 0 _ rfl
    have qh1 : w28.cell? ⟨w.heap.size, 1, none⟩ = some (.int .i64 keep) := h_29.out.at 1 _ rfl
    have zh := h_29.out.lt
    go_wp2_with (go_at_call 11; refine stop_here ?_)
    refine stop_on ?_
    clear qh0 qh1 zh
    have hc := ref07Right_any R l n q keep root _ HL.out HN.out A_29.out
    rw [HRR.out] at hc
    refine hc.mono ?_
    clear hc
    rintro e w30 ⟨rfl, hx⟩
    have A_31 := Lib.hid (A_29.out.ext hx)
    have X_31 := Lib.hid (X_29.out.ext hx)
    have h_31 := Lib.hid (h_29.out.ext hx)
    clear A_29 X_29 h_29
    clear hx
    have qh0 : w30.cell? ⟨w.heap.size, 0, none⟩ = some (.slice R n q) := h_31.out.at 0 _ rfl
    have qh1 : w30.cell? ⟨w.heap.size, 1, none⟩ = some (.int .i64 keep) := h_31.out.at 1 _ rfl
    have zh := h_31.out.lt
    go_wp2_with (go_at_call 12; refine stop_here ?_)
    refine stop_on ?_
    clear qh0 qh1 zh
    have hc := treeRight_any R l n q keep root _ HL.out HN.out A_31.out
    rw [HRR.out] at hc
    refine hc.mono ?_
    clear hc
    rintro e w32 ⟨rfl, hx⟩
    have A_33 := Lib.hid (A_31.out.ext hx)
    have X_33 := Lib.hid (X_31.out.ext hx)
    have h_33 := Lib.hid (h_31.out.ext hx)
    clear A_31 X_31 h_31
    clear hx
    have qh0 : w32.cell? ⟨w.heap.size, 0, none⟩ = some (.slice R n q) := h_33.out.at 0 _ rfl
    have qh1 : w32.cell? ⟨w.heap.size, 1, none⟩ = some (.int .i64 keep) := h_33.out.at 1 _ rfl
    have zh := h_33.out.lt
    go_wp2_with (go_at_call 13; refine stop_here ?_)
    refine stop_on ?_
    clear qh0 qh1 zh
    refine (treeNeed_any x _ (by omega) (by have := HXB.out; omega)).mono ?_
    rintro e w34 ⟨rfl, hx⟩
    have A_35 := Lib.hid (A_33.out.ext hx)
    have X_35 := Lib.hid (X_33.out.ext hx)
    have h_35 := Lib.hid (h_33.out.ext hx)
    clear A_33 X_33 h_33
    clear hx
    have qh0 : w34.cell? ⟨w.heap.size, 0, none⟩ = some (.slice R n q) := h_35.out.at 0 _ rfl
    have qh1 : w34.cell? ⟨w.heap.size, 1, none⟩ = some (.int .i64 keep) := h_35.out.at 1 _ rfl
    have zh := h_35.out.lt
    go_wp2_with (go_at_call 14; refine stop_here ?_)
    refine stop_on ?_
    clear qh0 qh1 zh
    refine (ref07Need_any x _ (by omega) (by have := HXB.out; omega)).mono ?_
    rintro e w_ ⟨rfl, rfl⟩
    have qh0 : w34.cell? ⟨w.heap.size, 0, none⟩ = some (.slice R n q) := h_35.out.at 0 _ rfl
    have qh1 : w34.cell? ⟨w.heap.size, 1, none⟩ = some (.int .i64 keep) := h_35.out.at 1 _ rfl
    have zh := h_35.out.lt
    go_wp2_with fail
    have HK36 := Lib.hid (fun w' (hx : Ext w34 w') => (show w'.cell? ⟨w.heap.size, 0, none⟩ = some (.slice R n q) ∧ w'.cell? ⟨w.heap.size, 1, none⟩ = some (.int .i64 keep) from ⟨(h_35.out.ext hx).at 0 _ rfl, (h_35.out.ext hx).at 1 _ rfl⟩))
    have G36_0 := Lib.hid (fun w' (hx : Ext w34 w') => treeHigh_any R l n q keep keep root w' HL.out HN.out HRR.out (A_35.out.ext hx))
    have G36_1 := Lib.hid (fun w' (hx : Ext w34 w') => ref07High_is R l n q keep root w' HL.out HN.out HRR.out (A_35.out.ext hx))
    have G36_2 := Lib.hid (fun w' (hx : Ext w34 w') => treeNodes_is R l n q keep keep root w' HL.out HN.out HRR.out (A_35.out.ext hx))
    have G36_3 := Lib.hid (fun w' (hx : Ext w34 w') => ref07Nodes_is R l n q keep keep root w' HL.out HN.out HRR.out (A_35.out.ext hx))
    clear qh0 qh1 zh
    have qh0 : w34.cell? ⟨w.heap.size, 0, none⟩ = some (.slice R n q) := h_35.out.at 0 _ rfl
    have qh1 : w34.cell? ⟨w.heap.size, 1, none⟩ = some (.int .i64 keep) := h_35.out.at 1 _ rfl
    have zh := h_35.out.lt
    go_region_held3 (fun w' => w'.cell? ⟨w.heap.size, 0, none⟩ = some (.slice R n q) ∧ w'.cell? ⟨w.heap.size, 1, none⟩ = some (.int .i64 keep))
      (first | exact HK36.out _ E36_4.out | exact HK36.out _ E36_3.out | exact HK36.out _ E36_2.out | exact HK36.out _ E36_1.out | exact HK36.out _ E36_0.out | exact HK36.out _ (Ext.refl w34).drew | exact HK36.out _ (Ext.refl w34))
      (first
        | ((go_at_call 17
            have hc := ref07Ints_self S1 S2 (nodesT l root) (nodesT l root) s1 s2 d1 d2 _ rfl P1_36_3.out P2_36_3.out
            with_reducible refine hc.mono ?_
            clear hc
            rintro e v36_4 ⟨rfl, hx⟩
            have E36_4 := Lib.hid (E36_3.out.trans hx)
            have P1_36_4 := Lib.hid (P1_36_3.out.ext hx)
            have P2_36_4 := Lib.hid (P2_36_3.out.ext hx)
            clear hx))
        | ((go_at_call 19
            with_reducible refine (G36_3.out _ E36_2.out).mono ?_
            rintro e v36_3 ⟨S2, s2, d2, rfl, h2, hx⟩
            have E36_3 := Lib.hid (E36_2.out.trans hx)
            have P1_36_3 := Lib.hid (P1_36_2.out.ext hx)
            have P2_36_3 := Lib.hid h2
            clear hx h2))
        | ((go_at_call 18
            with_reducible refine (G36_2.out _ E36_1.out).mono ?_
            rintro e v36_2 ⟨S1, s1, d1, rfl, h1, hx⟩
            have E36_2 := Lib.hid (E36_1.out.trans hx)
            have P1_36_2 := Lib.hid h1
            clear hx h1))
        | ((go_at_call 16
            with_reducible refine (G36_1.out _ E36_0.out).mono ?_
            rintro e v36_1 ⟨rfl, hx⟩
            have E36_1 := Lib.hid (E36_0.out.trans hx)
            clear hx))
        | ((go_at_call 15
            with_reducible refine (G36_0.out _ ?_).mono ?_
            (first | exact Ext.refl _ | exact (Ext.refl _).drew)
            rintro e v36_0 ⟨rfl, hx⟩
            have E36_0 := Lib.hid (show Ext w34 v36_0 from by first | exact hx | exact (Ext.refl w34).drew.trans hx)
            clear hx)))
    clear qh0 qh1 zh
    go_wp2
    go_ret
    exact ⟨rfl, X_35.out.trans E36_4.out⟩
end Go.Proofs.Ythlencnlgnbpaaa

