/- The walk of TreeFinds. -/
import Derived.Test.YthlencnlgnbpaaaTreeB
import Derived.Deep.AppendLies
import Derived.Deep.RegionHeld3
import Derived.Deep.DeepCutAuto
import Derived.Deep.DrawnRows
import Derived.RegionTactic
namespace Go.Proofs.Ythlencnlgnbpaaa
open Go.RowKit
attribute [local go_sem ↓] Go.wp_at_zero Go.wp_at_succ

attribute [local go_sem] beq_self_eq_true bne_self_eq_false
set_option maxRecDepth 100000 in
set_option maxHeartbeats 8000000 in
theorem finds_any (R : Option Addr) (l : List HC) (n q : Nat) (keep root key lo hi : Int) (w : World) (hA : HcSl w R n q l) :
    Calls Try.prog 4 #[.agg #[.slice R n q, .int .i64 keep, .int .i64 root, .int .i64 key, .int .i64 lo, .int .i64 hi]] w fun e w' => e = .returned (.bool true) ∧ Ext w w' := by
  have A_1 := Lib.hid (hA)
  have X_2 := Lib.hid (Ext.refl w)
  clear hA
  cases hr : mayR ⟨l, keep⟩ root 60
  · have Hr := Lib.hid hr
    clear hr
    go_enter Try.func4, Try.ntmps4
    go_wp2_with (go_at_call 9; refine stop_here ?_)
    refine stop_on ?_
    generalize hW : (World.alloc (World.alloc w _) _) = W3
    obtain ⟨hx, hb0, hb1⟩ := allocs2 hW
    clear hW
    have A_4 := Lib.hid (A_1.out.ext hx)
    have X_4 := Lib.hid (X_2.out.ext hx)
    clear A_1 X_2
    have wi_5 := Lib.hid hb0
    have h_6 := Lib.hid hb1
    clear hx hb0 hb1
    refine (shown_any _).mono ?_
    rintro e w7 ⟨rfl, hx⟩
    have A_8 := Lib.hid (A_4.out.ext hx)
    have X_8 := Lib.hid (X_4.out.ext hx)
    have wi_8 := Lib.hid (wi_5.out.ext hx)
    have h_8 := Lib.hid (h_6.out.ext hx)
    clear A_4 X_4 wi_5 h_6
    clear hx
    have qwi0 : w7.cell? ⟨w.heap.size, 0, none⟩ = some (.slice R n q) := wi_8.out.at 0 _ rfl
    have qwi1 : w7.cell? ⟨w.heap.size, 1, none⟩ = some (.int .i64 keep) := wi_8.out.at 1 _ rfl
    have qwi2 : w7.cell? ⟨w.heap.size, 2, none⟩ = some (.int .i64 root) := wi_8.out.at 2 _ rfl
    have qwi3 : w7.cell? ⟨w.heap.size, 3, none⟩ = some (.int .i64 key) := wi_8.out.at 3 _ rfl
    have qwi4 : w7.cell? ⟨w.heap.size, 4, none⟩ = some (.int .i64 lo) := wi_8.out.at 4 _ rfl
    have qwi5 : w7.cell? ⟨w.heap.size, 5, none⟩ = some (.int .i64 hi) := wi_8.out.at 5 _ rfl
    have zwi := wi_8.out.lt
    have qh0 : w7.cell? ⟨w.heap.size + 1, 0, none⟩ = some (.slice R n q) := h_8.out.at 0 _ rfl
    have qh1 : w7.cell? ⟨w.heap.size + 1, 1, none⟩ = some (.int .i64 keep) := h_8.out.at 1 _ rfl
    have zh := h_8.out.lt
    go_wp2_with (go_at_call 20; refine stop_here ?_)
    refine stop_on ?_
    clear qwi0 qwi1 qwi2 qwi3 qwi4 qwi5 zwi qh0 qh1 zh
    refine (ref07May_is R l n q keep root 60 _ A_8.out Hr.out).mono ?_
    rintro e w9 ⟨rfl, hx⟩
    have A_10 := Lib.hid (A_8.out.ext hx)
    have X_10 := Lib.hid (X_8.out.ext hx)
    have wi_10 := Lib.hid (wi_8.out.ext hx)
    have h_10 := Lib.hid (h_8.out.ext hx)
    clear A_8 X_8 wi_8 h_8
    clear hx
    have zwi := wi_10.out.lt
    have qh0 : w9.cell? ⟨w.heap.size + 1, 0, none⟩ = some (.slice R n q) := h_10.out.at 0 _ rfl
    have qh1 : w9.cell? ⟨w.heap.size + 1, 1, none⟩ = some (.int .i64 keep) := h_10.out.at 1 _ rfl
    have zh := h_10.out.lt
    go_wp2
    go_ret
    exact ⟨rfl, X_10.out⟩
  obtain ⟨hl, hn, hrr⟩ := mayR_all hr
  have Hr := Lib.hid hr
  have HL := Lib.hid hl
  have HN := Lib.hid hn
  have HRR := Lib.hid hrr
  clear hr hl hn hrr
  go_enter Try.func4, Try.ntmps4
  go_wp2_with (go_at_call 9; refine stop_here ?_)
  refine stop_on ?_
  generalize hW : (World.alloc (World.alloc w _) _) = W11
  obtain ⟨hx, hb0, hb1⟩ := allocs2 hW
  clear hW
  have A_12 := Lib.hid (A_1.out.ext hx)
  have X_12 := Lib.hid (X_2.out.ext hx)
  clear A_1 X_2
  have wi_13 := Lib.hid hb0
  have h_14 := Lib.hid hb1
  clear hx hb0 hb1
  refine (shown_any _).mono ?_
  rintro e w15 ⟨rfl, hx⟩
  have A_16 := Lib.hid (A_12.out.ext hx)
  have X_16 := Lib.hid (X_12.out.ext hx)
  have wi_16 := Lib.hid (wi_13.out.ext hx)
  have h_16 := Lib.hid (h_14.out.ext hx)
  clear A_12 X_12 wi_13 h_14
  clear hx
  have qwi0 : w15.cell? ⟨w.heap.size, 0, none⟩ = some (.slice R n q) := wi_16.out.at 0 _ rfl
  have qwi1 : w15.cell? ⟨w.heap.size, 1, none⟩ = some (.int .i64 keep) := wi_16.out.at 1 _ rfl
  have qwi2 : w15.cell? ⟨w.heap.size, 2, none⟩ = some (.int .i64 root) := wi_16.out.at 2 _ rfl
  have qwi3 : w15.cell? ⟨w.heap.size, 3, none⟩ = some (.int .i64 key) := wi_16.out.at 3 _ rfl
  have qwi4 : w15.cell? ⟨w.heap.size, 4, none⟩ = some (.int .i64 lo) := wi_16.out.at 4 _ rfl
  have qwi5 : w15.cell? ⟨w.heap.size, 5, none⟩ = some (.int .i64 hi) := wi_16.out.at 5 _ rfl
  have zwi := wi_16.out.lt
  have qh0 : w15.cell? ⟨w.heap.size + 1, 0, none⟩ = some (.slice R n q) := h_16.out.at 0 _ rfl
  have qh1 : w15.cell? ⟨w.heap.size + 1, 1, none⟩ = some (.int .i64 keep) := h_16.out.at 1 _ rfl
  have zh := h_16.out.lt
  go_wp2_with (go_at_call 20; refine stop_here ?_)
  refine stop_on ?_
  clear qwi0 qwi1 qwi2 qwi3 qwi4 qwi5 zwi qh0 qh1 zh
  refine (ref07May_is R l n q keep root 60 _ A_16.out Hr.out).mono ?_
  rintro e w17 ⟨rfl, hx⟩
  have A_18 := Lib.hid (A_16.out.ext hx)
  have X_18 := Lib.hid (X_16.out.ext hx)
  have wi_18 := Lib.hid (wi_16.out.ext hx)
  have h_18 := Lib.hid (h_16.out.ext hx)
  clear A_16 X_16 wi_16 h_16
  clear hx
  have zwi := wi_18.out.lt
  have qh0 : w17.cell? ⟨w.heap.size + 1, 0, none⟩ = some (.slice R n q) := h_18.out.at 0 _ rfl
  have qh1 : w17.cell? ⟨w.heap.size + 1, 1, none⟩ = some (.int .i64 keep) := h_18.out.at 1 _ rfl
  have zh := h_18.out.lt
  go_wp2_with (go_at_call 21; refine stop_here ?_)
  refine stop_on ?_
  clear zwi qh0 qh1 zh
  refine (treeGet_any R l n q keep keep root key _ HL.out HN.out HRR.out A_18.out).mono ?_
  rintro e w19 ⟨rfl, hx⟩
  have A_20 := Lib.hid (A_18.out.ext hx)
  have X_20 := Lib.hid (X_18.out.ext hx)
  have wi_20 := Lib.hid (wi_18.out.ext hx)
  have h_20 := Lib.hid (h_18.out.ext hx)
  clear A_18 X_18 wi_18 h_18
  clear hx
  have zwi := wi_20.out.lt
  have qh0 : w19.cell? ⟨w.heap.size + 1, 0, none⟩ = some (.slice R n q) := h_20.out.at 0 _ rfl
  have qh1 : w19.cell? ⟨w.heap.size + 1, 1, none⟩ = some (.int .i64 keep) := h_20.out.at 1 _ rfl
  have zh := h_20.out.lt
  go_wp2_with (go_at_call 22; refine stop_here ?_)
  refine stop_on ?_
  clear zwi qh0 qh1 zh
  refine (ref07Get_any R l n q keep keep root key _ HL.out HN.out HRR.out A_20.out).mono ?_
  rintro e w21 ⟨rfl, hx⟩
  have A_22 := Lib.hid (A_20.out.ext hx)
  have X_22 := Lib.hid (X_20.out.ext hx)
  have wi_22 := Lib.hid (wi_20.out.ext hx)
  have h_22 := Lib.hid (h_20.out.ext hx)
  clear A_20 X_20 wi_20 h_20
  clear hx
  have zwi := wi_22.out.lt
  have qh0 : w21.cell? ⟨w.heap.size + 1, 0, none⟩ = some (.slice R n q) := h_22.out.at 0 _ rfl
  have qh1 : w21.cell? ⟨w.heap.size + 1, 1, none⟩ = some (.int .i64 keep) := h_22.out.at 1 _ rfl
  have zh := h_22.out.lt
  go_wp2_with fail
  have HK23 := Lib.hid (fun w' (hx : Ext w21 w') => (show w'.cell? ⟨w.heap.size + 1, 0, none⟩ = some (.slice R n q) ∧ w'.cell? ⟨w.heap.size + 1, 1, none⟩ = some (.int .i64 keep) from ⟨(h_22.out.ext hx).at 0 _ rfl, (h_22.out.ext hx).at 1 _ rfl⟩))
  have G23_0 := Lib.hid (fun w' (hx : Ext w21 w') => treeScan_is R l n q keep keep root lo hi w' HL.out HN.out HRR.out (A_22.out.ext hx))
  have G23_1 := Lib.hid (fun w' (hx : Ext w21 w') => ref07Scan_is R l n q keep keep root lo hi w' HL.out HN.out HRR.out (A_22.out.ext hx))
  clear zwi qh0 qh1 zh
  have qh0 : w21.cell? ⟨w.heap.size + 1, 0, none⟩ = some (.slice R n q) := h_22.out.at 0 _ rfl
  have qh1 : w21.cell? ⟨w.heap.size + 1, 1, none⟩ = some (.int .i64 keep) := h_22.out.at 1 _ rfl
  have zh := h_22.out.lt
  go_region_held3 (fun w' => w'.cell? ⟨w.heap.size + 1, 0, none⟩ = some (.slice R n q) ∧ w'.cell? ⟨w.heap.size + 1, 1, none⟩ = some (.int .i64 keep))
    (first | exact HK23.out _ E23_2.out | exact HK23.out _ E23_1.out | exact HK23.out _ E23_0.out | exact HK23.out _ (Ext.refl w21).drew | exact HK23.out _ (Ext.refl w21))
    (first
      | ((go_at_call 23
          have hc := ref04Items_self S1 S2 (scanT l root lo hi) (scanT l root lo hi) s1 s2 d1 d2 _ (sameI_self _) P1_23_1.out P2_23_1.out
          with_reducible refine hc.mono ?_
          clear hc
          rintro e v23_2 ⟨rfl, hx⟩
          have E23_2 := Lib.hid (E23_1.out.trans hx)
          have P1_23_2 := Lib.hid (P1_23_1.out.ext hx)
          have P2_23_2 := Lib.hid (P2_23_1.out.ext hx)
          clear hx))
      | ((go_at_call 25
          with_reducible refine (G23_1.out _ E23_0.out).mono ?_
          rintro e v23_1 ⟨S2, s2, d2, rfl, h2, hx⟩
          have E23_1 := Lib.hid (E23_0.out.trans hx)
          have P1_23_1 := Lib.hid (P1_23_0.out.ext hx)
          have P2_23_1 := Lib.hid h2
          clear hx h2))
      | ((go_at_call 24
          with_reducible refine (G23_0.out _ ?_).mono ?_
          (first | exact Ext.refl _ | exact (Ext.refl _).drew)
          rintro e v23_0 ⟨S1, s1, d1, rfl, h1, hx⟩
          have E23_0 := Lib.hid (show Ext w21 v23_0 from by first | exact hx | exact (Ext.refl w21).drew.trans hx)
          have P1_23_0 := Lib.hid h1
          clear hx h1)))
  clear qh0 qh1 zh
  go_wp2
  go_ret
  exact ⟨rfl, X_22.out.trans E23_2.out⟩
end Go.Proofs.Ythlencnlgnbpaaa

