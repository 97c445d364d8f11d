/- The walk of HeapBack: nothing is asked. -/
import Derived.Test.YtclpeeemnmhdcaaHeapN
import Derived.Test.YtclpeeemnmhdcaaHeapR
import Derived.Deep.AppendLies
import Derived.Deep.RegionHeld3
import Derived.Deep.DeepCutAuto
import Derived.Deep.DrawnRows
import Derived.RegionTactic
namespace Go.Proofs.Ytclpeeemnmhdcaa
open Go.RowKit
attribute [local go_sem ↓] Go.wp_at_zero Go.wp_at_succ

attribute [local go_sem] beq_self_eq_true bne_self_eq_false
set_option maxRecDepth 100000 in
set_option maxHeartbeats 8000000 in
theorem back_out (R : Option Addr) (l : List HC) (n q : Nat) (keep : Int) (leaf : Bool) (A : Option Addr) (it : List It) (m c : Nat) (p : Int) (w : World) (hA : HcSl w R n q l) (hm : m = it.length) (hI : Sl w A m c (ivs it)) (hr : mayH ⟨l, keep⟩ 60 = false ∨ 10 < m) :
    Calls Try.prog 5 #[.agg #[.slice R n q, .int .i64 keep], .agg #[.bool leaf, .slice A m c], .int .i64 p] w fun e w' => e = .returned (.bool true) ∧ Ext w w' := by
  have A_1 := Lib.hid (hA)
  have I_2 := Lib.hid (hI)
  have X_3 := Lib.hid (Ext.refl w)
  have HM := Lib.hid hm
  have hn := hA.1
  have HN := Lib.hid hn
  have hml := hI.len
  unfold maxLen at hml
  clear hA hI hm hn
  cases hr9 : mayH ⟨l, keep⟩ 60
  · have Hr := Lib.hid hr9
    clear hr hr9
    go_enter Try.func5, Try.ntmps5
    go_wp2_with (go_at_call 9; refine stop_here ?_)
    refine stop_on ?_
    generalize hW : (World.alloc (World.alloc w _) _) = W4
    obtain ⟨hx, hb0, hb1⟩ := allocs2 hW
    clear hW
    have A_5 := Lib.hid (A_1.out.ext hx)
    have I_5 := Lib.hid (I_2.out.ext hx)
    have X_5 := Lib.hid (X_3.out.ext hx)
    clear A_1 I_2 X_3
    have h_6 := Lib.hid hb0
    have n_7 := Lib.hid hb1
    clear hx hb0 hb1
    refine (shown_any _).mono ?_
    rintro e w8 ⟨rfl, hx⟩
    have A_9 := Lib.hid (A_5.out.ext hx)
    have I_9 := Lib.hid (I_5.out.ext hx)
    have X_9 := Lib.hid (X_5.out.ext hx)
    have h_9 := Lib.hid (h_6.out.ext hx)
    have n_9 := Lib.hid (n_7.out.ext hx)
    clear A_5 I_5 X_5 h_6 n_7
    clear hx
    have qh0 : w8.cell? ⟨w.heap.size, 0, none⟩ = some (.slice R n q) := h_9.out.at 0 _ rfl
    have qh1 : w8.cell? ⟨w.heap.size, 1, none⟩ = some (.int .i64 keep) := h_9.out.at 1 _ rfl
    have zh := h_9.out.lt
    have qn0 : w8.cell? ⟨w.heap.size + 1, 0, none⟩ = some (.bool leaf) := n_9.out.at 0 _ rfl
    have qn1 : w8.cell? ⟨w.heap.size + 1, 1, none⟩ = some (.slice A m c) := n_9.out.at 1 _ rfl
    have zn := n_9.out.lt
    go_wp2_with (go_at_call 21; refine stop_here ?_)
    refine stop_on ?_
    clear qh0 qh1 zh qn0 qn1 zn
    refine (ref05May_is R l n q keep 60 _ A_9.out Hr.out).mono ?_
    rintro e w10 ⟨rfl, hx⟩
    have A_11 := Lib.hid (A_9.out.ext hx)
    have I_11 := Lib.hid (I_9.out.ext hx)
    have X_11 := Lib.hid (X_9.out.ext hx)
    have h_11 := Lib.hid (h_9.out.ext hx)
    have n_11 := Lib.hid (n_9.out.ext hx)
    clear A_9 I_9 X_9 h_9 n_9
    clear hx
    have qh0 : w10.cell? ⟨w.heap.size, 0, none⟩ = some (.slice R n q) := h_11.out.at 0 _ rfl
    have qh1 : w10.cell? ⟨w.heap.size, 1, none⟩ = some (.int .i64 keep) := h_11.out.at 1 _ rfl
    have zh := h_11.out.lt
    have qn0 : w10.cell? ⟨w.heap.size + 1, 0, none⟩ = some (.bool leaf) := n_11.out.at 0 _ rfl
    have qn1 : w10.cell? ⟨w.heap.size + 1, 1, none⟩ = some (.slice A m c) := n_11.out.at 1 _ rfl
    have zn := n_11.out.lt
    go_wp2
    go_ret
    exact ⟨rfl, X_11.out⟩
  have h10 : 10 < m := by simpa [hr9] using hr
  have Hr := Lib.hid hr9
  clear hr hr9
  have dm : decide ((10 : Int) < (m : Int)) = true := decide_eq_true (by omega)
  have em : decide (10 < m) = true := decide_eq_true h10
  go_enter Try.func5, Try.ntmps5
  go_wp2_with (go_at_call 9; refine stop_here ?_)
  refine stop_on ?_
  generalize hW : (World.alloc (World.alloc w _) _) = W12
  obtain ⟨hx, hb0, hb1⟩ := allocs2 hW
  clear hW
  have A_13 := Lib.hid (A_1.out.ext hx)
  have I_13 := Lib.hid (I_2.out.ext hx)
  have X_13 := Lib.hid (X_3.out.ext hx)
  clear A_1 I_2 X_3
  have h_14 := Lib.hid hb0
  have n_15 := Lib.hid hb1
  clear hx hb0 hb1
  refine (shown_any _).mono ?_
  rintro e w16 ⟨rfl, hx⟩
  have A_17 := Lib.hid (A_13.out.ext hx)
  have I_17 := Lib.hid (I_13.out.ext hx)
  have X_17 := Lib.hid (X_13.out.ext hx)
  have h_17 := Lib.hid (h_14.out.ext hx)
  have n_17 := Lib.hid (n_15.out.ext hx)
  clear A_13 I_13 X_13 h_14 n_15
  clear hx
  have qh0 : w16.cell? ⟨w.heap.size, 0, none⟩ = some (.slice R n q) := h_17.out.at 0 _ rfl
  have qh1 : w16.cell? ⟨w.heap.size, 1, none⟩ = some (.int .i64 keep) := h_17.out.at 1 _ rfl
  have zh := h_17.out.lt
  have qn0 : w16.cell? ⟨w.heap.size + 1, 0, none⟩ = some (.bool leaf) := n_17.out.at 0 _ rfl
  have qn1 : w16.cell? ⟨w.heap.size + 1, 1, none⟩ = some (.slice A m c) := n_17.out.at 1 _ rfl
  have zn := n_17.out.lt
  go_wp2_with (go_at_call 21; refine stop_here ?_)
  refine stop_on ?_
  clear qh0 qh1 zh qn0 qn1 zn
  refine (ref05May_is R l n q keep 60 _ A_17.out Hr.out).mono ?_
  rintro e w18 ⟨rfl, hx⟩
  have A_19 := Lib.hid (A_17.out.ext hx)
  have I_19 := Lib.hid (I_17.out.ext hx)
  have X_19 := Lib.hid (X_17.out.ext hx)
  have h_19 := Lib.hid (h_17.out.ext hx)
  have n_19 := Lib.hid (n_17.out.ext hx)
  clear A_17 I_17 X_17 h_17 n_17
  clear hx
  have qh0 : w18.cell? ⟨w.heap.size, 0, none⟩ = some (.slice R n q) := h_19.out.at 0 _ rfl
  have qh1 : w18.cell? ⟨w.heap.size, 1, none⟩ = some (.int .i64 keep) := h_19.out.at 1 _ rfl
  have zh := h_19.out.lt
  have qn0 : w18.cell? ⟨w.heap.size + 1, 0, none⟩ = some (.bool leaf) := n_19.out.at 0 _ rfl
  have qn1 : w18.cell? ⟨w.heap.size + 1, 1, none⟩ = some (.slice A m c) := n_19.out.at 1 _ rfl
  have zn := n_19.out.lt
  go_wp2
  go_ret
  exact ⟨rfl, X_19.out⟩
end Go.Proofs.Ytclpeeemnmhdcaa
