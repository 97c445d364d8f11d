/- The walk of HeapHeld: nothing is asked. -/
import Derived.Test.YtclpeeemnmhdcaaHeapS
import Derived.Deep.AppendLies
import Derived.Deep.RegionHeld3
import Derived.Deep.DeepCutAuto
import Derived.Deep.DrawnRows
import Derived.RegionTactic
namespace Go.Proofs.Ytclpeeemnmhdcaa
open Go.RowKit
attribute [local go_sem ↓] Go.wp_at_zero Go.wp_at_succ

attribute [local go_sem] beq_self_eq_true bne_self_eq_false
set_option maxRecDepth 100000 in
set_option maxHeartbeats 8000000 in
theorem held_out (R : Option Addr) (l : List HC) (n q : Nat) (keep : Int) (leaf : Bool) (A : Option Addr) (it : List It) (m c : Nat) (H : Option Addr) (held : List Int) (t d : Nat) (w : World) (hA : HcSl w R n q l) (hm : m = it.length) (hI : Sl w A m c (ivs it)) (ht : t = held.length) (hH : Sl w H t d (held.map iv)) (hr : mayH ⟨l, keep⟩ 60 = false ∨ 10 < m ∨ 20 < t) :
    Calls Try.prog 8 #[.agg #[.slice R n q, .int .i64 keep], .agg #[.bool leaf, .slice A m c], .slice H t d] w fun e w' => e = .returned (.bool true) ∧ Ext w w' := by
  have A_1 := Lib.hid (hA)
  have I_2 := Lib.hid (hI)
  have H_3 := Lib.hid (hH)
  have X_4 := Lib.hid (Ext.refl w)
  have HM := Lib.hid hm
  have HT := Lib.hid ht
  have hn := hA.1
  have HN := Lib.hid hn
  have hml := hI.len
  have htl := hH.len
  unfold maxLen at hml htl
  clear hA hI hH hm ht hn
  cases hr9 : mayH ⟨l, keep⟩ 60
  · have Hr := Lib.hid hr9
    clear hr hr9
    go_enter Try.func8, Try.ntmps8
    go_wp2_with (go_at_call 9; refine stop_here ?_)
    refine stop_on ?_
    generalize hW : (World.alloc (World.alloc w _) _) = W5
    obtain ⟨hx, hb0, hb1⟩ := allocs2 hW
    clear hW
    have A_6 := Lib.hid (A_1.out.ext hx)
    have I_6 := Lib.hid (I_2.out.ext hx)
    have H_6 := Lib.hid (H_3.out.ext hx)
    have X_6 := Lib.hid (X_4.out.ext hx)
    clear A_1 I_2 H_3 X_4
    have h_7 := Lib.hid hb0
    have n_8 := Lib.hid hb1
    clear hx hb0 hb1
    refine (shown_any _).mono ?_
    rintro e w9 ⟨rfl, hx⟩
    have A_10 := Lib.hid (A_6.out.ext hx)
    have I_10 := Lib.hid (I_6.out.ext hx)
    have H_10 := Lib.hid (H_6.out.ext hx)
    have X_10 := Lib.hid (X_6.out.ext hx)
    have h_10 := Lib.hid (h_7.out.ext hx)
    have n_10 := Lib.hid (n_8.out.ext hx)
    clear A_6 I_6 H_6 X_6 h_7 n_8
    clear hx
    have qh0 : w9.cell? ⟨w.heap.size, 0, none⟩ = some (.slice R n q) := h_10.out.at 0 _ rfl
    have qh1 : w9.cell? ⟨w.heap.size, 1, none⟩ = some (.int .i64 keep) := h_10.out.at 1 _ rfl
    have zh := h_10.out.lt
    have qn0 : w9.cell? ⟨w.heap.size + 1, 0, none⟩ = some (.bool leaf) := n_10.out.at 0 _ rfl
    have qn1 : w9.cell? ⟨w.heap.size + 1, 1, none⟩ = some (.slice A m c) := n_10.out.at 1 _ rfl
    have zn := n_10.out.lt
    go_wp2_with (go_at_call 21; refine stop_here ?_)
    refine stop_on ?_
    clear qh0 qh1 zh qn0 qn1 zn
    refine (ref05May_is R l n q keep 60 _ A_10.out Hr.out).mono ?_
    rintro e w11 ⟨rfl, hx⟩
    have A_12 := Lib.hid (A_10.out.ext hx)
    have I_12 := Lib.hid (I_10.out.ext hx)
    have H_12 := Lib.hid (H_10.out.ext hx)
    have X_12 := Lib.hid (X_10.out.ext hx)
    have h_12 := Lib.hid (h_10.out.ext hx)
    have n_12 := Lib.hid (n_10.out.ext hx)
    clear A_10 I_10 H_10 X_10 h_10 n_10
    clear hx
    have qh0 : w11.cell? ⟨w.heap.size, 0, none⟩ = some (.slice R n q) := h_12.out.at 0 _ rfl
    have qh1 : w11.cell? ⟨w.heap.size, 1, none⟩ = some (.int .i64 keep) := h_12.out.at 1 _ rfl
    have zh := h_12.out.lt
    have qn0 : w11.cell? ⟨w.heap.size + 1, 0, none⟩ = some (.bool leaf) := n_12.out.at 0 _ rfl
    have qn1 : w11.cell? ⟨w.heap.size + 1, 1, none⟩ = some (.slice A m c) := n_12.out.at 1 _ rfl
    have zn := n_12.out.lt
    go_wp2
    go_ret
    exact ⟨rfl, X_12.out⟩
  have Hr := Lib.hid hr9
  rcases Nat.lt_or_ge 10 m with h10 | h10
  · clear hr hr9
    have dm : decide ((10 : Int) < (m : Int)) = true := decide_eq_true (by omega)
    have em : decide (10 < m) = true := decide_eq_true h10
    go_enter Try.func8, Try.ntmps8
    go_wp2_with (go_at_call 9; refine stop_here ?_)
    refine stop_on ?_
    generalize hW : (World.alloc (World.alloc w _) _) = W13
    obtain ⟨hx, hb0, hb1⟩ := allocs2 hW
    clear hW
    have A_14 := Lib.hid (A_1.out.ext hx)
    have I_14 := Lib.hid (I_2.out.ext hx)
    have H_14 := Lib.hid (H_3.out.ext hx)
    have X_14 := Lib.hid (X_4.out.ext hx)
    clear A_1 I_2 H_3 X_4
    have h_15 := Lib.hid hb0
    have n_16 := Lib.hid hb1
    clear hx hb0 hb1
    refine (shown_any _).mono ?_
    rintro e w17 ⟨rfl, hx⟩
    have A_18 := Lib.hid (A_14.out.ext hx)
    have I_18 := Lib.hid (I_14.out.ext hx)
    have H_18 := Lib.hid (H_14.out.ext hx)
    have X_18 := Lib.hid (X_14.out.ext hx)
    have h_18 := Lib.hid (h_15.out.ext hx)
    have n_18 := Lib.hid (n_16.out.ext hx)
    clear A_14 I_14 H_14 X_14 h_15 n_16
    clear hx
    have qh0 : w17.cell? ⟨w.heap.size, 0, none⟩ = some (.slice R n q) := h_18.out.at 0 _ rfl
    have qh1 : w17.cell? ⟨w.heap.size, 1, none⟩ = some (.int .i64 keep) := h_18.out.at 1 _ rfl
    have zh := h_18.out.lt
    have qn0 : w17.cell? ⟨w.heap.size + 1, 0, none⟩ = some (.bool leaf) := n_18.out.at 0 _ rfl
    have qn1 : w17.cell? ⟨w.heap.size + 1, 1, none⟩ = some (.slice A m c) := n_18.out.at 1 _ rfl
    have zn := n_18.out.lt
    go_wp2_with (go_at_call 21; refine stop_here ?_)
    refine stop_on ?_
    clear qh0 qh1 zh qn0 qn1 zn
    refine (ref05May_is R l n q keep 60 _ A_18.out Hr.out).mono ?_
    rintro e w19 ⟨rfl, hx⟩
    have A_20 := Lib.hid (A_18.out.ext hx)
    have I_20 := Lib.hid (I_18.out.ext hx)
    have H_20 := Lib.hid (H_18.out.ext hx)
    have X_20 := Lib.hid (X_18.out.ext hx)
    have h_20 := Lib.hid (h_18.out.ext hx)
    have n_20 := Lib.hid (n_18.out.ext hx)
    clear A_18 I_18 H_18 X_18 h_18 n_18
    clear hx
    have qh0 : w19.cell? ⟨w.heap.size, 0, none⟩ = some (.slice R n q) := h_20.out.at 0 _ rfl
    have qh1 : w19.cell? ⟨w.heap.size, 1, none⟩ = some (.int .i64 keep) := h_20.out.at 1 _ rfl
    have zh := h_20.out.lt
    have qn0 : w19.cell? ⟨w.heap.size + 1, 0, none⟩ = some (.bool leaf) := n_20.out.at 0 _ rfl
    have qn1 : w19.cell? ⟨w.heap.size + 1, 1, none⟩ = some (.slice A m c) := n_20.out.at 1 _ rfl
    have zn := n_20.out.lt
    go_wp2
    go_ret
    exact ⟨rfl, X_20.out⟩
  have h20 : 20 < t := by
    rcases hr with h | h | h
    · rw [hr9] at h; cases h
    · omega
    · exact h
  clear hr hr9
  have dm : decide ((10 : Int) < (m : Int)) = false := decide_eq_false (by omega)
  have em : decide (10 < m) = false := decide_eq_false (by omega)
  have dt : decide ((20 : Int) < (t : Int)) = true := decide_eq_true (by omega)
  have et : decide (20 < t) = true := decide_eq_true h20
  go_enter Try.func8, Try.ntmps8
  go_wp2_with (go_at_call 9; refine stop_here ?_)
  refine stop_on ?_
  generalize hW : (World.alloc (World.alloc w _) _) = W21
  obtain ⟨hx, hb0, hb1⟩ := allocs2 hW
  clear hW
  have A_22 := Lib.hid (A_1.out.ext hx)
  have I_22 := Lib.hid (I_2.out.ext hx)
  have H_22 := Lib.hid (H_3.out.ext hx)
  have X_22 := Lib.hid (X_4.out.ext hx)
  clear A_1 I_2 H_3 X_4
  have h_23 := Lib.hid hb0
  have n_24 := Lib.hid hb1
  clear hx hb0 hb1
  refine (shown_any _).mono ?_
  rintro e w25 ⟨rfl, hx⟩
  have A_26 := Lib.hid (A_22.out.ext hx)
  have I_26 := Lib.hid (I_22.out.ext hx)
  have H_26 := Lib.hid (H_22.out.ext hx)
  have X_26 := Lib.hid (X_22.out.ext hx)
  have h_26 := Lib.hid (h_23.out.ext hx)
  have n_26 := Lib.hid (n_24.out.ext hx)
  clear A_22 I_22 H_22 X_22 h_23 n_24
  clear hx
  have qh0 : w25.cell? ⟨w.heap.size, 0, none⟩ = some (.slice R n q) := h_26.out.at 0 _ rfl
  have qh1 : w25.cell? ⟨w.heap.size, 1, none⟩ = some (.int .i64 keep) := h_26.out.at 1 _ rfl
  have zh := h_26.out.lt
  have qn0 : w25.cell? ⟨w.heap.size + 1, 0, none⟩ = some (.bool leaf) := n_26.out.at 0 _ rfl
  have qn1 : w25.cell? ⟨w.heap.size + 1, 1, none⟩ = some (.slice A m c) := n_26.out.at 1 _ rfl
  have zn := n_26.out.lt
  go_wp2_with (go_at_call 21; refine stop_here ?_)
  refine stop_on ?_
  clear qh0 qh1 zh qn0 qn1 zn
  refine (ref05May_is R l n q keep 60 _ A_26.out Hr.out).mono ?_
  rintro e w27 ⟨rfl, hx⟩
  have A_28 := Lib.hid (A_26.out.ext hx)
  have I_28 := Lib.hid (I_26.out.ext hx)
  have H_28 := Lib.hid (H_26.out.ext hx)
  have X_28 := Lib.hid (X_26.out.ext hx)
  have h_28 := Lib.hid (h_26.out.ext hx)
  have n_28 := Lib.hid (n_26.out.ext hx)
  clear A_26 I_26 H_26 X_26 h_26 n_26
  clear hx
  have qh0 : w27.cell? ⟨w.heap.size, 0, none⟩ = some (.slice R n q) := h_28.out.at 0 _ rfl
  have qh1 : w27.cell? ⟨w.heap.size, 1, none⟩ = some (.int .i64 keep) := h_28.out.at 1 _ rfl
  have zh := h_28.out.lt
  have qn0 : w27.cell? ⟨w.heap.size + 1, 0, none⟩ = some (.bool leaf) := n_28.out.at 0 _ rfl
  have qn1 : w27.cell? ⟨w.heap.size + 1, 1, none⟩ = some (.slice A m c) := n_28.out.at 1 _ rfl
  have zn := n_28.out.lt
  go_wp2
  go_ret
  exact ⟨rfl, X_28.out⟩
end Go.Proofs.Ytclpeeemnmhdcaa
