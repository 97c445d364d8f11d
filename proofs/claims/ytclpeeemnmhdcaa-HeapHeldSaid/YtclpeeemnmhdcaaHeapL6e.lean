/- The walk of HeapHeld: the node is not laid. -/
import Derived.Test.YtclpeeemnmhdcaaHeapS
import Derived.Deep.AppendLies
import Derived.Deep.RegionHeld3
import Derived.Deep.DeepCutAuto
import Derived.Deep.DrawnRows
import Derived.RegionTactic
namespace Go.Proofs.Ytclpeeemnmhdcaa
open Go.RowKit
attribute [local go_sem ↓] Go.wp_at_zero Go.wp_at_succ

attribute [local go_sem] beq_self_eq_true bne_self_eq_false
set_option maxRecDepth 100000 in
set_option maxHeartbeats 8000000 in
theorem held_no (R : Option Addr) (l : List HC) (n q : Nat) (keep : Int) (leaf : Bool) (A : Option Addr) (it : List It) (m c : Nat) (H : Option Addr) (held : List Int) (t d : Nat) (w : World) (hA : HcSl w R n q l) (hm : m = it.length) (hI : Sl w A m c (ivs it)) (ht : t = held.length) (hH : Sl w H t d (held.map iv)) (hr : mayH ⟨l, keep⟩ 60 = true) (hm10 : m ≤ 10) (ht20 : t ≤ 20) (he : allocP l leaf it = 0 ∧ (allocE l leaf it = 1 ∨ allocE l leaf it = 3)) :
    Calls Try.prog 8 #[.agg #[.slice R n q, .int .i64 keep], .agg #[.bool leaf, .slice A m c], .slice H t d] w fun e w' => e = .returned (.bool true) ∧ Ext w w' := by
  obtain ⟨hl60, hcs, hri⟩ := may_iff hr
  obtain ⟨bh, oh, rfl⟩ := hA.ad (by have := (rightH_iff hri).1; omega)
  have A_1 := Lib.hid (hA)
  have I_2 := Lib.hid (hI)
  have H_3 := Lib.hid (hH)
  have X_4 := Lib.hid (Ext.refl w)
  have HM := Lib.hid hm
  have HT := Lib.hid ht
  have hn := hA.1
  have HN := Lib.hid hn
  have hml := hI.len
  have htl := hH.len
  unfold maxLen at hml htl
  have Hr := Lib.hid hr
  have hb : n ≤ 60 := by omega
  have dm : decide ((10 : Int) < (m : Int)) = false := decide_eq_false (by omega)
  have em : decide (10 < m) = false := decide_eq_false (by omega)
  have dt : decide ((20 : Int) < (t : Int)) = false := decide_eq_false (by omega)
  have et : decide (20 < t) = false := decide_eq_false (by omega)
  obtain ⟨hp0, he1⟩ := he
  obtain ⟨ee, hee⟩ : ∃ ee, allocE l leaf it = ee := ⟨_, rfl⟩
  rw [hee] at he1
  have HAL := Lib.hid (fun w' (hS : HcSl w' (some ⟨bh, oh, none⟩) n q l) (hI : Sl w' A m c (ivs it)) (hH : Sl w' H t d (held.map iv)) => (show Calls Try.prog 22 #[.agg #[.slice (some ⟨bh, oh, none⟩) n q, .int .i64 keep], .agg #[.bool leaf, .slice A m c], .slice H t d] w' fun e w2 => ∃ S d, e = .returned (.tuple #[.agg #[.slice S n d, .int .i64 keep], .int .i64 0, .int .i64 ee]) ∧ Ext w' w2 from by
    have h := heapAlloc_any (some ⟨bh, oh, none⟩) l n q keep w' leaf A it m c H held t d hr hm10 ht20 hS hm hI ht hH
    rw [hp0, hee] at h
    refine h.mono ?_
    rintro e w2 ⟨S, d2, rfl, _, hx⟩
    exact ⟨S, d2, rfl, hx⟩))
  have hne : (ee == 0) = false := beq_eq_false_iff_ne.2 (by omega)
  have hne2 : (ee != 0) = true := bne_iff_ne.2 (by omega)
  clear hA hI hH hm ht hr hri hcs hl60 hn hp0 hee
  go_enter Try.func8, Try.ntmps8
  go_wp2_with (go_at_call 9; refine stop_here ?_)
  refine stop_on ?_
  generalize hW : (World.alloc (World.alloc w _) _) = W5
  obtain ⟨hx, hb0, hb1⟩ := allocs2 hW
  clear hW
  have A_6 := Lib.hid (A_1.out.ext hx)
  have I_6 := Lib.hid (I_2.out.ext hx)
  have H_6 := Lib.hid (H_3.out.ext hx)
  have X_6 := Lib.hid (X_4.out.ext hx)
  clear A_1 I_2 H_3 X_4
  have h_7 := Lib.hid hb0
  have n_8 := Lib.hid hb1
  clear hx hb0 hb1
  refine (shown_any _).mono ?_
  rintro e w9 ⟨rfl, hx⟩
  have A_10 := Lib.hid (A_6.out.ext hx)
  have I_10 := Lib.hid (I_6.out.ext hx)
  have H_10 := Lib.hid (H_6.out.ext hx)
  have X_10 := Lib.hid (X_6.out.ext hx)
  have h_10 := Lib.hid (h_7.out.ext hx)
  have n_10 := Lib.hid (n_8.out.ext hx)
  clear A_6 I_6 H_6 X_6 h_7 n_8
  clear hx
  have qh0 : w9.cell? ⟨w.heap.size, 0, none⟩ = some (.slice (some ⟨bh, oh, none⟩) n q) := h_10.out.at 0 _ rfl
  have qh1 : w9.cell? ⟨w.heap.size, 1, none⟩ = some (.int .i64 keep) := h_10.out.at 1 _ rfl
  have zh := h_10.out.lt
  have qn0 : w9.cell? ⟨w.heap.size + 1, 0, none⟩ = some (.bool leaf) := n_10.out.at 0 _ rfl
  have qn1 : w9.cell? ⟨w.heap.size + 1, 1, none⟩ = some (.slice A m c) := n_10.out.at 1 _ rfl
  have zn := n_10.out.lt
  go_wp2_with (go_at_call 21; refine stop_here ?_)
  refine stop_on ?_
  clear qh0 qh1 zh qn0 qn1 zn
  refine (ref05May_is (some ⟨bh, oh, none⟩) l n q keep 60 _ A_10.out Hr.out).mono ?_
  rintro e w11 ⟨rfl, hx⟩
  have A_12 := Lib.hid (A_10.out.ext hx)
  have I_12 := Lib.hid (I_10.out.ext hx)
  have H_12 := Lib.hid (H_10.out.ext hx)
  have X_12 := Lib.hid (X_10.out.ext hx)
  have h_12 := Lib.hid (h_10.out.ext hx)
  have n_12 := Lib.hid (n_10.out.ext hx)
  clear A_10 I_10 H_10 X_10 h_10 n_10
  clear hx
  have qh0 : w11.cell? ⟨w.heap.size, 0, none⟩ = some (.slice (some ⟨bh, oh, none⟩) n q) := h_12.out.at 0 _ rfl
  have qh1 : w11.cell? ⟨w.heap.size, 1, none⟩ = some (.int .i64 keep) := h_12.out.at 1 _ rfl
  have zh := h_12.out.lt
  have qn0 : w11.cell? ⟨w.heap.size + 1, 0, none⟩ = some (.bool leaf) := n_12.out.at 0 _ rfl
  have qn1 : w11.cell? ⟨w.heap.size + 1, 1, none⟩ = some (.slice A m c) := n_12.out.at 1 _ rfl
  have zn := n_12.out.lt
  go_wp2_with (go_at_call 22; refine stop_here ?_)
  refine stop_on ?_
  clear qh0 qh1 zh qn0 qn1 zn
  refine (HAL.out _ A_12.out I_12.out H_12.out).mono ?_
  rintro e w13 ⟨S3, d3, rfl, hx⟩
  have A_14 := Lib.hid (A_12.out.ext hx)
  have I_14 := Lib.hid (I_12.out.ext hx)
  have H_14 := Lib.hid (H_12.out.ext hx)
  have X_14 := Lib.hid (X_12.out.ext hx)
  have h_14 := Lib.hid (h_12.out.ext hx)
  have n_14 := Lib.hid (n_12.out.ext hx)
  clear A_12 I_12 H_12 X_12 h_12 n_12
  clear hx
  have qh0 : w13.cell? ⟨w.heap.size, 0, none⟩ = some (.slice (some ⟨bh, oh, none⟩) n q) := h_14.out.at 0 _ rfl
  have qh1 : w13.cell? ⟨w.heap.size, 1, none⟩ = some (.int .i64 keep) := h_14.out.at 1 _ rfl
  have zh := h_14.out.lt
  have qn0 : w13.cell? ⟨w.heap.size + 1, 0, none⟩ = some (.bool leaf) := n_14.out.at 0 _ rfl
  have qn1 : w13.cell? ⟨w.heap.size + 1, 1, none⟩ = some (.slice A m c) := n_14.out.at 1 _ rfl
  have zn := n_14.out.lt
  go_wp2
  go_ret
  exact ⟨rfl, (X_14.out).alloc _⟩
end Go.Proofs.Ytclpeeemnmhdcaa
