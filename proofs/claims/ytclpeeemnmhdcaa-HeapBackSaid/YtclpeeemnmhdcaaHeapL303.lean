/- The walk of HeapBack: the place is not used, no cell is free. -/
import Derived.Test.YtclpeeemnmhdcaaHeapN
import Derived.Test.YtclpeeemnmhdcaaHeapR
import Derived.Deep.AppendLies
import Derived.Deep.RegionHeld3
import Derived.Deep.DeepCutAuto
import Derived.Deep.DrawnRows
import Derived.RegionTactic
namespace Go.Proofs.Ytclpeeemnmhdcaa
open Go.RowKit
attribute [local go_sem ↓] Go.wp_at_zero Go.wp_at_succ

attribute [local go_sem] beq_self_eq_true bne_self_eq_false
set_option maxRecDepth 100000 in
set_option maxHeartbeats 8000000 in
theorem back_03 (R : Option Addr) (l : List HC) (n q : Nat) (keep : Int) (leaf : Bool) (A : Option Addr) (it : List It) (m c : Nat) (p : Int) (w : World) (hA : HcSl w R n q l) (hm : m = it.length) (hI : Sl w A m c (ivs it)) (hr : mayH ⟨l, keep⟩ 60 = true) (hm10 : m ≤ 10) (hu : usedC l p = false) (hg : (ndR it && leadsC l leaf it) = true) (hf : firstF l = l.length) :
    Calls Try.prog 5 #[.agg #[.slice R n q, .int .i64 keep], .agg #[.bool leaf, .slice A m c], .int .i64 p] w fun e w' => e = .returned (.bool true) ∧ Ext w w' := by
  obtain ⟨hl60, hcs, hri⟩ := may_iff hr
  obtain ⟨bh, oh, rfl⟩ := hA.ad (by have := (rightH_iff hri).1; omega)
  have A_1 := Lib.hid (hA)
  have I_2 := Lib.hid (hI)
  have X_3 := Lib.hid (Ext.refl w)
  have HM := Lib.hid hm
  have hn := hA.1
  have HN := Lib.hid hn
  have hml := hI.len
  unfold maxLen at hml
  have Hr := Lib.hid hr
  have hb : n ≤ 60 := by omega
  have HRI := Lib.hid hri
  have HBD := Lib.hid (may_bd hr)
  have hbd := may_bd hr
  have dm : decide ((10 : Int) < (m : Int)) = false := decide_eq_false (by omega)
  have em : decide (10 < m) = false := decide_eq_false (by omega)
  have HHO := Lib.hid (fun w' (hS : HcSl w' (some ⟨bh, oh, none⟩) n q l) => (show Calls Try.prog 24 #[.agg #[.slice (some ⟨bh, oh, none⟩) n q, .int .i64 keep], .int .i64 p] w' fun e w2 => ∃ S d, e = .returned (.tuple #[.agg #[.slice S n d, .int .i64 keep], .int .i64 4]) ∧ HcSl w2 S n d l ∧ Ext w' w2 from by
    have h := heapHold_any (some ⟨bh, oh, none⟩) l n q keep w' p hri hbd hS
    rw [(holdH_no (keep := keep) hu).1, (holdH_no (keep := keep) hu).2] at h
    exact h))
  have HUS := Lib.hid (fun w' (hS : HcSl w' (some ⟨bh, oh, none⟩) n q l) => (show Calls Try.prog 30 #[.agg #[.slice (some ⟨bh, oh, none⟩) n q, .int .i64 keep], .int .i64 p] w' fun e w2 => e = .returned (.bool false) ∧ Ext w' w2 from by
    have h := ref05Used_any (some ⟨bh, oh, none⟩) l n q keep p w' hS
    rw [hu] at h
    exact h))
  obtain ⟨a1, a2, a3⟩ := alloc_full (held := []) hg hf
  have HAL := Lib.hid (fun w' (hS : HcSl w' (some ⟨bh, oh, none⟩) n q l) (hI : Sl w' A m c (ivs it)) => (show Calls Try.prog 22 #[.agg #[.slice (some ⟨bh, oh, none⟩) n q, .int .i64 keep], .agg #[.bool leaf, .slice A m c], .slice none 0 0] w' fun e w2 => ∃ S d, e = .returned (.tuple #[.agg #[.slice S n d, .int .i64 keep], .int .i64 0, .int .i64 3]) ∧ HcSl w2 S n d l ∧ Ext w' w2 from by
    have h := heapAlloc_any (some ⟨bh, oh, none⟩) l n q keep w' leaf A it m c none [] 0 0 hr hm10 (by omega) hS hm hI rfl (Sl.nil _)
    rw [a1, a2, a3] at h
    exact h))
  have h0 : l.countP freeC = 0 := by
    rcases Nat.eq_zero_or_pos (l.countP freeC) with h9 | h9
    · exact h9
    · have := first_idx (l := l) (fun k hk => (right_ref hri k hk).1)
      obtain ⟨x, hx1, hx2⟩ := List.countP_pos_iff.1 h9
      rcases this with ⟨_, h8⟩ | ⟨h8, _⟩
      · unfold idxBy at h8
        rw [if_pos (List.any_eq_true.2 ⟨x, hx1, hx2⟩)] at h8
        omega
      · omega
  have H0 := Lib.hid h0
  clear hA hI hm hr hri hcs hl60 hbd hg hn hu a1 a2 a3 hf h0
  go_enter Try.func5, Try.ntmps5
  go_wp2_with (go_at_call 9; refine stop_here ?_)
  refine stop_on ?_
  generalize hW : (World.alloc (World.alloc w _) _) = W4
  obtain ⟨hx, hb0, hb1⟩ := allocs2 hW
  clear hW
  have A_5 := Lib.hid (A_1.out.ext hx)
  have I_5 := Lib.hid (I_2.out.ext hx)
  have X_5 := Lib.hid (X_3.out.ext hx)
  clear A_1 I_2 X_3
  have h_6 := Lib.hid hb0
  have n_7 := Lib.hid hb1
  clear hx hb0 hb1
  refine (shown_any _).mono ?_
  rintro e w8 ⟨rfl, hx⟩
  have A_9 := Lib.hid (A_5.out.ext hx)
  have I_9 := Lib.hid (I_5.out.ext hx)
  have X_9 := Lib.hid (X_5.out.ext hx)
  have h_9 := Lib.hid (h_6.out.ext hx)
  have n_9 := Lib.hid (n_7.out.ext hx)
  clear A_5 I_5 X_5 h_6 n_7
  clear hx
  have qh0 : w8.cell? ⟨w.heap.size, 0, none⟩ = some (.slice (some ⟨bh, oh, none⟩) n q) := h_9.out.at 0 _ rfl
  have qh1 : w8.cell? ⟨w.heap.size, 1, none⟩ = some (.int .i64 keep) := h_9.out.at 1 _ rfl
  have zh := h_9.out.lt
  have qn0 : w8.cell? ⟨w.heap.size + 1, 0, none⟩ = some (.bool leaf) := n_9.out.at 0 _ rfl
  have qn1 : w8.cell? ⟨w.heap.size + 1, 1, none⟩ = some (.slice A m c) := n_9.out.at 1 _ rfl
  have zn := n_9.out.lt
  go_wp2_with (go_at_call 21; refine stop_here ?_)
  refine stop_on ?_
  clear qh0 qh1 zh qn0 qn1 zn
  refine (ref05May_is (some ⟨bh, oh, none⟩) l n q keep 60 _ A_9.out Hr.out).mono ?_
  rintro e w10 ⟨rfl, hx⟩
  have A_11 := Lib.hid (A_9.out.ext hx)
  have I_11 := Lib.hid (I_9.out.ext hx)
  have X_11 := Lib.hid (X_9.out.ext hx)
  have h_11 := Lib.hid (h_9.out.ext hx)
  have n_11 := Lib.hid (n_9.out.ext hx)
  clear A_9 I_9 X_9 h_9 n_9
  clear hx
  have qh0 : w10.cell? ⟨w.heap.size, 0, none⟩ = some (.slice (some ⟨bh, oh, none⟩) n q) := h_11.out.at 0 _ rfl
  have qh1 : w10.cell? ⟨w.heap.size, 1, none⟩ = some (.int .i64 keep) := h_11.out.at 1 _ rfl
  have zh := h_11.out.lt
  have qn0 : w10.cell? ⟨w.heap.size + 1, 0, none⟩ = some (.bool leaf) := n_11.out.at 0 _ rfl
  have qn1 : w10.cell? ⟨w.heap.size + 1, 1, none⟩ = some (.slice A m c) := n_11.out.at 1 _ rfl
  have zn := n_11.out.lt
  go_wp2_with (go_at_call 24; refine stop_here ?_)
  refine stop_on ?_
  clear qh0 qh1 zh qn0 qn1 zn
  refine (HHO.out _ A_11.out).mono ?_
  rintro e w12 ⟨S1, d1, rfl, h1, hx⟩
  have A_13 := Lib.hid (A_11.out.ext hx)
  have I_13 := Lib.hid (I_11.out.ext hx)
  have X_13 := Lib.hid (X_11.out.ext hx)
  have h_13 := Lib.hid (h_11.out.ext hx)
  have n_13 := Lib.hid (n_11.out.ext hx)
  clear A_11 I_11 X_11 h_11 n_11
  have P1_14 := Lib.hid h1
  clear hx h1
  have qh0 : w12.cell? ⟨w.heap.size, 0, none⟩ = some (.slice (some ⟨bh, oh, none⟩) n q) := h_13.out.at 0 _ rfl
  have qh1 : w12.cell? ⟨w.heap.size, 1, none⟩ = some (.int .i64 keep) := h_13.out.at 1 _ rfl
  have zh := h_13.out.lt
  have qn0 : w12.cell? ⟨w.heap.size + 1, 0, none⟩ = some (.bool leaf) := n_13.out.at 0 _ rfl
  have qn1 : w12.cell? ⟨w.heap.size + 1, 1, none⟩ = some (.slice A m c) := n_13.out.at 1 _ rfl
  have zn := n_13.out.lt
  go_wp2_with (go_at_call 30; refine stop_here ?_)
  refine stop_on ?_
  clear qh0 qh1 zh qn0 qn1 zn
  generalize hW : (World.alloc w12 _) = W15
  obtain ⟨hx, hb0⟩ := allocs1 hW
  clear hW
  have A_16 := Lib.hid (A_13.out.ext hx)
  have I_16 := Lib.hid (I_13.out.ext hx)
  have X_16 := Lib.hid (X_13.out.ext hx)
  have h_16 := Lib.hid (h_13.out.ext hx)
  have n_16 := Lib.hid (n_13.out.ext hx)
  have P1_16 := Lib.hid (P1_14.out.ext hx)
  clear A_13 I_13 X_13 h_13 n_13 P1_14
  have c_17 := Lib.hid hb0
  clear hx hb0
  refine (HUS.out _ A_16.out).mono ?_
  rintro e w18 ⟨rfl, hx⟩
  have A_19 := Lib.hid (A_16.out.ext hx)
  have I_19 := Lib.hid (I_16.out.ext hx)
  have X_19 := Lib.hid (X_16.out.ext hx)
  have h_19 := Lib.hid (h_16.out.ext hx)
  have n_19 := Lib.hid (n_16.out.ext hx)
  have P1_19 := Lib.hid (P1_16.out.ext hx)
  have c_19 := Lib.hid (c_17.out.ext hx)
  clear A_16 I_16 X_16 h_16 n_16 P1_16 c_17
  clear hx
  have qh0 : w18.cell? ⟨w.heap.size, 0, none⟩ = some (.slice (some ⟨bh, oh, none⟩) n q) := h_19.out.at 0 _ rfl
  have qh1 : w18.cell? ⟨w.heap.size, 1, none⟩ = some (.int .i64 keep) := h_19.out.at 1 _ rfl
  have zh := h_19.out.lt
  have qn0 : w18.cell? ⟨w.heap.size + 1, 0, none⟩ = some (.bool leaf) := n_19.out.at 0 _ rfl
  have qn1 : w18.cell? ⟨w.heap.size + 1, 1, none⟩ = some (.slice A m c) := n_19.out.at 1 _ rfl
  have zn := n_19.out.lt
  have qc0 : w18.cell? ⟨w12.heap.size, 0, none⟩ = some (.slice S1 n d1) := c_19.out.at 0 _ rfl
  have qc1 : w18.cell? ⟨w12.heap.size, 1, none⟩ = some (.int .i64 keep) := c_19.out.at 1 _ rfl
  have zc := c_19.out.lt
  go_wp2_with (go_at_call 26; refine stop_here ?_)
  refine stop_on ?_
  clear qh0 qh1 zh qn0 qn1 zn qc0 qc1 zc
  refine (heapLoose_is S1 l n d1 keep p _ HRI.out HBD.out P1_19.out).mono ?_
  rintro e w20 ⟨S2, d2, rfl, h1, hx⟩
  have A_21 := Lib.hid (A_19.out.ext hx)
  have I_21 := Lib.hid (I_19.out.ext hx)
  have X_21 := Lib.hid (X_19.out.ext hx)
  have h_21 := Lib.hid (h_19.out.ext hx)
  have n_21 := Lib.hid (n_19.out.ext hx)
  have P1_21 := Lib.hid (P1_19.out.ext hx)
  have c_21 := Lib.hid (c_19.out.ext hx)
  clear A_19 I_19 X_19 h_19 n_19 P1_19 c_19
  have P2_22 := Lib.hid h1
  clear hx h1
  have qh0 : w20.cell? ⟨w.heap.size, 0, none⟩ = some (.slice (some ⟨bh, oh, none⟩) n q) := h_21.out.at 0 _ rfl
  have qh1 : w20.cell? ⟨w.heap.size, 1, none⟩ = some (.int .i64 keep) := h_21.out.at 1 _ rfl
  have zh := h_21.out.lt
  have qn0 : w20.cell? ⟨w.heap.size + 1, 0, none⟩ = some (.bool leaf) := n_21.out.at 0 _ rfl
  have qn1 : w20.cell? ⟨w.heap.size + 1, 1, none⟩ = some (.slice A m c) := n_21.out.at 1 _ rfl
  have zn := n_21.out.lt
  have qc0 : w20.cell? ⟨w12.heap.size, 0, none⟩ = some (.slice S1 n d1) := c_21.out.at 0 _ rfl
  have qc1 : w20.cell? ⟨w12.heap.size, 1, none⟩ = some (.int .i64 keep) := c_21.out.at 1 _ rfl
  have zc := c_21.out.lt
  go_wp2_with fail
  clear qh0 qh1 zh qn0 qn1 zn qc0 qc1 zc
  generalize hW : (World.alloc w20 _) = W23
  obtain ⟨hx, hb0⟩ := allocs1 hW
  clear hW
  have A_24 := Lib.hid (A_21.out.ext hx)
  have I_24 := Lib.hid (I_21.out.ext hx)
  have X_24 := Lib.hid (X_21.out.ext hx)
  have h_24 := Lib.hid (h_21.out.ext hx)
  have n_24 := Lib.hid (n_21.out.ext hx)
  have P1_24 := Lib.hid (P1_21.out.ext hx)
  have c_24 := Lib.hid (c_21.out.ext hx)
  have P2_24 := Lib.hid (P2_22.out.ext hx)
  clear A_21 I_21 X_21 h_21 n_21 P1_21 c_21 P2_22
  have d_25 := Lib.hid hb0
  clear hx hb0
  go_cut [79] from 47 to 79 (fun v wx => v = .bool false ∧ Ext W23 wx)
  case first =>
    have qh0 : W23.cell? ⟨w.heap.size, 0, none⟩ = some (.slice (some ⟨bh, oh, none⟩) n q) := h_24.out.at 0 _ rfl
    have qh1 : W23.cell? ⟨w.heap.size, 1, none⟩ = some (.int .i64 keep) := h_24.out.at 1 _ rfl
    have zh := h_24.out.lt
    have qc0 : W23.cell? ⟨w12.heap.size, 0, none⟩ = some (.slice S1 n d1) := c_24.out.at 0 _ rfl
    have qc1 : W23.cell? ⟨w12.heap.size, 1, none⟩ = some (.int .i64 keep) := c_24.out.at 1 _ rfl
    have zc := c_24.out.lt
    have qd0 : W23.cell? ⟨w20.heap.size, 0, none⟩ = some (.slice S2 n d2) := d_25.out.at 0 _ rfl
    have qd1 : W23.cell? ⟨w20.heap.size, 1, none⟩ = some (.int .i64 keep) := d_25.out.at 1 _ rfl
    have zd := d_25.out.lt
    go_quiet (fail)
    go_wp2_with fail
    go_meet
    exact ⟨rfl, (Ext.refl _).drewN _⟩
  case rest =>
    obtain ⟨rfl, hx⟩ := hcut
    have A_26 := Lib.hid (A_24.out.ext hx)
    have I_26 := Lib.hid (I_24.out.ext hx)
    have X_26 := Lib.hid (X_24.out.ext hx)
    have h_26 := Lib.hid (h_24.out.ext hx)
    have n_26 := Lib.hid (n_24.out.ext hx)
    have P1_26 := Lib.hid (P1_24.out.ext hx)
    have c_26 := Lib.hid (c_24.out.ext hx)
    have P2_26 := Lib.hid (P2_24.out.ext hx)
    have d_26 := Lib.hid (d_25.out.ext hx)
    clear A_24 I_24 X_24 h_24 n_24 P1_24 c_24 P2_24 d_25
    clear P1_26
    clear P2_26
    clear c_26
    clear d_26
    have qh0 : wc.cell? ⟨w.heap.size, 0, none⟩ = some (.slice (some ⟨bh, oh, none⟩) n q) := h_26.out.at 0 _ rfl
    have qh1 : wc.cell? ⟨w.heap.size, 1, none⟩ = some (.int .i64 keep) := h_26.out.at 1 _ rfl
    have zh := h_26.out.lt
    have qn0 : wc.cell? ⟨w.heap.size + 1, 0, none⟩ = some (.bool leaf) := n_26.out.at 0 _ rfl
    have qn1 : wc.cell? ⟨w.heap.size + 1, 1, none⟩ = some (.slice A m c) := n_26.out.at 1 _ rfl
    have zn := n_26.out.lt
    go_wp2_with (go_at_call 22; refine stop_here ?_)
    refine stop_on ?_
    clear qh0 qh1 zh qn0 qn1 zn
    refine (HAL.out _ A_26.out I_26.out).mono ?_
    rintro e w27 ⟨S3, d3, rfl, h1, hx⟩
    have A_28 := Lib.hid (A_26.out.ext hx)
    have I_28 := Lib.hid (I_26.out.ext hx)
    have X_28 := Lib.hid (X_26.out.ext hx)
    have h_28 := Lib.hid (h_26.out.ext hx)
    have n_28 := Lib.hid (n_26.out.ext hx)
    clear A_26 I_26 X_26 h_26 n_26
    have P3_29 := Lib.hid h1
    clear hx h1
    have qh0 : w27.cell? ⟨w.heap.size, 0, none⟩ = some (.slice (some ⟨bh, oh, none⟩) n q) := h_28.out.at 0 _ rfl
    have qh1 : w27.cell? ⟨w.heap.size, 1, none⟩ = some (.int .i64 keep) := h_28.out.at 1 _ rfl
    have zh := h_28.out.lt
    have qn0 : w27.cell? ⟨w.heap.size + 1, 0, none⟩ = some (.bool leaf) := n_28.out.at 0 _ rfl
    have qn1 : w27.cell? ⟨w.heap.size + 1, 1, none⟩ = some (.slice A m c) := n_28.out.at 1 _ rfl
    have zn := n_28.out.lt
    go_wp2_with (go_at_call 14; refine stop_here ?_)
    refine stop_on ?_
    clear qh0 qh1 zh qn0 qn1 zn
    generalize hW : (World.alloc w27 _) = W30
    obtain ⟨hx, hb0⟩ := allocs1 hW
    clear hW
    have A_31 := Lib.hid (A_28.out.ext hx)
    have I_31 := Lib.hid (I_28.out.ext hx)
    have X_31 := Lib.hid (X_28.out.ext hx)
    have h_31 := Lib.hid (h_28.out.ext hx)
    have n_31 := Lib.hid (n_28.out.ext hx)
    have P3_31 := Lib.hid (P3_29.out.ext hx)
    clear A_28 I_28 X_28 h_28 n_28 P3_29
    have a_32 := Lib.hid hb0
    clear hx hb0
    refine (ref05Same_eq S3 (some ⟨bh, oh, none⟩) l n d3 q keep _ P3_31.out A_31.out).mono ?_
    rintro e w33 ⟨rfl, hx⟩
    have A_34 := Lib.hid (A_31.out.ext hx)
    have I_34 := Lib.hid (I_31.out.ext hx)
    have X_34 := Lib.hid (X_31.out.ext hx)
    have h_34 := Lib.hid (h_31.out.ext hx)
    have n_34 := Lib.hid (n_31.out.ext hx)
    have P3_34 := Lib.hid (P3_31.out.ext hx)
    have a_34 := Lib.hid (a_32.out.ext hx)
    clear A_31 I_31 X_31 h_31 n_31 P3_31 a_32
    clear hx
    have qh0 : w33.cell? ⟨w.heap.size, 0, none⟩ = some (.slice (some ⟨bh, oh, none⟩) n q) := h_34.out.at 0 _ rfl
    have qh1 : w33.cell? ⟨w.heap.size, 1, none⟩ = some (.int .i64 keep) := h_34.out.at 1 _ rfl
    have zh := h_34.out.lt
    have qn0 : w33.cell? ⟨w.heap.size + 1, 0, none⟩ = some (.bool leaf) := n_34.out.at 0 _ rfl
    have qn1 : w33.cell? ⟨w.heap.size + 1, 1, none⟩ = some (.slice A m c) := n_34.out.at 1 _ rfl
    have zn := n_34.out.lt
    have qa0 : w33.cell? ⟨w27.heap.size, 0, none⟩ = some (.slice S3 n d3) := a_34.out.at 0 _ rfl
    have qa1 : w33.cell? ⟨w27.heap.size, 1, none⟩ = some (.int .i64 keep) := a_34.out.at 1 _ rfl
    have za := a_34.out.lt
    go_wp2_with (go_at_call 18; refine stop_here ?_)
    refine stop_on ?_
    clear qh0 qh1 zh qn0 qn1 zn qa0 qa1 za
    refine (ref05Free_is (some ⟨bh, oh, none⟩) l n q keep _ H0.out A_34.out).mono ?_
    rintro e w35 ⟨rfl, hx⟩
    have A_36 := Lib.hid (A_34.out.ext hx)
    have I_36 := Lib.hid (I_34.out.ext hx)
    have X_36 := Lib.hid (X_34.out.ext hx)
    have h_36 := Lib.hid (h_34.out.ext hx)
    have n_36 := Lib.hid (n_34.out.ext hx)
    have P3_36 := Lib.hid (P3_34.out.ext hx)
    have a_36 := Lib.hid (a_34.out.ext hx)
    clear A_34 I_34 X_34 h_34 n_34 P3_34 a_34
    clear hx
    have qh0 : w35.cell? ⟨w.heap.size, 0, none⟩ = some (.slice (some ⟨bh, oh, none⟩) n q) := h_36.out.at 0 _ rfl
    have qh1 : w35.cell? ⟨w.heap.size, 1, none⟩ = some (.int .i64 keep) := h_36.out.at 1 _ rfl
    have zh := h_36.out.lt
    have qn0 : w35.cell? ⟨w.heap.size + 1, 0, none⟩ = some (.bool leaf) := n_36.out.at 0 _ rfl
    have qn1 : w35.cell? ⟨w.heap.size + 1, 1, none⟩ = some (.slice A m c) := n_36.out.at 1 _ rfl
    have zn := n_36.out.lt
    have qa0 : w35.cell? ⟨w27.heap.size, 0, none⟩ = some (.slice S3 n d3) := a_36.out.at 0 _ rfl
    have qa1 : w35.cell? ⟨w27.heap.size, 1, none⟩ = some (.int .i64 keep) := a_36.out.at 1 _ rfl
    have za := a_36.out.lt
    go_wp2
    go_ret
    exact ⟨rfl, X_36.out⟩
end Go.Proofs.Ytclpeeemnmhdcaa
