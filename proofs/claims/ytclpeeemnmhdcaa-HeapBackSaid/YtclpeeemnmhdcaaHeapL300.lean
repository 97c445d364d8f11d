/- The walk of HeapBack: the place is not used, the node is laid. -/
import Derived.Test.YtclpeeemnmhdcaaHeapN
import Derived.Test.YtclpeeemnmhdcaaHeapR
import Derived.Deep.AppendLies
import Derived.Deep.RegionHeld3
import Derived.Deep.DeepCutAuto
import Derived.Deep.DrawnRows
import Derived.RegionTactic
namespace Go.Proofs.Ytclpeeemnmhdcaa
open Go.RowKit
attribute [local go_sem ↓] Go.wp_at_zero Go.wp_at_succ

attribute [local go_sem] beq_self_eq_true bne_self_eq_false
set_option maxRecDepth 100000 in
set_option maxHeartbeats 8000000 in
theorem back_00 (R : Option Addr) (l : List HC) (n q : Nat) (keep : Int) (leaf : Bool) (A : Option Addr) (it : List It) (m c : Nat) (p : Int) (w : World) (hA : HcSl w R n q l) (hm : m = it.length) (hI : Sl w A m c (ivs it)) (hr : mayH ⟨l, keep⟩ 60 = true) (hm10 : m ≤ 10) (hu : usedC l p = false) (z : Nat) (hg : (ndR it && leadsC l leaf it) = true) (hz : z < l.length) (hf : firstF l = z) :
    Calls Try.prog 5 #[.agg #[.slice R n q, .int .i64 keep], .agg #[.bool leaf, .slice A m c], .int .i64 p] w fun e w' => e = .returned (.bool true) ∧ Ext w w' := by
  obtain ⟨hl60, hcs, hri⟩ := may_iff hr
  obtain ⟨bh, oh, rfl⟩ := hA.ad (by have := (rightH_iff hri).1; omega)
  have A_1 := Lib.hid (hA)
  have I_2 := Lib.hid (hI)
  have X_3 := Lib.hid (Ext.refl w)
  have HM := Lib.hid hm
  have hn := hA.1
  have HN := Lib.hid hn
  have hml := hI.len
  unfold maxLen at hml
  have Hr := Lib.hid hr
  have hb : n ≤ 60 := by omega
  have HRI := Lib.hid hri
  have HBD := Lib.hid (may_bd hr)
  have hbd := may_bd hr
  have dm : decide ((10 : Int) < (m : Int)) = false := decide_eq_false (by omega)
  have em : decide (10 < m) = false := decide_eq_false (by omega)
  have HHO := Lib.hid (fun w' (hS : HcSl w' (some ⟨bh, oh, none⟩) n q l) => (show Calls Try.prog 24 #[.agg #[.slice (some ⟨bh, oh, none⟩) n q, .int .i64 keep], .int .i64 p] w' fun e w2 => ∃ S d, e = .returned (.tuple #[.agg #[.slice S n d, .int .i64 keep], .int .i64 4]) ∧ HcSl w2 S n d l ∧ Ext w' w2 from by
    have h := heapHold_any (some ⟨bh, oh, none⟩) l n q keep w' p hri hbd hS
    rw [(holdH_no (keep := keep) hu).1, (holdH_no (keep := keep) hu).2] at h
    exact h))
  have HUS := Lib.hid (fun w' (hS : HcSl w' (some ⟨bh, oh, none⟩) n q l) => (show Calls Try.prog 30 #[.agg #[.slice (some ⟨bh, oh, none⟩) n q, .int .i64 keep], .int .i64 p] w' fun e w2 => e = .returned (.bool false) ∧ Ext w' w2 from by
    have h := ref05Used_any (some ⟨bh, oh, none⟩) l n q keep p w' hS
    rw [hu] at h
    exact h))
  obtain ⟨a1, a2, _⟩ := alloc_ok (held := []) hg hz hf
  obtain ⟨r1, r2, r3⟩ := alloc_right (held := []) hri (fun k hk => (hcs k hk).2) hg hz hf
  obtain ⟨lo1, lo2⟩ := alloc_back hri hg hz hf
  have hz3 : z < (allocL l leaf it []).length := by rw [r3]; exact hz
  have hcell := alloc_cell (held := []) hg hz hf hz3
  have hahd := fun j (hj : j < l.length) (hjz : j ≤ z) => first_ahead hri hz hf hj hjz
  have hfirst := first_free hri hz hf
  obtain ⟨al, hal⟩ : ∃ al, (allocL l leaf it []) = al := ⟨_, rfl⟩
  simp only [hal] at r1 r2 r3 lo1 lo2 hz3 hcell
  have HAL := Lib.hid (fun w' (hS : HcSl w' (some ⟨bh, oh, none⟩) n q l) (hI : Sl w' A m c (ivs it)) => (show Calls Try.prog 22 #[.agg #[.slice (some ⟨bh, oh, none⟩) n q, .int .i64 keep], .agg #[.bool leaf, .slice A m c], .slice none 0 0] w' fun e w2 => ∃ b3 o3 d3 A3 c3, e = .returned (.tuple #[.agg #[.slice (some ⟨b3, o3, none⟩) n d3, .int .i64 keep], .int .i64 z, .int .i64 0]) ∧ HcSl w2 (some ⟨b3, o3, none⟩) n d3 al ∧ Sl w2 A3 m c3 (ivs it) ∧ ((w2.cell? ⟨b3, o3 + z * 4, none⟩ = some (.int .i64 1) ∧ w2.cell? ⟨b3, o3 + z * 4 + 2, none⟩ = some (.bool leaf) ∧ w2.cell? ⟨b3, o3 + z * 4 + 3, none⟩ = some (.slice A3 m c3)) ∧ b3 < w2.heap.size) ∧ Ext w' w2 from by
    have h := heapAlloc_any (some ⟨bh, oh, none⟩) l n q keep w' leaf A it m c none [] 0 0 hr hm10 (by omega) hS hm hI rfl (Sl.nil _)
    rw [a1, a2, hal] at h
    refine h.mono ?_
    rintro e w2 ⟨S, d, rfl, h1, hx⟩
    obtain ⟨b3, o3, rfl, hbl, A3, c3, c0, _, c2, c4, hI3⟩ := h1.cell hz3
    rw [hcell] at c0 c2 c4 hI3
    simp only at c0 c2 c4 hI3
    rw [← hm] at c4 hI3
    exact ⟨b3, o3, d, A3, c3, rfl, h1, hI3, ⟨⟨c0, c2, c4⟩, hbl⟩, hx⟩))
  have HLS := Lib.hid (fun b3 o3 d3 w' (hS : HcSl w' (some ⟨b3, o3, none⟩) n d3 al) => (show Calls Try.prog 26 #[.agg #[.slice (some ⟨b3, o3, none⟩) n d3, .int .i64 keep], .int .i64 z] w' fun e w2 => ∃ g, e = .returned (.tuple #[.agg #[.slice (some ⟨g, 0, none⟩) n n, .int .i64 keep], .int .i64 0]) ∧ Own w' w2 g n (l.set z ⟨0, true, false, []⟩) from by
    have hu9 : usedC al (z : Int) = true := by rw [usedC_at hz3, hcell]; rfl
    have hul : usedN al ≤ al.length := List.countP_le_length
    refine (hpLooseYes_any _ al n d3 keep w' z (looseL (al.length + 1) al (z : Int)) (by omega) hu9 hS (fun g wr ho => hpLoose_at (usedN al) (al.length + 1) w' wr g n al n z (Nat.le_refl _) (by omega) (by rw [r3]; exact hn) (by omega) (right_okL r1) hu9 ho)).mono ?_
    rintro e w2 ⟨g, rfl, ho⟩
    rw [lo2] at ho
    exact ⟨g, rfl, ho⟩))
  have HRA := Lib.hid r1
  obtain ⟨fr, hfr⟩ : ∃ fr, l.countP freeC = fr := ⟨_, rfl⟩
  obtain ⟨fa, hfa⟩ : ∃ fa, al.countP freeC = fa := ⟨_, rfl⟩
  rw [hfr, hfa] at r2
  have HFR := Lib.hid hfr
  have HFA := Lib.hid hfa
  have hfn : fr ≤ n := by rw [← hfr, hn]; exact List.countP_le_length
  have hw1 : IntKind.i64.wrap ((fr : Int) - 1) = (fa : Int) := by rw [IntKind.wrap_i64]; omega
  have hw2 : (fr : Int) - 1 = (fa : Int) := by omega
  have hw3 : IntKind.i64.wrap (fa : Int) = (fa : Int) := by rw [IntKind.wrap_i64]; omega
  have hzn : z < n := by omega
  have hzi : (z : Int) < (n : Int) := by omega
  have dz0 : decide ((z : Int) < 0) = false := decide_eq_false (by omega)
  have dz1 : decide ((n : Int) ≤ (z : Int)) = false := decide_eq_false (by omega)
  have dz2 : decide (n ≤ z) = false := decide_eq_false (by omega)
  have HAHD := Lib.hid hahd
  have HFI := Lib.hid hfirst
  have HZ := Lib.hid hz
  have HSAM := Lib.hid (show sameN leaf it leaf it = true from sameN_iff.2 ⟨rfl, rfl⟩)
  clear a1 a2 r1 r2 r3 lo1 lo2 hz3 hcell hahd hfirst hal hfr hfa hfn hf
  clear hA hI hm hr hri hcs hl60 hbd hg hn hu
  go_enter Try.func5, Try.ntmps5
  go_wp2_with (go_at_call 9; refine stop_here ?_)
  refine stop_on ?_
  generalize hW : (World.alloc (World.alloc w _) _) = W4
  obtain ⟨hx, hb0, hb1⟩ := allocs2 hW
  clear hW
  have A_5 := Lib.hid (A_1.out.ext hx)
  have I_5 := Lib.hid (I_2.out.ext hx)
  have X_5 := Lib.hid (X_3.out.ext hx)
  clear A_1 I_2 X_3
  have h_6 := Lib.hid hb0
  have n_7 := Lib.hid hb1
  clear hx hb0 hb1
  refine (shown_any _).mono ?_
  rintro e w8 ⟨rfl, hx⟩
  have A_9 := Lib.hid (A_5.out.ext hx)
  have I_9 := Lib.hid (I_5.out.ext hx)
  have X_9 := Lib.hid (X_5.out.ext hx)
  have h_9 := Lib.hid (h_6.out.ext hx)
  have n_9 := Lib.hid (n_7.out.ext hx)
  clear A_5 I_5 X_5 h_6 n_7
  clear hx
  have qh0 : w8.cell? ⟨w.heap.size, 0, none⟩ = some (.slice (some ⟨bh, oh, none⟩) n q) := h_9.out.at 0 _ rfl
  have qh1 : w8.cell? ⟨w.heap.size, 1, none⟩ = some (.int .i64 keep) := h_9.out.at 1 _ rfl
  have zh := h_9.out.lt
  have qn0 : w8.cell? ⟨w.heap.size + 1, 0, none⟩ = some (.bool leaf) := n_9.out.at 0 _ rfl
  have qn1 : w8.cell? ⟨w.heap.size + 1, 1, none⟩ = some (.slice A m c) := n_9.out.at 1 _ rfl
  have zn := n_9.out.lt
  go_wp2_with (go_at_call 21; refine stop_here ?_)
  refine stop_on ?_
  clear qh0 qh1 zh qn0 qn1 zn
  refine (ref05May_is (some ⟨bh, oh, none⟩) l n q keep 60 _ A_9.out Hr.out).mono ?_
  rintro e w10 ⟨rfl, hx⟩
  have A_11 := Lib.hid (A_9.out.ext hx)
  have I_11 := Lib.hid (I_9.out.ext hx)
  have X_11 := Lib.hid (X_9.out.ext hx)
  have h_11 := Lib.hid (h_9.out.ext hx)
  have n_11 := Lib.hid (n_9.out.ext hx)
  clear A_9 I_9 X_9 h_9 n_9
  clear hx
  have qh0 : w10.cell? ⟨w.heap.size, 0, none⟩ = some (.slice (some ⟨bh, oh, none⟩) n q) := h_11.out.at 0 _ rfl
  have qh1 : w10.cell? ⟨w.heap.size, 1, none⟩ = some (.int .i64 keep) := h_11.out.at 1 _ rfl
  have zh := h_11.out.lt
  have qn0 : w10.cell? ⟨w.heap.size + 1, 0, none⟩ = some (.bool leaf) := n_11.out.at 0 _ rfl
  have qn1 : w10.cell? ⟨w.heap.size + 1, 1, none⟩ = some (.slice A m c) := n_11.out.at 1 _ rfl
  have zn := n_11.out.lt
  go_wp2_with (go_at_call 24; refine stop_here ?_)
  refine stop_on ?_
  clear qh0 qh1 zh qn0 qn1 zn
  refine (HHO.out _ A_11.out).mono ?_
  rintro e w12 ⟨S1, d1, rfl, h1, hx⟩
  have A_13 := Lib.hid (A_11.out.ext hx)
  have I_13 := Lib.hid (I_11.out.ext hx)
  have X_13 := Lib.hid (X_11.out.ext hx)
  have h_13 := Lib.hid (h_11.out.ext hx)
  have n_13 := Lib.hid (n_11.out.ext hx)
  clear A_11 I_11 X_11 h_11 n_11
  have P1_14 := Lib.hid h1
  clear hx h1
  have qh0 : w12.cell? ⟨w.heap.size, 0, none⟩ = some (.slice (some ⟨bh, oh, none⟩) n q) := h_13.out.at 0 _ rfl
  have qh1 : w12.cell? ⟨w.heap.size, 1, none⟩ = some (.int .i64 keep) := h_13.out.at 1 _ rfl
  have zh := h_13.out.lt
  have qn0 : w12.cell? ⟨w.heap.size + 1, 0, none⟩ = some (.bool leaf) := n_13.out.at 0 _ rfl
  have qn1 : w12.cell? ⟨w.heap.size + 1, 1, none⟩ = some (.slice A m c) := n_13.out.at 1 _ rfl
  have zn := n_13.out.lt
  go_wp2_with (go_at_call 30; refine stop_here ?_)
  refine stop_on ?_
  clear qh0 qh1 zh qn0 qn1 zn
  generalize hW : (World.alloc w12 _) = W15
  obtain ⟨hx, hb0⟩ := allocs1 hW
  clear hW
  have A_16 := Lib.hid (A_13.out.ext hx)
  have I_16 := Lib.hid (I_13.out.ext hx)
  have X_16 := Lib.hid (X_13.out.ext hx)
  have h_16 := Lib.hid (h_13.out.ext hx)
  have n_16 := Lib.hid (n_13.out.ext hx)
  have P1_16 := Lib.hid (P1_14.out.ext hx)
  clear A_13 I_13 X_13 h_13 n_13 P1_14
  have c_17 := Lib.hid hb0
  clear hx hb0
  refine (HUS.out _ A_16.out).mono ?_
  rintro e w18 ⟨rfl, hx⟩
  have A_19 := Lib.hid (A_16.out.ext hx)
  have I_19 := Lib.hid (I_16.out.ext hx)
  have X_19 := Lib.hid (X_16.out.ext hx)
  have h_19 := Lib.hid (h_16.out.ext hx)
  have n_19 := Lib.hid (n_16.out.ext hx)
  have P1_19 := Lib.hid (P1_16.out.ext hx)
  have c_19 := Lib.hid (c_17.out.ext hx)
  clear A_16 I_16 X_16 h_16 n_16 P1_16 c_17
  clear hx
  have qh0 : w18.cell? ⟨w.heap.size, 0, none⟩ = some (.slice (some ⟨bh, oh, none⟩) n q) := h_19.out.at 0 _ rfl
  have qh1 : w18.cell? ⟨w.heap.size, 1, none⟩ = some (.int .i64 keep) := h_19.out.at 1 _ rfl
  have zh := h_19.out.lt
  have qn0 : w18.cell? ⟨w.heap.size + 1, 0, none⟩ = some (.bool leaf) := n_19.out.at 0 _ rfl
  have qn1 : w18.cell? ⟨w.heap.size + 1, 1, none⟩ = some (.slice A m c) := n_19.out.at 1 _ rfl
  have zn := n_19.out.lt
  have qc0 : w18.cell? ⟨w12.heap.size, 0, none⟩ = some (.slice S1 n d1) := c_19.out.at 0 _ rfl
  have qc1 : w18.cell? ⟨w12.heap.size, 1, none⟩ = some (.int .i64 keep) := c_19.out.at 1 _ rfl
  have zc := c_19.out.lt
  go_wp2_with (go_at_call 26; refine stop_here ?_)
  refine stop_on ?_
  clear qh0 qh1 zh qn0 qn1 zn qc0 qc1 zc
  refine (heapLoose_is S1 l n d1 keep p _ HRI.out HBD.out P1_19.out).mono ?_
  rintro e w20 ⟨S2, d2, rfl, h1, hx⟩
  have A_21 := Lib.hid (A_19.out.ext hx)
  have I_21 := Lib.hid (I_19.out.ext hx)
  have X_21 := Lib.hid (X_19.out.ext hx)
  have h_21 := Lib.hid (h_19.out.ext hx)
  have n_21 := Lib.hid (n_19.out.ext hx)
  have P1_21 := Lib.hid (P1_19.out.ext hx)
  have c_21 := Lib.hid (c_19.out.ext hx)
  clear A_19 I_19 X_19 h_19 n_19 P1_19 c_19
  have P2_22 := Lib.hid h1
  clear hx h1
  have qh0 : w20.cell? ⟨w.heap.size, 0, none⟩ = some (.slice (some ⟨bh, oh, none⟩) n q) := h_21.out.at 0 _ rfl
  have qh1 : w20.cell? ⟨w.heap.size, 1, none⟩ = some (.int .i64 keep) := h_21.out.at 1 _ rfl
  have zh := h_21.out.lt
  have qn0 : w20.cell? ⟨w.heap.size + 1, 0, none⟩ = some (.bool leaf) := n_21.out.at 0 _ rfl
  have qn1 : w20.cell? ⟨w.heap.size + 1, 1, none⟩ = some (.slice A m c) := n_21.out.at 1 _ rfl
  have zn := n_21.out.lt
  have qc0 : w20.cell? ⟨w12.heap.size, 0, none⟩ = some (.slice S1 n d1) := c_21.out.at 0 _ rfl
  have qc1 : w20.cell? ⟨w12.heap.size, 1, none⟩ = some (.int .i64 keep) := c_21.out.at 1 _ rfl
  have zc := c_21.out.lt
  go_wp2_with fail
  clear qh0 qh1 zh qn0 qn1 zn qc0 qc1 zc
  generalize hW : (World.alloc w20 _) = W23
  obtain ⟨hx, hb0⟩ := allocs1 hW
  clear hW
  have A_24 := Lib.hid (A_21.out.ext hx)
  have I_24 := Lib.hid (I_21.out.ext hx)
  have X_24 := Lib.hid (X_21.out.ext hx)
  have h_24 := Lib.hid (h_21.out.ext hx)
  have n_24 := Lib.hid (n_21.out.ext hx)
  have P1_24 := Lib.hid (P1_21.out.ext hx)
  have c_24 := Lib.hid (c_21.out.ext hx)
  have P2_24 := Lib.hid (P2_22.out.ext hx)
  clear A_21 I_21 X_21 h_21 n_21 P1_21 c_21 P2_22
  have d_25 := Lib.hid hb0
  clear hx hb0
  go_cut [79] from 47 to 79 (fun v wx => v = .bool false ∧ Ext W23 wx)
  case first =>
    have qh0 : W23.cell? ⟨w.heap.size, 0, none⟩ = some (.slice (some ⟨bh, oh, none⟩) n q) := h_24.out.at 0 _ rfl
    have qh1 : W23.cell? ⟨w.heap.size, 1, none⟩ = some (.int .i64 keep) := h_24.out.at 1 _ rfl
    have zh := h_24.out.lt
    have qc0 : W23.cell? ⟨w12.heap.size, 0, none⟩ = some (.slice S1 n d1) := c_24.out.at 0 _ rfl
    have qc1 : W23.cell? ⟨w12.heap.size, 1, none⟩ = some (.int .i64 keep) := c_24.out.at 1 _ rfl
    have zc := c_24.out.lt
    have qd0 : W23.cell? ⟨w20.heap.size, 0, none⟩ = some (.slice S2 n d2) := d_25.out.at 0 _ rfl
    have qd1 : W23.cell? ⟨w20.heap.size, 1, none⟩ = some (.int .i64 keep) := d_25.out.at 1 _ rfl
    have zd := d_25.out.lt
    go_quiet (fail)
    go_wp2_with fail
    go_meet
    exact ⟨rfl, (Ext.refl _).drewN _⟩
  case rest =>
    obtain ⟨rfl, hx⟩ := hcut
    have A_26 := Lib.hid (A_24.out.ext hx)
    have I_26 := Lib.hid (I_24.out.ext hx)
    have X_26 := Lib.hid (X_24.out.ext hx)
    have h_26 := Lib.hid (h_24.out.ext hx)
    have n_26 := Lib.hid (n_24.out.ext hx)
    have P1_26 := Lib.hid (P1_24.out.ext hx)
    have c_26 := Lib.hid (c_24.out.ext hx)
    have P2_26 := Lib.hid (P2_24.out.ext hx)
    have d_26 := Lib.hid (d_25.out.ext hx)
    clear A_24 I_24 X_24 h_24 n_24 P1_24 c_24 P2_24 d_25
    clear P1_26
    clear P2_26
    clear c_26
    clear d_26
    have qh0 : wc.cell? ⟨w.heap.size, 0, none⟩ = some (.slice (some ⟨bh, oh, none⟩) n q) := h_26.out.at 0 _ rfl
    have qh1 : wc.cell? ⟨w.heap.size, 1, none⟩ = some (.int .i64 keep) := h_26.out.at 1 _ rfl
    have zh := h_26.out.lt
    have qn0 : wc.cell? ⟨w.heap.size + 1, 0, none⟩ = some (.bool leaf) := n_26.out.at 0 _ rfl
    have qn1 : wc.cell? ⟨w.heap.size + 1, 1, none⟩ = some (.slice A m c) := n_26.out.at 1 _ rfl
    have zn := n_26.out.lt
    go_wp2_with (go_at_call 22; refine stop_here ?_)
    refine stop_on ?_
    clear qh0 qh1 zh qn0 qn1 zn
    refine (HAL.out _ A_26.out I_26.out).mono ?_
    rintro e w27 ⟨b3, o3, d3, A3, c3, rfl, h1, h2, h3, hx⟩
    have A_28 := Lib.hid (A_26.out.ext hx)
    have I_28 := Lib.hid (I_26.out.ext hx)
    have X_28 := Lib.hid (X_26.out.ext hx)
    have h_28 := Lib.hid (h_26.out.ext hx)
    have n_28 := Lib.hid (n_26.out.ext hx)
    clear A_26 I_26 X_26 h_26 n_26
    have P3_29 := Lib.hid h1
    have I3_30 := Lib.hid h2
    clear hx h1 h2
    have qh0 : w27.cell? ⟨w.heap.size, 0, none⟩ = some (.slice (some ⟨bh, oh, none⟩) n q) := h_28.out.at 0 _ rfl
    have qh1 : w27.cell? ⟨w.heap.size, 1, none⟩ = some (.int .i64 keep) := h_28.out.at 1 _ rfl
    have zh := h_28.out.lt
    have qn0 : w27.cell? ⟨w.heap.size + 1, 0, none⟩ = some (.bool leaf) := n_28.out.at 0 _ rfl
    have qn1 : w27.cell? ⟨w.heap.size + 1, 1, none⟩ = some (.slice A m c) := n_28.out.at 1 _ rfl
    have zn := n_28.out.lt
    go_wp2_with fail
    clear qh0 qh1 zh qn0 qn1 zn
    have HC3 := Lib.hid (fun w' (hx : Ext w27 w') => (show w'.cell? ⟨b3, o3 + z * 4, none⟩ = some (.int .i64 1) ∧ w'.cell? ⟨b3, o3 + z * 4 + 2, none⟩ = some (.bool leaf) ∧ w'.cell? ⟨b3, o3 + z * 4 + 3, none⟩ = some (.slice A3 m c3) from ⟨(hx.cell (p := ⟨b3, o3 + z * 4, none⟩) h3.2).trans h3.1.1, (hx.cell (p := ⟨b3, o3 + z * 4 + 2, none⟩) h3.2).trans h3.1.2.1, (hx.cell (p := ⟨b3, o3 + z * 4 + 3, none⟩) h3.2).trans h3.1.2.2⟩))
    have E3_31 := Lib.hid (Ext.refl w27)
    clear h3
    generalize hW : (World.alloc w27 _) = W32
    obtain ⟨hx, hb0⟩ := allocs1 hW
    clear hW
    have A_33 := Lib.hid (A_28.out.ext hx)
    have I_33 := Lib.hid (I_28.out.ext hx)
    have X_33 := Lib.hid (X_28.out.ext hx)
    have h_33 := Lib.hid (h_28.out.ext hx)
    have n_33 := Lib.hid (n_28.out.ext hx)
    have P3_33 := Lib.hid (P3_29.out.ext hx)
    have I3_33 := Lib.hid (I3_30.out.ext hx)
    have E3_33 := Lib.hid (E3_31.out.ext hx)
    clear A_28 I_28 X_28 h_28 n_28 P3_29 I3_30 E3_31
    have a_34 := Lib.hid hb0
    clear hx hb0
    go_cut [158] from 108 to 158 (fun v wx => v = .bool false ∧ Ext W32 wx)
    case first =>
      have HK35 := Lib.hid (fun w' (hx : Ext W32 w') => (show w'.cell? ⟨w.heap.size, 0, none⟩ = some (.slice (some ⟨bh, oh, none⟩) n q) ∧ w'.cell? ⟨w.heap.size, 1, none⟩ = some (.int .i64 keep) ∧ w'.cell? ⟨w.heap.size + 1, 0, none⟩ = some (.bool leaf) ∧ w'.cell? ⟨w.heap.size + 1, 1, none⟩ = some (.slice A m c) ∧ w'.cell? ⟨w27.heap.size, 0, none⟩ = some (.slice (some ⟨b3, o3, none⟩) n d3) ∧ w'.cell? ⟨w27.heap.size, 1, none⟩ = some (.int .i64 keep) ∧ w'.cell? ⟨b3, o3 + z * 4, none⟩ = some (.int .i64 1) ∧ w'.cell? ⟨b3, o3 + z * 4 + 2, none⟩ = some (.bool leaf) ∧ w'.cell? ⟨b3, o3 + z * 4 + 3, none⟩ = some (.slice A3 m c3) from ⟨(h_33.out.ext hx).at 0 _ rfl, (h_33.out.ext hx).at 1 _ rfl, (n_33.out.ext hx).at 0 _ rfl, (n_33.out.ext hx).at 1 _ rfl, (a_34.out.ext hx).at 0 _ rfl, (a_34.out.ext hx).at 1 _ rfl, (HC3.out _ (E3_33.out.ext hx)).1, (HC3.out _ (E3_33.out.ext hx)).2.1, (HC3.out _ (E3_33.out.ext hx)).2.2⟩))
      have G35_0 := Lib.hid (fun w' (hx : Ext W32 w') => ref05Right_is (some ⟨b3, o3, none⟩) al n d3 keep w' (P3_33.out.ext hx) HRA.out)
      have G35_1 := Lib.hid (fun w' (hx : Ext W32 w') => (by have h := ref04Same_any leaf leaf A3 A it it m m c3 c w' HM.out HM.out (I3_33.out.ext hx) (I_33.out.ext hx); rw [HSAM.out] at h; exact h))
      have G35_2 := Lib.hid (fun w' (hx : Ext W32 w') => ref05Free_is (some ⟨b3, o3, none⟩) al n d3 keep w' HFA.out (P3_33.out.ext hx))
      have G35_3 := Lib.hid (fun w' (hx : Ext W32 w') => ref05Free_is (some ⟨bh, oh, none⟩) l n q keep w' HFR.out (A_33.out.ext hx))
      have qh0 : W32.cell? ⟨w.heap.size, 0, none⟩ = some (.slice (some ⟨bh, oh, none⟩) n q) := h_33.out.at 0 _ rfl
      have qh1 : W32.cell? ⟨w.heap.size, 1, none⟩ = some (.int .i64 keep) := h_33.out.at 1 _ rfl
      have zh := h_33.out.lt
      have qn0 : W32.cell? ⟨w.heap.size + 1, 0, none⟩ = some (.bool leaf) := n_33.out.at 0 _ rfl
      have qn1 : W32.cell? ⟨w.heap.size + 1, 1, none⟩ = some (.slice A m c) := n_33.out.at 1 _ rfl
      have zn := n_33.out.lt
      have qa0 : W32.cell? ⟨w27.heap.size, 0, none⟩ = some (.slice (some ⟨b3, o3, none⟩) n d3) := a_34.out.at 0 _ rfl
      have qa1 : W32.cell? ⟨w27.heap.size, 1, none⟩ = some (.int .i64 keep) := a_34.out.at 1 _ rfl
      have za := a_34.out.lt
      go_region_held3 (fun w' => w'.cell? ⟨w.heap.size, 0, none⟩ = some (.slice (some ⟨bh, oh, none⟩) n q) ∧ w'.cell? ⟨w.heap.size, 1, none⟩ = some (.int .i64 keep) ∧ w'.cell? ⟨w.heap.size + 1, 0, none⟩ = some (.bool leaf) ∧ w'.cell? ⟨w.heap.size + 1, 1, none⟩ = some (.slice A m c) ∧ w'.cell? ⟨w27.heap.size, 0, none⟩ = some (.slice (some ⟨b3, o3, none⟩) n d3) ∧ w'.cell? ⟨w27.heap.size, 1, none⟩ = some (.int .i64 keep) ∧ w'.cell? ⟨b3, o3 + z * 4, none⟩ = some (.int .i64 1) ∧ w'.cell? ⟨b3, o3 + z * 4 + 2, none⟩ = some (.bool leaf) ∧ w'.cell? ⟨b3, o3 + z * 4 + 3, none⟩ = some (.slice A3 m c3))
        (first | exact HK35.out _ E35_3.out | exact HK35.out _ E35_2.out | exact HK35.out _ E35_1.out | exact HK35.out _ E35_0.out | exact HK35.out _ (Ext.refl W32).drew | exact HK35.out _ (Ext.refl W32))
        (first
          | ((go_at_call 18
              with_reducible refine (G35_3.out _ E35_2.out).mono ?_
              rintro e v35_3 ⟨rfl, hx⟩
              have E35_3 := Lib.hid (E35_2.out.trans hx)
              clear hx))
          | ((go_at_call 18
              with_reducible refine (G35_2.out _ E35_1.out).mono ?_
              rintro e v35_2 ⟨rfl, hx⟩
              have E35_2 := Lib.hid (E35_1.out.trans hx)
              clear hx))
          | ((go_at_call 31
              with_reducible refine (G35_1.out _ E35_0.out).mono ?_
              rintro e v35_1 ⟨rfl, hx⟩
              have E35_1 := Lib.hid (E35_0.out.trans hx)
              clear hx))
          | ((go_at_call 13
              with_reducible refine (G35_0.out _ ?_).mono ?_
              (first | exact Ext.refl _ | exact (Ext.refl _).drew)
              rintro e v35_0 ⟨rfl, hx⟩
              have E35_0 := Lib.hid (show Ext W32 v35_0 from by first | exact hx | exact (Ext.refl W32).drew.trans hx)
              clear hx)))
      clear qh0 qh1 zh qn0 qn1 zn qa0 qa1 za
      go_wp2_with fail
      go_meet
      exact ⟨rfl, E35_3.out⟩
    case rest =>
      obtain ⟨rfl, hx⟩ := hcut
      have A_36 := Lib.hid (A_33.out.ext hx)
      have I_36 := Lib.hid (I_33.out.ext hx)
      have X_36 := Lib.hid (X_33.out.ext hx)
      have h_36 := Lib.hid (h_33.out.ext hx)
      have n_36 := Lib.hid (n_33.out.ext hx)
      have P3_36 := Lib.hid (P3_33.out.ext hx)
      have I3_36 := Lib.hid (I3_33.out.ext hx)
      have E3_36 := Lib.hid (E3_33.out.ext hx)
      have a_36 := Lib.hid (a_34.out.ext hx)
      clear A_33 I_33 X_33 h_33 n_33 P3_33 I3_33 E3_33 a_34
      clear I3_36
      clear E3_36
      have qh0 : wc.cell? ⟨w.heap.size, 0, none⟩ = some (.slice (some ⟨bh, oh, none⟩) n q) := h_36.out.at 0 _ rfl
      have qh1 : wc.cell? ⟨w.heap.size, 1, none⟩ = some (.int .i64 keep) := h_36.out.at 1 _ rfl
      have zh := h_36.out.lt
      have qa0 : wc.cell? ⟨w27.heap.size, 0, none⟩ = some (.slice (some ⟨b3, o3, none⟩) n d3) := a_36.out.at 0 _ rfl
      have qa1 : wc.cell? ⟨w27.heap.size, 1, none⟩ = some (.int .i64 keep) := a_36.out.at 1 _ rfl
      have za := a_36.out.lt
      go_wp2_with fail
      go_loop [15] (fun i => ∃ j : Nat, j ≤ z + 1 ∧ i = .int .i64 j) (fun i => z + 1 - (intOf i).toNat)
      case atStart => exact ⟨0, Nat.zero_le _, rfl⟩
      case round =>
        obtain ⟨j, hj, rfl⟩ := hrel
        rcases Nat.lt_or_ge j (z + 1) with hlt | hlt
        · have hjl : j < l.length := by have := HZ.out; omega
          have hq2 := (A_36.out).at_ (k := j) hjl
          obtain ⟨r0, r1⟩ := hq2
          have hah := HAHD.out j hjl (by omega)
          have hjn : (j : Int) < (n : Int) := by omega
          have dj : decide ((j : Int) ≤ (z : Int)) = true := decide_eq_true (by omega)
          have hjz : (j : Int) ≤ (z : Int) := by omega
          have HAF := Lib.hid (show (decide (l[j].ref = 0) && !l[j].pin) = decide (j = z) from hah)
          clear hah
          generalize l[j].ref = rj at *
          generalize l[j].pin = pj at *
          rcases Decidable.em (rj = 0) with h0 | h0
          · subst h0
            cases pj
            · have hjz2 : j = z := by simpa using HAF.out
              subst hjz2
              clear HAF
              go_wp2
              go_round
              case rel => exact ⟨j + 1, by omega, by go_num⟩
              case measure => simp [intOf] <;> omega
            · have hjz2 : ¬ j = z := by simpa using HAF.out
              have e8 : ((j : Int) == (z : Int)) = false := beq_eq_false_iff_ne.2 (by omega)
              have e9 : decide ((j : Int) = (z : Int)) = false := decide_eq_false (by omega)
              have e7 : decide (j = z) = false := decide_eq_false hjz2
              clear HAF hjz2
              go_wp2
              go_round
              case rel => exact ⟨j + 1, by omega, by go_num⟩
              case measure => simp [intOf] <;> omega
          · have e0 : (rj == 0) = false := by simpa using h0
            have hjz2 : ¬ j = z := by have h9 := HAF.out; rw [decide_eq_false h0] at h9; simpa using h9
            have e8 : ((j : Int) == (z : Int)) = false := beq_eq_false_iff_ne.2 (by omega)
            have e9 : decide ((j : Int) = (z : Int)) = false := decide_eq_false (by omega)
            have e7 : decide (j = z) = false := decide_eq_false hjz2
            clear HAF hjz2 h0
            go_wp2
            go_round
            case rel => exact ⟨j + 1, by omega, by go_num⟩
            case measure => simp [intOf] <;> omega
        obtain rfl : j = z + 1 := by omega
        have dj : decide (((z + 1 : Nat) : Int) ≤ (z : Int)) = false := decide_eq_false (by omega)
        have dj2 : ¬ ((z : Int) + 1 ≤ (z : Int)) := by omega
        clear hlt hj
        go_wp2_with (go_at_call 26; refine stop_here ?_)
        refine stop_on ?_
        clear qh0 qh1 zh qa0 qa1 za
        refine (HLS.out _ _ _ _ P3_36.out).mono ?_
        rintro e w9 ⟨g, rfl, ho⟩
        have HO9 := Lib.hid ho
        have hz9 : z < (l.set z ⟨0, true, false, []⟩).length := by rw [List.length_set]; exact HZ.out
        obtain ⟨A9, c9, g0, g1, g2, g3, _⟩ := ho.cell (k := z) hz9
        rw [List.getElem_set_self] at g1
        have hge := ho.ge
        have hp9 := ho.pin (k := z) hz9 false
        rw [List.getElem_set_self, List.set_set] at hp9
        have hback : l.set z ⟨0, false, false, []⟩ = l := by have h8 := HFI.out; exact set_same (by rw [List.getElem?_eq_getElem HZ.out, h8])
        simp only at hp9
        rw [hback] at hp9
        have HP9 := Lib.hid hp9
        have fz := ho.free (z * 4 + 1)
        simp only at g1
        have HH9 := Lib.hid (fun w' (hx : Ext wc w') => (show w'.cell? ⟨w.heap.size, 0, none⟩ = some (.slice (some ⟨bh, oh, none⟩) n q) ∧ w'.cell? ⟨w.heap.size, 1, none⟩ = some (.int .i64 keep) from ⟨(h_36.out.ext hx).at 0 _ rfl, (h_36.out.ext hx).at 1 _ rfl⟩))
        have HA9 := Lib.hid (fun w' (hx : Ext wc w') => (A_36.out.ext hx))
        have HX9 := Lib.hid X_36.out
        have hwl : w.heap.size < wc.heap.size := h_36.out.lt
        obtain ⟨qh0, qh1⟩ := HH9.out _ ho.ex
        have zh : w.heap.size < w9.heap.size := by omega
        have hgne : ¬ g = w9.heap.size := by omega
        have hgne2 : ¬ w9.heap.size = g := by omega
        have hgne3 : ¬ g = w.heap.size := by omega
        have hgne4 : ¬ w.heap.size = g := by omega
        clear ho hp9 g0 g2 g3
        go_wp2_with (go_at_call 14; refine stop_here ?_)
        refine stop_on ?_
        clear qh0 qh1 zh g1 fz
        generalize hW : World.alloc (World.setCell w9 _ _) _ = WE
        have hxe : Ext wc WE := by rw [← hW]; exact (HP9.out.ex).alloc _
        have hse : HcSl WE (some ⟨g, 0, none⟩) n n l := by rw [← hW]; exact (HP9.out.hsl HN.out).ext ((Ext.refl _).alloc _)
        refine (ref05Same_eq _ _ l n n q keep WE hse (HA9.out WE hxe)).mono ?_
        rintro e w10 ⟨rfl, hx10⟩
        have HXE := Lib.hid ((HX9.out.trans hxe).trans hx10)
        clear hx10 hxe hse hW
        go_wp2_with fail
        go_ret
        exact ⟨rfl, HXE.out⟩
end Go.Proofs.Ytclpeeemnmhdcaa
