/- The walk of MountReads, over what package mount answers. -/
import Derived.Test.YtjbfopnkeclfgaaGreatK19
namespace Go.Proofs.YtjbfopnkeclfgaaGreat
set_option maxRecDepth 20000
open Go.RowKit
attribute [local go_sem ↓] Go.wp_at_zero Go.wp_at_succ

attribute [local go_sem] beq_self_eq_true bne_self_eq_false
set_option maxRecDepth 100000 in
set_option maxHeartbeats 1600000 in
theorem mreads_not (G : MtOk) (A A' : Option Addr) (b : List ByteArray) (l : List Wr) (c c' : Nat) (x : Int) (w : World) (_hx0 : 0 ≤ x) (_hx1 : x < 256) (hA : Sl w A b.length c (b.map sv)) (hA' : Sl w A' l.length c' (wvs l)) (hm : mayD b l = false) :
    Calls Tryz.prog 3 #[.agg #[.slice A b.length c, .slice A' l.length c'], .int .u8 x] w fun e w' => e = .returned (.bool true) ∧ Ext w w' := by
  have A_1 := Lib.hid (hA)
  have P_2 := Lib.hid (hA')
  have X_3 := Lib.hid (Ext.refl w)
  have HSH := Lib.hid (fun w' => G.shown w')
  have HMY := Lib.hid (fun w' h1 h2 => ref14May_any A A' b l c c' w' h1 h2)
  rw [hm] at HMY
  clear hm hA hA'
  generalize b.length = nb at *
  generalize l.length = nl at *
  go_enter Tryz.func3, Tryz.ntmps3
  go_wp2_with (go_at_call 4; refine stop_here ?_)
  refine stop_on ?_
  generalize hW : (World.alloc w _) = W4
  obtain ⟨hx, hb0⟩ := allocs1 hW
  clear hW
  have A_5 := Lib.hid (A_1.out.ext hx)
  have P_5 := Lib.hid (P_2.out.ext hx)
  have X_5 := Lib.hid (X_3.out.ext hx)
  clear A_1 P_2 X_3
  have d_6 := Lib.hid hb0
  clear hx hb0
  refine (HSH.out _).mono ?_
  rintro e w7 ⟨rfl, hx⟩
  have A_8 := Lib.hid (A_5.out.ext hx)
  have P_8 := Lib.hid (P_5.out.ext hx)
  have X_8 := Lib.hid (X_5.out.ext hx)
  have d_8 := Lib.hid (d_6.out.ext hx)
  clear A_5 P_5 X_5 d_6
  clear hx
  have qd0 : w7.cell? ⟨w.heap.size, 0, none⟩ = some (.slice A nb c) := d_8.out.at 0 _ rfl
  have qd1 : w7.cell? ⟨w.heap.size, 1, none⟩ = some (.slice A' nl c') := d_8.out.at 1 _ rfl
  have zd := d_8.out.lt
  go_wp2_with (go_at_call 5; refine stop_here ?_)
  refine stop_on ?_
  clear qd0 qd1 zd
  refine (HMY.out _ A_8.out P_8.out).mono ?_
  rintro e w9 ⟨rfl, hx⟩
  have A_10 := Lib.hid (A_8.out.ext hx)
  have P_10 := Lib.hid (P_8.out.ext hx)
  have X_10 := Lib.hid (X_8.out.ext hx)
  have d_10 := Lib.hid (d_8.out.ext hx)
  clear A_8 P_8 X_8 d_8
  clear hx
  have qd0 : w9.cell? ⟨w.heap.size, 0, none⟩ = some (.slice A nb c) := d_10.out.at 0 _ rfl
  have qd1 : w9.cell? ⟨w.heap.size, 1, none⟩ = some (.slice A' nl c') := d_10.out.at 1 _ rfl
  have zd := d_10.out.lt
  go_wp2
  go_ret
  exact ⟨rfl, X_10.out⟩
set_option maxRecDepth 100000 in
set_option maxHeartbeats 1600000 in
theorem mreads_big (G : MtOk) (A A' : Option Addr) (b : List ByteArray) (l : List Wr) (c c' : Nat) (x : Int) (w : World) (_hx0 : 0 ≤ x) (_hx1 : x < 256) (hA : Sl w A b.length c (b.map sv)) (hA' : Sl w A' l.length c' (wvs l)) (hm : mayD b l = true) (hb : 135 < b.length) :
    Calls Tryz.prog 3 #[.agg #[.slice A b.length c, .slice A' l.length c'], .int .u8 x] w fun e w' => e = .returned (.bool true) ∧ Ext w w' := by
  have A_11 := Lib.hid (hA)
  have P_12 := Lib.hid (hA')
  have X_13 := Lib.hid (Ext.refl w)
  have HSH := Lib.hid (fun w' => G.shown w')
  have HMY := Lib.hid (fun w' h1 h2 => ref14May_any A A' b l c c' w' h1 h2)
  rw [hm] at HMY
  clear hm hA hA'
  generalize b.length = nb at *
  generalize l.length = nl at *
  have d0 : decide ((135 : Int) < nb) = true := decide_eq_true (by omega)
  have d1 : decide (135 < nb) = true := decide_eq_true hb
  go_enter Tryz.func3, Tryz.ntmps3
  go_wp2_with (go_at_call 4; refine stop_here ?_)
  refine stop_on ?_
  generalize hW : (World.alloc w _) = W14
  obtain ⟨hx, hb0⟩ := allocs1 hW
  clear hW
  have A_15 := Lib.hid (A_11.out.ext hx)
  have P_15 := Lib.hid (P_12.out.ext hx)
  have X_15 := Lib.hid (X_13.out.ext hx)
  clear A_11 P_12 X_13
  have d_16 := Lib.hid hb0
  clear hx hb0
  refine (HSH.out _).mono ?_
  rintro e w17 ⟨rfl, hx⟩
  have A_18 := Lib.hid (A_15.out.ext hx)
  have P_18 := Lib.hid (P_15.out.ext hx)
  have X_18 := Lib.hid (X_15.out.ext hx)
  have d_18 := Lib.hid (d_16.out.ext hx)
  clear A_15 P_15 X_15 d_16
  clear hx
  have qd0 : w17.cell? ⟨w.heap.size, 0, none⟩ = some (.slice A nb c) := d_18.out.at 0 _ rfl
  have qd1 : w17.cell? ⟨w.heap.size, 1, none⟩ = some (.slice A' nl c') := d_18.out.at 1 _ rfl
  have zd := d_18.out.lt
  go_wp2_with (go_at_call 5; refine stop_here ?_)
  refine stop_on ?_
  clear qd0 qd1 zd
  refine (HMY.out _ A_18.out P_18.out).mono ?_
  rintro e w19 ⟨rfl, hx⟩
  have A_20 := Lib.hid (A_18.out.ext hx)
  have P_20 := Lib.hid (P_18.out.ext hx)
  have X_20 := Lib.hid (X_18.out.ext hx)
  have d_20 := Lib.hid (d_18.out.ext hx)
  clear A_18 P_18 X_18 d_18
  clear hx
  have qd0 : w19.cell? ⟨w.heap.size, 0, none⟩ = some (.slice A nb c) := d_20.out.at 0 _ rfl
  have qd1 : w19.cell? ⟨w.heap.size, 1, none⟩ = some (.slice A' nl c') := d_20.out.at 1 _ rfl
  have zd := d_20.out.lt
  go_wp2
  go_ret
  exact ⟨rfl, X_20.out⟩
set_option maxRecDepth 100000 in
set_option maxHeartbeats 1600000 in
theorem mreads_go (G : MtOk) (A A' : Option Addr) (b : List ByteArray) (l : List Wr) (c c' : Nat) (x : Int) (w : World) (hx0 : 0 ≤ x) (hx1 : x < 256) (hA : Sl w A b.length c (b.map sv)) (hA' : Sl w A' l.length c' (wvs l)) (hm : mayD b l = true) (hb : b.length ≤ 135) :
    Calls Tryz.prog 3 #[.agg #[.slice A b.length c, .slice A' l.length c'], .int .u8 x] w fun e w' => e = .returned (.bool true) ∧ Ext w w' := by
  have A_21 := Lib.hid (hA)
  have P_22 := Lib.hid (hA')
  have X_23 := Lib.hid (Ext.refl w)
  have HSH := Lib.hid (fun w' => G.shown w')
  have HMY := Lib.hid (fun w' h1 h2 => ref14May_any A A' b l c c' w' h1 h2)
  have hr : rightS b l = true := by unfold mayD at hm; rw [Bool.and_eq_true] at hm; exact hm.2
  have hl : l.length ≤ 200 := by unfold mayD smallS shortS at hm; simp only [Bool.and_eq_true, decide_eq_true_eq] at hm; have := hm.1.2.2.1; omega
  have hb1 : 1 ≤ b.length := by unfold rightS at hr; simp only [Bool.and_eq_true, decide_eq_true_eq] at hr; omega
  have hall : l.all (takesS b.length) = true := by unfold rightS at hr; simp only [Bool.and_eq_true, decide_eq_true_eq] at hr; exact hr.2.2.2
  rw [hm] at HMY
  have hok := okD_of hr hb
  have hwl : (writeL b l).length = b.length := writeL_length l b
  have HM1 := Lib.hid (fun w' h1 h2 => G.mount A A' b l c c' w' hr hb hl h1 h2)
  have HF := Lib.hid (fun w' h1 h2 => flushR_any A A' b l c c' w' (by omega) hb1 (by omega) hall h1 h2)
  have HM2 := Lib.hid (fun B B' e e' w' h1 h2 => G.mount B B' (writeL b l) [] e e' w' (right_of hok) hok.2.1 (Nat.zero_le _) h1 h2)
  have HU1 := Lib.hid (fun w' h1 h2 => G.super A A' b l c c' w' hr hb hl h1 h2)
  have HU2 := Lib.hid (fun B B' e e' w' h1 h2 => G.super B B' (writeL b l) [] e e' w' (right_of hok) hok.2.1 (Nat.zero_le _) h1 h2)
  rw [show writeL (writeL b l) [] = writeL b l from rfl] at HM2 HU2
  have HSM := Lib.hid (fun R V L R' V' L' q cv cl q' cv' cl' w' h1 h2 => ref12Same_same (G.st (writeL b l)) (G.same _ hok) R V L R' V' L' q cv cl q' cv' cl' w' h1 h2)
  have HRT := Lib.hid (fun h0 R V L q cv cl w' h1 => G.right (writeL b l) R V L q cv cl w' hok h0 h1)
  have HGN := Lib.hid (G.gen _ hok)
  obtain ⟨m1, hm1⟩ : ∃ k : Nat, 1 + x.tmod 135 = (k : Int) := ⟨(1 + x.tmod 135).toNat, by rw [Int.tmod_eq_emod_of_nonneg hx0]; omega⟩
  have hm2 : 1 ≤ m1 ∧ m1 ≤ 135 := by rw [Int.tmod_eq_emod_of_nonneg hx0] at hm1; omega
  have v1 : IntKind.i64.wrap x = x := by rw [IntKind.wrap_i64]; omega
  have v2 : IntKind.i64.wrap (x.tmod 135) = x.tmod 135 := by rw [Int.tmod_eq_emod_of_nonneg hx0, IntKind.wrap_i64]; omega
  have v3 : IntKind.i64.wrap (1 + x.tmod 135) = (m1 : Int) := by rw [hm1, IntKind.wrap_i64]; omega
  have v4 : IntKind.i64.wrap (1 + x % 135) = (m1 : Int) := by rw [← Int.tmod_eq_emod_of_nonneg hx0]; exact v3
  have hnb : newB (m1 : Int) = List.replicate m1 zb := by unfold newB; rw [if_pos (by omega)]; simp
  have HN := Lib.hid (fun w' => newR_any (m1 : Int) w')
  rw [hnb, show newE (m1 : Int) = 0 by unfold newE; rw [if_pos (by omega)]] at HN
  have HN := Lib.hid (fun w' => (HN.out w').mono (fun e w'' ⟨v, h3, ⟨B, e1, B', e2, h4, h5, h6⟩, h7⟩ => (show ∃ B e1 B' e2, e = Ending.returned (.tuple #[.agg #[.slice B m1 e1, .slice B' 0 e2], .int .i64 0]) ∧ Sl w'' B m1 e1 ((List.replicate m1 zb).map sv) ∧ Sl w'' B' 0 e2 (wvs []) ∧ Ext w' w'' from ⟨B, e1, B', e2, by rw [h3, h4, List.length_replicate]; rfl, by rw [List.length_replicate] at h5; exact h5, h6, h7⟩)))
  have hz := zero_ok hm2.1 hm2.2
  have HM3 := Lib.hid (fun B B' e e' w' h1 h2 => G.mount B B' (List.replicate m1 zb) [] e e' w' (right_of hz) hz.2.1 (Nat.zero_le _) h1 h2)
  have HC := Lib.hid (fun B B' e e' w' h1 h2 => G.check B B' (List.replicate m1 zb) [] e e' w' (right_of hz) hz.2.1 (Nat.zero_le _) h1 h2)
  rw [show writeL (List.replicate m1 zb) [] = List.replicate m1 zb from rfl, G.zero m1 hm2.1 hm2.2] at HM3 HC
  obtain ⟨S, hS⟩ : ∃ S, G.st (writeL b l) = S := ⟨_, rfl⟩
  obtain ⟨Z, hZ⟩ : ∃ S, G.st (List.replicate m1 zb) = S := ⟨_, rfl⟩
  rw [hS] at HM1 HM2 HSM HRT HGN
  rw [hZ] at HM3
  generalize G.er (writeL b l) = er at *
  generalize G.ser (writeL b l) = se at *
  obtain ⟨⟨g, z, y⟩, hsup⟩ : ∃ s, G.sup (writeL b l) = s := ⟨_, rfl⟩
  rw [hsup] at HU1 HU2 HGN
  simp only [MSt.val, List.length_nil, List.length_replicate] at HM1 HM2 HM3 HSM HRT
  simp only [List.length_nil, List.length_replicate] at HC
  simp only [List.length_nil] at HU1 HU2 HGN
  generalize Z.c.length = zn at *
  generalize Z.keep = zk at *
  generalize Z.v.length = zm at *
  generalize Z.l.length = zt at *
  generalize Z.next = zx at *
  generalize Z.gen = zg at *
  generalize S.c.length = n at *
  generalize S.keep = sk at *
  generalize S.v.length = m at *
  generalize S.l.length = t at *
  generalize S.next = sn at *
  generalize S.gen = sg at *
  generalize writeL b l = wb at *
  clear hm hr hl hb1 hall hok hS hZ hsup hz hnb hm1 hm2 hA hA'
  have d0 : decide ((135 : Int) < b.length) = false := decide_eq_false (by omega)
  have d1 : decide (135 < b.length) = false := decide_eq_false (by omega)
  have he0 : er = 0 ∨ (er != 0) = true := by rcases Decidable.em (er = 0) with h | h; exact .inl h; exact .inr (by simpa using h)
  generalize hbl : b.length = nb at *
  rw [hwl] at HM2 HU2
  have HWL := Lib.hid hwl
  have HF := Lib.hid (fun w' h1 h2 => (HF.out w' h1 h2).mono (fun e w'' ⟨v, h3, ⟨B, e1, B', e2, h4, h5, h6⟩, h7⟩ => (show ∃ B e1 B' e2, e = Ending.returned (.agg #[.slice B nb e1, .slice B' 0 e2]) ∧ Sl w'' B nb e1 (wb.map sv) ∧ Sl w'' B' 0 e2 (wvs []) ∧ Ext w' w'' from ⟨B, e1, B', e2, by rw [h3, h4, HWL.out]; rfl, by rw [← HWL.out]; exact h5, h6, h7⟩)))
  generalize l.length = nl at *
  clear hbl hwl hb
  go_enter Tryz.func3, Tryz.ntmps3
  go_wp2_with (go_at_call 4; refine stop_here ?_)
  refine stop_on ?_
  generalize hW : (World.alloc w _) = W24
  obtain ⟨hx, hb0⟩ := allocs1 hW
  clear hW
  have A_25 := Lib.hid (A_21.out.ext hx)
  have P_25 := Lib.hid (P_22.out.ext hx)
  have X_25 := Lib.hid (X_23.out.ext hx)
  clear A_21 P_22 X_23
  have d_26 := Lib.hid hb0
  clear hx hb0
  refine (HSH.out _).mono ?_
  rintro e w27 ⟨rfl, hx⟩
  have A_28 := Lib.hid (A_25.out.ext hx)
  have P_28 := Lib.hid (P_25.out.ext hx)
  have X_28 := Lib.hid (X_25.out.ext hx)
  have d_28 := Lib.hid (d_26.out.ext hx)
  clear A_25 P_25 X_25 d_26
  clear hx
  have qd0 : w27.cell? ⟨w.heap.size, 0, none⟩ = some (.slice A nb c) := d_28.out.at 0 _ rfl
  have qd1 : w27.cell? ⟨w.heap.size, 1, none⟩ = some (.slice A' nl c') := d_28.out.at 1 _ rfl
  have zd := d_28.out.lt
  go_wp2_with (go_at_call 5; refine stop_here ?_)
  refine stop_on ?_
  clear qd0 qd1 zd
  refine (HMY.out _ A_28.out P_28.out).mono ?_
  rintro e w29 ⟨rfl, hx⟩
  have A_30 := Lib.hid (A_28.out.ext hx)
  have P_30 := Lib.hid (P_28.out.ext hx)
  have X_30 := Lib.hid (X_28.out.ext hx)
  have d_30 := Lib.hid (d_28.out.ext hx)
  clear A_28 P_28 X_28 d_28
  clear hx
  have qd0 : w29.cell? ⟨w.heap.size, 0, none⟩ = some (.slice A nb c) := d_30.out.at 0 _ rfl
  have qd1 : w29.cell? ⟨w.heap.size, 1, none⟩ = some (.slice A' nl c') := d_30.out.at 1 _ rfl
  have zd := d_30.out.lt
  go_wp2_with (go_at_call 6; refine stop_here ?_)
  refine stop_on ?_
  clear qd0 qd1 zd
  refine (HM1.out _ A_30.out P_30.out).mono ?_
  rintro e w31 ⟨R1, V1, L1, q1, cv1, cl1, rfl, h3, hx⟩
  have A_32 := Lib.hid (A_30.out.ext hx)
  have P_32 := Lib.hid (P_30.out.ext hx)
  have X_32 := Lib.hid (X_30.out.ext hx)
  have d_32 := Lib.hid (d_30.out.ext hx)
  clear A_30 P_30 X_30 d_30
  have S1_33 := Lib.hid h3
  clear hx h3
  have qd0 : w31.cell? ⟨w.heap.size, 0, none⟩ = some (.slice A nb c) := d_32.out.at 0 _ rfl
  have qd1 : w31.cell? ⟨w.heap.size, 1, none⟩ = some (.slice A' nl c') := d_32.out.at 1 _ rfl
  have zd := d_32.out.lt
  go_wp2_with (go_at_call 7; refine stop_here ?_)
  refine stop_on ?_
  clear qd0 qd1 zd
  generalize hW : (World.alloc w31 _) = W34
  obtain ⟨hx, hb0⟩ := allocs1 hW
  clear hW
  have A_35 := Lib.hid (A_32.out.ext hx)
  have P_35 := Lib.hid (P_32.out.ext hx)
  have X_35 := Lib.hid (X_32.out.ext hx)
  have d_35 := Lib.hid (d_32.out.ext hx)
  have S1_35 := Lib.hid (S1_33.out.ext hx)
  clear A_32 P_32 X_32 d_32 S1_33
  have a_36 := Lib.hid hb0
  clear hx hb0
  refine (HF.out _ A_35.out P_35.out).mono ?_
  rintro e w37 ⟨B1, e1, B2, e2, rfl, h3, h4, hx⟩
  have A_38 := Lib.hid (A_35.out.ext hx)
  have P_38 := Lib.hid (P_35.out.ext hx)
  have X_38 := Lib.hid (X_35.out.ext hx)
  have d_38 := Lib.hid (d_35.out.ext hx)
  have S1_38 := Lib.hid (S1_35.out.ext hx)
  have a_38 := Lib.hid (a_36.out.ext hx)
  clear A_35 P_35 X_35 d_35 S1_35 a_36
  have F1_39 := Lib.hid h3
  have F2_40 := Lib.hid h4
  clear hx h3 h4
  have qd0 : w37.cell? ⟨w.heap.size, 0, none⟩ = some (.slice A nb c) := d_38.out.at 0 _ rfl
  have qd1 : w37.cell? ⟨w.heap.size, 1, none⟩ = some (.slice A' nl c') := d_38.out.at 1 _ rfl
  have zd := d_38.out.lt
  have qa0 : w37.cell? ⟨w31.heap.size, 0, none⟩ = some (.slice R1 n q1) := a_38.out.at 0 _ rfl
  have qa1 : w37.cell? ⟨w31.heap.size, 1, none⟩ = some (.int .i64 sk) := a_38.out.at 1 _ rfl
  have qa2 : w37.cell? ⟨w31.heap.size, 2, none⟩ = some (.slice V1 m cv1) := a_38.out.at 2 _ rfl
  have qa3 : w37.cell? ⟨w31.heap.size, 3, none⟩ = some (.slice L1 t cl1) := a_38.out.at 3 _ rfl
  have qa4 : w37.cell? ⟨w31.heap.size, 4, none⟩ = some (.int .i64 sn) := a_38.out.at 4 _ rfl
  have qa5 : w37.cell? ⟨w31.heap.size, 5, none⟩ = some (.int .i64 sg) := a_38.out.at 5 _ rfl
  have za := a_38.out.lt
  go_wp2_with (go_at_call 6; refine stop_here ?_)
  refine stop_on ?_
  clear qd0 qd1 zd qa0 qa1 qa2 qa3 qa4 qa5 za
  refine (HM2.out _ _ _ _ _ F1_39.out F2_40.out).mono ?_
  rintro e w41 ⟨R2, V2, L2, q2, cv2, cl2, rfl, h3, hx⟩
  have A_42 := Lib.hid (A_38.out.ext hx)
  have P_42 := Lib.hid (P_38.out.ext hx)
  have X_42 := Lib.hid (X_38.out.ext hx)
  have d_42 := Lib.hid (d_38.out.ext hx)
  have S1_42 := Lib.hid (S1_38.out.ext hx)
  have a_42 := Lib.hid (a_38.out.ext hx)
  have F1_42 := Lib.hid (F1_39.out.ext hx)
  have F2_42 := Lib.hid (F2_40.out.ext hx)
  clear A_38 P_38 X_38 d_38 S1_38 a_38 F1_39 F2_40
  have S2_43 := Lib.hid h3
  clear hx h3
  have qd0 : w41.cell? ⟨w.heap.size, 0, none⟩ = some (.slice A nb c) := d_42.out.at 0 _ rfl
  have qd1 : w41.cell? ⟨w.heap.size, 1, none⟩ = some (.slice A' nl c') := d_42.out.at 1 _ rfl
  have zd := d_42.out.lt
  have qa0 : w41.cell? ⟨w31.heap.size, 0, none⟩ = some (.slice R1 n q1) := a_42.out.at 0 _ rfl
  have qa1 : w41.cell? ⟨w31.heap.size, 1, none⟩ = some (.int .i64 sk) := a_42.out.at 1 _ rfl
  have qa2 : w41.cell? ⟨w31.heap.size, 2, none⟩ = some (.slice V1 m cv1) := a_42.out.at 2 _ rfl
  have qa3 : w41.cell? ⟨w31.heap.size, 3, none⟩ = some (.slice L1 t cl1) := a_42.out.at 3 _ rfl
  have qa4 : w41.cell? ⟨w31.heap.size, 4, none⟩ = some (.int .i64 sn) := a_42.out.at 4 _ rfl
  have qa5 : w41.cell? ⟨w31.heap.size, 5, none⟩ = some (.int .i64 sg) := a_42.out.at 5 _ rfl
  have za := a_42.out.lt
  go_wp2_with (go_at_call 8; refine stop_here ?_)
  refine stop_on ?_
  clear qd0 qd1 zd qa0 qa1 qa2 qa3 qa4 qa5 za
  generalize hW : (World.alloc w41 _) = W44
  obtain ⟨hx, hb0⟩ := allocs1 hW
  clear hW
  have A_45 := Lib.hid (A_42.out.ext hx)
  have P_45 := Lib.hid (P_42.out.ext hx)
  have X_45 := Lib.hid (X_42.out.ext hx)
  have d_45 := Lib.hid (d_42.out.ext hx)
  have S1_45 := Lib.hid (S1_42.out.ext hx)
  have a_45 := Lib.hid (a_42.out.ext hx)
  have F1_45 := Lib.hid (F1_42.out.ext hx)
  have F2_45 := Lib.hid (F2_42.out.ext hx)
  have S2_45 := Lib.hid (S2_43.out.ext hx)
  clear A_42 P_42 X_42 d_42 S1_42 a_42 F1_42 F2_42 S2_43
  have b_46 := Lib.hid hb0
  clear hx hb0
  refine (HU1.out _ A_45.out P_45.out).mono ?_
  rintro e w47 ⟨rfl, hx⟩
  have A_48 := Lib.hid (A_45.out.ext hx)
  have P_48 := Lib.hid (P_45.out.ext hx)
  have X_48 := Lib.hid (X_45.out.ext hx)
  have d_48 := Lib.hid (d_45.out.ext hx)
  have S1_48 := Lib.hid (S1_45.out.ext hx)
  have a_48 := Lib.hid (a_45.out.ext hx)
  have F1_48 := Lib.hid (F1_45.out.ext hx)
  have F2_48 := Lib.hid (F2_45.out.ext hx)
  have S2_48 := Lib.hid (S2_45.out.ext hx)
  have b_48 := Lib.hid (b_46.out.ext hx)
  clear A_45 P_45 X_45 d_45 S1_45 a_45 F1_45 F2_45 S2_45 b_46
  clear hx
  have qd0 : w47.cell? ⟨w.heap.size, 0, none⟩ = some (.slice A nb c) := d_48.out.at 0 _ rfl
  have qd1 : w47.cell? ⟨w.heap.size, 1, none⟩ = some (.slice A' nl c') := d_48.out.at 1 _ rfl
  have zd := d_48.out.lt
  have qa0 : w47.cell? ⟨w31.heap.size, 0, none⟩ = some (.slice R1 n q1) := a_48.out.at 0 _ rfl
  have qa1 : w47.cell? ⟨w31.heap.size, 1, none⟩ = some (.int .i64 sk) := a_48.out.at 1 _ rfl
  have qa2 : w47.cell? ⟨w31.heap.size, 2, none⟩ = some (.slice V1 m cv1) := a_48.out.at 2 _ rfl
  have qa3 : w47.cell? ⟨w31.heap.size, 3, none⟩ = some (.slice L1 t cl1) := a_48.out.at 3 _ rfl
  have qa4 : w47.cell? ⟨w31.heap.size, 4, none⟩ = some (.int .i64 sn) := a_48.out.at 4 _ rfl
  have qa5 : w47.cell? ⟨w31.heap.size, 5, none⟩ = some (.int .i64 sg) := a_48.out.at 5 _ rfl
  have za := a_48.out.lt
  have qb0 : w47.cell? ⟨w41.heap.size, 0, none⟩ = some (.slice R2 n q2) := b_48.out.at 0 _ rfl
  have qb1 : w47.cell? ⟨w41.heap.size, 1, none⟩ = some (.int .i64 sk) := b_48.out.at 1 _ rfl
  have qb2 : w47.cell? ⟨w41.heap.size, 2, none⟩ = some (.slice V2 m cv2) := b_48.out.at 2 _ rfl
  have qb3 : w47.cell? ⟨w41.heap.size, 3, none⟩ = some (.slice L2 t cl2) := b_48.out.at 3 _ rfl
  have qb4 : w47.cell? ⟨w41.heap.size, 4, none⟩ = some (.int .i64 sn) := b_48.out.at 4 _ rfl
  have qb5 : w47.cell? ⟨w41.heap.size, 5, none⟩ = some (.int .i64 sg) := b_48.out.at 5 _ rfl
  have zb := b_48.out.lt
  go_wp2_with (go_at_call 7; refine stop_here ?_)
  refine stop_on ?_
  clear qd0 qd1 zd qa0 qa1 qa2 qa3 qa4 qa5 za qb0 qb1 qb2 qb3 qb4 qb5 zb
  generalize hW : (World.alloc w47 _) = W49
  obtain ⟨hx, hb0⟩ := allocs1 hW
  clear hW
  have A_50 := Lib.hid (A_48.out.ext hx)
  have P_50 := Lib.hid (P_48.out.ext hx)
  have X_50 := Lib.hid (X_48.out.ext hx)
  have d_50 := Lib.hid (d_48.out.ext hx)
  have S1_50 := Lib.hid (S1_48.out.ext hx)
  have a_50 := Lib.hid (a_48.out.ext hx)
  have F1_50 := Lib.hid (F1_48.out.ext hx)
  have F2_50 := Lib.hid (F2_48.out.ext hx)
  have S2_50 := Lib.hid (S2_48.out.ext hx)
  have b_50 := Lib.hid (b_48.out.ext hx)
  clear A_48 P_48 X_48 d_48 S1_48 a_48 F1_48 F2_48 S2_48 b_48
  have p_51 := Lib.hid hb0
  clear hx hb0
  refine (HF.out _ A_50.out P_50.out).mono ?_
  rintro e w52 ⟨B3, e3, B4, e4, rfl, h3, h4, hx⟩
  have A_53 := Lib.hid (A_50.out.ext hx)
  have P_53 := Lib.hid (P_50.out.ext hx)
  have X_53 := Lib.hid (X_50.out.ext hx)
  have d_53 := Lib.hid (d_50.out.ext hx)
  have S1_53 := Lib.hid (S1_50.out.ext hx)
  have a_53 := Lib.hid (a_50.out.ext hx)
  have F1_53 := Lib.hid (F1_50.out.ext hx)
  have F2_53 := Lib.hid (F2_50.out.ext hx)
  have S2_53 := Lib.hid (S2_50.out.ext hx)
  have b_53 := Lib.hid (b_50.out.ext hx)
  have p_53 := Lib.hid (p_51.out.ext hx)
  clear A_50 P_50 X_50 d_50 S1_50 a_50 F1_50 F2_50 S2_50 b_50 p_51
  have F3_54 := Lib.hid h3
  have F4_55 := Lib.hid h4
  clear hx h3 h4
  have qd0 : w52.cell? ⟨w.heap.size, 0, none⟩ = some (.slice A nb c) := d_53.out.at 0 _ rfl
  have qd1 : w52.cell? ⟨w.heap.size, 1, none⟩ = some (.slice A' nl c') := d_53.out.at 1 _ rfl
  have zd := d_53.out.lt
  have qa0 : w52.cell? ⟨w31.heap.size, 0, none⟩ = some (.slice R1 n q1) := a_53.out.at 0 _ rfl
  have qa1 : w52.cell? ⟨w31.heap.size, 1, none⟩ = some (.int .i64 sk) := a_53.out.at 1 _ rfl
  have qa2 : w52.cell? ⟨w31.heap.size, 2, none⟩ = some (.slice V1 m cv1) := a_53.out.at 2 _ rfl
  have qa3 : w52.cell? ⟨w31.heap.size, 3, none⟩ = some (.slice L1 t cl1) := a_53.out.at 3 _ rfl
  have qa4 : w52.cell? ⟨w31.heap.size, 4, none⟩ = some (.int .i64 sn) := a_53.out.at 4 _ rfl
  have qa5 : w52.cell? ⟨w31.heap.size, 5, none⟩ = some (.int .i64 sg) := a_53.out.at 5 _ rfl
  have za := a_53.out.lt
  have qb0 : w52.cell? ⟨w41.heap.size, 0, none⟩ = some (.slice R2 n q2) := b_53.out.at 0 _ rfl
  have qb1 : w52.cell? ⟨w41.heap.size, 1, none⟩ = some (.int .i64 sk) := b_53.out.at 1 _ rfl
  have qb2 : w52.cell? ⟨w41.heap.size, 2, none⟩ = some (.slice V2 m cv2) := b_53.out.at 2 _ rfl
  have qb3 : w52.cell? ⟨w41.heap.size, 3, none⟩ = some (.slice L2 t cl2) := b_53.out.at 3 _ rfl
  have qb4 : w52.cell? ⟨w41.heap.size, 4, none⟩ = some (.int .i64 sn) := b_53.out.at 4 _ rfl
  have qb5 : w52.cell? ⟨w41.heap.size, 5, none⟩ = some (.int .i64 sg) := b_53.out.at 5 _ rfl
  have zb := b_53.out.lt
  have qp0 : w52.cell? ⟨w47.heap.size, 0, none⟩ = some (.int .i64 g) := p_53.out.at 0 _ rfl
  have qp1 : w52.cell? ⟨w47.heap.size, 1, none⟩ = some (.int .i64 z) := p_53.out.at 1 _ rfl
  have qp2 : w52.cell? ⟨w47.heap.size, 2, none⟩ = some (.int .i64 y) := p_53.out.at 2 _ rfl
  have zp := p_53.out.lt
  go_wp2_with (go_at_call 8; refine stop_here ?_)
  refine stop_on ?_
  clear qd0 qd1 zd qa0 qa1 qa2 qa3 qa4 qa5 za qb0 qb1 qb2 qb3 qb4 qb5 zb qp0 qp1 qp2 zp
  refine (HU2.out _ _ _ _ _ F3_54.out F4_55.out).mono ?_
  rintro e w56 ⟨rfl, hx⟩
  have A_57 := Lib.hid (A_53.out.ext hx)
  have P_57 := Lib.hid (P_53.out.ext hx)
  have X_57 := Lib.hid (X_53.out.ext hx)
  have d_57 := Lib.hid (d_53.out.ext hx)
  have S1_57 := Lib.hid (S1_53.out.ext hx)
  have a_57 := Lib.hid (a_53.out.ext hx)
  have F1_57 := Lib.hid (F1_53.out.ext hx)
  have F2_57 := Lib.hid (F2_53.out.ext hx)
  have S2_57 := Lib.hid (S2_53.out.ext hx)
  have b_57 := Lib.hid (b_53.out.ext hx)
  have p_57 := Lib.hid (p_53.out.ext hx)
  have F3_57 := Lib.hid (F3_54.out.ext hx)
  have F4_57 := Lib.hid (F4_55.out.ext hx)
  clear A_53 P_53 X_53 d_53 S1_53 a_53 F1_53 F2_53 S2_53 b_53 p_53 F3_54 F4_55
  clear hx
  have qd0 : w56.cell? ⟨w.heap.size, 0, none⟩ = some (.slice A nb c) := d_57.out.at 0 _ rfl
  have qd1 : w56.cell? ⟨w.heap.size, 1, none⟩ = some (.slice A' nl c') := d_57.out.at 1 _ rfl
  have zd := d_57.out.lt
  have qa0 : w56.cell? ⟨w31.heap.size, 0, none⟩ = some (.slice R1 n q1) := a_57.out.at 0 _ rfl
  have qa1 : w56.cell? ⟨w31.heap.size, 1, none⟩ = some (.int .i64 sk) := a_57.out.at 1 _ rfl
  have qa2 : w56.cell? ⟨w31.heap.size, 2, none⟩ = some (.slice V1 m cv1) := a_57.out.at 2 _ rfl
  have qa3 : w56.cell? ⟨w31.heap.size, 3, none⟩ = some (.slice L1 t cl1) := a_57.out.at 3 _ rfl
  have qa4 : w56.cell? ⟨w31.heap.size, 4, none⟩ = some (.int .i64 sn) := a_57.out.at 4 _ rfl
  have qa5 : w56.cell? ⟨w31.heap.size, 5, none⟩ = some (.int .i64 sg) := a_57.out.at 5 _ rfl
  have za := a_57.out.lt
  have qb0 : w56.cell? ⟨w41.heap.size, 0, none⟩ = some (.slice R2 n q2) := b_57.out.at 0 _ rfl
  have qb1 : w56.cell? ⟨w41.heap.size, 1, none⟩ = some (.int .i64 sk) := b_57.out.at 1 _ rfl
  have qb2 : w56.cell? ⟨w41.heap.size, 2, none⟩ = some (.slice V2 m cv2) := b_57.out.at 2 _ rfl
  have qb3 : w56.cell? ⟨w41.heap.size, 3, none⟩ = some (.slice L2 t cl2) := b_57.out.at 3 _ rfl
  have qb4 : w56.cell? ⟨w41.heap.size, 4, none⟩ = some (.int .i64 sn) := b_57.out.at 4 _ rfl
  have qb5 : w56.cell? ⟨w41.heap.size, 5, none⟩ = some (.int .i64 sg) := b_57.out.at 5 _ rfl
  have zb := b_57.out.lt
  have qp0 : w56.cell? ⟨w47.heap.size, 0, none⟩ = some (.int .i64 g) := p_57.out.at 0 _ rfl
  have qp1 : w56.cell? ⟨w47.heap.size, 1, none⟩ = some (.int .i64 z) := p_57.out.at 1 _ rfl
  have qp2 : w56.cell? ⟨w47.heap.size, 2, none⟩ = some (.int .i64 y) := p_57.out.at 2 _ rfl
  have zp := p_57.out.lt
  go_wp2_with (go_at_call 9; refine stop_here ?_)
  refine stop_on ?_
  clear qd0 qd1 zd qa0 qa1 qa2 qa3 qa4 qa5 za qb0 qb1 qb2 qb3 qb4 qb5 zb qp0 qp1 qp2 zp
  generalize hW : (World.alloc w56 _) = W58
  obtain ⟨hx, hb0⟩ := allocs1 hW
  clear hW
  have A_59 := Lib.hid (A_57.out.ext hx)
  have P_59 := Lib.hid (P_57.out.ext hx)
  have X_59 := Lib.hid (X_57.out.ext hx)
  have d_59 := Lib.hid (d_57.out.ext hx)
  have S1_59 := Lib.hid (S1_57.out.ext hx)
  have a_59 := Lib.hid (a_57.out.ext hx)
  have F1_59 := Lib.hid (F1_57.out.ext hx)
  have F2_59 := Lib.hid (F2_57.out.ext hx)
  have S2_59 := Lib.hid (S2_57.out.ext hx)
  have b_59 := Lib.hid (b_57.out.ext hx)
  have p_59 := Lib.hid (p_57.out.ext hx)
  have F3_59 := Lib.hid (F3_57.out.ext hx)
  have F4_59 := Lib.hid (F4_57.out.ext hx)
  clear A_57 P_57 X_57 d_57 S1_57 a_57 F1_57 F2_57 S2_57 b_57 p_57 F3_57 F4_57
  have q_60 := Lib.hid hb0
  clear hx hb0
  refine (HN.out _).mono ?_
  rintro e w61 ⟨B5, e5, B6, e6, rfl, h3, h4, hx⟩
  have A_62 := Lib.hid (A_59.out.ext hx)
  have P_62 := Lib.hid (P_59.out.ext hx)
  have X_62 := Lib.hid (X_59.out.ext hx)
  have d_62 := Lib.hid (d_59.out.ext hx)
  have S1_62 := Lib.hid (S1_59.out.ext hx)
  have a_62 := Lib.hid (a_59.out.ext hx)
  have F1_62 := Lib.hid (F1_59.out.ext hx)
  have F2_62 := Lib.hid (F2_59.out.ext hx)
  have S2_62 := Lib.hid (S2_59.out.ext hx)
  have b_62 := Lib.hid (b_59.out.ext hx)
  have p_62 := Lib.hid (p_59.out.ext hx)
  have F3_62 := Lib.hid (F3_59.out.ext hx)
  have F4_62 := Lib.hid (F4_59.out.ext hx)
  have q_62 := Lib.hid (q_60.out.ext hx)
  clear A_59 P_59 X_59 d_59 S1_59 a_59 F1_59 F2_59 S2_59 b_59 p_59 F3_59 F4_59 q_60
  have F5_63 := Lib.hid h3
  have F6_64 := Lib.hid h4
  clear hx h3 h4
  have qd0 : w61.cell? ⟨w.heap.size, 0, none⟩ = some (.slice A nb c) := d_62.out.at 0 _ rfl
  have qd1 : w61.cell? ⟨w.heap.size, 1, none⟩ = some (.slice A' nl c') := d_62.out.at 1 _ rfl
  have zd := d_62.out.lt
  have qa0 : w61.cell? ⟨w31.heap.size, 0, none⟩ = some (.slice R1 n q1) := a_62.out.at 0 _ rfl
  have qa1 : w61.cell? ⟨w31.heap.size, 1, none⟩ = some (.int .i64 sk) := a_62.out.at 1 _ rfl
  have qa2 : w61.cell? ⟨w31.heap.size, 2, none⟩ = some (.slice V1 m cv1) := a_62.out.at 2 _ rfl
  have qa3 : w61.cell? ⟨w31.heap.size, 3, none⟩ = some (.slice L1 t cl1) := a_62.out.at 3 _ rfl
  have qa4 : w61.cell? ⟨w31.heap.size, 4, none⟩ = some (.int .i64 sn) := a_62.out.at 4 _ rfl
  have qa5 : w61.cell? ⟨w31.heap.size, 5, none⟩ = some (.int .i64 sg) := a_62.out.at 5 _ rfl
  have za := a_62.out.lt
  have qb0 : w61.cell? ⟨w41.heap.size, 0, none⟩ = some (.slice R2 n q2) := b_62.out.at 0 _ rfl
  have qb1 : w61.cell? ⟨w41.heap.size, 1, none⟩ = some (.int .i64 sk) := b_62.out.at 1 _ rfl
  have qb2 : w61.cell? ⟨w41.heap.size, 2, none⟩ = some (.slice V2 m cv2) := b_62.out.at 2 _ rfl
  have qb3 : w61.cell? ⟨w41.heap.size, 3, none⟩ = some (.slice L2 t cl2) := b_62.out.at 3 _ rfl
  have qb4 : w61.cell? ⟨w41.heap.size, 4, none⟩ = some (.int .i64 sn) := b_62.out.at 4 _ rfl
  have qb5 : w61.cell? ⟨w41.heap.size, 5, none⟩ = some (.int .i64 sg) := b_62.out.at 5 _ rfl
  have zb := b_62.out.lt
  have qp0 : w61.cell? ⟨w47.heap.size, 0, none⟩ = some (.int .i64 g) := p_62.out.at 0 _ rfl
  have qp1 : w61.cell? ⟨w47.heap.size, 1, none⟩ = some (.int .i64 z) := p_62.out.at 1 _ rfl
  have qp2 : w61.cell? ⟨w47.heap.size, 2, none⟩ = some (.int .i64 y) := p_62.out.at 2 _ rfl
  have zp := p_62.out.lt
  have qq0 : w61.cell? ⟨w56.heap.size, 0, none⟩ = some (.int .i64 g) := q_62.out.at 0 _ rfl
  have qq1 : w61.cell? ⟨w56.heap.size, 1, none⟩ = some (.int .i64 z) := q_62.out.at 1 _ rfl
  have qq2 : w61.cell? ⟨w56.heap.size, 2, none⟩ = some (.int .i64 y) := q_62.out.at 2 _ rfl
  have zq := q_62.out.lt
  go_wp2_with (go_at_call 6; refine stop_here ?_)
  refine stop_on ?_
  clear qd0 qd1 zd qa0 qa1 qa2 qa3 qa4 qa5 za qb0 qb1 qb2 qb3 qb4 qb5 zb qp0 qp1 qp2 zp qq0 qq1 qq2 zq
  generalize hW : (World.alloc w61 _) = W65
  obtain ⟨hx, hb0⟩ := allocs1 hW
  clear hW
  have A_66 := Lib.hid (A_62.out.ext hx)
  have P_66 := Lib.hid (P_62.out.ext hx)
  have X_66 := Lib.hid (X_62.out.ext hx)
  have d_66 := Lib.hid (d_62.out.ext hx)
  have S1_66 := Lib.hid (S1_62.out.ext hx)
  have a_66 := Lib.hid (a_62.out.ext hx)
  have F1_66 := Lib.hid (F1_62.out.ext hx)
  have F2_66 := Lib.hid (F2_62.out.ext hx)
  have S2_66 := Lib.hid (S2_62.out.ext hx)
  have b_66 := Lib.hid (b_62.out.ext hx)
  have p_66 := Lib.hid (p_62.out.ext hx)
  have F3_66 := Lib.hid (F3_62.out.ext hx)
  have F4_66 := Lib.hid (F4_62.out.ext hx)
  have q_66 := Lib.hid (q_62.out.ext hx)
  have F5_66 := Lib.hid (F5_63.out.ext hx)
  have F6_66 := Lib.hid (F6_64.out.ext hx)
  clear A_62 P_62 X_62 d_62 S1_62 a_62 F1_62 F2_62 S2_62 b_62 p_62 F3_62 F4_62 q_62 F5_63 F6_64
  have x_67 := Lib.hid hb0
  clear hx hb0
  refine (HM3.out _ _ _ _ _ F5_66.out F6_66.out).mono ?_
  rintro e w68 ⟨R3, V3, L3, q3, cv3, cl3, rfl, h3, hx⟩
  have A_69 := Lib.hid (A_66.out.ext hx)
  have P_69 := Lib.hid (P_66.out.ext hx)
  have X_69 := Lib.hid (X_66.out.ext hx)
  have d_69 := Lib.hid (d_66.out.ext hx)
  have S1_69 := Lib.hid (S1_66.out.ext hx)
  have a_69 := Lib.hid (a_66.out.ext hx)
  have F1_69 := Lib.hid (F1_66.out.ext hx)
  have F2_69 := Lib.hid (F2_66.out.ext hx)
  have S2_69 := Lib.hid (S2_66.out.ext hx)
  have b_69 := Lib.hid (b_66.out.ext hx)
  have p_69 := Lib.hid (p_66.out.ext hx)
  have F3_69 := Lib.hid (F3_66.out.ext hx)
  have F4_69 := Lib.hid (F4_66.out.ext hx)
  have q_69 := Lib.hid (q_66.out.ext hx)
  have F5_69 := Lib.hid (F5_66.out.ext hx)
  have F6_69 := Lib.hid (F6_66.out.ext hx)
  have x_69 := Lib.hid (x_67.out.ext hx)
  clear A_66 P_66 X_66 d_66 S1_66 a_66 F1_66 F2_66 S2_66 b_66 p_66 F3_66 F4_66 q_66 F5_66 F6_66 x_67
  clear hx
  have qd0 : w68.cell? ⟨w.heap.size, 0, none⟩ = some (.slice A nb c) := d_69.out.at 0 _ rfl
  have qd1 : w68.cell? ⟨w.heap.size, 1, none⟩ = some (.slice A' nl c') := d_69.out.at 1 _ rfl
  have zd := d_69.out.lt
  have qa0 : w68.cell? ⟨w31.heap.size, 0, none⟩ = some (.slice R1 n q1) := a_69.out.at 0 _ rfl
  have qa1 : w68.cell? ⟨w31.heap.size, 1, none⟩ = some (.int .i64 sk) := a_69.out.at 1 _ rfl
  have qa2 : w68.cell? ⟨w31.heap.size, 2, none⟩ = some (.slice V1 m cv1) := a_69.out.at 2 _ rfl
  have qa3 : w68.cell? ⟨w31.heap.size, 3, none⟩ = some (.slice L1 t cl1) := a_69.out.at 3 _ rfl
  have qa4 : w68.cell? ⟨w31.heap.size, 4, none⟩ = some (.int .i64 sn) := a_69.out.at 4 _ rfl
  have qa5 : w68.cell? ⟨w31.heap.size, 5, none⟩ = some (.int .i64 sg) := a_69.out.at 5 _ rfl
  have za := a_69.out.lt
  have qb0 : w68.cell? ⟨w41.heap.size, 0, none⟩ = some (.slice R2 n q2) := b_69.out.at 0 _ rfl
  have qb1 : w68.cell? ⟨w41.heap.size, 1, none⟩ = some (.int .i64 sk) := b_69.out.at 1 _ rfl
  have qb2 : w68.cell? ⟨w41.heap.size, 2, none⟩ = some (.slice V2 m cv2) := b_69.out.at 2 _ rfl
  have qb3 : w68.cell? ⟨w41.heap.size, 3, none⟩ = some (.slice L2 t cl2) := b_69.out.at 3 _ rfl
  have qb4 : w68.cell? ⟨w41.heap.size, 4, none⟩ = some (.int .i64 sn) := b_69.out.at 4 _ rfl
  have qb5 : w68.cell? ⟨w41.heap.size, 5, none⟩ = some (.int .i64 sg) := b_69.out.at 5 _ rfl
  have zb := b_69.out.lt
  have qp0 : w68.cell? ⟨w47.heap.size, 0, none⟩ = some (.int .i64 g) := p_69.out.at 0 _ rfl
  have qp1 : w68.cell? ⟨w47.heap.size, 1, none⟩ = some (.int .i64 z) := p_69.out.at 1 _ rfl
  have qp2 : w68.cell? ⟨w47.heap.size, 2, none⟩ = some (.int .i64 y) := p_69.out.at 2 _ rfl
  have zp := p_69.out.lt
  have qq0 : w68.cell? ⟨w56.heap.size, 0, none⟩ = some (.int .i64 g) := q_69.out.at 0 _ rfl
  have qq1 : w68.cell? ⟨w56.heap.size, 1, none⟩ = some (.int .i64 z) := q_69.out.at 1 _ rfl
  have qq2 : w68.cell? ⟨w56.heap.size, 2, none⟩ = some (.int .i64 y) := q_69.out.at 2 _ rfl
  have zq := q_69.out.lt
  have qx0 : w68.cell? ⟨w61.heap.size, 0, none⟩ = some (.slice B5 m1 e5) := x_69.out.at 0 _ rfl
  have qx1 : w68.cell? ⟨w61.heap.size, 1, none⟩ = some (.slice B6 0 e6) := x_69.out.at 1 _ rfl
  have zx := x_69.out.lt
  clear h3
  go_wp2_with (go_at_call 10; refine stop_here ?_)
  refine stop_on ?_
  clear qd0 qd1 zd qa0 qa1 qa2 qa3 qa4 qa5 za qb0 qb1 qb2 qb3 qb4 qb5 zb qp0 qp1 qp2 zp qq0 qq1 qq2 zq qx0 qx1 zx
  generalize hW : (World.alloc w68 _) = W70
  obtain ⟨hx, hb0⟩ := allocs1 hW
  clear hW
  have A_71 := Lib.hid (A_69.out.ext hx)
  have P_71 := Lib.hid (P_69.out.ext hx)
  have X_71 := Lib.hid (X_69.out.ext hx)
  have d_71 := Lib.hid (d_69.out.ext hx)
  have S1_71 := Lib.hid (S1_69.out.ext hx)
  have a_71 := Lib.hid (a_69.out.ext hx)
  have F1_71 := Lib.hid (F1_69.out.ext hx)
  have F2_71 := Lib.hid (F2_69.out.ext hx)
  have S2_71 := Lib.hid (S2_69.out.ext hx)
  have b_71 := Lib.hid (b_69.out.ext hx)
  have p_71 := Lib.hid (p_69.out.ext hx)
  have F3_71 := Lib.hid (F3_69.out.ext hx)
  have F4_71 := Lib.hid (F4_69.out.ext hx)
  have q_71 := Lib.hid (q_69.out.ext hx)
  have F5_71 := Lib.hid (F5_69.out.ext hx)
  have F6_71 := Lib.hid (F6_69.out.ext hx)
  have x_71 := Lib.hid (x_69.out.ext hx)
  clear A_69 P_69 X_69 d_69 S1_69 a_69 F1_69 F2_69 S2_69 b_69 p_69 F3_69 F4_69 q_69 F5_69 F6_69 x_69
  clear hx hb0
  refine (HC.out _ _ _ _ _ F5_71.out F6_71.out).mono ?_
  rintro e w72 ⟨nn, rfl, hx⟩
  have A_73 := Lib.hid (A_71.out.ext hx)
  have P_73 := Lib.hid (P_71.out.ext hx)
  have X_73 := Lib.hid (X_71.out.ext hx)
  have d_73 := Lib.hid (d_71.out.ext hx)
  have S1_73 := Lib.hid (S1_71.out.ext hx)
  have a_73 := Lib.hid (a_71.out.ext hx)
  have F1_73 := Lib.hid (F1_71.out.ext hx)
  have F2_73 := Lib.hid (F2_71.out.ext hx)
  have S2_73 := Lib.hid (S2_71.out.ext hx)
  have b_73 := Lib.hid (b_71.out.ext hx)
  have p_73 := Lib.hid (p_71.out.ext hx)
  have F3_73 := Lib.hid (F3_71.out.ext hx)
  have F4_73 := Lib.hid (F4_71.out.ext hx)
  have q_73 := Lib.hid (q_71.out.ext hx)
  have F5_73 := Lib.hid (F5_71.out.ext hx)
  have F6_73 := Lib.hid (F6_71.out.ext hx)
  have x_73 := Lib.hid (x_71.out.ext hx)
  clear A_71 P_71 X_71 d_71 S1_71 a_71 F1_71 F2_71 S2_71 b_71 p_71 F3_71 F4_71 q_71 F5_71 F6_71 x_71
  clear hx
  have qd0 : w72.cell? ⟨w.heap.size, 0, none⟩ = some (.slice A nb c) := d_73.out.at 0 _ rfl
  have qd1 : w72.cell? ⟨w.heap.size, 1, none⟩ = some (.slice A' nl c') := d_73.out.at 1 _ rfl
  have zd := d_73.out.lt
  have qa0 : w72.cell? ⟨w31.heap.size, 0, none⟩ = some (.slice R1 n q1) := a_73.out.at 0 _ rfl
  have qa1 : w72.cell? ⟨w31.heap.size, 1, none⟩ = some (.int .i64 sk) := a_73.out.at 1 _ rfl
  have qa2 : w72.cell? ⟨w31.heap.size, 2, none⟩ = some (.slice V1 m cv1) := a_73.out.at 2 _ rfl
  have qa3 : w72.cell? ⟨w31.heap.size, 3, none⟩ = some (.slice L1 t cl1) := a_73.out.at 3 _ rfl
  have qa4 : w72.cell? ⟨w31.heap.size, 4, none⟩ = some (.int .i64 sn) := a_73.out.at 4 _ rfl
  have qa5 : w72.cell? ⟨w31.heap.size, 5, none⟩ = some (.int .i64 sg) := a_73.out.at 5 _ rfl
  have za := a_73.out.lt
  have qb0 : w72.cell? ⟨w41.heap.size, 0, none⟩ = some (.slice R2 n q2) := b_73.out.at 0 _ rfl
  have qb1 : w72.cell? ⟨w41.heap.size, 1, none⟩ = some (.int .i64 sk) := b_73.out.at 1 _ rfl
  have qb2 : w72.cell? ⟨w41.heap.size, 2, none⟩ = some (.slice V2 m cv2) := b_73.out.at 2 _ rfl
  have qb3 : w72.cell? ⟨w41.heap.size, 3, none⟩ = some (.slice L2 t cl2) := b_73.out.at 3 _ rfl
  have qb4 : w72.cell? ⟨w41.heap.size, 4, none⟩ = some (.int .i64 sn) := b_73.out.at 4 _ rfl
  have qb5 : w72.cell? ⟨w41.heap.size, 5, none⟩ = some (.int .i64 sg) := b_73.out.at 5 _ rfl
  have zb := b_73.out.lt
  have qp0 : w72.cell? ⟨w47.heap.size, 0, none⟩ = some (.int .i64 g) := p_73.out.at 0 _ rfl
  have qp1 : w72.cell? ⟨w47.heap.size, 1, none⟩ = some (.int .i64 z) := p_73.out.at 1 _ rfl
  have qp2 : w72.cell? ⟨w47.heap.size, 2, none⟩ = some (.int .i64 y) := p_73.out.at 2 _ rfl
  have zp := p_73.out.lt
  have qq0 : w72.cell? ⟨w56.heap.size, 0, none⟩ = some (.int .i64 g) := q_73.out.at 0 _ rfl
  have qq1 : w72.cell? ⟨w56.heap.size, 1, none⟩ = some (.int .i64 z) := q_73.out.at 1 _ rfl
  have qq2 : w72.cell? ⟨w56.heap.size, 2, none⟩ = some (.int .i64 y) := q_73.out.at 2 _ rfl
  have zq := q_73.out.lt
  have qx0 : w72.cell? ⟨w61.heap.size, 0, none⟩ = some (.slice B5 m1 e5) := x_73.out.at 0 _ rfl
  have qx1 : w72.cell? ⟨w61.heap.size, 1, none⟩ = some (.slice B6 0 e6) := x_73.out.at 1 _ rfl
  have zx := x_73.out.lt
  go_wp2_with (go_at_call 11; refine stop_here ?_)
  refine stop_on ?_
  clear qd0 qd1 zd qa0 qa1 qa2 qa3 qa4 qa5 za qb0 qb1 qb2 qb3 qb4 qb5 zb qp0 qp1 qp2 zp qq0 qq1 qq2 zq qx0 qx1 zx
  refine (HSM.out _ _ _ _ _ _ _ _ _ _ _ _ _ S1_73.out S2_73.out).mono ?_
  rintro e w74 ⟨rfl, hx⟩
  have A_75 := Lib.hid (A_73.out.ext hx)
  have P_75 := Lib.hid (P_73.out.ext hx)
  have X_75 := Lib.hid (X_73.out.ext hx)
  have d_75 := Lib.hid (d_73.out.ext hx)
  have S1_75 := Lib.hid (S1_73.out.ext hx)
  have a_75 := Lib.hid (a_73.out.ext hx)
  have F1_75 := Lib.hid (F1_73.out.ext hx)
  have F2_75 := Lib.hid (F2_73.out.ext hx)
  have S2_75 := Lib.hid (S2_73.out.ext hx)
  have b_75 := Lib.hid (b_73.out.ext hx)
  have p_75 := Lib.hid (p_73.out.ext hx)
  have F3_75 := Lib.hid (F3_73.out.ext hx)
  have F4_75 := Lib.hid (F4_73.out.ext hx)
  have q_75 := Lib.hid (q_73.out.ext hx)
  have F5_75 := Lib.hid (F5_73.out.ext hx)
  have F6_75 := Lib.hid (F6_73.out.ext hx)
  have x_75 := Lib.hid (x_73.out.ext hx)
  clear A_73 P_73 X_73 d_73 S1_73 a_73 F1_73 F2_73 S2_73 b_73 p_73 F3_73 F4_73 q_73 F5_73 F6_73 x_73
  clear hx
  have qd0 : w74.cell? ⟨w.heap.size, 0, none⟩ = some (.slice A nb c) := d_75.out.at 0 _ rfl
  have qd1 : w74.cell? ⟨w.heap.size, 1, none⟩ = some (.slice A' nl c') := d_75.out.at 1 _ rfl
  have zd := d_75.out.lt
  have qa0 : w74.cell? ⟨w31.heap.size, 0, none⟩ = some (.slice R1 n q1) := a_75.out.at 0 _ rfl
  have qa1 : w74.cell? ⟨w31.heap.size, 1, none⟩ = some (.int .i64 sk) := a_75.out.at 1 _ rfl
  have qa2 : w74.cell? ⟨w31.heap.size, 2, none⟩ = some (.slice V1 m cv1) := a_75.out.at 2 _ rfl
  have qa3 : w74.cell? ⟨w31.heap.size, 3, none⟩ = some (.slice L1 t cl1) := a_75.out.at 3 _ rfl
  have qa4 : w74.cell? ⟨w31.heap.size, 4, none⟩ = some (.int .i64 sn) := a_75.out.at 4 _ rfl
  have qa5 : w74.cell? ⟨w31.heap.size, 5, none⟩ = some (.int .i64 sg) := a_75.out.at 5 _ rfl
  have za := a_75.out.lt
  have qb0 : w74.cell? ⟨w41.heap.size, 0, none⟩ = some (.slice R2 n q2) := b_75.out.at 0 _ rfl
  have qb1 : w74.cell? ⟨w41.heap.size, 1, none⟩ = some (.int .i64 sk) := b_75.out.at 1 _ rfl
  have qb2 : w74.cell? ⟨w41.heap.size, 2, none⟩ = some (.slice V2 m cv2) := b_75.out.at 2 _ rfl
  have qb3 : w74.cell? ⟨w41.heap.size, 3, none⟩ = some (.slice L2 t cl2) := b_75.out.at 3 _ rfl
  have qb4 : w74.cell? ⟨w41.heap.size, 4, none⟩ = some (.int .i64 sn) := b_75.out.at 4 _ rfl
  have qb5 : w74.cell? ⟨w41.heap.size, 5, none⟩ = some (.int .i64 sg) := b_75.out.at 5 _ rfl
  have zb := b_75.out.lt
  have qp0 : w74.cell? ⟨w47.heap.size, 0, none⟩ = some (.int .i64 g) := p_75.out.at 0 _ rfl
  have qp1 : w74.cell? ⟨w47.heap.size, 1, none⟩ = some (.int .i64 z) := p_75.out.at 1 _ rfl
  have qp2 : w74.cell? ⟨w47.heap.size, 2, none⟩ = some (.int .i64 y) := p_75.out.at 2 _ rfl
  have zp := p_75.out.lt
  have qq0 : w74.cell? ⟨w56.heap.size, 0, none⟩ = some (.int .i64 g) := q_75.out.at 0 _ rfl
  have qq1 : w74.cell? ⟨w56.heap.size, 1, none⟩ = some (.int .i64 z) := q_75.out.at 1 _ rfl
  have qq2 : w74.cell? ⟨w56.heap.size, 2, none⟩ = some (.int .i64 y) := q_75.out.at 2 _ rfl
  have zq := q_75.out.lt
  have qx0 : w74.cell? ⟨w61.heap.size, 0, none⟩ = some (.slice B5 m1 e5) := x_75.out.at 0 _ rfl
  have qx1 : w74.cell? ⟨w61.heap.size, 1, none⟩ = some (.slice B6 0 e6) := x_75.out.at 1 _ rfl
  have zx := x_75.out.lt
  rcases he0 with rfl | he
  · have hg := HGN.out (by first | rfl | trivial)
    subst hg
    clear HGN
    clear qd0 qd1 zd qa0 qa1 qa2 qa3 qa4 qa5 za qb0 qb1 qb2 qb3 qb4 qb5 zb qp0 qp1 qp2 zp qq0 qq1 qq2 zq qx0 qx1 zx
    have qd0 : w74.cell? ⟨w.heap.size, 0, none⟩ = some (.slice A nb c) := d_75.out.at 0 _ rfl
    have qd1 : w74.cell? ⟨w.heap.size, 1, none⟩ = some (.slice A' nl c') := d_75.out.at 1 _ rfl
    have zd := d_75.out.lt
    have qa0 : w74.cell? ⟨w31.heap.size, 0, none⟩ = some (.slice R1 n q1) := a_75.out.at 0 _ rfl
    have qa1 : w74.cell? ⟨w31.heap.size, 1, none⟩ = some (.int .i64 sk) := a_75.out.at 1 _ rfl
    have qa2 : w74.cell? ⟨w31.heap.size, 2, none⟩ = some (.slice V1 m cv1) := a_75.out.at 2 _ rfl
    have qa3 : w74.cell? ⟨w31.heap.size, 3, none⟩ = some (.slice L1 t cl1) := a_75.out.at 3 _ rfl
    have qa4 : w74.cell? ⟨w31.heap.size, 4, none⟩ = some (.int .i64 sn) := a_75.out.at 4 _ rfl
    have qa5 : w74.cell? ⟨w31.heap.size, 5, none⟩ = some (.int .i64 sg) := a_75.out.at 5 _ rfl
    have za := a_75.out.lt
    have qb0 : w74.cell? ⟨w41.heap.size, 0, none⟩ = some (.slice R2 n q2) := b_75.out.at 0 _ rfl
    have qb1 : w74.cell? ⟨w41.heap.size, 1, none⟩ = some (.int .i64 sk) := b_75.out.at 1 _ rfl
    have qb2 : w74.cell? ⟨w41.heap.size, 2, none⟩ = some (.slice V2 m cv2) := b_75.out.at 2 _ rfl
    have qb3 : w74.cell? ⟨w41.heap.size, 3, none⟩ = some (.slice L2 t cl2) := b_75.out.at 3 _ rfl
    have qb4 : w74.cell? ⟨w41.heap.size, 4, none⟩ = some (.int .i64 sn) := b_75.out.at 4 _ rfl
    have qb5 : w74.cell? ⟨w41.heap.size, 5, none⟩ = some (.int .i64 sg) := b_75.out.at 5 _ rfl
    have zb := b_75.out.lt
    have qp0 : w74.cell? ⟨w47.heap.size, 0, none⟩ = some (.int .i64 sg) := p_75.out.at 0 _ rfl
    have qp1 : w74.cell? ⟨w47.heap.size, 1, none⟩ = some (.int .i64 z) := p_75.out.at 1 _ rfl
    have qp2 : w74.cell? ⟨w47.heap.size, 2, none⟩ = some (.int .i64 y) := p_75.out.at 2 _ rfl
    have zp := p_75.out.lt
    have qq0 : w74.cell? ⟨w56.heap.size, 0, none⟩ = some (.int .i64 sg) := q_75.out.at 0 _ rfl
    have qq1 : w74.cell? ⟨w56.heap.size, 1, none⟩ = some (.int .i64 z) := q_75.out.at 1 _ rfl
    have qq2 : w74.cell? ⟨w56.heap.size, 2, none⟩ = some (.int .i64 y) := q_75.out.at 2 _ rfl
    have zq := q_75.out.lt
    have qx0 : w74.cell? ⟨w61.heap.size, 0, none⟩ = some (.slice B5 m1 e5) := x_75.out.at 0 _ rfl
    have qx1 : w74.cell? ⟨w61.heap.size, 1, none⟩ = some (.slice B6 0 e6) := x_75.out.at 1 _ rfl
    have zx := x_75.out.lt
    go_wp2_with (go_at_call 12; refine stop_here ?_)
    refine stop_on ?_
    clear qd0 qd1 zd qa0 qa1 qa2 qa3 qa4 qa5 za qb0 qb1 qb2 qb3 qb4 qb5 zb qp0 qp1 qp2 zp qq0 qq1 qq2 zq qx0 qx1 zx
    refine (HRT.out (by first | rfl | trivial) _ _ _ _ _ _ _ S1_75.out).mono ?_
    rintro e w76 ⟨rfl, hx⟩
    have A_77 := Lib.hid (A_75.out.ext hx)
    have P_77 := Lib.hid (P_75.out.ext hx)
    have X_77 := Lib.hid (X_75.out.ext hx)
    have d_77 := Lib.hid (d_75.out.ext hx)
    have S1_77 := Lib.hid (S1_75.out.ext hx)
    have a_77 := Lib.hid (a_75.out.ext hx)
    have F1_77 := Lib.hid (F1_75.out.ext hx)
    have F2_77 := Lib.hid (F2_75.out.ext hx)
    have S2_77 := Lib.hid (S2_75.out.ext hx)
    have b_77 := Lib.hid (b_75.out.ext hx)
    have p_77 := Lib.hid (p_75.out.ext hx)
    have F3_77 := Lib.hid (F3_75.out.ext hx)
    have F4_77 := Lib.hid (F4_75.out.ext hx)
    have q_77 := Lib.hid (q_75.out.ext hx)
    have F5_77 := Lib.hid (F5_75.out.ext hx)
    have F6_77 := Lib.hid (F6_75.out.ext hx)
    have x_77 := Lib.hid (x_75.out.ext hx)
    clear A_75 P_75 X_75 d_75 S1_75 a_75 F1_75 F2_75 S2_75 b_75 p_75 F3_75 F4_75 q_75 F5_75 F6_75 x_75
    clear hx
    have qd0 : w76.cell? ⟨w.heap.size, 0, none⟩ = some (.slice A nb c) := d_77.out.at 0 _ rfl
    have qd1 : w76.cell? ⟨w.heap.size, 1, none⟩ = some (.slice A' nl c') := d_77.out.at 1 _ rfl
    have zd := d_77.out.lt
    have qa0 : w76.cell? ⟨w31.heap.size, 0, none⟩ = some (.slice R1 n q1) := a_77.out.at 0 _ rfl
    have qa1 : w76.cell? ⟨w31.heap.size, 1, none⟩ = some (.int .i64 sk) := a_77.out.at 1 _ rfl
    have qa2 : w76.cell? ⟨w31.heap.size, 2, none⟩ = some (.slice V1 m cv1) := a_77.out.at 2 _ rfl
    have qa3 : w76.cell? ⟨w31.heap.size, 3, none⟩ = some (.slice L1 t cl1) := a_77.out.at 3 _ rfl
    have qa4 : w76.cell? ⟨w31.heap.size, 4, none⟩ = some (.int .i64 sn) := a_77.out.at 4 _ rfl
    have qa5 : w76.cell? ⟨w31.heap.size, 5, none⟩ = some (.int .i64 sg) := a_77.out.at 5 _ rfl
    have za := a_77.out.lt
    have qb0 : w76.cell? ⟨w41.heap.size, 0, none⟩ = some (.slice R2 n q2) := b_77.out.at 0 _ rfl
    have qb1 : w76.cell? ⟨w41.heap.size, 1, none⟩ = some (.int .i64 sk) := b_77.out.at 1 _ rfl
    have qb2 : w76.cell? ⟨w41.heap.size, 2, none⟩ = some (.slice V2 m cv2) := b_77.out.at 2 _ rfl
    have qb3 : w76.cell? ⟨w41.heap.size, 3, none⟩ = some (.slice L2 t cl2) := b_77.out.at 3 _ rfl
    have qb4 : w76.cell? ⟨w41.heap.size, 4, none⟩ = some (.int .i64 sn) := b_77.out.at 4 _ rfl
    have qb5 : w76.cell? ⟨w41.heap.size, 5, none⟩ = some (.int .i64 sg) := b_77.out.at 5 _ rfl
    have zb := b_77.out.lt
    have qp0 : w76.cell? ⟨w47.heap.size, 0, none⟩ = some (.int .i64 sg) := p_77.out.at 0 _ rfl
    have qp1 : w76.cell? ⟨w47.heap.size, 1, none⟩ = some (.int .i64 z) := p_77.out.at 1 _ rfl
    have qp2 : w76.cell? ⟨w47.heap.size, 2, none⟩ = some (.int .i64 y) := p_77.out.at 2 _ rfl
    have zp := p_77.out.lt
    have qq0 : w76.cell? ⟨w56.heap.size, 0, none⟩ = some (.int .i64 sg) := q_77.out.at 0 _ rfl
    have qq1 : w76.cell? ⟨w56.heap.size, 1, none⟩ = some (.int .i64 z) := q_77.out.at 1 _ rfl
    have qq2 : w76.cell? ⟨w56.heap.size, 2, none⟩ = some (.int .i64 y) := q_77.out.at 2 _ rfl
    have zq := q_77.out.lt
    have qx0 : w76.cell? ⟨w61.heap.size, 0, none⟩ = some (.slice B5 m1 e5) := x_77.out.at 0 _ rfl
    have qx1 : w76.cell? ⟨w61.heap.size, 1, none⟩ = some (.slice B6 0 e6) := x_77.out.at 1 _ rfl
    have zx := x_77.out.lt
    go_wp2
    go_ret
    exact ⟨rfl, X_77.out⟩
  · go_wp2
    go_ret
    exact ⟨rfl, X_75.out⟩
theorem mreads_any (G : MtOk) (A A' : Option Addr) (b : List ByteArray) (l : List Wr) (c c' : Nat) (x : Int) (w : World) (hx0 : 0 ≤ x) (hx1 : x < 256) (hA : Sl w A b.length c (b.map sv)) (hA' : Sl w A' l.length c' (wvs l)) :
    Calls Tryz.prog 3 #[.agg #[.slice A b.length c, .slice A' l.length c'], .int .u8 x] w fun e w' => e = .returned (.bool true) ∧ Ext w w' := by
  cases hm : mayD b l
  · exact mreads_not G A A' b l c c' x w hx0 hx1 hA hA' hm
  · by_cases hb : 135 < b.length
    · exact mreads_big G A A' b l c c' x w hx0 hx1 hA hA' hm hb
    · exact mreads_go G A A' b l c c' x w hx0 hx1 hA hA' hm (by omega)
end Go.Proofs.YtjbfopnkeclfgaaGreat
