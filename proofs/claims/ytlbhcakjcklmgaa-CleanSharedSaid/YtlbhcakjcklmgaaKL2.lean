/- The walk of CleanShared, where package clean answers as it should. -/
import Derived.Test.YtlbhcakjcklmgaaK25
import Derived.Deep.AppendLies
import Derived.Deep.RegionHeld3
import Derived.Deep.DeepCutAuto
import Derived.Deep.DrawnRows
import Derived.RegionTactic
namespace Go.Proofs.Ytlbhcakjcklmgaa
open Go.RowKit
attribute [local go_sem ↓] Go.wp_at_zero Go.wp_at_succ

attribute [local go_sem] beq_self_eq_true bne_self_eq_false
set_option maxRecDepth 100000 in
set_option maxHeartbeats 4000000 in
theorem cshared_low (G : CleanOk) (R : Option Addr) (l : List HC) (n q : Nat) (keep root : Int) (w : World) (hA : HcSl w R n q l) (h : root < 0) :
    Calls Try.prog 4 #[.agg #[.slice R n q, .int .i64 keep], .int .i64 root] w fun e w' => e = .returned (.bool true) ∧ Ext w w' := by
  have A_1 := Lib.hid (hA)
  have X_2 := Lib.hid (Ext.refl w)
  have HG := Lib.hid G
  clear hA G
  have d0 : decide (root < 0) = true := decide_eq_true h
  clear h
  go_enter Try.func4, Try.ntmps4
  go_wp2_with (go_at_call 5; refine stop_here ?_)
  refine stop_on ?_
  generalize hW : (World.alloc w _) = W3
  obtain ⟨hx, hb0⟩ := allocs1 hW
  clear hW
  have A_4 := Lib.hid (A_1.out.ext hx)
  have X_4 := Lib.hid (X_2.out.ext hx)
  clear A_1 X_2
  have h_5 := Lib.hid hb0
  clear hx hb0
  refine (HG.out.shown _).mono ?_
  rintro e w6 ⟨rfl, hx⟩
  have A_7 := Lib.hid (A_4.out.ext hx)
  have X_7 := Lib.hid (X_4.out.ext hx)
  have h_7 := Lib.hid (h_5.out.ext hx)
  clear A_4 X_4 h_5
  clear hx
  have qh0 : w6.cell? ⟨w.heap.size, 0, none⟩ = some (.slice R n q) := h_7.out.at 0 _ rfl
  have qh1 : w6.cell? ⟨w.heap.size, 1, none⟩ = some (.int .i64 keep) := h_7.out.at 1 _ rfl
  have zh := h_7.out.lt
  go_wp2
  go_ret
  exact ⟨rfl, X_7.out⟩
set_option maxRecDepth 100000 in
set_option maxHeartbeats 4000000 in
theorem cshared_not (G : CleanOk) (R : Option Addr) (l : List HC) (n q : Nat) (keep root : Int) (w : World) (hA : HcSl w R n q l) (h : 0 ≤ root) (hf : fineS ⟨l, keep⟩ [root, root] 40 = false) :
    Calls Try.prog 4 #[.agg #[.slice R n q, .int .i64 keep], .int .i64 root] w fun e w' => e = .returned (.bool true) ∧ Ext w w' := by
  have A_8 := Lib.hid (hA)
  have X_9 := Lib.hid (Ext.refl w)
  have HG := Lib.hid G
  clear hA G
  have d0 : decide (root < 0) = false := decide_eq_false (by omega)
  have HF := Lib.hid hf
  clear h hf
  go_enter Try.func4, Try.ntmps4
  go_wp2_with (go_at_call 5; refine stop_here ?_)
  refine stop_on ?_
  generalize hW : (World.alloc w _) = W10
  obtain ⟨hx, hb0⟩ := allocs1 hW
  clear hW
  have A_11 := Lib.hid (A_8.out.ext hx)
  have X_11 := Lib.hid (X_9.out.ext hx)
  clear A_8 X_9
  have h_12 := Lib.hid hb0
  clear hx hb0
  refine (HG.out.shown _).mono ?_
  rintro e w13 ⟨rfl, hx⟩
  have A_14 := Lib.hid (A_11.out.ext hx)
  have X_14 := Lib.hid (X_11.out.ext hx)
  have h_14 := Lib.hid (h_12.out.ext hx)
  clear A_11 X_11 h_12
  clear hx
  have qh0 : w13.cell? ⟨w.heap.size, 0, none⟩ = some (.slice R n q) := h_14.out.at 0 _ rfl
  have qh1 : w13.cell? ⟨w.heap.size, 1, none⟩ = some (.int .i64 keep) := h_14.out.at 1 _ rfl
  have zh := h_14.out.lt
  go_wp2_with (go_at_call 6; refine stop_here ?_)
  refine stop_on ?_
  clear qh0 qh1 zh
  generalize hW : (World.alloc w13 _) = W15
  obtain ⟨hx, hb0⟩ := allocs1 hW
  clear hW
  have A_16 := Lib.hid (A_14.out.ext hx)
  have X_16 := Lib.hid (X_14.out.ext hx)
  have h_16 := Lib.hid (h_14.out.ext hx)
  clear A_14 X_14 h_14
  have rt_17 := Lib.hid hb0
  clear hx hb0
  refine (cFine_is [root, root] _ 2 2 40 rfl HF.out A_16.out (show Sl _ _ 2 2 ([root, root].map iv) from rt_17.out.slS 2 (by unfold maxLen; omega))).mono ?_
  rintro e w18 ⟨rfl, hx⟩
  have A_19 := Lib.hid (A_16.out.ext hx)
  have X_19 := Lib.hid (X_16.out.ext hx)
  have h_19 := Lib.hid (h_16.out.ext hx)
  have rt_19 := Lib.hid (rt_17.out.ext hx)
  clear A_16 X_16 h_16 rt_17
  clear hx
  have qh0 : w18.cell? ⟨w.heap.size, 0, none⟩ = some (.slice R n q) := h_19.out.at 0 _ rfl
  have qh1 : w18.cell? ⟨w.heap.size, 1, none⟩ = some (.int .i64 keep) := h_19.out.at 1 _ rfl
  have zh := h_19.out.lt
  have qrt0 : w18.cell? ⟨w13.heap.size, 0, none⟩ = some (.int .i64 root) := rt_19.out.at 0 _ rfl
  have qrt1 : w18.cell? ⟨w13.heap.size, 1, none⟩ = some (.int .i64 root) := rt_19.out.at 1 _ rfl
  have zrt := rt_19.out.lt
  go_wp2
  go_ret
  exact ⟨rfl, X_19.out⟩
set_option maxRecDepth 100000 in
set_option maxHeartbeats 4000000 in
theorem cshared_yes (G : CleanOk) (R : Option Addr) (l : List HC) (n q : Nat) (keep : Int) (k : Nat) (w : World) (hA : HcSl w R n q l) (hk : k < l.length) (hf : fineS ⟨l, keep⟩ [(k : Int), (k : Int)] 40 = true) (h2 : 2 ≤ l[k].ref) (c2 : List HC) (hc2 : looseL (l.length + 1) l (k : Int) = c2) (hf2 : fineS ⟨c2, keep⟩ [(k : Int)] 40 = true) (hb2 : fineB ⟨c2, keep⟩ (k : Int) 40 = true) (hl2 : listT c2 (k : Int) = listT l (k : Int)) (hk2 : k < c2.length) (hr2 : c2[k].ref = l[k].ref - 1) (hr : rightH ⟨l, keep⟩ = true) (hrr : rightR ⟨l, keep⟩ (k : Int) = true) (h40 : l.length ≤ 40) (hbd : ∀ j (hj : j < l.length), l[j].ref ≤ 1000000) :
    Calls Try.prog 4 #[.agg #[.slice R n q, .int .i64 keep], .int .i64 k] w fun e w' => e = .returned (.bool true) ∧ Ext w w' := by
  have A_20 := Lib.hid (hA)
  have X_21 := Lib.hid (Ext.refl w)
  have HG := Lib.hid G
  clear hA G
  have d0 : decide ((k : Int) < 0) = false := decide_eq_false (by omega)
  have HF := Lib.hid hf
  have HF2 := Lib.hid hf2
  have HGI := Lib.hid (fun w => HG.out.give k w (by omega))
  have HST := Lib.hid (fun A t w' (hx : Ext w w') => HG.out.step l R A n q t k keep w' hk hr h2 h40 hbd (A_20.out.ext hx))
  rw [hc2] at HST
  have HA1 := Lib.hid (allR_of hr)
  have HA2 := Lib.hid (show l.length ≤ 2000 by omega)
  have HA3 := Lib.hid hrr
  obtain ⟨f1, f2, -⟩ := fine_may hb2
  have HB1 := Lib.hid (allR_of (may_iff f1).2.2)
  have HB2 := Lib.hid (show c2.length ≤ 2000 from by have := (rightH_iff (may_iff f1).2.2).1.1.2; exact this)
  have HB3 := Lib.hid f2
  obtain ⟨LL, hLL⟩ : ∃ L, listT l (k : Int) = L := ⟨_, rfl⟩
  rw [hLL] at hl2
  obtain ⟨ll, hll⟩ : ∃ k, LL.length = k := ⟨_, rfl⟩
  have HL1 := Lib.hid hLL
  have HL2 := Lib.hid hl2
  have HLN := Lib.hid hll
  obtain ⟨b0, o0, hR0, hbl0, -, -, r0, -⟩ := A_20.out.cell hk
  have HR0 := Lib.hid hR0
  have hbd0 := hbd k hk
  have hkn : k < n := by rw [A_20.out.1]; exact hk
  have hki : (k : Int) < (n : Int) := by omega
  obtain ⟨rf, hrf⟩ : ∃ x, l[k].ref = x := ⟨_, rfl⟩
  rw [hrf] at r0 hr2 h2 hbd0
  have hw : IntKind.i64.wrap (rf - 1) = rf - 1 := by rw [IntKind.wrap_i64]; omega
  have HK2 := Lib.hid (show ∃ (h : k < c2.length), c2[k].ref = rf - 1 from ⟨hk2, hr2⟩)
  have HR00 := Lib.hid (And.intro hbl0 r0)
  clear hf hf2 hb2 hl2 hr2 hr hrr h40 hbd f1 f2 hLL hll hrf hk2 hc2 hbl0 r0 h2 hbd0 hk hR0
  go_enter Try.func4, Try.ntmps4
  go_wp2_with (go_at_call 5; refine stop_here ?_)
  refine stop_on ?_
  generalize hW : (World.alloc w _) = W22
  obtain ⟨hx, hb0⟩ := allocs1 hW
  clear hW
  have A_23 := Lib.hid (A_20.out.ext hx)
  have X_23 := Lib.hid (X_21.out.ext hx)
  clear A_20 X_21
  have h_24 := Lib.hid hb0
  clear hx hb0
  refine (HG.out.shown _).mono ?_
  rintro e w25 ⟨rfl, hx⟩
  have A_26 := Lib.hid (A_23.out.ext hx)
  have X_26 := Lib.hid (X_23.out.ext hx)
  have h_26 := Lib.hid (h_24.out.ext hx)
  clear A_23 X_23 h_24
  clear hx
  have qh0 : w25.cell? ⟨w.heap.size, 0, none⟩ = some (.slice R n q) := h_26.out.at 0 _ rfl
  have qh1 : w25.cell? ⟨w.heap.size, 1, none⟩ = some (.int .i64 keep) := h_26.out.at 1 _ rfl
  have zh := h_26.out.lt
  go_wp2_with (go_at_call 6; refine stop_here ?_)
  refine stop_on ?_
  clear qh0 qh1 zh
  generalize hW : (World.alloc w25 _) = W27
  obtain ⟨hx, hb0⟩ := allocs1 hW
  clear hW
  have A_28 := Lib.hid (A_26.out.ext hx)
  have X_28 := Lib.hid (X_26.out.ext hx)
  have h_28 := Lib.hid (h_26.out.ext hx)
  clear A_26 X_26 h_26
  have rt_29 := Lib.hid hb0
  clear hx hb0
  refine (cFine_is [(k : Int), (k : Int)] _ 2 2 40 rfl HF.out A_28.out (show Sl _ _ 2 2 ([(k : Int), (k : Int)].map iv) from rt_29.out.slS 2 (by unfold maxLen; omega))).mono ?_
  rintro e w30 ⟨rfl, hx⟩
  have A_31 := Lib.hid (A_28.out.ext hx)
  have X_31 := Lib.hid (X_28.out.ext hx)
  have h_31 := Lib.hid (h_28.out.ext hx)
  have rt_31 := Lib.hid (rt_29.out.ext hx)
  clear A_28 X_28 h_28 rt_29
  clear hx
  have qh0 : w30.cell? ⟨w.heap.size, 0, none⟩ = some (.slice R n q) := h_31.out.at 0 _ rfl
  have qh1 : w30.cell? ⟨w.heap.size, 1, none⟩ = some (.int .i64 keep) := h_31.out.at 1 _ rfl
  have zh := h_31.out.lt
  have qrt0 : w30.cell? ⟨w25.heap.size, 0, none⟩ = some (.int .i64 (k : Int)) := rt_31.out.at 0 _ rfl
  have qrt1 : w30.cell? ⟨w25.heap.size, 1, none⟩ = some (.int .i64 (k : Int)) := rt_31.out.at 1 _ rfl
  have zrt := rt_31.out.lt
  go_wp2_with (go_at_call 7; refine stop_here ?_)
  refine stop_on ?_
  clear qh0 qh1 zh qrt0 qrt1 zrt
  refine (HGI.out _).mono ?_
  rintro e w32 ⟨TA, tt, rfl, h3, hx⟩
  have A_33 := Lib.hid (A_31.out.ext hx)
  have X_33 := Lib.hid (X_31.out.ext hx)
  have h_33 := Lib.hid (h_31.out.ext hx)
  have rt_33 := Lib.hid (rt_31.out.ext hx)
  clear A_31 X_31 h_31 rt_31
  have T_34 := Lib.hid h3
  clear hx h3
  have qh0 : w32.cell? ⟨w.heap.size, 0, none⟩ = some (.slice R n q) := h_33.out.at 0 _ rfl
  have qh1 : w32.cell? ⟨w.heap.size, 1, none⟩ = some (.int .i64 keep) := h_33.out.at 1 _ rfl
  have zh := h_33.out.lt
  have zrt := rt_33.out.lt
  have HXX := Lib.hid X_33.out
  go_wp2_with (go_at_call 10; refine stop_here ?_)
  refine stop_on ?_
  clear qh0 qh1 zh zrt
  refine (HST.out TA tt _ HXX.out T_34.out).mono ?_
  rintro e w35 ⟨S2, t2, SB, tb, rfl, h3, hx⟩
  have A_36 := Lib.hid (A_33.out.ext hx)
  have X_36 := Lib.hid (X_33.out.ext hx)
  have h_36 := Lib.hid (h_33.out.ext hx)
  have rt_36 := Lib.hid (rt_33.out.ext hx)
  have T_36 := Lib.hid (T_34.out.ext hx)
  clear A_33 X_33 h_33 rt_33 T_34
  have C_37 := Lib.hid h3
  clear hx h3
  have qh0 : w35.cell? ⟨w.heap.size, 0, none⟩ = some (.slice R n q) := h_36.out.at 0 _ rfl
  have qh1 : w35.cell? ⟨w.heap.size, 1, none⟩ = some (.int .i64 keep) := h_36.out.at 1 _ rfl
  have zh := h_36.out.lt
  have zrt := rt_36.out.lt
  clear qh0 qh1 zh zrt
  have qh0 : w35.cell? ⟨w.heap.size, 0, none⟩ = some (.slice R n q) := h_36.out.at 0 _ rfl
  have qh1 : w35.cell? ⟨w.heap.size, 1, none⟩ = some (.int .i64 keep) := h_36.out.at 1 _ rfl
  have zh := h_36.out.lt
  obtain ⟨hk2, hr2⟩ := HK2.out
  obtain ⟨b1, o1, hS1, hbl1, -, -, r1, -⟩ := C_37.out.cell hk2
  rw [hr2] at r1
  have HR1 := Lib.hid (And.intro hbl1 r1)
  subst hS1
  clear hbl1 r1 hr2 hk2
  have hR0 := HR0.out
  subst hR0
  clear HR0
  go_wp2_with fail
  clear qh0 qh1 zh
  generalize hW : (World.alloc w35 _) = W38
  obtain ⟨hx, hb0⟩ := allocs1 hW
  clear hW
  have A_39 := Lib.hid (A_36.out.ext hx)
  have X_39 := Lib.hid (X_36.out.ext hx)
  have h_39 := Lib.hid (h_36.out.ext hx)
  have rt_39 := Lib.hid (rt_36.out.ext hx)
  have T_39 := Lib.hid (T_36.out.ext hx)
  have C_39 := Lib.hid (C_37.out.ext hx)
  clear A_36 X_36 h_36 rt_36 T_36 C_37
  have g_40 := Lib.hid hb0
  clear hx hb0
  have GF := Lib.hid (fun w' A (hx : Ext W38 w') (hR : Sl w' A 1 1 ([(k : Int)].map iv)) => cFine_is [(k : Int)] A 1 1 40 rfl HF2.out (C_39.out.ext hx) hR)
  have GB := Lib.hid (fun w' (hx : Ext W38 w') => cList_is HB1.out HB2.out HB3.out HL2.out HLN.out (C_39.out.ext hx))
  have GH := Lib.hid (fun w' (hx : Ext W38 w') => cList_is HA1.out HA2.out HA3.out HL1.out HLN.out (A_39.out.ext hx))
  have EC := Lib.hid (Ext.refl W38)
  have HV := Lib.hid (fun w' (hx : Ext W38 w') => (show w'.cell? ⟨b0, o0 + k * 4, none⟩ = some (.int .i64 rf) from ((X_39.out.trans hx).cell (p := ⟨b0, o0 + k * 4, none⟩) HR00.out.1).trans HR00.out.2))
  obtain ⟨hk2, hr2⟩ := HK2.out
  obtain ⟨bb, ob, e1, hbl1, -, -, r1, -⟩ := C_39.out.cell hk2
  cases e1
  rw [hr2] at r1
  have HU := Lib.hid (fun w' (hx : Ext W38 w') => (hx.cell (p := ⟨b1, o1 + k * 4, none⟩) hbl1).trans r1)
  clear hbl1 r1 hr2 hk2
  obtain ⟨p0, p1, p2⟩ := (g_40.out.ext EC.out).read2
  obtain ⟨g0, g1, g2⟩ := (h_39.out.ext EC.out).read2
  have v0 := HV.out _ EC.out
  have v1 := HU.out _ EC.out
  have HK := Lib.hid (fun w' (hx : Ext W38 w') => (show w'.cell? ⟨w35.heap.size, 0, none⟩ = some (.slice (some ⟨b1, o1, none⟩) n t2) ∧ w'.cell? ⟨w35.heap.size, 1, none⟩ = some (.int .i64 keep) ∧ w'.cell? ⟨w.heap.size, 0, none⟩ = some (.slice (some ⟨b0, o0, none⟩) n q) ∧ w'.cell? ⟨w.heap.size, 1, none⟩ = some (.int .i64 keep) ∧ w'.cell? ⟨b0, o0 + k * 4, none⟩ = some (.int .i64 rf) ∧ w'.cell? ⟨b1, o1 + k * 4, none⟩ = some (.int .i64 (rf - 1)) from ⟨(g_40.out.ext hx).at 0 _ rfl, (g_40.out.ext hx).at 1 _ rfl, (h_39.out.ext hx).at 0 _ rfl, (h_39.out.ext hx).at 1 _ rfl, HV.out _ hx, HU.out _ hx⟩))
  clear EC
  go_region_held3 (fun w' => w'.cell? ⟨w35.heap.size, 0, none⟩ = some (.slice (some ⟨b1, o1, none⟩) n t2) ∧ w'.cell? ⟨w35.heap.size, 1, none⟩ = some (.int .i64 keep) ∧ w'.cell? ⟨w.heap.size, 0, none⟩ = some (.slice (some ⟨b0, o0, none⟩) n q) ∧ w'.cell? ⟨w.heap.size, 1, none⟩ = some (.int .i64 keep) ∧ w'.cell? ⟨b0, o0 + k * 4, none⟩ = some (.int .i64 rf) ∧ w'.cell? ⟨b1, o1 + k * 4, none⟩ = some (.int .i64 (rf - 1)))
    (first | exact HK.out _ E3.out | exact HK.out _ E2.out | exact HK.out _ E1.out | exact HK.out _ E0.out | exact HK.out _ ((Ext.refl W38).drew.alloc _) | exact HK.out _ ((Ext.refl W38).alloc _).drew | exact HK.out _ (Ext.refl W38).drew | exact HK.out _ (Ext.refl W38))
    (first
      | ((go_at_call 11
          with_reducible refine (cItems_is _ _ LL ll _ _ HLN.out P6.out P7.out).mono ?_
          rintro e wd ⟨rfl, hxb⟩
          have E3 := Lib.hid (E2.out.trans hxb)
          clear hxb))
      | ((go_at_call 12
          with_reducible refine (GH.out _ E1.out).mono ?_
          rintro e wc ⟨S7, t7, rfl, h7, hxb⟩
          have E2 := Lib.hid (E1.out.trans hxb)
          have P7 := Lib.hid h7
          have P6 := Lib.hid (P6.out.ext hxb)
          clear hxb h7))
      | ((go_at_call 12
          with_reducible refine (GB.out _ E0.out).mono ?_
          rintro e wb ⟨S6, t6, rfl, h6, hxb⟩
          have E1 := Lib.hid (E0.out.trans hxb)
          have P6 := Lib.hid h6
          clear hxb h6))
      | ((go_at_call 6
          with_reducible refine (GF.out _ _ ?_ ?_).mono ?_
          (first | exact (Ext.refl _).drew.alloc _ | exact ((Ext.refl _).alloc _).drew | exact (Ext.refl _).alloc _)
          (first | exact sl_lit' rfl _ 1 [.int .i64 k] (by unfold maxLen; omega) | exact (sl_lit' rfl _ 1 [.int .i64 k] (by unfold maxLen; omega)).ext (Ext.refl _).drew)
          rintro e wa ⟨rfl, hxa⟩
          have E0 := Lib.hid (show Ext W38 wa from by first | exact ((Ext.refl _).drew.alloc _).trans hxa | exact ((Ext.refl _).alloc _).drew.trans hxa | exact ((Ext.refl _).alloc _).trans hxa)
          clear hxa)))
  all_goals
    go_wp2
    go_ret
    exact ⟨rfl, X_39.out.trans E3.out⟩
theorem cshared_any (G : CleanOk) (R : Option Addr) (l : List HC) (n q : Nat) (keep root : Int) (w : World) (hA : HcSl w R n q l) :
    Calls Try.prog 4 #[.agg #[.slice R n q, .int .i64 keep], .int .i64 root] w fun e w' => e = .returned (.bool true) ∧ Ext w w' := by
  rcases Int.lt_or_le root 0 with h | h
  · exact cshared_low G R l n q keep root w hA h
  · cases hf : fineS ⟨l, keep⟩ [root, root] 40
    · exact cshared_not G R l n q keep root w hA h hf
    · obtain ⟨k, hk, rfl, h2, -, -, hb2, hl2, hr2, hr, hrr, hbd⟩ := shared_fine (by decide) hf h
      have h40 : l.length ≤ 40 := by
        unfold fineS mayS smallH at hf
        simp only [Bool.and_eq_true, decide_eq_true_eq] at hf
        have := hf.1.1.1
        omega
      have hlen : (looseL (l.length + 1) l (k : Int)).length = l.length := (loose_cuts (l.length + 1) l (k : Int)).len
      have hk2 : k < (looseL (l.length + 1) l (k : Int)).length := by rw [hlen]; exact hk
      rw [cellT_at hk2] at hr2
      exact cshared_yes G R l n q keep k w hA hk hf h2 _ rfl (by rw [fine_one]; exact hb2) hb2 hl2 hk2 hr2 hr hrr h40 hbd
end Go.Proofs.Ytlbhcakjcklmgaa

