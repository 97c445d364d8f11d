/- The walk of PruneCuts. -/
import Derived.Test.YtbfbpddfcakieaaK39
import Derived.Deep.AppendLies
import Derived.Deep.RegionHeld3
import Derived.Deep.DeepCutAuto
import Derived.Deep.DrawnRows
import Derived.RegionTactic
namespace Go.Proofs.Ytbfbpddfcakieaa
open Go.RowKit
attribute [local go_sem ↓] Go.wp_at_zero Go.wp_at_succ

theorem outs_len : ∀ (xs : List It) (L : List It), (xs.foldl (fun L x => outK L x.1) L).length ≤ L.length
  | [], _ => Nat.le_refl _
  | x :: r, L => Nat.le_trans (outs_len r (outK L x.1)) (List.length_filter_le _ _)
attribute [local go_sem] beq_self_eq_true bne_self_eq_false
set_option maxRecDepth 100000 in
set_option maxHeartbeats 4000000 in
theorem pcuts_not (R : Option Addr) (l : List HC) (n q : Nat) (keep root lo hi mo : Int) (w : World) (hA : HcSl w R n q l) (hf : fineB ⟨l, keep⟩ root 40 = false) :
    Calls Try.prog 4 #[.agg #[.slice R n q, .int .i64 keep, .int .i64 root, .int .i64 lo, .int .i64 hi, .int .u8 mo]] w fun e w' => e = .returned (.bool true) ∧ Ext w w' := by
  have A_1 := Lib.hid (hA)
  have X_2 := Lib.hid (Ext.refl w)
  clear hA
  have HF := Lib.hid hf
  clear hf
  go_enter Try.func4, Try.ntmps4
  go_wp2_with (go_at_call 6; refine stop_here ?_)
  refine stop_on ?_
  generalize hW : (World.alloc (World.alloc w _) _) = W3
  obtain ⟨hx, hb0, hb1⟩ := allocs2 hW
  clear hW
  have A_4 := Lib.hid (A_1.out.ext hx)
  have X_4 := Lib.hid (X_2.out.ext hx)
  clear A_1 X_2
  have wi_5 := Lib.hid hb0
  have h_6 := Lib.hid hb1
  clear hx hb0 hb1
  refine (shown_any _).mono ?_
  rintro e w7 ⟨rfl, hx⟩
  have A_8 := Lib.hid (A_4.out.ext hx)
  have X_8 := Lib.hid (X_4.out.ext hx)
  have wi_8 := Lib.hid (wi_5.out.ext hx)
  have h_8 := Lib.hid (h_6.out.ext hx)
  clear A_4 X_4 wi_5 h_6
  clear hx
  have qwi0 : w7.cell? ⟨w.heap.size, 0, none⟩ = some (.slice R n q) := wi_8.out.at 0 _ rfl
  have qwi1 : w7.cell? ⟨w.heap.size, 1, none⟩ = some (.int .i64 keep) := wi_8.out.at 1 _ rfl
  have qwi2 : w7.cell? ⟨w.heap.size, 2, none⟩ = some (.int .i64 root) := wi_8.out.at 2 _ rfl
  have qwi3 : w7.cell? ⟨w.heap.size, 3, none⟩ = some (.int .i64 lo) := wi_8.out.at 3 _ rfl
  have qwi4 : w7.cell? ⟨w.heap.size, 4, none⟩ = some (.int .i64 hi) := wi_8.out.at 4 _ rfl
  have qwi5 : w7.cell? ⟨w.heap.size, 5, none⟩ = some (.int .u8 mo) := wi_8.out.at 5 _ rfl
  have zwi := wi_8.out.lt
  have qh0 : w7.cell? ⟨w.heap.size + 1, 0, none⟩ = some (.slice R n q) := h_8.out.at 0 _ rfl
  have qh1 : w7.cell? ⟨w.heap.size + 1, 1, none⟩ = some (.int .i64 keep) := h_8.out.at 1 _ rfl
  have zh := h_8.out.lt
  go_wp2_with (go_at_call 7; refine stop_here ?_)
  refine stop_on ?_
  clear qwi0 qwi1 qwi2 qwi3 qwi4 qwi5 zwi qh0 qh1 zh
  generalize hW : (World.alloc w7 _) = W9
  obtain ⟨hx, hb0⟩ := allocs1 hW
  clear hW
  have A_10 := Lib.hid (A_8.out.ext hx)
  have X_10 := Lib.hid (X_8.out.ext hx)
  have wi_10 := Lib.hid (wi_8.out.ext hx)
  have h_10 := Lib.hid (h_8.out.ext hx)
  clear A_8 X_8 wi_8 h_8
  have rt_11 := Lib.hid hb0
  clear hx hb0
  refine (rFine_is _ 1 40 HF.out A_10.out (show Sl _ _ 1 1 ([root].map iv) from rt_11.out.slQ 1 (by unfold maxLen; omega))).mono ?_
  rintro e w12 ⟨rfl, hx⟩
  have A_13 := Lib.hid (A_10.out.ext hx)
  have X_13 := Lib.hid (X_10.out.ext hx)
  have wi_13 := Lib.hid (wi_10.out.ext hx)
  have h_13 := Lib.hid (h_10.out.ext hx)
  have rt_13 := Lib.hid (rt_11.out.ext hx)
  clear A_10 X_10 wi_10 h_10 rt_11
  clear hx
  have zwi := wi_13.out.lt
  have qh0 : w12.cell? ⟨w.heap.size + 1, 0, none⟩ = some (.slice R n q) := h_13.out.at 0 _ rfl
  have qh1 : w12.cell? ⟨w.heap.size + 1, 1, none⟩ = some (.int .i64 keep) := h_13.out.at 1 _ rfl
  have zh := h_13.out.lt
  have qrt0 : w12.cell? ⟨w7.heap.size, 0, none⟩ = some (.int .i64 root) := rt_13.out.at 0 _ rfl
  have zrt := rt_13.out.lt
  go_wp2
  go_ret
  exact ⟨rfl, X_13.out⟩
set_option maxRecDepth 100000 in
set_option maxHeartbeats 4000000 in
theorem pcuts_full (R : Option Addr) (l : List HC) (n q : Nat) (keep root lo hi mo : Int) (w : World) (hA : HcSl w R n q l) (m : Nat) (hm : mo % 16 = (m : Int)) (hm0 : 0 ≤ mo) (_hm2 : mo ≤ 255) (hf : fineB ⟨l, keep⟩ root 40 = true) (c2 : List HC) (r2 : Int) (k : Nat) (hp : cutS keep lo hi m l root = (c2, r2, k, 3)) (hf2 : fineB ⟨c2, keep⟩ r2 40 = true) (hkm : k ≤ m) (hks : k ≤ (scanT l root lo hi).length) (hl : listT c2 r2 = ((scanT l root lo hi).take k).foldl (fun L x => outK L x.1) (listT l root))  :
    Calls Try.prog 4 #[.agg #[.slice R n q, .int .i64 keep, .int .i64 root, .int .i64 lo, .int .i64 hi, .int .u8 mo]] w fun e w' => e = .returned (.bool true) ∧ Ext w w' := by
  have A_14 := Lib.hid (hA)
  have X_15 := Lib.hid (Ext.refl w)
  clear hA
  have htm : mo.tmod 16 = (m : Int) := by rw [Int.tmod_eq_emod_of_nonneg hm0, hm]
  have hm16 : m < 16 := by have := Int.emod_lt_of_pos mo (show (0 : Int) < 16 by omega); omega
  have hwu : IntKind.u8.wrap (m : Int) = (m : Int) := by rw [IntKind.wrap_u8]; omega
  have hwi : IntKind.i64.wrap (m : Int) = (m : Int) := by rw [IntKind.wrap_i64]; omega
  have HM := Lib.hid (mayT_ofP hf)
  obtain ⟨a1, a2, a3, a4⟩ := fine_allP hf
  have A1 := Lib.hid a1
  have A2 := Lib.hid a2
  have A3 := Lib.hid a3
  have HF := Lib.hid hf
  have HP := Lib.hid hp
  obtain ⟨b1, b2, b3, b4⟩ := fine_allP hf2
  have B1 := Lib.hid b1
  have B2 := Lib.hid b2
  have B3 := Lib.hid b3
  have B4 := Lib.hid b4
  have HF2 := Lib.hid hf2
  have hln := list_none (may_iff (fine_may hf2).1).2.2 (fine_may hf2).2.1
  have hlb := listT_len a1 a3
  have HM1 := Lib.hid (show m ≤ 1000 by omega)
  obtain ⟨SC, hSC⟩ : ∃ x, scanT l root lo hi = x := ⟨_, rfl⟩
  obtain ⟨L0, hL0⟩ : ∃ x, listT l root = x := ⟨_, rfl⟩
  obtain ⟨LL, hLL⟩ : ∃ x, listT c2 r2 = x := ⟨_, rfl⟩
  rw [hSC] at hl hks
  rw [hL0] at hl hlb
  rw [hLL] at hl hln
  obtain ⟨sc, hsc⟩ : ∃ x, SC.length = x := ⟨_, rfl⟩
  obtain ⟨ll, hll⟩ : ∃ x, LL.length = x := ⟨_, rfl⟩
  rw [hsc] at hks
  have HSC := Lib.hid hSC
  have HL0 := Lib.hid hL0
  have HLL := Lib.hid hLL
  have HSN := Lib.hid hsc
  have HLN := Lib.hid hll
  have HLB := Lib.hid hlb
  have HL := Lib.hid hl
  obtain ⟨bb, hb1, hb2⟩ : ∃ bb : Bool, (r2 == -1) = bb ∧ ((ll : Int) == 0) = bb := by
    by_cases h0 : r2 = -1
    · have h1 := hln.1 h0
      exact ⟨true, by simp [h0], by rw [h1] at hll; simp at hll; simp [← hll]⟩
    · have h1 := mt hln.2 h0
      refine ⟨false, by simp [h0], ?_⟩
      have : ll ≠ 0 := fun e => h1 (List.eq_nil_of_length_eq_zero (by rw [hll, e]))
      simp; omega
  have d0 : decide ((k : Int) < 0) = false := decide_eq_false (by omega)
  have d1 : decide ((m : Int) < (k : Int)) = false := decide_eq_false (by omega)
  have d2 : decide ((sc : Int) < (k : Int)) = false := decide_eq_false (by omega)
  have d3 : decide (m < k) = false := decide_eq_false (by omega)
  have d4 : decide (sc < k) = false := decide_eq_false (by omega)
  have hk16 : k < 16 := by omega
  clear hm hm0 hm16 hf hp hf2 hl hln hlb hSC hL0 hLL hll hsc a1 a2 a3 a4 b1 b2 b3 b4
  go_enter Try.func4, Try.ntmps4
  go_wp2_with (go_at_call 6; refine stop_here ?_)
  refine stop_on ?_
  generalize hW : (World.alloc (World.alloc w _) _) = W16
  obtain ⟨hx, hb0, hb1⟩ := allocs2 hW
  clear hW
  have A_17 := Lib.hid (A_14.out.ext hx)
  have X_17 := Lib.hid (X_15.out.ext hx)
  clear A_14 X_15
  have wi_18 := Lib.hid hb0
  have h_19 := Lib.hid hb1
  clear hx hb0 hb1
  refine (shown_any _).mono ?_
  rintro e w20 ⟨rfl, hx⟩
  have A_21 := Lib.hid (A_17.out.ext hx)
  have X_21 := Lib.hid (X_17.out.ext hx)
  have wi_21 := Lib.hid (wi_18.out.ext hx)
  have h_21 := Lib.hid (h_19.out.ext hx)
  clear A_17 X_17 wi_18 h_19
  clear hx
  have qwi0 : w20.cell? ⟨w.heap.size, 0, none⟩ = some (.slice R n q) := wi_21.out.at 0 _ rfl
  have qwi1 : w20.cell? ⟨w.heap.size, 1, none⟩ = some (.int .i64 keep) := wi_21.out.at 1 _ rfl
  have qwi2 : w20.cell? ⟨w.heap.size, 2, none⟩ = some (.int .i64 root) := wi_21.out.at 2 _ rfl
  have qwi3 : w20.cell? ⟨w.heap.size, 3, none⟩ = some (.int .i64 lo) := wi_21.out.at 3 _ rfl
  have qwi4 : w20.cell? ⟨w.heap.size, 4, none⟩ = some (.int .i64 hi) := wi_21.out.at 4 _ rfl
  have qwi5 : w20.cell? ⟨w.heap.size, 5, none⟩ = some (.int .u8 mo) := wi_21.out.at 5 _ rfl
  have zwi := wi_21.out.lt
  have qh0 : w20.cell? ⟨w.heap.size + 1, 0, none⟩ = some (.slice R n q) := h_21.out.at 0 _ rfl
  have qh1 : w20.cell? ⟨w.heap.size + 1, 1, none⟩ = some (.int .i64 keep) := h_21.out.at 1 _ rfl
  have zh := h_21.out.lt
  go_wp2_with (go_at_call 7; refine stop_here ?_)
  refine stop_on ?_
  clear qwi0 qwi1 qwi2 qwi3 qwi4 qwi5 zwi qh0 qh1 zh
  generalize hW : (World.alloc w20 _) = W22
  obtain ⟨hx, hb0⟩ := allocs1 hW
  clear hW
  have A_23 := Lib.hid (A_21.out.ext hx)
  have X_23 := Lib.hid (X_21.out.ext hx)
  have wi_23 := Lib.hid (wi_21.out.ext hx)
  have h_23 := Lib.hid (h_21.out.ext hx)
  clear A_21 X_21 wi_21 h_21
  have rt_24 := Lib.hid hb0
  clear hx hb0
  refine (rFine_is _ 1 40 HF.out A_23.out (show Sl _ _ 1 1 ([root].map iv) from rt_24.out.slQ 1 (by unfold maxLen; omega))).mono ?_
  rintro e w25 ⟨rfl, hx⟩
  have A_26 := Lib.hid (A_23.out.ext hx)
  have X_26 := Lib.hid (X_23.out.ext hx)
  have wi_26 := Lib.hid (wi_23.out.ext hx)
  have h_26 := Lib.hid (h_23.out.ext hx)
  have rt_26 := Lib.hid (rt_24.out.ext hx)
  clear A_23 X_23 wi_23 h_23 rt_24
  clear hx
  have zwi := wi_26.out.lt
  have qh0 : w25.cell? ⟨w.heap.size + 1, 0, none⟩ = some (.slice R n q) := h_26.out.at 0 _ rfl
  have qh1 : w25.cell? ⟨w.heap.size + 1, 1, none⟩ = some (.int .i64 keep) := h_26.out.at 1 _ rfl
  have zh := h_26.out.lt
  have qrt0 : w25.cell? ⟨w20.heap.size, 0, none⟩ = some (.int .i64 root) := rt_26.out.at 0 _ rfl
  have zrt := rt_26.out.lt
  go_wp2_with (go_at_call 12; refine stop_here ?_)
  refine stop_on ?_
  clear zwi qh0 qh1 zh qrt0 zrt
  refine (pCut_is (by decide) HM1.out HF.out HP.out A_26.out).mono ?_
  rintro e w27 ⟨S2, t2, rfl, h3, hx⟩
  have A_28 := Lib.hid (A_26.out.ext hx)
  have X_28 := Lib.hid (X_26.out.ext hx)
  have wi_28 := Lib.hid (wi_26.out.ext hx)
  have h_28 := Lib.hid (h_26.out.ext hx)
  have rt_28 := Lib.hid (rt_26.out.ext hx)
  clear A_26 X_26 wi_26 h_26 rt_26
  have C_29 := Lib.hid h3
  clear hx h3
  have zwi := wi_28.out.lt
  have qh0 : w27.cell? ⟨w.heap.size + 1, 0, none⟩ = some (.slice R n q) := h_28.out.at 0 _ rfl
  have qh1 : w27.cell? ⟨w.heap.size + 1, 1, none⟩ = some (.int .i64 keep) := h_28.out.at 1 _ rfl
  have zh := h_28.out.lt
  have zrt := rt_28.out.lt
  go_wp2_with (go_at_call 13; refine stop_here ?_)
  refine stop_on ?_
  clear zwi qh0 qh1 zh zrt
  generalize hW : (World.alloc w27 _) = W30
  obtain ⟨hx, hb0⟩ := allocs1 hW
  clear hW
  have A_31 := Lib.hid (A_28.out.ext hx)
  have X_31 := Lib.hid (X_28.out.ext hx)
  have wi_31 := Lib.hid (wi_28.out.ext hx)
  have h_31 := Lib.hid (h_28.out.ext hx)
  have rt_31 := Lib.hid (rt_28.out.ext hx)
  have C_31 := Lib.hid (C_29.out.ext hx)
  clear A_28 X_28 wi_28 h_28 rt_28 C_29
  have g_32 := Lib.hid hb0
  clear hx hb0
  refine (rMay_is 40 B4.out C_31.out).mono ?_
  rintro e w33 ⟨rfl, hx⟩
  have A_34 := Lib.hid (A_31.out.ext hx)
  have X_34 := Lib.hid (X_31.out.ext hx)
  have wi_34 := Lib.hid (wi_31.out.ext hx)
  have h_34 := Lib.hid (h_31.out.ext hx)
  have rt_34 := Lib.hid (rt_31.out.ext hx)
  have C_34 := Lib.hid (C_31.out.ext hx)
  have g_34 := Lib.hid (g_32.out.ext hx)
  clear A_31 X_31 wi_31 h_31 rt_31 C_31 g_32
  clear hx
  have zwi := wi_34.out.lt
  have qh0 : w33.cell? ⟨w.heap.size + 1, 0, none⟩ = some (.slice R n q) := h_34.out.at 0 _ rfl
  have qh1 : w33.cell? ⟨w.heap.size + 1, 1, none⟩ = some (.int .i64 keep) := h_34.out.at 1 _ rfl
  have zh := h_34.out.lt
  have zrt := rt_34.out.lt
  have qg0 : w33.cell? ⟨w27.heap.size, 0, none⟩ = some (.slice S2 n t2) := g_34.out.at 0 _ rfl
  have qg1 : w33.cell? ⟨w27.heap.size, 1, none⟩ = some (.int .i64 keep) := g_34.out.at 1 _ rfl
  have zg := g_34.out.lt
  go_wp2_with (go_at_call 14; refine stop_here ?_)
  refine stop_on ?_
  clear zwi qh0 qh1 zh zrt qg0 qg1 zg
  refine (rScan_is lo hi A1.out A2.out A3.out HSC.out HSN.out A_34.out).mono ?_
  rintro e w35 ⟨S3, t3, rfl, h3, hx⟩
  have A_36 := Lib.hid (A_34.out.ext hx)
  have X_36 := Lib.hid (X_34.out.ext hx)
  have wi_36 := Lib.hid (wi_34.out.ext hx)
  have h_36 := Lib.hid (h_34.out.ext hx)
  have rt_36 := Lib.hid (rt_34.out.ext hx)
  have C_36 := Lib.hid (C_34.out.ext hx)
  have g_36 := Lib.hid (g_34.out.ext hx)
  clear A_34 X_34 wi_34 h_34 rt_34 C_34 g_34
  have SA_37 := Lib.hid h3
  clear hx h3
  have zwi := wi_36.out.lt
  have qh0 : w35.cell? ⟨w.heap.size + 1, 0, none⟩ = some (.slice R n q) := h_36.out.at 0 _ rfl
  have qh1 : w35.cell? ⟨w.heap.size + 1, 1, none⟩ = some (.int .i64 keep) := h_36.out.at 1 _ rfl
  have zh := h_36.out.lt
  have zrt := rt_36.out.lt
  have qg0 : w35.cell? ⟨w27.heap.size, 0, none⟩ = some (.slice S2 n t2) := g_36.out.at 0 _ rfl
  have qg1 : w35.cell? ⟨w27.heap.size, 1, none⟩ = some (.int .i64 keep) := g_36.out.at 1 _ rfl
  have zg := g_36.out.lt
  go_wp2_with (go_at_call 15; refine stop_here ?_)
  refine stop_on ?_
  clear zwi qh0 qh1 zh zrt qg0 qg1 zg
  refine (rList_is A1.out A2.out A3.out HL0.out rfl A_36.out).mono ?_
  rintro e w38 ⟨S4, t4, rfl, h3, hx⟩
  have A_39 := Lib.hid (A_36.out.ext hx)
  have X_39 := Lib.hid (X_36.out.ext hx)
  have wi_39 := Lib.hid (wi_36.out.ext hx)
  have h_39 := Lib.hid (h_36.out.ext hx)
  have rt_39 := Lib.hid (rt_36.out.ext hx)
  have C_39 := Lib.hid (C_36.out.ext hx)
  have g_39 := Lib.hid (g_36.out.ext hx)
  have SA_39 := Lib.hid (SA_37.out.ext hx)
  clear A_36 X_36 wi_36 h_36 rt_36 C_36 g_36 SA_37
  have W0_40 := Lib.hid h3
  clear hx h3
  have zwi := wi_39.out.lt
  have qh0 : w38.cell? ⟨w.heap.size + 1, 0, none⟩ = some (.slice R n q) := h_39.out.at 0 _ rfl
  have qh1 : w38.cell? ⟨w.heap.size + 1, 1, none⟩ = some (.int .i64 keep) := h_39.out.at 1 _ rfl
  have zh := h_39.out.lt
  have zrt := rt_39.out.lt
  have qg0 : w38.cell? ⟨w27.heap.size, 0, none⟩ = some (.slice S2 n t2) := g_39.out.at 0 _ rfl
  have qg1 : w38.cell? ⟨w27.heap.size, 1, none⟩ = some (.int .i64 keep) := g_39.out.at 1 _ rfl
  have zg := g_39.out.lt
  clear zwi qh0 qh1 zh zrt qg0 qg1 zg
  have HKS := Lib.hid (show k ≤ sc by omega)
  go_wp2_with fail
  go_loopw [15, 16] (fun v i wr => ∃ (j : Nat) (S : Option Addr) (d u : Nat) (Lj : List It), v = .slice S u d ∧ i = .int .i64 j ∧ j ≤ k ∧ Lj = (SC.take j).foldl (fun L x => outK L x.1) L0 ∧ Lj.length = u ∧ Sl wr S u d (ivs Lj) ∧ Ext w38 wr) (fun _ i _ => k - (intOf i).toNat)
  case atStart => exact ⟨0, S4, t4, _, L0, rfl, rfl, Nat.zero_le _, rfl, rfl, W0_40.out, Ext.refl _⟩
  case round =>
    obtain ⟨j, S5, t5, u5, Lj, rfl, rfl, hj, hLj, hu, hS5, hx⟩ := hrel
    have HLj := Lib.hid hLj
    have HU := Lib.hid hu
    have HS5 := Lib.hid hS5
    have HXL := Lib.hid hx
    clear hLj hu hS5
    rcases Nat.lt_or_ge j k with hlt | hlt
    · have hjl : j < SC.length := by rw [HSN.out]; exact Nat.lt_of_lt_of_le hlt HKS.out
      have hji : (j : Int) < (k : Int) := by omega
      have hjs : (j : Int) < (sc : Int) := by have := HKS.out; omega
      obtain ⟨b2, off2, hS3, hbl2, k0w, -⟩ := it_at SA_39.out hjl
      subst hS3
      have k0 := (hx.cell (p := ⟨b2, off2 + j * 2, none⟩) hbl2).trans k0w
      clear k0w hx
      have HTK := Lib.hid (show outK Lj SC[j].1 = (SC.take (j + 1)).foldl (fun L x => outK L x.1) L0 from by rw [HLj.out, List.take_succ_eq_append_getElem hjl, List.foldl_append]; rfl)
      have HLE := Lib.hid (show u5 ≤ 1099511627776 from by have h1 := outs_len (SC.take j) L0; have h2 := HLB.out; rw [← HU.out, HLj.out]; omega)
      generalize SC[j].1 = key at *
      clear hjl
      go_wp2_with (go_at_call 16; refine stop_here ?_)
      refine stop_on ?_
      refine (rWithout_is S5 u5 t5 _ key HU.out HLE.out rfl rfl HS5.out).mono ?_
      rintro e w9 ⟨S9, t9, rfl, h9, hx9⟩
      have H9 := Lib.hid h9
      have HX9 := Lib.hid (HXL.out.trans hx9)
      clear h9 hx9
      go_wp2_with fail
      go_roundw
      case rel => exact ⟨j + 1, S9, t9, _, _, rfl, by go_num, hlt, HTK.out, rfl, H9.out, HX9.out⟩
      case measure => simp [intOf]; omega
    · obtain rfl : k = j := by omega
      obtain rfl : LL = Lj := by rw [HL.out, HLj.out]
      obtain rfl : ll = u5 := by rw [← HLN.out, HU.out]
      have hlt2 : decide ((k : Int) < (k : Int)) = false := decide_eq_false (by omega)
      clear hlt
      have A_41 := Lib.hid (A_39.out.ext hx)
      have X_41 := Lib.hid (X_39.out.ext hx)
      have wi_41 := Lib.hid (wi_39.out.ext hx)
      have h_41 := Lib.hid (h_39.out.ext hx)
      have rt_41 := Lib.hid (rt_39.out.ext hx)
      have C_41 := Lib.hid (C_39.out.ext hx)
      have g_41 := Lib.hid (g_39.out.ext hx)
      have SA_41 := Lib.hid (SA_39.out.ext hx)
      have W0_41 := Lib.hid (W0_40.out.ext hx)
      clear hx
      have W5_42 := Lib.hid (HS5.out)
      have zwi := wi_41.out.lt
      have zh := h_41.out.lt
      have zrt := rt_41.out.lt
      have qg0 : wr.cell? ⟨w27.heap.size, 0, none⟩ = some (.slice S2 n t2) := g_41.out.at 0 _ rfl
      have qg1 : wr.cell? ⟨w27.heap.size, 1, none⟩ = some (.int .i64 keep) := g_41.out.at 1 _ rfl
      have zg := g_41.out.lt
      go_wp2_with (go_at_call 15; refine stop_here ?_)
      refine stop_on ?_
      clear zwi zh zrt qg0 qg1 zg
      refine (rList_is B1.out B2.out B3.out HLL.out HLN.out C_41.out).mono ?_
      rintro e w43 ⟨S6, t6, rfl, h3, hx⟩
      have A_44 := Lib.hid (A_41.out.ext hx)
      have X_44 := Lib.hid (X_41.out.ext hx)
      have wi_44 := Lib.hid (wi_41.out.ext hx)
      have h_44 := Lib.hid (h_41.out.ext hx)
      have rt_44 := Lib.hid (rt_41.out.ext hx)
      have C_44 := Lib.hid (C_41.out.ext hx)
      have g_44 := Lib.hid (g_41.out.ext hx)
      have SA_44 := Lib.hid (SA_41.out.ext hx)
      have W0_44 := Lib.hid (W0_41.out.ext hx)
      have W5_44 := Lib.hid (W5_42.out.ext hx)
      clear A_41 X_41 wi_41 h_41 rt_41 C_41 g_41 SA_41 W0_41 W5_42
      have W6_45 := Lib.hid h3
      clear hx h3
      have zwi := wi_44.out.lt
      have zh := h_44.out.lt
      have zrt := rt_44.out.lt
      have qg0 : w43.cell? ⟨w27.heap.size, 0, none⟩ = some (.slice S2 n t2) := g_44.out.at 0 _ rfl
      have qg1 : w43.cell? ⟨w27.heap.size, 1, none⟩ = some (.int .i64 keep) := g_44.out.at 1 _ rfl
      have zg := g_44.out.lt
      go_wp2_with (go_at_call 17; refine stop_here ?_)
      refine stop_on ?_
      clear zwi zh zrt qg0 qg1 zg
      refine (rItems_is S6 S5 LL ll t6 t5 HLN.out W6_45.out W5_44.out).mono ?_
      rintro e w46 ⟨rfl, hx⟩
      have A_47 := Lib.hid (A_44.out.ext hx)
      have X_47 := Lib.hid (X_44.out.ext hx)
      have wi_47 := Lib.hid (wi_44.out.ext hx)
      have h_47 := Lib.hid (h_44.out.ext hx)
      have rt_47 := Lib.hid (rt_44.out.ext hx)
      have C_47 := Lib.hid (C_44.out.ext hx)
      have g_47 := Lib.hid (g_44.out.ext hx)
      have SA_47 := Lib.hid (SA_44.out.ext hx)
      have W0_47 := Lib.hid (W0_44.out.ext hx)
      have W5_47 := Lib.hid (W5_44.out.ext hx)
      have W6_47 := Lib.hid (W6_45.out.ext hx)
      clear A_44 X_44 wi_44 h_44 rt_44 C_44 g_44 SA_44 W0_44 W5_44 W6_45
      clear hx
      have zwi := wi_47.out.lt
      have zh := h_47.out.lt
      have zrt := rt_47.out.lt
      have qg0 : w46.cell? ⟨w27.heap.size, 0, none⟩ = some (.slice S2 n t2) := g_47.out.at 0 _ rfl
      have qg1 : w46.cell? ⟨w27.heap.size, 1, none⟩ = some (.int .i64 keep) := g_47.out.at 1 _ rfl
      have zg := g_47.out.lt
      go_wp2_with (go_at_call 7; refine stop_here ?_)
      refine stop_on ?_
      clear zwi zh zrt qg0 qg1 zg
      generalize hW : (World.alloc w46 _) = W48
      obtain ⟨hx, hb0⟩ := allocs1 hW
      clear hW
      have A_49 := Lib.hid (A_47.out.ext hx)
      have X_49 := Lib.hid (X_47.out.ext hx)
      have wi_49 := Lib.hid (wi_47.out.ext hx)
      have h_49 := Lib.hid (h_47.out.ext hx)
      have rt_49 := Lib.hid (rt_47.out.ext hx)
      have C_49 := Lib.hid (C_47.out.ext hx)
      have g_49 := Lib.hid (g_47.out.ext hx)
      have SA_49 := Lib.hid (SA_47.out.ext hx)
      have W0_49 := Lib.hid (W0_47.out.ext hx)
      have W5_49 := Lib.hid (W5_47.out.ext hx)
      have W6_49 := Lib.hid (W6_47.out.ext hx)
      clear A_47 X_47 wi_47 h_47 rt_47 C_47 g_47 SA_47 W0_47 W5_47 W6_47
      have rz_50 := Lib.hid hb0
      clear hx hb0
      refine (rFine_is _ 1 40 HF2.out C_49.out (show Sl _ _ 1 1 ([r2].map iv) from rz_50.out.slQ 1 (by unfold maxLen; omega))).mono ?_
      rintro e w51 ⟨rfl, hx⟩
      have A_52 := Lib.hid (A_49.out.ext hx)
      have X_52 := Lib.hid (X_49.out.ext hx)
      have wi_52 := Lib.hid (wi_49.out.ext hx)
      have h_52 := Lib.hid (h_49.out.ext hx)
      have rt_52 := Lib.hid (rt_49.out.ext hx)
      have C_52 := Lib.hid (C_49.out.ext hx)
      have g_52 := Lib.hid (g_49.out.ext hx)
      have SA_52 := Lib.hid (SA_49.out.ext hx)
      have W0_52 := Lib.hid (W0_49.out.ext hx)
      have W5_52 := Lib.hid (W5_49.out.ext hx)
      have W6_52 := Lib.hid (W6_49.out.ext hx)
      have rz_52 := Lib.hid (rz_50.out.ext hx)
      clear A_49 X_49 wi_49 h_49 rt_49 C_49 g_49 SA_49 W0_49 W5_49 W6_49 rz_50
      clear hx
      have zwi := wi_52.out.lt
      have zh := h_52.out.lt
      have zrt := rt_52.out.lt
      have qg0 : w51.cell? ⟨w27.heap.size, 0, none⟩ = some (.slice S2 n t2) := g_52.out.at 0 _ rfl
      have qg1 : w51.cell? ⟨w27.heap.size, 1, none⟩ = some (.int .i64 keep) := g_52.out.at 1 _ rfl
      have zg := g_52.out.lt
      have qrz0 : w51.cell? ⟨w46.heap.size, 0, none⟩ = some (.int .i64 r2) := rz_52.out.at 0 _ rfl
      have zrz := rz_52.out.lt
      go_wp2
      go_ret
      exact ⟨rfl, X_52.out⟩
set_option maxRecDepth 100000 in
set_option maxHeartbeats 4000000 in
theorem pcuts_m (R : Option Addr) (l : List HC) (n q : Nat) (keep root lo hi mo : Int) (w : World) (hA : HcSl w R n q l) (m : Nat) (hm : mo % 16 = (m : Int)) (hm0 : 0 ≤ mo) (_hm2 : mo ≤ 255) (hf : fineB ⟨l, keep⟩ root 40 = true) (c2 : List HC) (r2 : Int) (k : Nat) (hp : cutS keep lo hi m l root = (c2, r2, k, 0)) (hf2 : fineB ⟨c2, keep⟩ r2 40 = true) (hkm : k ≤ m) (hks : k ≤ (scanT l root lo hi).length) (hl : listT c2 r2 = ((scanT l root lo hi).take k).foldl (fun L x => outK L x.1) (listT l root)) (hc : k = m) :
    Calls Try.prog 4 #[.agg #[.slice R n q, .int .i64 keep, .int .i64 root, .int .i64 lo, .int .i64 hi, .int .u8 mo]] w fun e w' => e = .returned (.bool true) ∧ Ext w w' := by
  have A_53 := Lib.hid (hA)
  have X_54 := Lib.hid (Ext.refl w)
  clear hA
  have htm : mo.tmod 16 = (m : Int) := by rw [Int.tmod_eq_emod_of_nonneg hm0, hm]
  have hm16 : m < 16 := by have := Int.emod_lt_of_pos mo (show (0 : Int) < 16 by omega); omega
  have hwu : IntKind.u8.wrap (m : Int) = (m : Int) := by rw [IntKind.wrap_u8]; omega
  have hwi : IntKind.i64.wrap (m : Int) = (m : Int) := by rw [IntKind.wrap_i64]; omega
  have HM := Lib.hid (mayT_ofP hf)
  obtain ⟨a1, a2, a3, a4⟩ := fine_allP hf
  have A1 := Lib.hid a1
  have A2 := Lib.hid a2
  have A3 := Lib.hid a3
  have HF := Lib.hid hf
  have HP := Lib.hid hp
  obtain ⟨b1, b2, b3, b4⟩ := fine_allP hf2
  have B1 := Lib.hid b1
  have B2 := Lib.hid b2
  have B3 := Lib.hid b3
  have B4 := Lib.hid b4
  have HF2 := Lib.hid hf2
  have hln := list_none (may_iff (fine_may hf2).1).2.2 (fine_may hf2).2.1
  have hlb := listT_len a1 a3
  have HM1 := Lib.hid (show m ≤ 1000 by omega)
  obtain ⟨SC, hSC⟩ : ∃ x, scanT l root lo hi = x := ⟨_, rfl⟩
  obtain ⟨L0, hL0⟩ : ∃ x, listT l root = x := ⟨_, rfl⟩
  obtain ⟨LL, hLL⟩ : ∃ x, listT c2 r2 = x := ⟨_, rfl⟩
  rw [hSC] at hl hks
  rw [hL0] at hl hlb
  rw [hLL] at hl hln
  obtain ⟨sc, hsc⟩ : ∃ x, SC.length = x := ⟨_, rfl⟩
  obtain ⟨ll, hll⟩ : ∃ x, LL.length = x := ⟨_, rfl⟩
  rw [hsc] at hks
  have HSC := Lib.hid hSC
  have HL0 := Lib.hid hL0
  have HLL := Lib.hid hLL
  have HSN := Lib.hid hsc
  have HLN := Lib.hid hll
  have HLB := Lib.hid hlb
  have HL := Lib.hid hl
  obtain ⟨bb, hb1, hb2⟩ : ∃ bb : Bool, (r2 == -1) = bb ∧ ((ll : Int) == 0) = bb := by
    by_cases h0 : r2 = -1
    · have h1 := hln.1 h0
      exact ⟨true, by simp [h0], by rw [h1] at hll; simp at hll; simp [← hll]⟩
    · have h1 := mt hln.2 h0
      refine ⟨false, by simp [h0], ?_⟩
      have : ll ≠ 0 := fun e => h1 (List.eq_nil_of_length_eq_zero (by rw [hll, e]))
      simp; omega
  have d0 : decide ((k : Int) < 0) = false := decide_eq_false (by omega)
  have d1 : decide ((m : Int) < (k : Int)) = false := decide_eq_false (by omega)
  have d2 : decide ((sc : Int) < (k : Int)) = false := decide_eq_false (by omega)
  have d3 : decide (m < k) = false := decide_eq_false (by omega)
  have d4 : decide (sc < k) = false := decide_eq_false (by omega)
  subst hc
  have hcs : (k : Int) ≤ (sc : Int) := by omega
  have hk16 : k < 16 := by omega
  clear hm hm0 hm16 hf hp hf2 hl hln hlb hSC hL0 hLL hll hsc a1 a2 a3 a4 b1 b2 b3 b4
  go_enter Try.func4, Try.ntmps4
  go_wp2_with (go_at_call 6; refine stop_here ?_)
  refine stop_on ?_
  generalize hW : (World.alloc (World.alloc w _) _) = W55
  obtain ⟨hx, hb0, hb1⟩ := allocs2 hW
  clear hW
  have A_56 := Lib.hid (A_53.out.ext hx)
  have X_56 := Lib.hid (X_54.out.ext hx)
  clear A_53 X_54
  have wi_57 := Lib.hid hb0
  have h_58 := Lib.hid hb1
  clear hx hb0 hb1
  refine (shown_any _).mono ?_
  rintro e w59 ⟨rfl, hx⟩
  have A_60 := Lib.hid (A_56.out.ext hx)
  have X_60 := Lib.hid (X_56.out.ext hx)
  have wi_60 := Lib.hid (wi_57.out.ext hx)
  have h_60 := Lib.hid (h_58.out.ext hx)
  clear A_56 X_56 wi_57 h_58
  clear hx
  have qwi0 : w59.cell? ⟨w.heap.size, 0, none⟩ = some (.slice R n q) := wi_60.out.at 0 _ rfl
  have qwi1 : w59.cell? ⟨w.heap.size, 1, none⟩ = some (.int .i64 keep) := wi_60.out.at 1 _ rfl
  have qwi2 : w59.cell? ⟨w.heap.size, 2, none⟩ = some (.int .i64 root) := wi_60.out.at 2 _ rfl
  have qwi3 : w59.cell? ⟨w.heap.size, 3, none⟩ = some (.int .i64 lo) := wi_60.out.at 3 _ rfl
  have qwi4 : w59.cell? ⟨w.heap.size, 4, none⟩ = some (.int .i64 hi) := wi_60.out.at 4 _ rfl
  have qwi5 : w59.cell? ⟨w.heap.size, 5, none⟩ = some (.int .u8 mo) := wi_60.out.at 5 _ rfl
  have zwi := wi_60.out.lt
  have qh0 : w59.cell? ⟨w.heap.size + 1, 0, none⟩ = some (.slice R n q) := h_60.out.at 0 _ rfl
  have qh1 : w59.cell? ⟨w.heap.size + 1, 1, none⟩ = some (.int .i64 keep) := h_60.out.at 1 _ rfl
  have zh := h_60.out.lt
  go_wp2_with (go_at_call 7; refine stop_here ?_)
  refine stop_on ?_
  clear qwi0 qwi1 qwi2 qwi3 qwi4 qwi5 zwi qh0 qh1 zh
  generalize hW : (World.alloc w59 _) = W61
  obtain ⟨hx, hb0⟩ := allocs1 hW
  clear hW
  have A_62 := Lib.hid (A_60.out.ext hx)
  have X_62 := Lib.hid (X_60.out.ext hx)
  have wi_62 := Lib.hid (wi_60.out.ext hx)
  have h_62 := Lib.hid (h_60.out.ext hx)
  clear A_60 X_60 wi_60 h_60
  have rt_63 := Lib.hid hb0
  clear hx hb0
  refine (rFine_is _ 1 40 HF.out A_62.out (show Sl _ _ 1 1 ([root].map iv) from rt_63.out.slQ 1 (by unfold maxLen; omega))).mono ?_
  rintro e w64 ⟨rfl, hx⟩
  have A_65 := Lib.hid (A_62.out.ext hx)
  have X_65 := Lib.hid (X_62.out.ext hx)
  have wi_65 := Lib.hid (wi_62.out.ext hx)
  have h_65 := Lib.hid (h_62.out.ext hx)
  have rt_65 := Lib.hid (rt_63.out.ext hx)
  clear A_62 X_62 wi_62 h_62 rt_63
  clear hx
  have zwi := wi_65.out.lt
  have qh0 : w64.cell? ⟨w.heap.size + 1, 0, none⟩ = some (.slice R n q) := h_65.out.at 0 _ rfl
  have qh1 : w64.cell? ⟨w.heap.size + 1, 1, none⟩ = some (.int .i64 keep) := h_65.out.at 1 _ rfl
  have zh := h_65.out.lt
  have qrt0 : w64.cell? ⟨w59.heap.size, 0, none⟩ = some (.int .i64 root) := rt_65.out.at 0 _ rfl
  have zrt := rt_65.out.lt
  go_wp2_with (go_at_call 12; refine stop_here ?_)
  refine stop_on ?_
  clear zwi qh0 qh1 zh qrt0 zrt
  refine (pCut_is (by decide) HM1.out HF.out HP.out A_65.out).mono ?_
  rintro e w66 ⟨S2, t2, rfl, h3, hx⟩
  have A_67 := Lib.hid (A_65.out.ext hx)
  have X_67 := Lib.hid (X_65.out.ext hx)
  have wi_67 := Lib.hid (wi_65.out.ext hx)
  have h_67 := Lib.hid (h_65.out.ext hx)
  have rt_67 := Lib.hid (rt_65.out.ext hx)
  clear A_65 X_65 wi_65 h_65 rt_65
  have C_68 := Lib.hid h3
  clear hx h3
  have zwi := wi_67.out.lt
  have qh0 : w66.cell? ⟨w.heap.size + 1, 0, none⟩ = some (.slice R n q) := h_67.out.at 0 _ rfl
  have qh1 : w66.cell? ⟨w.heap.size + 1, 1, none⟩ = some (.int .i64 keep) := h_67.out.at 1 _ rfl
  have zh := h_67.out.lt
  have zrt := rt_67.out.lt
  go_wp2_with (go_at_call 13; refine stop_here ?_)
  refine stop_on ?_
  clear zwi qh0 qh1 zh zrt
  generalize hW : (World.alloc w66 _) = W69
  obtain ⟨hx, hb0⟩ := allocs1 hW
  clear hW
  have A_70 := Lib.hid (A_67.out.ext hx)
  have X_70 := Lib.hid (X_67.out.ext hx)
  have wi_70 := Lib.hid (wi_67.out.ext hx)
  have h_70 := Lib.hid (h_67.out.ext hx)
  have rt_70 := Lib.hid (rt_67.out.ext hx)
  have C_70 := Lib.hid (C_68.out.ext hx)
  clear A_67 X_67 wi_67 h_67 rt_67 C_68
  have g_71 := Lib.hid hb0
  clear hx hb0
  refine (rMay_is 40 B4.out C_70.out).mono ?_
  rintro e w72 ⟨rfl, hx⟩
  have A_73 := Lib.hid (A_70.out.ext hx)
  have X_73 := Lib.hid (X_70.out.ext hx)
  have wi_73 := Lib.hid (wi_70.out.ext hx)
  have h_73 := Lib.hid (h_70.out.ext hx)
  have rt_73 := Lib.hid (rt_70.out.ext hx)
  have C_73 := Lib.hid (C_70.out.ext hx)
  have g_73 := Lib.hid (g_71.out.ext hx)
  clear A_70 X_70 wi_70 h_70 rt_70 C_70 g_71
  clear hx
  have zwi := wi_73.out.lt
  have qh0 : w72.cell? ⟨w.heap.size + 1, 0, none⟩ = some (.slice R n q) := h_73.out.at 0 _ rfl
  have qh1 : w72.cell? ⟨w.heap.size + 1, 1, none⟩ = some (.int .i64 keep) := h_73.out.at 1 _ rfl
  have zh := h_73.out.lt
  have zrt := rt_73.out.lt
  have qg0 : w72.cell? ⟨w66.heap.size, 0, none⟩ = some (.slice S2 n t2) := g_73.out.at 0 _ rfl
  have qg1 : w72.cell? ⟨w66.heap.size, 1, none⟩ = some (.int .i64 keep) := g_73.out.at 1 _ rfl
  have zg := g_73.out.lt
  go_wp2_with (go_at_call 14; refine stop_here ?_)
  refine stop_on ?_
  clear zwi qh0 qh1 zh zrt qg0 qg1 zg
  refine (rScan_is lo hi A1.out A2.out A3.out HSC.out HSN.out A_73.out).mono ?_
  rintro e w74 ⟨S3, t3, rfl, h3, hx⟩
  have A_75 := Lib.hid (A_73.out.ext hx)
  have X_75 := Lib.hid (X_73.out.ext hx)
  have wi_75 := Lib.hid (wi_73.out.ext hx)
  have h_75 := Lib.hid (h_73.out.ext hx)
  have rt_75 := Lib.hid (rt_73.out.ext hx)
  have C_75 := Lib.hid (C_73.out.ext hx)
  have g_75 := Lib.hid (g_73.out.ext hx)
  clear A_73 X_73 wi_73 h_73 rt_73 C_73 g_73
  have SA_76 := Lib.hid h3
  clear hx h3
  have zwi := wi_75.out.lt
  have qh0 : w74.cell? ⟨w.heap.size + 1, 0, none⟩ = some (.slice R n q) := h_75.out.at 0 _ rfl
  have qh1 : w74.cell? ⟨w.heap.size + 1, 1, none⟩ = some (.int .i64 keep) := h_75.out.at 1 _ rfl
  have zh := h_75.out.lt
  have zrt := rt_75.out.lt
  have qg0 : w74.cell? ⟨w66.heap.size, 0, none⟩ = some (.slice S2 n t2) := g_75.out.at 0 _ rfl
  have qg1 : w74.cell? ⟨w66.heap.size, 1, none⟩ = some (.int .i64 keep) := g_75.out.at 1 _ rfl
  have zg := g_75.out.lt
  go_wp2_with (go_at_call 15; refine stop_here ?_)
  refine stop_on ?_
  clear zwi qh0 qh1 zh zrt qg0 qg1 zg
  refine (rList_is A1.out A2.out A3.out HL0.out rfl A_75.out).mono ?_
  rintro e w77 ⟨S4, t4, rfl, h3, hx⟩
  have A_78 := Lib.hid (A_75.out.ext hx)
  have X_78 := Lib.hid (X_75.out.ext hx)
  have wi_78 := Lib.hid (wi_75.out.ext hx)
  have h_78 := Lib.hid (h_75.out.ext hx)
  have rt_78 := Lib.hid (rt_75.out.ext hx)
  have C_78 := Lib.hid (C_75.out.ext hx)
  have g_78 := Lib.hid (g_75.out.ext hx)
  have SA_78 := Lib.hid (SA_76.out.ext hx)
  clear A_75 X_75 wi_75 h_75 rt_75 C_75 g_75 SA_76
  have W0_79 := Lib.hid h3
  clear hx h3
  have zwi := wi_78.out.lt
  have qh0 : w77.cell? ⟨w.heap.size + 1, 0, none⟩ = some (.slice R n q) := h_78.out.at 0 _ rfl
  have qh1 : w77.cell? ⟨w.heap.size + 1, 1, none⟩ = some (.int .i64 keep) := h_78.out.at 1 _ rfl
  have zh := h_78.out.lt
  have zrt := rt_78.out.lt
  have qg0 : w77.cell? ⟨w66.heap.size, 0, none⟩ = some (.slice S2 n t2) := g_78.out.at 0 _ rfl
  have qg1 : w77.cell? ⟨w66.heap.size, 1, none⟩ = some (.int .i64 keep) := g_78.out.at 1 _ rfl
  have zg := g_78.out.lt
  clear zwi qh0 qh1 zh zrt qg0 qg1 zg
  have HKS := Lib.hid (show k ≤ sc by omega)
  go_wp2_with fail
  go_loopw [15, 16] (fun v i wr => ∃ (j : Nat) (S : Option Addr) (d u : Nat) (Lj : List It), v = .slice S u d ∧ i = .int .i64 j ∧ j ≤ k ∧ Lj = (SC.take j).foldl (fun L x => outK L x.1) L0 ∧ Lj.length = u ∧ Sl wr S u d (ivs Lj) ∧ Ext w77 wr) (fun _ i _ => k - (intOf i).toNat)
  case atStart => exact ⟨0, S4, t4, _, L0, rfl, rfl, Nat.zero_le _, rfl, rfl, W0_79.out, Ext.refl _⟩
  case round =>
    obtain ⟨j, S5, t5, u5, Lj, rfl, rfl, hj, hLj, hu, hS5, hx⟩ := hrel
    have HLj := Lib.hid hLj
    have HU := Lib.hid hu
    have HS5 := Lib.hid hS5
    have HXL := Lib.hid hx
    clear hLj hu hS5
    rcases Nat.lt_or_ge j k with hlt | hlt
    · have hjl : j < SC.length := by rw [HSN.out]; exact Nat.lt_of_lt_of_le hlt HKS.out
      have hji : (j : Int) < (k : Int) := by omega
      have hjs : (j : Int) < (sc : Int) := by have := HKS.out; omega
      obtain ⟨b2, off2, hS3, hbl2, k0w, -⟩ := it_at SA_78.out hjl
      subst hS3
      have k0 := (hx.cell (p := ⟨b2, off2 + j * 2, none⟩) hbl2).trans k0w
      clear k0w hx
      have HTK := Lib.hid (show outK Lj SC[j].1 = (SC.take (j + 1)).foldl (fun L x => outK L x.1) L0 from by rw [HLj.out, List.take_succ_eq_append_getElem hjl, List.foldl_append]; rfl)
      have HLE := Lib.hid (show u5 ≤ 1099511627776 from by have h1 := outs_len (SC.take j) L0; have h2 := HLB.out; rw [← HU.out, HLj.out]; omega)
      generalize SC[j].1 = key at *
      clear hjl
      go_wp2_with (go_at_call 16; refine stop_here ?_)
      refine stop_on ?_
      refine (rWithout_is S5 u5 t5 _ key HU.out HLE.out rfl rfl HS5.out).mono ?_
      rintro e w9 ⟨S9, t9, rfl, h9, hx9⟩
      have H9 := Lib.hid h9
      have HX9 := Lib.hid (HXL.out.trans hx9)
      clear h9 hx9
      go_wp2_with fail
      go_roundw
      case rel => exact ⟨j + 1, S9, t9, _, _, rfl, by go_num, hlt, HTK.out, rfl, H9.out, HX9.out⟩
      case measure => simp [intOf]; omega
    · obtain rfl : k = j := by omega
      obtain rfl : LL = Lj := by rw [HL.out, HLj.out]
      obtain rfl : ll = u5 := by rw [← HLN.out, HU.out]
      have hlt2 : decide ((k : Int) < (k : Int)) = false := decide_eq_false (by omega)
      clear hlt
      have A_80 := Lib.hid (A_78.out.ext hx)
      have X_80 := Lib.hid (X_78.out.ext hx)
      have wi_80 := Lib.hid (wi_78.out.ext hx)
      have h_80 := Lib.hid (h_78.out.ext hx)
      have rt_80 := Lib.hid (rt_78.out.ext hx)
      have C_80 := Lib.hid (C_78.out.ext hx)
      have g_80 := Lib.hid (g_78.out.ext hx)
      have SA_80 := Lib.hid (SA_78.out.ext hx)
      have W0_80 := Lib.hid (W0_79.out.ext hx)
      clear hx
      have W5_81 := Lib.hid (HS5.out)
      have zwi := wi_80.out.lt
      have zh := h_80.out.lt
      have zrt := rt_80.out.lt
      have qg0 : wr.cell? ⟨w66.heap.size, 0, none⟩ = some (.slice S2 n t2) := g_80.out.at 0 _ rfl
      have qg1 : wr.cell? ⟨w66.heap.size, 1, none⟩ = some (.int .i64 keep) := g_80.out.at 1 _ rfl
      have zg := g_80.out.lt
      go_wp2_with (go_at_call 15; refine stop_here ?_)
      refine stop_on ?_
      clear zwi zh zrt qg0 qg1 zg
      refine (rList_is B1.out B2.out B3.out HLL.out HLN.out C_80.out).mono ?_
      rintro e w82 ⟨S6, t6, rfl, h3, hx⟩
      have A_83 := Lib.hid (A_80.out.ext hx)
      have X_83 := Lib.hid (X_80.out.ext hx)
      have wi_83 := Lib.hid (wi_80.out.ext hx)
      have h_83 := Lib.hid (h_80.out.ext hx)
      have rt_83 := Lib.hid (rt_80.out.ext hx)
      have C_83 := Lib.hid (C_80.out.ext hx)
      have g_83 := Lib.hid (g_80.out.ext hx)
      have SA_83 := Lib.hid (SA_80.out.ext hx)
      have W0_83 := Lib.hid (W0_80.out.ext hx)
      have W5_83 := Lib.hid (W5_81.out.ext hx)
      clear A_80 X_80 wi_80 h_80 rt_80 C_80 g_80 SA_80 W0_80 W5_81
      have W6_84 := Lib.hid h3
      clear hx h3
      have zwi := wi_83.out.lt
      have zh := h_83.out.lt
      have zrt := rt_83.out.lt
      have qg0 : w82.cell? ⟨w66.heap.size, 0, none⟩ = some (.slice S2 n t2) := g_83.out.at 0 _ rfl
      have qg1 : w82.cell? ⟨w66.heap.size, 1, none⟩ = some (.int .i64 keep) := g_83.out.at 1 _ rfl
      have zg := g_83.out.lt
      go_wp2_with (go_at_call 17; refine stop_here ?_)
      refine stop_on ?_
      clear zwi zh zrt qg0 qg1 zg
      refine (rItems_is S6 S5 LL ll t6 t5 HLN.out W6_84.out W5_83.out).mono ?_
      rintro e w85 ⟨rfl, hx⟩
      have A_86 := Lib.hid (A_83.out.ext hx)
      have X_86 := Lib.hid (X_83.out.ext hx)
      have wi_86 := Lib.hid (wi_83.out.ext hx)
      have h_86 := Lib.hid (h_83.out.ext hx)
      have rt_86 := Lib.hid (rt_83.out.ext hx)
      have C_86 := Lib.hid (C_83.out.ext hx)
      have g_86 := Lib.hid (g_83.out.ext hx)
      have SA_86 := Lib.hid (SA_83.out.ext hx)
      have W0_86 := Lib.hid (W0_83.out.ext hx)
      have W5_86 := Lib.hid (W5_83.out.ext hx)
      have W6_86 := Lib.hid (W6_84.out.ext hx)
      clear A_83 X_83 wi_83 h_83 rt_83 C_83 g_83 SA_83 W0_83 W5_83 W6_84
      clear hx
      have zwi := wi_86.out.lt
      have zh := h_86.out.lt
      have zrt := rt_86.out.lt
      have qg0 : w85.cell? ⟨w66.heap.size, 0, none⟩ = some (.slice S2 n t2) := g_86.out.at 0 _ rfl
      have qg1 : w85.cell? ⟨w66.heap.size, 1, none⟩ = some (.int .i64 keep) := g_86.out.at 1 _ rfl
      have zg := g_86.out.lt
      go_wp2_with (go_at_call 7; refine stop_here ?_)
      refine stop_on ?_
      clear zwi zh zrt qg0 qg1 zg
      generalize hW : (World.alloc w85 _) = W87
      obtain ⟨hx, hb0⟩ := allocs1 hW
      clear hW
      have A_88 := Lib.hid (A_86.out.ext hx)
      have X_88 := Lib.hid (X_86.out.ext hx)
      have wi_88 := Lib.hid (wi_86.out.ext hx)
      have h_88 := Lib.hid (h_86.out.ext hx)
      have rt_88 := Lib.hid (rt_86.out.ext hx)
      have C_88 := Lib.hid (C_86.out.ext hx)
      have g_88 := Lib.hid (g_86.out.ext hx)
      have SA_88 := Lib.hid (SA_86.out.ext hx)
      have W0_88 := Lib.hid (W0_86.out.ext hx)
      have W5_88 := Lib.hid (W5_86.out.ext hx)
      have W6_88 := Lib.hid (W6_86.out.ext hx)
      clear A_86 X_86 wi_86 h_86 rt_86 C_86 g_86 SA_86 W0_86 W5_86 W6_86
      have rz_89 := Lib.hid hb0
      clear hx hb0
      refine (rFine_is _ 1 40 HF2.out C_88.out (show Sl _ _ 1 1 ([r2].map iv) from rz_89.out.slQ 1 (by unfold maxLen; omega))).mono ?_
      rintro e w90 ⟨rfl, hx⟩
      have A_91 := Lib.hid (A_88.out.ext hx)
      have X_91 := Lib.hid (X_88.out.ext hx)
      have wi_91 := Lib.hid (wi_88.out.ext hx)
      have h_91 := Lib.hid (h_88.out.ext hx)
      have rt_91 := Lib.hid (rt_88.out.ext hx)
      have C_91 := Lib.hid (C_88.out.ext hx)
      have g_91 := Lib.hid (g_88.out.ext hx)
      have SA_91 := Lib.hid (SA_88.out.ext hx)
      have W0_91 := Lib.hid (W0_88.out.ext hx)
      have W5_91 := Lib.hid (W5_88.out.ext hx)
      have W6_91 := Lib.hid (W6_88.out.ext hx)
      have rz_91 := Lib.hid (rz_89.out.ext hx)
      clear A_88 X_88 wi_88 h_88 rt_88 C_88 g_88 SA_88 W0_88 W5_88 W6_88 rz_89
      clear hx
      have zwi := wi_91.out.lt
      have zh := h_91.out.lt
      have zrt := rt_91.out.lt
      have qg0 : w90.cell? ⟨w66.heap.size, 0, none⟩ = some (.slice S2 n t2) := g_91.out.at 0 _ rfl
      have qg1 : w90.cell? ⟨w66.heap.size, 1, none⟩ = some (.int .i64 keep) := g_91.out.at 1 _ rfl
      have zg := g_91.out.lt
      have qrz0 : w90.cell? ⟨w85.heap.size, 0, none⟩ = some (.int .i64 r2) := rz_91.out.at 0 _ rfl
      have zrz := rz_91.out.lt
      go_wp2
      go_ret
      exact ⟨rfl, X_91.out⟩
set_option maxRecDepth 100000 in
set_option maxHeartbeats 4000000 in
theorem pcuts_s (R : Option Addr) (l : List HC) (n q : Nat) (keep root lo hi mo : Int) (w : World) (hA : HcSl w R n q l) (m : Nat) (hm : mo % 16 = (m : Int)) (hm0 : 0 ≤ mo) (_hm2 : mo ≤ 255) (hf : fineB ⟨l, keep⟩ root 40 = true) (c2 : List HC) (r2 : Int) (k : Nat) (hp : cutS keep lo hi m l root = (c2, r2, k, 0)) (hf2 : fineB ⟨c2, keep⟩ r2 40 = true) (_hkm : k ≤ m) (hks : k ≤ (scanT l root lo hi).length) (hl : listT c2 r2 = ((scanT l root lo hi).take k).foldl (fun L x => outK L x.1) (listT l root)) (hc : k = (scanT l root lo hi).length) (hc2 : k < m) :
    Calls Try.prog 4 #[.agg #[.slice R n q, .int .i64 keep, .int .i64 root, .int .i64 lo, .int .i64 hi, .int .u8 mo]] w fun e w' => e = .returned (.bool true) ∧ Ext w w' := by
  have A_92 := Lib.hid (hA)
  have X_93 := Lib.hid (Ext.refl w)
  clear hA
  have htm : mo.tmod 16 = (m : Int) := by rw [Int.tmod_eq_emod_of_nonneg hm0, hm]
  have hm16 : m < 16 := by have := Int.emod_lt_of_pos mo (show (0 : Int) < 16 by omega); omega
  have hwu : IntKind.u8.wrap (m : Int) = (m : Int) := by rw [IntKind.wrap_u8]; omega
  have hwi : IntKind.i64.wrap (m : Int) = (m : Int) := by rw [IntKind.wrap_i64]; omega
  have HM := Lib.hid (mayT_ofP hf)
  obtain ⟨a1, a2, a3, a4⟩ := fine_allP hf
  have A1 := Lib.hid a1
  have A2 := Lib.hid a2
  have A3 := Lib.hid a3
  have HF := Lib.hid hf
  have HP := Lib.hid hp
  obtain ⟨b1, b2, b3, b4⟩ := fine_allP hf2
  have B1 := Lib.hid b1
  have B2 := Lib.hid b2
  have B3 := Lib.hid b3
  have B4 := Lib.hid b4
  have HF2 := Lib.hid hf2
  have hln := list_none (may_iff (fine_may hf2).1).2.2 (fine_may hf2).2.1
  have hlb := listT_len a1 a3
  have HM1 := Lib.hid (show m ≤ 1000 by omega)
  obtain ⟨SC, hSC⟩ : ∃ x, scanT l root lo hi = x := ⟨_, rfl⟩
  obtain ⟨L0, hL0⟩ : ∃ x, listT l root = x := ⟨_, rfl⟩
  obtain ⟨LL, hLL⟩ : ∃ x, listT c2 r2 = x := ⟨_, rfl⟩
  rw [hSC] at hl hks hc
  rw [hL0] at hl hlb
  rw [hLL] at hl hln
  obtain ⟨sc, hsc⟩ : ∃ x, SC.length = x := ⟨_, rfl⟩
  obtain ⟨ll, hll⟩ : ∃ x, LL.length = x := ⟨_, rfl⟩
  rw [hsc] at hks hc
  have HSC := Lib.hid hSC
  have HL0 := Lib.hid hL0
  have HLL := Lib.hid hLL
  have HSN := Lib.hid hsc
  have HLN := Lib.hid hll
  have HLB := Lib.hid hlb
  have HL := Lib.hid hl
  obtain ⟨bb, hb1, hb2⟩ : ∃ bb : Bool, (r2 == -1) = bb ∧ ((ll : Int) == 0) = bb := by
    by_cases h0 : r2 = -1
    · have h1 := hln.1 h0
      exact ⟨true, by simp [h0], by rw [h1] at hll; simp at hll; simp [← hll]⟩
    · have h1 := mt hln.2 h0
      refine ⟨false, by simp [h0], ?_⟩
      have : ll ≠ 0 := fun e => h1 (List.eq_nil_of_length_eq_zero (by rw [hll, e]))
      simp; omega
  have d0 : decide ((k : Int) < 0) = false := decide_eq_false (by omega)
  have d1 : decide ((m : Int) < (k : Int)) = false := decide_eq_false (by omega)
  have d2 : decide ((sc : Int) < (k : Int)) = false := decide_eq_false (by omega)
  have d3 : decide (m < k) = false := decide_eq_false (by omega)
  have d4 : decide (sc < k) = false := decide_eq_false (by omega)
  subst hc
  have hcs : ¬ (m : Int) ≤ (k : Int) := by omega
  have hcs2 : (k : Int) < (m : Int) := by omega
  have hk16 : k < 16 := by omega
  clear hm hm0 hm16 hf hp hf2 hl hln hlb hSC hL0 hLL hll a1 a2 a3 a4 b1 b2 b3 b4 hc2
  clear hsc
  go_enter Try.func4, Try.ntmps4
  go_wp2_with (go_at_call 6; refine stop_here ?_)
  refine stop_on ?_
  generalize hW : (World.alloc (World.alloc w _) _) = W94
  obtain ⟨hx, hb0, hb1⟩ := allocs2 hW
  clear hW
  have A_95 := Lib.hid (A_92.out.ext hx)
  have X_95 := Lib.hid (X_93.out.ext hx)
  clear A_92 X_93
  have wi_96 := Lib.hid hb0
  have h_97 := Lib.hid hb1
  clear hx hb0 hb1
  refine (shown_any _).mono ?_
  rintro e w98 ⟨rfl, hx⟩
  have A_99 := Lib.hid (A_95.out.ext hx)
  have X_99 := Lib.hid (X_95.out.ext hx)
  have wi_99 := Lib.hid (wi_96.out.ext hx)
  have h_99 := Lib.hid (h_97.out.ext hx)
  clear A_95 X_95 wi_96 h_97
  clear hx
  have qwi0 : w98.cell? ⟨w.heap.size, 0, none⟩ = some (.slice R n q) := wi_99.out.at 0 _ rfl
  have qwi1 : w98.cell? ⟨w.heap.size, 1, none⟩ = some (.int .i64 keep) := wi_99.out.at 1 _ rfl
  have qwi2 : w98.cell? ⟨w.heap.size, 2, none⟩ = some (.int .i64 root) := wi_99.out.at 2 _ rfl
  have qwi3 : w98.cell? ⟨w.heap.size, 3, none⟩ = some (.int .i64 lo) := wi_99.out.at 3 _ rfl
  have qwi4 : w98.cell? ⟨w.heap.size, 4, none⟩ = some (.int .i64 hi) := wi_99.out.at 4 _ rfl
  have qwi5 : w98.cell? ⟨w.heap.size, 5, none⟩ = some (.int .u8 mo) := wi_99.out.at 5 _ rfl
  have zwi := wi_99.out.lt
  have qh0 : w98.cell? ⟨w.heap.size + 1, 0, none⟩ = some (.slice R n q) := h_99.out.at 0 _ rfl
  have qh1 : w98.cell? ⟨w.heap.size + 1, 1, none⟩ = some (.int .i64 keep) := h_99.out.at 1 _ rfl
  have zh := h_99.out.lt
  go_wp2_with (go_at_call 7; refine stop_here ?_)
  refine stop_on ?_
  clear qwi0 qwi1 qwi2 qwi3 qwi4 qwi5 zwi qh0 qh1 zh
  generalize hW : (World.alloc w98 _) = W100
  obtain ⟨hx, hb0⟩ := allocs1 hW
  clear hW
  have A_101 := Lib.hid (A_99.out.ext hx)
  have X_101 := Lib.hid (X_99.out.ext hx)
  have wi_101 := Lib.hid (wi_99.out.ext hx)
  have h_101 := Lib.hid (h_99.out.ext hx)
  clear A_99 X_99 wi_99 h_99
  have rt_102 := Lib.hid hb0
  clear hx hb0
  refine (rFine_is _ 1 40 HF.out A_101.out (show Sl _ _ 1 1 ([root].map iv) from rt_102.out.slQ 1 (by unfold maxLen; omega))).mono ?_
  rintro e w103 ⟨rfl, hx⟩
  have A_104 := Lib.hid (A_101.out.ext hx)
  have X_104 := Lib.hid (X_101.out.ext hx)
  have wi_104 := Lib.hid (wi_101.out.ext hx)
  have h_104 := Lib.hid (h_101.out.ext hx)
  have rt_104 := Lib.hid (rt_102.out.ext hx)
  clear A_101 X_101 wi_101 h_101 rt_102
  clear hx
  have zwi := wi_104.out.lt
  have qh0 : w103.cell? ⟨w.heap.size + 1, 0, none⟩ = some (.slice R n q) := h_104.out.at 0 _ rfl
  have qh1 : w103.cell? ⟨w.heap.size + 1, 1, none⟩ = some (.int .i64 keep) := h_104.out.at 1 _ rfl
  have zh := h_104.out.lt
  have qrt0 : w103.cell? ⟨w98.heap.size, 0, none⟩ = some (.int .i64 root) := rt_104.out.at 0 _ rfl
  have zrt := rt_104.out.lt
  go_wp2_with (go_at_call 12; refine stop_here ?_)
  refine stop_on ?_
  clear zwi qh0 qh1 zh qrt0 zrt
  refine (pCut_is (by decide) HM1.out HF.out HP.out A_104.out).mono ?_
  rintro e w105 ⟨S2, t2, rfl, h3, hx⟩
  have A_106 := Lib.hid (A_104.out.ext hx)
  have X_106 := Lib.hid (X_104.out.ext hx)
  have wi_106 := Lib.hid (wi_104.out.ext hx)
  have h_106 := Lib.hid (h_104.out.ext hx)
  have rt_106 := Lib.hid (rt_104.out.ext hx)
  clear A_104 X_104 wi_104 h_104 rt_104
  have C_107 := Lib.hid h3
  clear hx h3
  have zwi := wi_106.out.lt
  have qh0 : w105.cell? ⟨w.heap.size + 1, 0, none⟩ = some (.slice R n q) := h_106.out.at 0 _ rfl
  have qh1 : w105.cell? ⟨w.heap.size + 1, 1, none⟩ = some (.int .i64 keep) := h_106.out.at 1 _ rfl
  have zh := h_106.out.lt
  have zrt := rt_106.out.lt
  go_wp2_with (go_at_call 13; refine stop_here ?_)
  refine stop_on ?_
  clear zwi qh0 qh1 zh zrt
  generalize hW : (World.alloc w105 _) = W108
  obtain ⟨hx, hb0⟩ := allocs1 hW
  clear hW
  have A_109 := Lib.hid (A_106.out.ext hx)
  have X_109 := Lib.hid (X_106.out.ext hx)
  have wi_109 := Lib.hid (wi_106.out.ext hx)
  have h_109 := Lib.hid (h_106.out.ext hx)
  have rt_109 := Lib.hid (rt_106.out.ext hx)
  have C_109 := Lib.hid (C_107.out.ext hx)
  clear A_106 X_106 wi_106 h_106 rt_106 C_107
  have g_110 := Lib.hid hb0
  clear hx hb0
  refine (rMay_is 40 B4.out C_109.out).mono ?_
  rintro e w111 ⟨rfl, hx⟩
  have A_112 := Lib.hid (A_109.out.ext hx)
  have X_112 := Lib.hid (X_109.out.ext hx)
  have wi_112 := Lib.hid (wi_109.out.ext hx)
  have h_112 := Lib.hid (h_109.out.ext hx)
  have rt_112 := Lib.hid (rt_109.out.ext hx)
  have C_112 := Lib.hid (C_109.out.ext hx)
  have g_112 := Lib.hid (g_110.out.ext hx)
  clear A_109 X_109 wi_109 h_109 rt_109 C_109 g_110
  clear hx
  have zwi := wi_112.out.lt
  have qh0 : w111.cell? ⟨w.heap.size + 1, 0, none⟩ = some (.slice R n q) := h_112.out.at 0 _ rfl
  have qh1 : w111.cell? ⟨w.heap.size + 1, 1, none⟩ = some (.int .i64 keep) := h_112.out.at 1 _ rfl
  have zh := h_112.out.lt
  have zrt := rt_112.out.lt
  have qg0 : w111.cell? ⟨w105.heap.size, 0, none⟩ = some (.slice S2 n t2) := g_112.out.at 0 _ rfl
  have qg1 : w111.cell? ⟨w105.heap.size, 1, none⟩ = some (.int .i64 keep) := g_112.out.at 1 _ rfl
  have zg := g_112.out.lt
  go_wp2_with (go_at_call 14; refine stop_here ?_)
  refine stop_on ?_
  clear zwi qh0 qh1 zh zrt qg0 qg1 zg
  refine (rScan_is lo hi A1.out A2.out A3.out HSC.out HSN.out A_112.out).mono ?_
  rintro e w113 ⟨S3, t3, rfl, h3, hx⟩
  have A_114 := Lib.hid (A_112.out.ext hx)
  have X_114 := Lib.hid (X_112.out.ext hx)
  have wi_114 := Lib.hid (wi_112.out.ext hx)
  have h_114 := Lib.hid (h_112.out.ext hx)
  have rt_114 := Lib.hid (rt_112.out.ext hx)
  have C_114 := Lib.hid (C_112.out.ext hx)
  have g_114 := Lib.hid (g_112.out.ext hx)
  clear A_112 X_112 wi_112 h_112 rt_112 C_112 g_112
  have SA_115 := Lib.hid h3
  clear hx h3
  have zwi := wi_114.out.lt
  have qh0 : w113.cell? ⟨w.heap.size + 1, 0, none⟩ = some (.slice R n q) := h_114.out.at 0 _ rfl
  have qh1 : w113.cell? ⟨w.heap.size + 1, 1, none⟩ = some (.int .i64 keep) := h_114.out.at 1 _ rfl
  have zh := h_114.out.lt
  have zrt := rt_114.out.lt
  have qg0 : w113.cell? ⟨w105.heap.size, 0, none⟩ = some (.slice S2 n t2) := g_114.out.at 0 _ rfl
  have qg1 : w113.cell? ⟨w105.heap.size, 1, none⟩ = some (.int .i64 keep) := g_114.out.at 1 _ rfl
  have zg := g_114.out.lt
  go_wp2_with (go_at_call 15; refine stop_here ?_)
  refine stop_on ?_
  clear zwi qh0 qh1 zh zrt qg0 qg1 zg
  refine (rList_is A1.out A2.out A3.out HL0.out rfl A_114.out).mono ?_
  rintro e w116 ⟨S4, t4, rfl, h3, hx⟩
  have A_117 := Lib.hid (A_114.out.ext hx)
  have X_117 := Lib.hid (X_114.out.ext hx)
  have wi_117 := Lib.hid (wi_114.out.ext hx)
  have h_117 := Lib.hid (h_114.out.ext hx)
  have rt_117 := Lib.hid (rt_114.out.ext hx)
  have C_117 := Lib.hid (C_114.out.ext hx)
  have g_117 := Lib.hid (g_114.out.ext hx)
  have SA_117 := Lib.hid (SA_115.out.ext hx)
  clear A_114 X_114 wi_114 h_114 rt_114 C_114 g_114 SA_115
  have W0_118 := Lib.hid h3
  clear hx h3
  have zwi := wi_117.out.lt
  have qh0 : w116.cell? ⟨w.heap.size + 1, 0, none⟩ = some (.slice R n q) := h_117.out.at 0 _ rfl
  have qh1 : w116.cell? ⟨w.heap.size + 1, 1, none⟩ = some (.int .i64 keep) := h_117.out.at 1 _ rfl
  have zh := h_117.out.lt
  have zrt := rt_117.out.lt
  have qg0 : w116.cell? ⟨w105.heap.size, 0, none⟩ = some (.slice S2 n t2) := g_117.out.at 0 _ rfl
  have qg1 : w116.cell? ⟨w105.heap.size, 1, none⟩ = some (.int .i64 keep) := g_117.out.at 1 _ rfl
  have zg := g_117.out.lt
  clear zwi qh0 qh1 zh zrt qg0 qg1 zg
  have HKS := Lib.hid (show k ≤ k by omega)
  go_wp2_with fail
  go_loopw [15, 16] (fun v i wr => ∃ (j : Nat) (S : Option Addr) (d u : Nat) (Lj : List It), v = .slice S u d ∧ i = .int .i64 j ∧ j ≤ k ∧ Lj = (SC.take j).foldl (fun L x => outK L x.1) L0 ∧ Lj.length = u ∧ Sl wr S u d (ivs Lj) ∧ Ext w116 wr) (fun _ i _ => k - (intOf i).toNat)
  case atStart => exact ⟨0, S4, t4, _, L0, rfl, rfl, Nat.zero_le _, rfl, rfl, W0_118.out, Ext.refl _⟩
  case round =>
    obtain ⟨j, S5, t5, u5, Lj, rfl, rfl, hj, hLj, hu, hS5, hx⟩ := hrel
    have HLj := Lib.hid hLj
    have HU := Lib.hid hu
    have HS5 := Lib.hid hS5
    have HXL := Lib.hid hx
    clear hLj hu hS5
    rcases Nat.lt_or_ge j k with hlt | hlt
    · have hjl : j < SC.length := by rw [HSN.out]; exact Nat.lt_of_lt_of_le hlt HKS.out
      have hji : (j : Int) < (k : Int) := by omega
      have hjs : (j : Int) < (k : Int) := by have := HKS.out; omega
      obtain ⟨b2, off2, hS3, hbl2, k0w, -⟩ := it_at SA_117.out hjl
      subst hS3
      have k0 := (hx.cell (p := ⟨b2, off2 + j * 2, none⟩) hbl2).trans k0w
      clear k0w hx
      have HTK := Lib.hid (show outK Lj SC[j].1 = (SC.take (j + 1)).foldl (fun L x => outK L x.1) L0 from by rw [HLj.out, List.take_succ_eq_append_getElem hjl, List.foldl_append]; rfl)
      have HLE := Lib.hid (show u5 ≤ 1099511627776 from by have h1 := outs_len (SC.take j) L0; have h2 := HLB.out; rw [← HU.out, HLj.out]; omega)
      generalize SC[j].1 = key at *
      clear hjl
      go_wp2_with (go_at_call 16; refine stop_here ?_)
      refine stop_on ?_
      refine (rWithout_is S5 u5 t5 _ key HU.out HLE.out rfl rfl HS5.out).mono ?_
      rintro e w9 ⟨S9, t9, rfl, h9, hx9⟩
      have H9 := Lib.hid h9
      have HX9 := Lib.hid (HXL.out.trans hx9)
      clear h9 hx9
      go_wp2_with fail
      go_roundw
      case rel => exact ⟨j + 1, S9, t9, _, _, rfl, by go_num, hlt, HTK.out, rfl, H9.out, HX9.out⟩
      case measure => simp [intOf]; omega
    · obtain rfl : k = j := by omega
      obtain rfl : LL = Lj := by rw [HL.out, HLj.out]
      obtain rfl : ll = u5 := by rw [← HLN.out, HU.out]
      have hlt2 : decide ((k : Int) < (k : Int)) = false := decide_eq_false (by omega)
      clear hlt
      have A_119 := Lib.hid (A_117.out.ext hx)
      have X_119 := Lib.hid (X_117.out.ext hx)
      have wi_119 := Lib.hid (wi_117.out.ext hx)
      have h_119 := Lib.hid (h_117.out.ext hx)
      have rt_119 := Lib.hid (rt_117.out.ext hx)
      have C_119 := Lib.hid (C_117.out.ext hx)
      have g_119 := Lib.hid (g_117.out.ext hx)
      have SA_119 := Lib.hid (SA_117.out.ext hx)
      have W0_119 := Lib.hid (W0_118.out.ext hx)
      clear hx
      have W5_120 := Lib.hid (HS5.out)
      have zwi := wi_119.out.lt
      have zh := h_119.out.lt
      have zrt := rt_119.out.lt
      have qg0 : wr.cell? ⟨w105.heap.size, 0, none⟩ = some (.slice S2 n t2) := g_119.out.at 0 _ rfl
      have qg1 : wr.cell? ⟨w105.heap.size, 1, none⟩ = some (.int .i64 keep) := g_119.out.at 1 _ rfl
      have zg := g_119.out.lt
      go_wp2_with (go_at_call 15; refine stop_here ?_)
      refine stop_on ?_
      clear zwi zh zrt qg0 qg1 zg
      refine (rList_is B1.out B2.out B3.out HLL.out HLN.out C_119.out).mono ?_
      rintro e w121 ⟨S6, t6, rfl, h3, hx⟩
      have A_122 := Lib.hid (A_119.out.ext hx)
      have X_122 := Lib.hid (X_119.out.ext hx)
      have wi_122 := Lib.hid (wi_119.out.ext hx)
      have h_122 := Lib.hid (h_119.out.ext hx)
      have rt_122 := Lib.hid (rt_119.out.ext hx)
      have C_122 := Lib.hid (C_119.out.ext hx)
      have g_122 := Lib.hid (g_119.out.ext hx)
      have SA_122 := Lib.hid (SA_119.out.ext hx)
      have W0_122 := Lib.hid (W0_119.out.ext hx)
      have W5_122 := Lib.hid (W5_120.out.ext hx)
      clear A_119 X_119 wi_119 h_119 rt_119 C_119 g_119 SA_119 W0_119 W5_120
      have W6_123 := Lib.hid h3
      clear hx h3
      have zwi := wi_122.out.lt
      have zh := h_122.out.lt
      have zrt := rt_122.out.lt
      have qg0 : w121.cell? ⟨w105.heap.size, 0, none⟩ = some (.slice S2 n t2) := g_122.out.at 0 _ rfl
      have qg1 : w121.cell? ⟨w105.heap.size, 1, none⟩ = some (.int .i64 keep) := g_122.out.at 1 _ rfl
      have zg := g_122.out.lt
      go_wp2_with (go_at_call 17; refine stop_here ?_)
      refine stop_on ?_
      clear zwi zh zrt qg0 qg1 zg
      refine (rItems_is S6 S5 LL ll t6 t5 HLN.out W6_123.out W5_122.out).mono ?_
      rintro e w124 ⟨rfl, hx⟩
      have A_125 := Lib.hid (A_122.out.ext hx)
      have X_125 := Lib.hid (X_122.out.ext hx)
      have wi_125 := Lib.hid (wi_122.out.ext hx)
      have h_125 := Lib.hid (h_122.out.ext hx)
      have rt_125 := Lib.hid (rt_122.out.ext hx)
      have C_125 := Lib.hid (C_122.out.ext hx)
      have g_125 := Lib.hid (g_122.out.ext hx)
      have SA_125 := Lib.hid (SA_122.out.ext hx)
      have W0_125 := Lib.hid (W0_122.out.ext hx)
      have W5_125 := Lib.hid (W5_122.out.ext hx)
      have W6_125 := Lib.hid (W6_123.out.ext hx)
      clear A_122 X_122 wi_122 h_122 rt_122 C_122 g_122 SA_122 W0_122 W5_122 W6_123
      clear hx
      have zwi := wi_125.out.lt
      have zh := h_125.out.lt
      have zrt := rt_125.out.lt
      have qg0 : w124.cell? ⟨w105.heap.size, 0, none⟩ = some (.slice S2 n t2) := g_125.out.at 0 _ rfl
      have qg1 : w124.cell? ⟨w105.heap.size, 1, none⟩ = some (.int .i64 keep) := g_125.out.at 1 _ rfl
      have zg := g_125.out.lt
      go_wp2_with (go_at_call 7; refine stop_here ?_)
      refine stop_on ?_
      clear zwi zh zrt qg0 qg1 zg
      generalize hW : (World.alloc w124 _) = W126
      obtain ⟨hx, hb0⟩ := allocs1 hW
      clear hW
      have A_127 := Lib.hid (A_125.out.ext hx)
      have X_127 := Lib.hid (X_125.out.ext hx)
      have wi_127 := Lib.hid (wi_125.out.ext hx)
      have h_127 := Lib.hid (h_125.out.ext hx)
      have rt_127 := Lib.hid (rt_125.out.ext hx)
      have C_127 := Lib.hid (C_125.out.ext hx)
      have g_127 := Lib.hid (g_125.out.ext hx)
      have SA_127 := Lib.hid (SA_125.out.ext hx)
      have W0_127 := Lib.hid (W0_125.out.ext hx)
      have W5_127 := Lib.hid (W5_125.out.ext hx)
      have W6_127 := Lib.hid (W6_125.out.ext hx)
      clear A_125 X_125 wi_125 h_125 rt_125 C_125 g_125 SA_125 W0_125 W5_125 W6_125
      have rz_128 := Lib.hid hb0
      clear hx hb0
      refine (rFine_is _ 1 40 HF2.out C_127.out (show Sl _ _ 1 1 ([r2].map iv) from rz_128.out.slQ 1 (by unfold maxLen; omega))).mono ?_
      rintro e w129 ⟨rfl, hx⟩
      have A_130 := Lib.hid (A_127.out.ext hx)
      have X_130 := Lib.hid (X_127.out.ext hx)
      have wi_130 := Lib.hid (wi_127.out.ext hx)
      have h_130 := Lib.hid (h_127.out.ext hx)
      have rt_130 := Lib.hid (rt_127.out.ext hx)
      have C_130 := Lib.hid (C_127.out.ext hx)
      have g_130 := Lib.hid (g_127.out.ext hx)
      have SA_130 := Lib.hid (SA_127.out.ext hx)
      have W0_130 := Lib.hid (W0_127.out.ext hx)
      have W5_130 := Lib.hid (W5_127.out.ext hx)
      have W6_130 := Lib.hid (W6_127.out.ext hx)
      have rz_130 := Lib.hid (rz_128.out.ext hx)
      clear A_127 X_127 wi_127 h_127 rt_127 C_127 g_127 SA_127 W0_127 W5_127 W6_127 rz_128
      clear hx
      have zwi := wi_130.out.lt
      have zh := h_130.out.lt
      have zrt := rt_130.out.lt
      have qg0 : w129.cell? ⟨w105.heap.size, 0, none⟩ = some (.slice S2 n t2) := g_130.out.at 0 _ rfl
      have qg1 : w129.cell? ⟨w105.heap.size, 1, none⟩ = some (.int .i64 keep) := g_130.out.at 1 _ rfl
      have zg := g_130.out.lt
      have qrz0 : w129.cell? ⟨w124.heap.size, 0, none⟩ = some (.int .i64 r2) := rz_130.out.at 0 _ rfl
      have zrz := rz_130.out.lt
      go_wp2
      go_ret
      exact ⟨rfl, X_130.out⟩
theorem pcuts_any (R : Option Addr) (l : List HC) (n q : Nat) (keep root lo hi mo : Int) (w : World) (hm0 : 0 ≤ mo) (hm2 : mo ≤ 255) (hA : HcSl w R n q l) :
    Calls Try.prog 4 #[.agg #[.slice R n q, .int .i64 keep, .int .i64 root, .int .i64 lo, .int .i64 hi, .int .u8 mo]] w fun e w' => e = .returned (.bool true) ∧ Ext w w' := by
  cases hf : fineB ⟨l, keep⟩ root 40
  · exact pcuts_not R l n q keep root lo hi mo w hA hf
  · obtain ⟨m, hm⟩ : ∃ m : Nat, mo % 16 = (m : Int) := Int.eq_ofNat_of_zero_le (Int.emod_nonneg _ (by omega))
    have C := cut_fine (lo := lo) (hi := hi) (by decide) m l root hf
    obtain ⟨⟨c2, r2, k, e2⟩, hp⟩ : ∃ x, cutS keep lo hi m l root = x := ⟨_, rfl⟩
    rw [hp] at C
    obtain ⟨C1, C2, C3, C4, C5⟩ := C
    simp only at C1 C2 C3 C4 C5
    rcases C3 with rfl | rfl
    · have h4 := C4 rfl
      by_cases h : k = m
      · exact pcuts_m R l n q keep root lo hi mo w hA m hm hm0 hm2 hf c2 r2 k hp C1 C2.1 C2.2 C5 h
      · exact pcuts_s R l n q keep root lo hi mo w hA m hm hm0 hm2 hf c2 r2 k hp C1 C2.1 C2.2 C5 (by omega) (by omega)
    · exact pcuts_full R l n q keep root lo hi mo w hA m hm hm0 hm2 hf c2 r2 k hp C1 C2.1 C2.2 C5
end Go.Proofs.Ytbfbpddfcakieaa

