/- The example of layer 14, and package plan as the laws ask it. PlanTells, over what package plan answers. PlanChunks, over what package plan answers. What came in, opened; and what came in reads behind the call as it did. A slice that came in, opened to a list, whatever its elements; no program in sight. -/
import Derived.Test.YtpcimjccngidgaaK17
import Derived.Test.YtpcimjccngidgaaK12
import Derived.Test.YtpcimjccngidgaaK03
import Derived.Laws.IdiomStrings
import Derived.Test.YtpcimjccngidgaaK01
import Derived.Test.YtpcimjccngidgaaRows
import Derived.ProofKit
import Derived.OpenShut
import Derived.ShutString
import Derived.ChangeOld
import Derived.Deep.Fields
import Derived.Lib.SmallJoins
import Derived.Deep.Slices
import Derived.ChangeSame
namespace Go.Proofs.Ytpcimjccngidgaa
set_option maxRecDepth 20000
open Go.RowKit

theorem hc_zeros (w : World) (n : Nat) : HcAt w (madeCells (Value.agg #[.int .i64 0, .bool false, .bool false, .slice none 0 0]).cells (n * 4)).toList (List.replicate n HC.none) := by
  have hz : (Value.agg #[.int .i64 0, .bool false, .bool false, .slice none 0 0]).cells = #[.int .i64 0, .bool false, .bool false, .slice none 0 0] := by simp [Value.cells]
  rw [hz]
  refine ⟨by simp [size_madeCells], fun i hi => ?_⟩
  simp only [List.length_replicate] at hi
  have hg : ∀ j, j < n * 4 → (madeCells #[.int .i64 0, .bool false, .bool false, .slice none 0 0] (n * 4)).toList[j]? = some ((#[.int .i64 0, .bool false, .bool false, .slice none 0 0] : Array Value)[j % 4]!) := fun j hj => by
    simp [madeCells, hj]
  refine ⟨none, 0, ?_, ?_, ?_, ?_, ?_⟩
  · rw [hg _ (by omega), show i * 4 % 4 = 0 by omega]; simp [HC.none]
  · rw [hg _ (by omega), show (i * 4 + 1) % 4 = 1 by omega]; simp [HC.none]
  · rw [hg _ (by omega), show (i * 4 + 2) % 4 = 2 by omega]; simp [HC.none]
  · rw [hg _ (by omega), show (i * 4 + 3) % 4 = 3 by omega]; simp [HC.none]
  · simp only [List.getElem_replicate]
    exact Sl.nil _
set_option maxRecDepth 100000 in
set_option maxHeartbeats 6400000 in
theorem pshown_any (w : World) : Calls Try.prog 6 #[] w fun e w' => e = .returned (.bool true) ∧ Ext w w' := by
  have hNE : newE 135 = 0 := by decide +kernel
  have HPF := Lib.hid (show planW (newB 135) [] 45 0 1 0 = plan45 0 46 1 from plan_first (.inl rfl))
  have hBL : (newB 135).length = 135 := by decide +kernel
  have HND := Lib.hid (newR_any 135 w)
  rw [hNE] at HND
  have HPN := Lib.hid (fun A A' R c c' w' hA hA' hR => planPlan_new A A' R none none (newB 135) 45 45 c c' 0 1 0 0 0 w' (by rw [hBL]; omega) (by rw [hBL]; exact cells135) (by omega) (by omega) (by omega) (by omega) (by omega) hA hA' hR (Sl.nil _) (Sl.nil _))
  rw [HPF.out] at HPN
  generalize newB 135 = B at *
  have HBL := Lib.hid hBL
  clear HPF hNE hBL
  have HPC := Lib.hid (fun A w' h => planChunks_any A (List.replicate 41 (0 : UInt8)) 41 41 w' rfl (by omega) h)
  rw [show pieces 41 = 2 from rfl] at HPC
  have e45 : areaP 45 = 44 := by decide +kernel
  have e90 : baseP 45 = 90 := by decide +kernel
  have e135 : cellsP 135 = 45 := by decide +kernel
  have e84 : cellsP 84 = 0 := by decide +kernel
  have KA := Lib.hid (fun w' => planArea_any 45 w' (by omega))
  have KB := Lib.hid (fun w' => planBase_any 45 w' (by omega))
  have KC := Lib.hid (fun w' => (show Calls Try.prog 13 #[.int .i64 135] w' fun e w'' => e = .returned (.int .i64 (cellsP 135 : Nat)) ∧ Ext w' w'' from planCells_any 135 w'))
  have KD := Lib.hid (fun w' => (show Calls Try.prog 13 #[.int .i64 84] w' fun e w'' => e = .returned (.int .i64 (cellsP 84 : Nat)) ∧ Ext w' w'' from planCells_any 84 w'))
  rw [e45] at KA
  rw [e90] at KB
  rw [e135] at KC
  rw [e84] at KD
  clear e45 e90 e135 e84
  have HCK := Lib.hid (show ∃ sc : ByteArray, some (Value.string ((chB (List.replicate 41 (0 : UInt8)))[1]'(by decide +kernel))) = some (Value.string sc) ∧ sc.size = 40 from ⟨_, rfl, by decide +kernel⟩)
  obtain ⟨i0, hi, hz0, hz1, hz2⟩ := info_parts infoHc
  have HI := Lib.hid hi
  have HZ0 := Lib.hid hz0
  have HZ1 := Lib.hid hz1
  have HZ2 := Lib.hid hz2
  clear hi hz0 hz1 hz2
  go_enter Try.func6, Try.ntmps6
  go_wp2_with (first
    | (go_at_call 15; refine HND.out.mono ?_; rintro e w1 ⟨v, rfl, ⟨A, c, A', c', rfl, hA, hA'⟩, hx1⟩; have HA1 := Lib.hid hA; have HA2 := Lib.hid hA'; have X1 := Lib.hid hx1; clear hA hA' hx1)
    | (at_make; refine stop_here ?_))
  refine stop_on ?_
  obtain ⟨w2, hw2⟩ : ∃ W, w1.alloc (.cells #[.slice A B.length c, .slice A' 0 c'] 33) = W := ⟨_, rfl⟩
  obtain ⟨hx2, hz2, b1⟩ := bts1 hw2
  simp only [List.length_nil] at HA2
  rw [hw2]
  have X2 := Lib.hid (X1.out.trans hx2)
  have HB1 := Lib.hid b1
  have HZ12 := Lib.hid (show w1.heap.size < w2.heap.size from by omega)
  have A1 := Lib.hid (HA1.out.ext hx2)
  have A2 := Lib.hid (HA2.out.ext hx2)
  clear hw2 b1 hz2 hx2
  refine wpList_make_cap _ rfl _ _ 36 rfl 92 i0 _ Try.underlying36 HI.out HZ0.out _ _ _ _ 45 45 rfl rfl rfl rfl (by omega) (by rw [HZ2.out]; omega) (by unfold maxLen; omega) ?_
  rw [HZ1.out]
  have HZ := Lib.hid (fun w' => hc_zeros w' 45)
  generalize madeCells (Value.agg #[.int .i64 0, .bool false, .bool false, .slice none 0 0]).cells (45 * 4) = cs at *
  have hsl := sl_lit w2 92 45 cs.toList (by unfold maxLen; omega)
  rw [Array.toArray_toList] at hsl
  have HSL := Lib.hid (show HcSl (w2.alloc (.cells cs 92)) (some ⟨w2.heap.size, 0, none⟩) 45 45 (List.replicate 45 HC.none) from ⟨by simp, _, hsl, HZ.out _⟩)
  have X3 := Lib.hid ((Ext.refl w2).alloc (.cells cs 92))
  clear hsl
  obtain ⟨w3, hw3⟩ : ∃ W, w2.alloc (.cells cs 92) = W := ⟨_, rfl⟩
  rw [hw3] at HSL X3 ⊢
  clear hw3
  have q0 := fun (o : Obj) => ((HB1.out.below (X3.out)).below ((Ext.refl w3).alloc o)).bx.at 0 _ rfl
  have q1 := fun (o : Obj) => ((HB1.out.below (X3.out)).below ((Ext.refl w3).alloc o)).bx.at 1 _ rfl
  have hs8 := Bx.new w3 #[.slice (some ⟨w2.heap.size, 0, none⟩) 45 45, .int .i64 0, .slice none 0 0, .slice none 0 0, .int .i64 1, .int .i64 0] 42
  have t0 := hs8.at 0 _ rfl
  have t1 := hs8.at 1 _ rfl
  have t2 := hs8.at 2 _ rfl
  have t3 := hs8.at 3 _ rfl
  have t4 := hs8.at 4 _ rfl
  have t5 := hs8.at 5 _ rfl
  clear hs8
  have X4 := Lib.hid (X3.out.trans ((Ext.refl w3).alloc (.cells #[.slice (some ⟨w2.heap.size, 0, none⟩) 45 45, .int .i64 0, .slice none 0 0, .slice none 0 0, .int .i64 1, .int .i64 0] 42)))
  have R4 := Lib.hid (HSL.out.ext ((Ext.refl w3).alloc (.cells #[.slice (some ⟨w2.heap.size, 0, none⟩) 45 45, .int .i64 0, .slice none 0 0, .slice none 0 0, .int .i64 1, .int .i64 0] 42)))
  go_wp2_with (first
    | (go_at_call 16; refine (HPN.out _ _ _ _ _ _ (A1.out.ext X4.out) (A2.out.ext X4.out) R4.out).mono ?_; rintro e w5 ⟨P, m, cp, rfl, ho, hx5⟩; have X5 := Lib.hid ((X2.out.trans X4.out).trans hx5); have HO := Lib.hid ho; clear ho hx5)
    | (at_make; refine stop_here ?_))
  refine stop_on ?_
  obtain rfl : m = 4 := by
    have h := HO.out.1
    have e : (wvs (plan45 0 46 1)).length = 8 := rfl
    omega
  obtain ⟨pb, po, rfl, hpl, hcc⟩ := (own_sl HO.out).cells (by unfold plan45 wvs; simp)
  have HRD := Lib.hid (fun w' (hy : Ext w5 w') => (show w'.cell? ⟨pb, po, none⟩ = some (.int .i64 46) ∧ w'.cell? ⟨pb, po + 4, none⟩ = some (.int .i64 1) ∧ w'.cell? ⟨pb, po + 6, none⟩ = some (.int .i64 (-1)) from
    ⟨(hy.cell (p := ⟨pb, po, none⟩) hpl).trans (hcc 0 _ rfl), (hy.cell (p := ⟨pb, po + 4, none⟩) hpl).trans (hcc 4 _ rfl), (hy.cell (p := ⟨pb, po + 6, none⟩) hpl).trans (hcc 6 _ rfl)⟩))
  clear hcc hpl q0 q1 t0 t1 t2 t3 t4 t5
  obtain ⟨i1, hi, hz0, hz1, hz2⟩ := info_parts infoU
  refine wpList_make_cap _ rfl _ _ 23 rfl 5 i1 _ Try.underlying23 hi hz0 _ _ _ _ 41 41 rfl rfl rfl rfl (by omega) (by rw [hz2]; omega) (by unfold maxLen; omega) ?_
  rw [hz1]
  have hsl := sl_lit w5 5 41 ((List.replicate 41 (0 : UInt8)).map bv) (by unfold maxLen; omega)
  have hmc : (madeCells (Value.int .u8 0).cells (41 * 1)) = ((List.replicate 41 (0 : UInt8)).map bv).toArray := Array.toList_inj.1 (by rw [Nat.mul_one]; exact (toList_madeCells_one _ _).trans rfl)
  rw [hmc]
  obtain ⟨w6, hw6⟩ : ∃ W, w5.alloc (.cells ((List.replicate 41 (0 : UInt8)).map bv).toArray 5) = W := ⟨_, rfl⟩
  rw [hw6] at hsl ⊢
  have X6 := Lib.hid (show Ext w5 w6 from by rw [← hw6]; exact (Ext.refl w5).alloc _)
  have S6 := Lib.hid hsl
  clear hmc hsl hw6 hi hz0 hz1 hz2
  go_wp2_with (first
    | (go_at_call 7; refine (HPC.out _ _ S6.out).mono ?_; rintro e w7 ⟨Q, d, rfl, hq, hx7⟩; have X7 := Lib.hid (X6.out.trans hx7); obtain ⟨qb, qo, rfl, hql, hqc⟩ := (own_sl hq).cells.str (k := 1) (by decide +kernel); obtain ⟨sc, hsc, hsz⟩ := HCK.out; have HQC := Lib.hid ((hqc 1 (by decide +kernel)).trans hsc); have HQL := Lib.hid hql; clear hq hx7 hqc hsc hql)
    | (go_at_call 9; refine (KA.out _).mono ?_; rintro e w8 ⟨rfl, hx⟩; have Y8 := Lib.hid hx; clear hx)
    | (go_at_call 11; refine (KB.out _).mono ?_; rintro e w9 ⟨rfl, hx⟩; have Y9 := Lib.hid (Y8.out.trans hx); clear hx)
    | (go_at_call 13; with_reducible refine (KC.out _).mono ?_; rintro e wa ⟨rfl, hx⟩; have Ya := Lib.hid (Y9.out.trans hx); clear hx)
    | (go_at_call 13; refine stop_here ?_))
  refine stop_on ?_
  refine (KD.out _).mono ?_
  rintro e wb ⟨rfl, hx⟩
  have Yb := Lib.hid (Ya.out.trans hx)
  obtain ⟨r0, r4, r6⟩ := HRD.out _ (X7.out.trans Yb.out)
  have rq := (Yb.out.cell (p := ⟨qb, qo + 1, none⟩) HQL.out).trans HQC.out
  clear hx
  go_wp2_with fail
  go_ret
  exact ⟨rfl, (X5.out.trans X7.out).trans Yb.out⟩
/-- Package plan is as the laws ask it. -/
theorem planOk : PlOk := {
  shown := pshown_any
  area := fun n w _ h => planArea_any n w (by omega)
  base := fun n w _ h => planBase_any n w (by omega)
  cells := fun b w _ => planCells_any b w
  chunks := fun A l n c w hn hn2 hS => (planChunks_any A l n c w hn (by omega) hS).mono fun e w' ⟨B, d, h1, h2, h3⟩ => by
    have hl : pieces n = (chunksP l).length := by rw [chunks_len, hn]
    rw [hl] at h1 h2
    exact ⟨B, d, chB l, h1, own_sl h2, chB_tx l, h3⟩ }
end Go.Proofs.Ytpcimjccngidgaa
namespace Go.Proofs.Ytpcimjccngidgaa
set_option maxRecDepth 20000
open Go.RowKit

theorem txP_inj {s t : ByteArray} (h : txP s = txP t) : s = t := by
  cases s; cases t
  unfold txP at h
  simp at h
  exact congrArg _ h
theorem txP_all : ∀ {L M : List ByteArray}, L.map txP = M.map txP → L = M
  | [], [], _ => rfl
  | [], b :: m, h => by simp at h
  | a :: l, [], h => by simp at h
  | a :: l, b :: m, h => by
    rw [List.map_cons, List.map_cons, List.cons.injEq] at h
    rw [txP_inj h.1, txP_all h.2]
set_option maxRecDepth 100000 in
set_option maxHeartbeats 6400000 in
theorem ptells_any (G : PlOk) (n b : Int) (A : Option Addr) (l : Bl) (q c : Nat) (w : World) (h0 : 0 ≤ n) (h1 : n < 65536) (g0 : 0 ≤ b) (g1 : b < 65536) (hq : q = l.length) (hA : Sl w A q c (l.map bv)) :
    Calls Try.prog 3 #[.int .u16 n, .int .u16 b, .slice A q c] w fun e w' => e = .returned (.bool true) ∧ Ext w w' := by
  have HX := Lib.hid (Ext.refl w)
  have HA := Lib.hid hA
  have HQ := Lib.hid hq
  clear hA hq
  by_cases hq1 : 1000 < q
  · have d1 : decide ((1000 : Int) < q) = true := decide_eq_true (by omega)
    have d2 : decide (1000 < q) = true := decide_eq_true hq1
    go_enter Try.func3, Try.ntmps3
    go_wp2_with (go_at_call 6; refine (G.shown _).mono ?_; rintro e w1 ⟨rfl, hx⟩; have HX := Lib.hid (HX.out.trans hx); clear hx)
    go_ret
    exact ⟨rfl, HX.out⟩
  have d1 : decide ((1000 : Int) < q) = false := decide_eq_false (by omega)
  have d2 : decide (1000 < q) = false := decide_eq_false hq1
  by_cases hb1 : 5000 < b
  · have d3 : decide (5000 < b) = true := decide_eq_true hb1
    go_enter Try.func3, Try.ntmps3
    go_wp2_with (go_at_call 6; refine (G.shown _).mono ?_; rintro e w1 ⟨rfl, hx⟩; have HX := Lib.hid (HX.out.trans hx); clear hx)
    go_ret
    exact ⟨rfl, HX.out⟩
  have d3 : decide (5000 < b) = false := decide_eq_false hb1
  obtain ⟨r, hr, hr2⟩ := rem_2000 h0
  obtain ⟨m, rfl⟩ := Int.eq_ofNat_of_zero_le g0
  have v1 : IntKind.i64.wrap n = n := by rw [IntKind.wrap_i64]; omega
  have v2 : IntKind.i64.wrap (m : Int) = (m : Int) := by rw [IntKind.wrap_i64]; omega
  have v3 : IntKind.i64.wrap (r : Int) = (r : Int) := by rw [IntKind.wrap_i64]; omega
  have v5 : IntKind.i64.wrap (1 + (r : Int)) = ((r + 1 : Nat) : Int) := by rw [IntKind.wrap_i64]; omega
  obtain ⟨k, hk⟩ : ∃ k, r + 1 = k := ⟨_, rfl⟩
  rw [hk] at v5
  have GA := Lib.hid (fun w' => G.area k w' (by omega) (by omega))
  have GB := Lib.hid (fun w' => G.base k w' (by omega) (by omega))
  have GC := Lib.hid (fun w' => G.cells m w' (by omega))
  have RA := Lib.hid (fun w' => ref14Area_any k w' (by omega))
  have RB := Lib.hid (fun w' => ref14Base_any k w' (by omega))
  have RC := Lib.hid (fun w' => ref14Cells_any m w' (by omega))
  have GH := Lib.hid (fun w' (hA : Sl w' A q c (l.map bv)) => G.chunks A l q c w' HQ.out (by omega) hA)
  have RH := Lib.hid (fun w' (hA : Sl w' A q c (l.map bv)) => ref14Chunks_any A l q c w' HQ.out (by omega) hA)
  have hN : (chunksP l).length = (chunksP l).length := rfl
  generalize hNN : (chunksP l).length = N at GH RH hN
  have HN := Lib.hid hNN
  clear hNN hN
  generalize areaP k = a at *
  generalize baseP k = B at *
  generalize cellsP m = mm at *
  go_enter Try.func3, Try.ntmps3
  go_wp2_with (first
    | (go_at_call 6; refine (G.shown _).mono ?_; rintro e w1 ⟨rfl, hx⟩; have HX := Lib.hid (HX.out.trans hx); clear hx)
    | (go_at_call 7; refine (GH.out _ (HA.out.ext HX.out)).mono ?_; rintro e w2 ⟨P, pc, L, rfl, hs, hl, hx⟩; have S1 := Lib.hid hs; have E1 := Lib.hid hl; have HX := Lib.hid (HX.out.trans hx); clear hx hs hl)
    | (go_at_call 8; refine (RH.out _ (HA.out.ext HX.out)).mono ?_; rintro e w3 ⟨R, rc, M, rfl, hs, hl, hx⟩; obtain rfl : L = M := txP_all (E1.out.trans hl.symm); have S1 := Lib.hid (S1.out.ext hx); have S2 := Lib.hid hs; have HX := Lib.hid (HX.out.trans hx); clear hx hs hl))
  have HNL := Lib.hid (show L.length = N from by have h := congrArg List.length E1.out; rw [List.length_map, HN.out] at h; exact h)
  go_loopw [11] (fun i wr => ∃ j : Nat, j ≤ N ∧ i = .int .i64 j ∧ Ext w3 wr) (fun i _ => N - (intOf i).toNat)
  case atStart => exact ⟨0, Nat.zero_le _, rfl, Ext.refl _⟩
  case round =>
    obtain ⟨j, hj, rfl, hx⟩ := hrel
    have T1 := Lib.hid (S1.out.cells.ext hx)
    have T2 := Lib.hid (S2.out.cells.ext hx)
    have HX2 := Lib.hid (HX.out.trans hx)
    have HX3 := Lib.hid hx
    have hNm := S1.out.len
    unfold maxLen at hNm
    clear hx
    rcases Nat.lt_or_ge j N with hlt | hlt
    · have hjl : j < L.length := by rw [HNL.out]; exact hlt
      obtain ⟨ba, oa, rfl, _, hca⟩ := T1.out.str hjl
      obtain ⟨bb, ob, rfl, _, hcb⟩ := T2.out.str hjl
      have ca := hca j hjl
      have cb := hcb j hjl
      have hki : (j : Int) < (N : Int) := by omega
      generalize L[j] = x at *
      have d0 : (x.toList != x.toList) = false := by simp
      clear hca hcb
      go_wp2
      go_quiet (fail)
      go_wp2
      go_roundw
      case rel => exact ⟨j + 1, by omega, by go_num, HX3.out.drewN nq⟩
      case measure => simp [intOf]; omega
    · obtain rfl : N = j := by omega
      clear hlt
      go_wp2_with (first
        | (go_at_call 9; refine (GA.out _).mono ?_; rintro e w1 ⟨rfl, hx⟩; have HX2 := Lib.hid (HX2.out.trans hx); clear hx)
        | (go_at_call 11; refine (GB.out _).mono ?_; rintro e w1 ⟨rfl, hx⟩; have HX2 := Lib.hid (HX2.out.trans hx); clear hx)
        | (go_at_call 13; refine (GC.out _).mono ?_; rintro e w1 ⟨rfl, hx⟩; have HX2 := Lib.hid (HX2.out.trans hx); clear hx)
        | (go_at_call 10; refine (RA.out _).mono ?_; rintro e w1 ⟨rfl, rfl⟩)
        | (go_at_call 12; refine (RB.out _).mono ?_; rintro e w1 ⟨rfl, rfl⟩)
        | (go_at_call 14; refine (RC.out _).mono ?_; rintro e w1 ⟨rfl, rfl⟩))
      go_ret
      exact ⟨rfl, HX2.out⟩
end Go.Proofs.Ytpcimjccngidgaa
namespace Go.Proofs.Ytpcimjccngidgaa
set_option maxRecDepth 20000
open Go.RowKit

theorem conv_forty (s : ByteArray) (w : World) (hs : s.size = 40) : ∃ cap W, (convert 9 23 (.string s)).run Try.prog w = .ok (.slice (some ⟨w.heap.size, 0, none⟩) 40 cap) W ∧ Ext w W ∧ Cells W (some ⟨w.heap.size, 0, none⟩) ((txP s).map bv) := by
  have h := run_bytes_of_string (P := Try.prog) w 9 23 5 s Try.underlying9 Try.underlying23 Try.underlying5
  rw [hs] at h
  refine ⟨_, _, h, (Ext.refl w).drew.alloc _, fun _ => ⟨_, 0, rfl, ?_, fun j u hu => ?_⟩⟩
  · have : w.drew.heap.size = w.heap.size := rfl
    simp [this]
  · rw [Nat.zero_add]
    refine (World.cell?_alloc_mark w.drew _ 5 _ j).trans ?_
    have hj : j < s.data.size := by have := (List.getElem?_eq_some_iff.1 hu).1; simpa using this
    rw [bytesRow_at s _ j hj, ← hu]
    simp [bv, List.getElem?_map, Array.getElem?_toList, Array.getElem?_eq_getElem hj]
theorem bytesP_oneCell (l : Bl) : ∀ u ∈ l.map bv, u.oneCell' = true := by
  intro u hu
  obtain ⟨_, _, rfl⟩ := List.mem_map.1 hu
  rfl
theorem own_emptyP (w : World) : (w.alloc (.cells #[] 5)).ownsRow w.heap.size 5 1 (.slice (some ⟨w.heap.size, 0, none⟩) 0 0) 0 (([] : Bl).map bv) :=
  World.ownsRow_lit (base := w.heap.size) (e := 5) (size := 1) w #[] 0 (Nat.le_refl _) (Nat.zero_le _) rfl
theorem cells_noneP {w : World} {A : Option Addr} {l : Bl} (h : Cells w A (l.map bv)) (hA : A = none) : l.length = 0 := by
  rcases Nat.eq_zero_or_pos l.length with h0 | h0
  · exact h0
  · obtain ⟨_, _, e2, _⟩ := h.byte h0
    rw [hA] at e2; cases e2
theorem flat_in {F l : Bl} {q j : Nat} (h : F.take q = l) (hj : j < l.length) (hF : j < F.length) : F[j] = l[j] := by
  subst h; simp
theorem flat_out {F : Bl} {q m j : Nat} (h : F.drop q = List.replicate m 0) (hj : q ≤ j) (hF : j < F.length) : F[j] = 0 := by
  have h1 : (F.drop q)[j - q]? = some F[j] := by rw [List.getElem?_drop, show q + (j - q) = j by omega, List.getElem?_eq_getElem hF]
  rw [h, List.getElem?_replicate] at h1
  split at h1
  · simpa using h1.symm
  · cases h1
/-- append of bytes onto a row of the call's own. -/
theorem app_bytesP (w : World) {ops : Array Oper} {rest : List Oper} {o : Oper} {a : Act} {Q : Exit → Act → World → Prop} (hgd : o.guard = none) (s x : Operand)
    (ho : o.op = .call { callee := .builtin .append, args := #[s, x], argTypes := #[23, 23] })
    (B : Nat) (v : Value) (n : Nat) (l : Bl) (hs : a.eval s = v) (hown : w.ownsRow B 5 1 v n (l.map bv))
    (A : Option Addr) (m c : Nat) (k : Bl) (hx : a.eval x = .slice A m c) (hl : k.length = m) (hnil : A = none → c = 0) (hc : Cells w A (k.map bv))
    (hsz : n + m ≤ 100000) (hB : B ≤ w.heap.size)
    (h : ∀ A' c' w', w'.ownsRow B 5 1 (.slice A' (n + m) c') (n + m) ((l ++ k).map bv) → w.grownBy w' v.ownBlock → wpList Try.prog ops Q rest (a.put o.dst (.slice A' (n + m) c')) w') : wpList Try.prog ops Q (o :: rest) a w := by
  obtain ⟨i0, hi, hz0, hz1, hz2⟩ := info_parts infoU
  subst hl
  refine wpList_app w hgd s x 23 ho B 5 i0 (.int .u8 0) 1 1 Try.underlying23 hi hz0 hz1 hz2 rfl (by decide) v n _ hs hown A k.length c (k.map bv) hx (by simp) (fun e => ⟨cells_noneP hc e, hnil e⟩) hc.at_ (bytesP_oneCell _) (by unfold maxLen; omega) (by omega) hB ?_
  intro v' w' hown' hg
  rw [← List.map_append] at hown'
  obtain ⟨A', c', rfl⟩ := own_shape hown'
  exact h A' c' w' hown' hg
/-- The first blocks of a book, one behind the other. -/
def flatP (C : List Bl) (j : Nat) : Bl := (C.take j).flatten
theorem flatP_step {C : List Bl} {j : Nat} (h : j < C.length) : flatP C (j + 1) = flatP C j ++ C[j] := by
  unfold flatP
  rw [List.take_succ_eq_append_getElem h, List.flatten_append, List.flatten_cons, List.flatten_nil, List.append_nil]
theorem flatP_len : ∀ {C : List Bl} (j : Nat), (∀ c ∈ C, c.length = 40) → j ≤ C.length → (flatP C j).length = 40 * j
  | C, 0, _, _ => by simp [flatP]
  | C, j + 1, h, hj => by
    rw [flatP_step (by omega), List.length_append, flatP_len j h (by omega), h _ (List.getElem_mem _)]
    omega
theorem flatP_end (C : List Bl) : flatP C C.length = C.flatten := by unfold flatP; rw [List.take_length]
set_option maxRecDepth 100000 in
set_option maxHeartbeats 6400000 in
theorem pchunks_any (G : PlOk) (A : Option Addr) (l : Bl) (q c : Nat) (w : World) (hq : q = l.length) (hA : Sl w A q c (l.map bv)) :
    Calls Try.prog 5 #[.slice A q c] w fun e w' => e = .returned (.bool true) ∧ Ext w w' := by
  have HX := Lib.hid (Ext.refl w)
  have HA := Lib.hid hA
  have HQ := Lib.hid hq
  clear hA hq
  by_cases hq1 : 1000 < q
  · have d1 : decide ((1000 : Int) < q) = true := decide_eq_true (by omega)
    have d2 : decide (1000 < q) = true := decide_eq_true hq1
    go_enter Try.func5, Try.ntmps5
    go_wp2_with (go_at_call 6; refine (G.shown _).mono ?_; rintro e w1 ⟨rfl, hx⟩; have HX := Lib.hid (HX.out.trans hx); clear hx)
    go_ret
    exact ⟨rfl, HX.out⟩
  have d1 : decide ((1000 : Int) < q) = false := decide_eq_false (by omega)
  have d2 : decide (1000 < q) = false := decide_eq_false hq1
  obtain ⟨F1, F2, F3, F4, F5⟩ := chunks_all l.length l (Nat.le_refl _)
  have GH := Lib.hid (fun w' (hA : Sl w' A q c (l.map bv)) => G.chunks A l q c w' HQ.out (by omega) hA)
  rw [← HQ.out] at F2 F3 F4 F5
  generalize chunksP l = C at *
  have H40 := Lib.hid F1
  have HFL := Lib.hid (fun j (hj : j ≤ C.length) => flatP_len j F1 hj)
  have HFE := Lib.hid (flatP_end C)
  have hcl : C.flatten.length = 40 * C.length := by rw [← flatP_end]; exact flatP_len _ F1 (Nat.le_refl _)
  have HF2 := Lib.hid F2
  have HF3 := Lib.hid F3
  rw [hcl] at F4 F5
  clear F1 F2 F3
  have HCL := Lib.hid hcl
  clear hcl
  obtain ⟨N, hN⟩ : ∃ N, C.length = N := ⟨_, rfl⟩
  have HN := Lib.hid hN
  rw [hN] at GH F4 F5 HCL HFE HFL
  clear hN
  go_enter Try.func5, Try.ntmps5
  go_wp2_with (first
    | (go_at_call 6; refine (G.shown _).mono ?_; rintro e w1 ⟨rfl, hx⟩; have HX := Lib.hid (HX.out.trans hx); clear hx)
    | (go_at_call 7; refine (GH.out _ (HA.out.ext HX.out)).mono ?_; rintro e w2 ⟨P, pc, L, rfl, hs, hl, hx⟩; have S1 := Lib.hid hs; have E1 := Lib.hid hl; have HX := Lib.hid (HX.out.trans hx); clear hx hs hl))
  have HNL := Lib.hid (show L.length = N from by have h := congrArg List.length E1.out; rw [List.length_map, HN.out] at h; exact h)
  go_loopw [5, 6] (fun o i wr => ∃ j : Nat, ∃ O oc, j ≤ N ∧ i = .int .i64 j ∧ o = .slice O (40 * j) oc ∧ wr.ownsRow w2.heap.size 5 1 (.slice O (40 * j) oc) (40 * j) ((flatP C j).map bv) ∧ Ext w2 wr) (fun _ i _ => N - (intOf i).toNat)
  case atStart => exact ⟨0, _, 0, Nat.zero_le _, rfl, rfl, own_emptyP w2, (Ext.refl w2).alloc _⟩
  case round =>
    obtain ⟨j, O, oc, hj, rfl, rfl, ho, hx⟩ := hrel
    have T1 := Lib.hid (S1.out.cells.ext hx)
    have HO := Lib.hid ho
    have HX2 := Lib.hid hx
    have hNm := S1.out.len
    unfold maxLen at hNm
    clear hx ho
    rcases Nat.lt_or_ge j N with hlt | hlt
    · have hjl : j < L.length := by rw [HNL.out]; exact hlt
      have hjc : j < C.length := by rw [HN.out]; exact hlt
      obtain ⟨ba, oa, rfl, _, hca⟩ := T1.out.str hjl
      have ca := hca j hjl
      have hki : (j : Int) < (N : Int) := by omega
      have hLC : txP L[j] = C[j] := by have h := E1.out; subst h; simp
      have h40 : C[j].length = 40 := H40.out _ (List.getElem_mem _)
      have HS := Lib.hid (flatP_step hjc)
      rw [← hLC] at h40 HS
      clear hLC hca
      generalize L[j] = x at *
      have hsz : x.size = 40 := by have h := h40; unfold txP at h; simpa using h
      obtain ⟨cap, W, e3, x3, m3⟩ := conv_forty x wr hsz
      have d0 : ((x.size : Int) != 40) = false := by simp; omega
      have HW := Lib.hid x3
      have HC := Lib.hid m3
      have H4 := Lib.hid h40
      clear x3 m3 h40 hsz
      go_wp2_with (at_builtin; refine stop_here ?_)
      refine stop_on ?_
      refine app_bytesP _ rfl _ _ rfl w2.heap.size (.slice O (40 * j) oc) (40 * j) (flatP C j) rfl (own_ext HO.out HW.out) _ 40 cap (txP x) rfl H4.out (fun e => by cases e) HC.out (by omega) (HX2.out.trans HW.out).size ?_
      intro A' c' w' hown' hg
      have X3 := Lib.hid ((HX2.out.trans HW.out).app (own_ext HO.out HW.out) (Nat.le_refl _) hg)
      rw [← HS.out] at hown'
      have HO3 := Lib.hid hown'
      clear hown' hg e3
      go_wp2
      go_roundw
      case rel => exact ⟨j + 1, A', c', by omega, by go_num, rfl, HO3.out, X3.out⟩
      case measure => simp [intOf]; omega
    · obtain rfl : N = j := by omega
      clear hlt
      have HOE := Lib.hid (show wr.ownsRow w2.heap.size 5 1 (.slice O (40 * N) oc) (40 * N) (C.flatten.map bv) from by rw [← HFE.out]; exact HO.out)
      clear HO
      obtain ⟨K, hK⟩ : ∃ K, 40 * N = K := ⟨_, rfl⟩
      rw [hK] at HOE F4 F5 HCL ⊢
      have f1 : decide ((K : Int) < q) = false := decide_eq_false (by omega)
      have f2 : decide ((q : Int) + 40 ≤ K) = false := decide_eq_false (by omega)
      have f3 : IntKind.i64.wrap ((q : Int) + 40) = (q : Int) + 40 := by rw [IntKind.wrap_i64]; omega
      have TA := Lib.hid (own_sl HOE.out).cells
      have TB := Lib.hid (HA.out.cells.ext (HX.out.trans HX2.out))
      have HXW := Lib.hid (HX.out.trans HX2.out)
      have HKK := Lib.hid hK
      clear hK
      have hKb : K ≤ 1100 := by omega
      clear T1
      generalize wr = wq at *
      clear wr
      go_wp2
      go_loopw [7] (fun i wr => ∃ j : Nat, j ≤ K ∧ i = .int .i64 j ∧ Ext wq wr) (fun i _ => K - (intOf i).toNat)
      case atStart => exact ⟨0, Nat.zero_le _, rfl, Ext.refl _⟩
      case round =>
        obtain ⟨j, hj, rfl, hx⟩ := hrel
        have UA := Lib.hid (TA.out.ext hx)
        have UB := Lib.hid (TB.out.ext hx)
        have X5 := Lib.hid hx
        clear hx
        rcases Nat.lt_or_ge j K with hlt | hlt
        · have hki : (j : Int) < (K : Int) := by omega
          have hjF : j < C.flatten.length := by rw [HCL.out]; exact hlt
          obtain ⟨ba, oa, rfl, _, ca⟩ := byte_at UA.out hjF
          rcases Nat.lt_or_ge j q with hjq | hjq
          · have hjl : j < l.length := by rw [← HQ.out]; exact hjq
            obtain ⟨bb, ob, rfl, _, cb⟩ := byte_at UB.out hjl
            have hy := flat_in HF2.out hjl hjF
            rw [hy] at ca
            clear hy
            generalize (l[j].toNat : Int) = y at ca cb
            have e1 : decide ((j : Int) < q) = true := decide_eq_true (by omega)
            have e2 : decide ((q : Int) ≤ j) = false := decide_eq_false (by omega)
            have e1b : decide (j < q) = true := decide_eq_true hjq
            have e2b : decide (q ≤ j) = false := decide_eq_false (by omega)
            have e3 : (y != y) = false := by simp
            have hqi : (j : Int) < (q : Int) := by omega
            go_wp2
            go_quiet (fail)
            go_wp2
            go_roundw
            case rel => exact ⟨j + 1, by omega, by go_num, X5.out.drewN nq⟩
            case measure => simp [intOf]; omega
          · have hy := flat_out HF3.out hjq hjF
            rw [hy] at ca
            clear hy
            have ca2 := (show _ = some (Value.int .u8 0) from ca)
            clear ca
            have e1 : decide ((j : Int) < q) = false := decide_eq_false (by omega)
            have e2 : decide ((q : Int) ≤ j) = true := decide_eq_true (by omega)
            have e1b : decide (j < q) = false := decide_eq_false (by omega)
            have e2b : decide (q ≤ j) = true := decide_eq_true hjq
            go_wp2
            go_quiet (fail)
            go_wp2
            go_roundw
            case rel => exact ⟨j + 1, by omega, by go_num, X5.out.drewN nq⟩
            case measure => simp [intOf]; omega
        · obtain rfl : K = j := by omega
          clear hlt
          go_wp2
          go_ret
          exact ⟨rfl, HXW.out.trans X5.out⟩
end Go.Proofs.Ytpcimjccngidgaa
namespace Go.Proofs.Ytpcimjccngidgaa
set_option maxRecDepth 20000
open Go.ChangeShapes Go.WideShapes Go.ChangeAt Go.RowKit Go.Deep
open Go.ChangeMaps (open_string shut_string)

theorem own : ownKnob Try.prog.godebug = none := by kernel_rfl
theorem laidOut : laidOutB Try.prog = true := by kernel_rfl

section
variable {H : Type} {enc : TypeId × Value → H} {w : World} {fuel : Nat} {cs : List Value} {x : DataW H × List MemPlace}

theorem wf_u8 {n : Int} (h : (Lit.int .u8 n).wf = true) : 0 ≤ n ∧ n < 256 := by
  have h1 : IntKind.u8.min = 0 := rfl
  have h2 : IntKind.u8.max = 255 := rfl
  simp only [Lit.wf, Bool.and_eq_true, decide_eq_true_eq, h1, h2] at h
  omega
theorem wf_i64 {n : Int} (h : (Lit.int .i64 n).wf = true) : -9223372036854775808 ≤ n ∧ n ≤ 9223372036854775807 := by
  have h1 : IntKind.i64.min = -9223372036854775808 := rfl
  have h2 : IntKind.i64.max = 9223372036854775807 := rfl
  simp only [Lit.wf, Bool.and_eq_true, decide_eq_true_eq, h1, h2] at h
  omega

theorem wf_u32 {n : Int} (h : (Lit.int .u32 n).wf = true) : 0 ≤ n ∧ n < 4294967296 := by
  have h1 : IntKind.u32.min = 0 := rfl
  have h2 : IntKind.u32.max = 4294967295 := rfl
  simp only [Lit.wf, Bool.and_eq_true, decide_eq_true_eq, h1, h2] at h
  omega
theorem wf_u16 {n : Int} (h : (Lit.int .u16 n).wf = true) : 0 ≤ n ∧ n < 65536 := by
  have h1 : IntKind.u16.min = 0 := rfl
  have h2 : IntKind.u16.max = 65535 := rfl
  simp only [Lit.wf, Bool.and_eq_true, decide_eq_true_eq, h1, h2] at h
  omega

/-- A slice of bytes that came in. -/
theorem open_bytes (h : DataW.trod enc Try.prog w 0 (fun _ => true) true fuel 23 cs = some x) :
    ∃ (A : Option Addr) (l : List UInt8) (c : Nat), cs = [.slice A l.length c] ∧ l.length ≤ c ∧ l.length ≤ maxLen ∧ (A = none → c = 0) ∧ Cells w A (l.map bv) := by
  rcases open_ints Try.underlying23 Try.underlying5 (by kernel_rfl) h with ⟨rfl, _⟩ | ⟨a, len, cap, zs, rfl, _, hl, hm, hz, _, hcell, hwz⟩
  · exact ⟨none, [], 0, rfl, Nat.le_refl _, Nat.zero_le _, fun _ => rfl, fun h => absurd rfl h⟩
  · simp only [if_true] at hz
    have hlen : ((zs.take len).map fun n => UInt8.ofNat n.toNat).length = len := by simp; omega
    refine ⟨some a, (zs.take len).map fun n => UInt8.ofNat n.toNat, cap, by rw [hlen], by rw [hlen]; exact hl, by rw [hlen]; omega, (fun h => by cases h), fun hne => ?_⟩
    have hp : 0 < len := by
      rcases Nat.eq_zero_or_pos len with h0 | h0
      · subst h0; simp at hne
      · exact h0
    obtain ⟨b, off, spot⟩ := a
    have h0 := hcell 0 (by omega)
    have hspot : spot = none := by simpa [Addr.add] using World.cell?_spot h0
    subst hspot
    refine ⟨b, off, rfl, ?_, fun j u hu => ?_⟩
    · have h0' : w.cell? ⟨b, off, none⟩ = some (.int .u8 (zs.getD 0 0)) := by simpa [Addr.add] using h0
      rcases Nat.lt_or_ge b w.heap.size with h' | h'
      · exact h'
      · simp [World.cell?, Array.getElem?_eq_none h'] at h0'
    · have hj : j < len := by have := (List.getElem?_eq_some_iff.1 hu).1; simp at this; omega
      have hc := hcell j (by omega)
      have e : (⟨b, off, none⟩ : Addr).add j = ⟨b, off + j, none⟩ := by unfold Addr.add; split <;> simp_all
      rw [e] at hc
      rw [hc, ← hu]
      have hzj : zs[j]? = some (zs[j]'(by omega)) := List.getElem?_eq_getElem (by omega)
      have hb := wf_u8 (hwz _ (List.getElem_mem (l := zs) (n := j) (by omega)))
      simp [List.getD, hzj, hj, bv]
      omega

theorem array5 {cs : Array Value} (h : cs.size = 5) : ∃ c0 c1 c2 c3 c4, cs = #[c0, c1, c2, c3, c4] := by
  obtain ⟨l⟩ := cs
  match l, h with
  | [c0, c1, c2, c3, c4], _ => exact ⟨c0, c1, c2, c3, c4, rfl⟩

/-- A struct of one-cell fields that came in. -/
theorem open_struct {P : Program} {base : Nat} {spare : Nat → Bool} {held : Bool} {r : Reach} {b0 : Nat} {t : TypeId} {fs : Array Field} {v : Value} {d : DataW H} {p : List MemPlace} (hs : P.underlying t = some (.struct fs)) (hone : oneCellFields P fs = true) (hC : P.cellsOf t = fs.size)
    (hv : Value.okWide P w r b0 t v) (h : DataW.Trod enc P w base spare held t v d p) :
    ∃ (cs : Array Value) (n : Nat), v = .agg cs ∧ cs.size = fs.size ∧ ∀ (i : Nat) (f : Field) (c : Value), fs[i]? = some f → cs[i]? = some c → ∃ y, DataW.trod enc P w base spare held n f.type [c] = some y := by
  obtain ⟨cs, rfl, hsz⟩ := okWide_struct hs hv
  obtain ⟨fuel, hf⟩ := h
  obtain ⟨xs, n, _, _, _, hlen, hg⟩ := DataW.trod_struct hs hf
  refine ⟨cs, n, rfl, hsz.trans hC, fun i f c hi hc => ?_⟩
  obtain ⟨o, k⟩ := Go.Deep.hone_of hone i f hi
  have h1 := hg i f hi
  have hlt : i < fs.size := (Array.getElem?_eq_some_iff.1 hi).1
  have hxs : xs[i]? = some (xs[i]'(by omega)) := List.getElem?_eq_getElem (by omega)
  rw [hxs, o, k] at h1
  refine ⟨_, (?_ : _ = _).trans h1⟩
  congr 1
  have hl : i < cs.toList.length := by have := hsz.trans hC; simp; omega
  have e : (Value.agg cs).cells = cs := by simp [Value.cells]
  rw [e, List.drop_eq_getElem_cons hl]
  have : cs.toList[i] = c := by
    have := (Array.getElem?_eq_some_iff.1 hc).2
    simpa using this
  rw [this]; rfl
end

theorem trodAll_below {H : Type} {enc : TypeId × Value → H} {W W' : World} (hb : Below W.heap.size W W') : ∀ (ts : List TypeId) (vs : List Value) (ds : List (DataW H)) (ps : List MemPlace),
    (∀ t ∈ ts, Try.prog.readableRec t = true ∧ t < Try.prog.types.size) →
    DataW.TrodAll enc Try.prog W 0 (fun _ => true) true ts vs ds ps → DataW.TrodAll enc Try.prog W' 0 (fun b => decide (b < W.heap.size)) true ts vs ds ps := by
  intro ts
  induction ts with
  | nil =>
    intro vs ds ps _ h
    obtain ⟨rfl, rfl, rfl⟩ := trodAll_nil h
    exact trodAll_mk0
  | cons t ts ih =>
    intro vs ds ps hr h
    obtain ⟨v0, vs0, d0, ds0, p0, q0, rfl, rfl, rfl, h0, r0⟩ := trodAll_cons h
    have hlt : ∀ x ∈ p0, x.block < W.heap.size := by obtain ⟨m, hm⟩ := h0; exact DataW.trod_lt m _ _ _ hm
    have ht := hr t (by simp)
    exact trodAll_cons_mk (Below.trod laidOut ht.1 ht.2 h0 hb hlt) (ih _ _ _ (fun t' ht' => hr t' (by simp [ht'])) r0)
end Go.Proofs.Ytpcimjccngidgaa
namespace Go.Proofs.Ytpcimjccngidgaa
set_option maxRecDepth 20000
open Go.ChangeShapes Go.WideShapes Go.ChangeAt Go.RowKit Go.Deep

section
variable {H : Type} {enc : TypeId × Value → H} {P : Program} {w : World} {fuel : Nat} {cs : List Value} {x : DataW H × List MemPlace}

theorem cells_of_addr {w : World} {a : Addr} {xs : List Value} (h : ∀ j u, xs[j]? = some u → w.cell? (a.add j) = some u) : Cells w (some a) xs := fun hne => by
  obtain ⟨b, off, spot⟩ := a
  cases xs with
  | nil => exact absurd rfl hne
  | cons u r =>
    have h0 := h 0 u rfl
    have hspot : spot = none := by simpa [Addr.add] using World.cell?_spot h0
    subst hspot
    refine ⟨b, off, rfl, ?_, fun j u hu => ?_⟩
    · have h0' : w.cell? ⟨b, off, none⟩ = some u := by simpa [Addr.add] using h0
      rcases Nat.lt_or_ge b w.heap.size with h' | h'
      · exact h'
      · simp [World.cell?, Array.getElem?_eq_none h'] at h0'
    · have hc := h j u hu
      rwa [Addr.add_lit] at hc

theorem flatMap_get {α β : Type} (en : α → List β) (k : Nat) (hk : ∀ a, (en a).length = k) : ∀ (l : List α) (i j : Nat) (hi : i < l.length), j < k → (l.flatMap en)[i * k + j]? = (en l[i])[j]?
  | a :: l, 0, j, _, hj => by
    simp only [List.flatMap_cons, Nat.zero_mul, Nat.zero_add, List.getElem_cons_zero]
    rw [List.getElem?_append_left (by rw [hk]; exact hj)]
  | a :: l, i + 1, j, hi, hj => by
    simp only [List.flatMap_cons, List.getElem_cons_succ]
    rw [List.getElem?_append_right (by rw [hk, Nat.succ_mul]; omega), hk]
    rw [show (i + 1) * k + j - k = i * k + j by rw [Nat.succ_mul]; omega]
    exact flatMap_get en k hk l i j (by simpa using hi) hj
theorem flatMap_len {α β : Type} (en : α → List β) (k : Nat) (hk : ∀ a, (en a).length = k) (l : List α) : (l.flatMap en).length = l.length * k := by
  induction l with
  | nil => simp
  | cons a l ih => simp only [List.flatMap_cons, List.length_append, hk, ih, List.length_cons, Nat.succ_mul]; omega

theorem list_of_lt {α : Type} (p : Nat → α → Prop) : ∀ n, (∀ i, i < n → ∃ a, p i a) → ∃ l : List α, l.length = n ∧ ∀ i (hi : i < l.length), p i l[i]
  | 0, _ => ⟨[], rfl, fun i hi => absurd hi (by simp)⟩
  | n + 1, h => by
    obtain ⟨l, hl, hp⟩ := list_of_lt p n (fun i hi => h i (by omega))
    obtain ⟨a, ha⟩ := h n (by omega)
    refine ⟨l ++ [a], by simp [hl], fun i hi => ?_⟩
    rcases Nat.lt_or_ge i l.length with h' | h'
    · rw [List.getElem_append_left h']; exact hp i h'
    · have : i = n := by simp at hi; omega
      subst this
      rw [List.getElem_append_right (by omega)]
      simpa [hl] using ha

/-- A slice that came in: its elements as a list. -/
theorem open_sl {α : Type} {t e : TypeId} (size : Nat) (en : α → List Value) (ok : α → Prop) (ht : P.underlying t = some (.slice e)) (hc : P.cellsOf e = size) (hsz : ∀ a, (en a).length = size) (hpos : 0 < size)
    (dec : ∀ n cs' y, DataW.trod enc P w 0 (fun _ => true) true n e cs' = some y → ∃ a, cs' = en a ∧ ok a)
    (h : DataW.trod enc P w 0 (fun _ => true) true fuel t cs = some x) :
    ∃ (A : Option Addr) (l : List α) (c : Nat), cs = [.slice A l.length c] ∧ Sl w A l.length c (l.flatMap en) ∧ ∀ a ∈ l, ok a := by
  rcases open_slice ht h with ⟨rfl, _⟩ | ⟨a, len, cap, m, n, D, Pl, rfl, _, hl, hm, hmm, _, hx⟩
  · exact ⟨none, [], 0, rfl, Sl.nil w, by simp⟩
  · have hlm : len ≤ m := by rw [hmm]; simpa using hl
    rw [hc] at hx
    obtain ⟨l, hl', hp⟩ := list_of_lt (fun i (b : α) => ok b ∧ w.cells? 0 (a.add (i * size)) size = some (en b)) len (fun i hi => by
      obtain ⟨cs', h1, h2⟩ := hx i (by omega)
      obtain ⟨b, rfl, hb⟩ := dec _ _ _ h2
      exact ⟨b, hb, h1⟩)
    refine ⟨some a, l, cap, by rw [hl'], ⟨(fun h => by cases h), by omega, hm, ?_⟩, fun b hb => ?_⟩
    · apply cells_of_addr
      intro j u hu
      have hj := (List.getElem?_eq_some_iff.1 hu).1
      rw [flatMap_len en size hsz] at hj
      have hi : j / size < l.length := (Nat.div_lt_iff_lt_mul hpos).2 hj
      have hj' : j % size < size := Nat.mod_lt _ hpos
      have e : j = j / size * size + j % size := (Nat.div_add_mod' j size).symm
      obtain ⟨_, hcs⟩ := hp _ hi
      obtain ⟨_, _, hat⟩ := World.cells?_some hcs
      have h1 := hat (j % size) (by omega)
      rw [Go.Deep.add_add, ← e] at h1
      rw [h1, ← flatMap_get en size hsz l _ _ hi hj', ← e, hu]
    · obtain ⟨i, hi, rfl⟩ := List.mem_iff_getElem.1 hb
      exact (hp i hi).1
end
end Go.Proofs.Ytpcimjccngidgaa
