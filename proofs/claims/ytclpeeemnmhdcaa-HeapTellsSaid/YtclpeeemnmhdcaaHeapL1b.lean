/- The walk of HeapTells, where the first alone is right. -/
import Derived.Test.YtclpeeemnmhdcaaHeapN
import Derived.Deep.AppendLies
import Derived.Deep.RegionHeld3
import Derived.Deep.DeepCutAuto
import Derived.Deep.DrawnRows
import Derived.RegionTactic
namespace Go.Proofs.Ytclpeeemnmhdcaa
open Go.RowKit
attribute [local go_sem ↓] Go.wp_at_zero Go.wp_at_succ

attribute [local go_sem] beq_self_eq_true
set_option maxRecDepth 100000 in
set_option maxHeartbeats 8000000 in
theorem tells_b (R1 R2 : Option Addr) (l1 l2 : List HC) (n1 n2 q1 q2 : Nat) (k1 k2 n keep : Int) (w : World) (hA : HcSl w R1 n1 q1 l1) (hB : HcSl w R2 n2 q2 l2) (hs1 : smallH ⟨l1, k1⟩ 60 = true) (hs2 : smallH ⟨l2, k2⟩ 60 = true) (hr1 : rightH ⟨l1, k1⟩ = true) (hr2 : rightH ⟨l2, k2⟩ = false) :
    Calls Try.prog 3 #[.agg #[.slice R1 n1 q1, .int .i64 k1, .slice R2 n2 q2, .int .i64 k2, .int .i64 n, .int .i64 keep]] w fun e w' => e = .returned (.bool true) ∧ Ext w w' := by
  have A_1 := Lib.hid (hA)
  have B_2 := Lib.hid (hB)
  have X_3 := Lib.hid (Ext.refl w)
  clear hA hB
  have Hs1 := Lib.hid hs1
  have Hs2 := Lib.hid hs2
  have Hr2 := Lib.hid hr2
  clear hs1 hs2 hr2
  obtain ⟨N, hN⟩ : ∃ N, newH n keep = N := ⟨_, rfl⟩
  obtain ⟨ne, hne⟩ : ∃ e, newHE n keep = e := ⟨_, rfl⟩
  have HNW := Lib.hid (fun w' => heapNew_any n keep w')
  have HNR := Lib.hid (fun w' => ref05New_any n keep w')
  rw [hN, hne] at HNW HNR
  obtain ⟨L, K⟩ := N
  simp only at HNW HNR
  clear hN hne
  obtain ⟨z, hz⟩ : ∃ z, L.length = z := ⟨_, rfl⟩
  rw [hz] at HNW HNR
  clear hz
  have Hm1 := Lib.hid (may_of Hs1.out hr1)
  have Hr1 := Lib.hid hr1
  have hk1 := (rightH_iff hr1).1
  have Hk1 := Lib.hid (show 0 ≤ k1 ∧ k1 ≤ 9223372036854775807 by omega)
  clear hr1 hk1
  obtain ⟨cf, hcf⟩ : ∃ c, l1.countP freeC = c := ⟨_, rfl⟩
  obtain ⟨f0, hf0⟩ : ∃ c, fitsH ⟨l1, k1⟩ n false = c := ⟨_, rfl⟩
  obtain ⟨f1, hf1⟩ : ∃ c, fitsH ⟨l1, k1⟩ n true = c := ⟨_, rfl⟩
  have Hcf := Lib.hid hcf
  have Hf0 := Lib.hid hf0
  have Hf1 := Lib.hid hf1
  clear hcf hf0 hf1
  go_enter Try.func3, Try.ntmps3
  go_wp2_with (go_at_call 9; refine stop_here ?_)
  refine stop_on ?_
  generalize hW : (World.alloc (World.alloc (World.alloc w _) _) _) = W4
  obtain ⟨hx, hb0, hb1, hb2⟩ := allocs3 hW
  clear hW
  have A_5 := Lib.hid (A_1.out.ext hx)
  have B_5 := Lib.hid (B_2.out.ext hx)
  have X_5 := Lib.hid (X_3.out.ext hx)
  clear A_1 B_2 X_3
  have wi_6 := Lib.hid hb0
  have a_7 := Lib.hid hb1
  have b_8 := Lib.hid hb2
  clear hx hb0 hb1 hb2
  refine (shown_any _).mono ?_
  rintro e w9 ⟨rfl, hx⟩
  have A_10 := Lib.hid (A_5.out.ext hx)
  have B_10 := Lib.hid (B_5.out.ext hx)
  have X_10 := Lib.hid (X_5.out.ext hx)
  have wi_10 := Lib.hid (wi_6.out.ext hx)
  have a_10 := Lib.hid (a_7.out.ext hx)
  have b_10 := Lib.hid (b_8.out.ext hx)
  clear A_5 B_5 X_5 wi_6 a_7 b_8
  clear hx
  have qwi0 : w9.cell? ⟨w.heap.size, 0, none⟩ = some (.slice R1 n1 q1) := wi_10.out.at 0 _ rfl
  have qwi1 : w9.cell? ⟨w.heap.size, 1, none⟩ = some (.int .i64 k1) := wi_10.out.at 1 _ rfl
  have qwi2 : w9.cell? ⟨w.heap.size, 2, none⟩ = some (.slice R2 n2 q2) := wi_10.out.at 2 _ rfl
  have qwi3 : w9.cell? ⟨w.heap.size, 3, none⟩ = some (.int .i64 k2) := wi_10.out.at 3 _ rfl
  have qwi4 : w9.cell? ⟨w.heap.size, 4, none⟩ = some (.int .i64 n) := wi_10.out.at 4 _ rfl
  have qwi5 : w9.cell? ⟨w.heap.size, 5, none⟩ = some (.int .i64 keep) := wi_10.out.at 5 _ rfl
  have zwi := wi_10.out.lt
  have qa0 : w9.cell? ⟨w.heap.size + 1, 0, none⟩ = some (.slice R1 n1 q1) := a_10.out.at 0 _ rfl
  have qa1 : w9.cell? ⟨w.heap.size + 1, 1, none⟩ = some (.int .i64 k1) := a_10.out.at 1 _ rfl
  have za := a_10.out.lt
  have qb0 : w9.cell? ⟨w.heap.size + 1 + 1, 0, none⟩ = some (.slice R2 n2 q2) := b_10.out.at 0 _ rfl
  have qb1 : w9.cell? ⟨w.heap.size + 1 + 1, 1, none⟩ = some (.int .i64 k2) := b_10.out.at 1 _ rfl
  have zb := b_10.out.lt
  go_wp2_with (go_at_call 10; refine stop_here ?_)
  refine stop_on ?_
  clear qwi0 qwi1 qwi2 qwi3 qwi4 qwi5 zwi qa0 qa1 za qb0 qb1 zb
  refine (ref05Small_is R1 l1 n1 q1 k1 60 _ A_10.out Hs1.out).mono ?_
  rintro e w11 ⟨rfl, hx⟩
  have A_12 := Lib.hid (A_10.out.ext hx)
  have B_12 := Lib.hid (B_10.out.ext hx)
  have X_12 := Lib.hid (X_10.out.ext hx)
  have wi_12 := Lib.hid (wi_10.out.ext hx)
  have a_12 := Lib.hid (a_10.out.ext hx)
  have b_12 := Lib.hid (b_10.out.ext hx)
  clear A_10 B_10 X_10 wi_10 a_10 b_10
  clear hx
  have zwi := wi_12.out.lt
  have qa0 : w11.cell? ⟨w.heap.size + 1, 0, none⟩ = some (.slice R1 n1 q1) := a_12.out.at 0 _ rfl
  have qa1 : w11.cell? ⟨w.heap.size + 1, 1, none⟩ = some (.int .i64 k1) := a_12.out.at 1 _ rfl
  have za := a_12.out.lt
  have qb0 : w11.cell? ⟨w.heap.size + 1 + 1, 0, none⟩ = some (.slice R2 n2 q2) := b_12.out.at 0 _ rfl
  have qb1 : w11.cell? ⟨w.heap.size + 1 + 1, 1, none⟩ = some (.int .i64 k2) := b_12.out.at 1 _ rfl
  have zb := b_12.out.lt
  go_wp2_with (go_at_call 10; refine stop_here ?_)
  refine stop_on ?_
  clear zwi qa0 qa1 za qb0 qb1 zb
  refine (ref05Small_is R2 l2 n2 q2 k2 60 _ B_12.out Hs2.out).mono ?_
  rintro e w13 ⟨rfl, hx⟩
  have A_14 := Lib.hid (A_12.out.ext hx)
  have B_14 := Lib.hid (B_12.out.ext hx)
  have X_14 := Lib.hid (X_12.out.ext hx)
  have wi_14 := Lib.hid (wi_12.out.ext hx)
  have a_14 := Lib.hid (a_12.out.ext hx)
  have b_14 := Lib.hid (b_12.out.ext hx)
  clear A_12 B_12 X_12 wi_12 a_12 b_12
  clear hx
  have zwi := wi_14.out.lt
  have qa0 : w13.cell? ⟨w.heap.size + 1, 0, none⟩ = some (.slice R1 n1 q1) := a_14.out.at 0 _ rfl
  have qa1 : w13.cell? ⟨w.heap.size + 1, 1, none⟩ = some (.int .i64 k1) := a_14.out.at 1 _ rfl
  have za := a_14.out.lt
  have qb0 : w13.cell? ⟨w.heap.size + 1 + 1, 0, none⟩ = some (.slice R2 n2 q2) := b_14.out.at 0 _ rfl
  have qb1 : w13.cell? ⟨w.heap.size + 1 + 1, 1, none⟩ = some (.int .i64 k2) := b_14.out.at 1 _ rfl
  have zb := b_14.out.lt
  go_wp2_with (go_at_call 11; refine stop_here ?_)
  refine stop_on ?_
  clear zwi qa0 qa1 za qb0 qb1 zb
  refine (HNW.out _).mono ?_
  rintro e w15 ⟨P, pc, rfl, h1, hx⟩
  have A_16 := Lib.hid (A_14.out.ext hx)
  have B_16 := Lib.hid (B_14.out.ext hx)
  have X_16 := Lib.hid (X_14.out.ext hx)
  have wi_16 := Lib.hid (wi_14.out.ext hx)
  have a_16 := Lib.hid (a_14.out.ext hx)
  have b_16 := Lib.hid (b_14.out.ext hx)
  clear A_14 B_14 X_14 wi_14 a_14 b_14
  have P_17 := Lib.hid h1
  clear hx h1
  have zwi := wi_16.out.lt
  have qa0 : w15.cell? ⟨w.heap.size + 1, 0, none⟩ = some (.slice R1 n1 q1) := a_16.out.at 0 _ rfl
  have qa1 : w15.cell? ⟨w.heap.size + 1, 1, none⟩ = some (.int .i64 k1) := a_16.out.at 1 _ rfl
  have za := a_16.out.lt
  have qb0 : w15.cell? ⟨w.heap.size + 1 + 1, 0, none⟩ = some (.slice R2 n2 q2) := b_16.out.at 0 _ rfl
  have qb1 : w15.cell? ⟨w.heap.size + 1 + 1, 1, none⟩ = some (.int .i64 k2) := b_16.out.at 1 _ rfl
  have zb := b_16.out.lt
  go_wp2_with (go_at_call 12; refine stop_here ?_)
  refine stop_on ?_
  clear zwi qa0 qa1 za qb0 qb1 zb
  generalize hW : (World.alloc w15 _) = W18
  obtain ⟨hx, hb0⟩ := allocs1 hW
  clear hW
  have A_19 := Lib.hid (A_16.out.ext hx)
  have B_19 := Lib.hid (B_16.out.ext hx)
  have X_19 := Lib.hid (X_16.out.ext hx)
  have wi_19 := Lib.hid (wi_16.out.ext hx)
  have a_19 := Lib.hid (a_16.out.ext hx)
  have b_19 := Lib.hid (b_16.out.ext hx)
  have P_19 := Lib.hid (P_17.out.ext hx)
  clear A_16 B_16 X_16 wi_16 a_16 b_16 P_17
  have p_20 := Lib.hid hb0
  clear hx hb0
  refine (HNR.out _).mono ?_
  rintro e w21 ⟨Q, qc, rfl, h1, hx⟩
  have A_22 := Lib.hid (A_19.out.ext hx)
  have B_22 := Lib.hid (B_19.out.ext hx)
  have X_22 := Lib.hid (X_19.out.ext hx)
  have wi_22 := Lib.hid (wi_19.out.ext hx)
  have a_22 := Lib.hid (a_19.out.ext hx)
  have b_22 := Lib.hid (b_19.out.ext hx)
  have P_22 := Lib.hid (P_19.out.ext hx)
  have p_22 := Lib.hid (p_20.out.ext hx)
  clear A_19 B_19 X_19 wi_19 a_19 b_19 P_19 p_20
  have Q_23 := Lib.hid h1
  clear hx h1
  have zwi := wi_22.out.lt
  have qa0 : w21.cell? ⟨w.heap.size + 1, 0, none⟩ = some (.slice R1 n1 q1) := a_22.out.at 0 _ rfl
  have qa1 : w21.cell? ⟨w.heap.size + 1, 1, none⟩ = some (.int .i64 k1) := a_22.out.at 1 _ rfl
  have za := a_22.out.lt
  have qb0 : w21.cell? ⟨w.heap.size + 1 + 1, 0, none⟩ = some (.slice R2 n2 q2) := b_22.out.at 0 _ rfl
  have qb1 : w21.cell? ⟨w.heap.size + 1 + 1, 1, none⟩ = some (.int .i64 k2) := b_22.out.at 1 _ rfl
  have zb := b_22.out.lt
  have qp0 : w21.cell? ⟨w15.heap.size, 0, none⟩ = some (.slice P z pc) := p_22.out.at 0 _ rfl
  have qp1 : w21.cell? ⟨w15.heap.size, 1, none⟩ = some (.int .i64 K) := p_22.out.at 1 _ rfl
  have zp := p_22.out.lt
  go_wp2_with (go_at_call 13; refine stop_here ?_)
  refine stop_on ?_
  clear zwi qa0 qa1 za qb0 qb1 zb qp0 qp1 zp
  generalize hW : (World.alloc w21 _) = W24
  obtain ⟨hx, hb0⟩ := allocs1 hW
  clear hW
  have A_25 := Lib.hid (A_22.out.ext hx)
  have B_25 := Lib.hid (B_22.out.ext hx)
  have X_25 := Lib.hid (X_22.out.ext hx)
  have wi_25 := Lib.hid (wi_22.out.ext hx)
  have a_25 := Lib.hid (a_22.out.ext hx)
  have b_25 := Lib.hid (b_22.out.ext hx)
  have P_25 := Lib.hid (P_22.out.ext hx)
  have p_25 := Lib.hid (p_22.out.ext hx)
  have Q_25 := Lib.hid (Q_23.out.ext hx)
  clear A_22 B_22 X_22 wi_22 a_22 b_22 P_22 p_22 Q_23
  have q_26 := Lib.hid hb0
  clear hx hb0
  refine (ref05Right_is R1 l1 n1 q1 k1 _ A_25.out Hr1.out).mono ?_
  rintro e w27 ⟨rfl, hx⟩
  have A_28 := Lib.hid (A_25.out.ext hx)
  have B_28 := Lib.hid (B_25.out.ext hx)
  have X_28 := Lib.hid (X_25.out.ext hx)
  have wi_28 := Lib.hid (wi_25.out.ext hx)
  have a_28 := Lib.hid (a_25.out.ext hx)
  have b_28 := Lib.hid (b_25.out.ext hx)
  have P_28 := Lib.hid (P_25.out.ext hx)
  have p_28 := Lib.hid (p_25.out.ext hx)
  have Q_28 := Lib.hid (Q_25.out.ext hx)
  have q_28 := Lib.hid (q_26.out.ext hx)
  clear A_25 B_25 X_25 wi_25 a_25 b_25 P_25 p_25 Q_25 q_26
  clear hx
  have zwi := wi_28.out.lt
  have qa0 : w27.cell? ⟨w.heap.size + 1, 0, none⟩ = some (.slice R1 n1 q1) := a_28.out.at 0 _ rfl
  have qa1 : w27.cell? ⟨w.heap.size + 1, 1, none⟩ = some (.int .i64 k1) := a_28.out.at 1 _ rfl
  have za := a_28.out.lt
  have qb0 : w27.cell? ⟨w.heap.size + 1 + 1, 0, none⟩ = some (.slice R2 n2 q2) := b_28.out.at 0 _ rfl
  have qb1 : w27.cell? ⟨w.heap.size + 1 + 1, 1, none⟩ = some (.int .i64 k2) := b_28.out.at 1 _ rfl
  have zb := b_28.out.lt
  have qp0 : w27.cell? ⟨w15.heap.size, 0, none⟩ = some (.slice P z pc) := p_28.out.at 0 _ rfl
  have qp1 : w27.cell? ⟨w15.heap.size, 1, none⟩ = some (.int .i64 K) := p_28.out.at 1 _ rfl
  have zp := p_28.out.lt
  have qq0 : w27.cell? ⟨w21.heap.size, 0, none⟩ = some (.slice Q z qc) := q_28.out.at 0 _ rfl
  have qq1 : w27.cell? ⟨w21.heap.size, 1, none⟩ = some (.int .i64 K) := q_28.out.at 1 _ rfl
  have zq := q_28.out.lt
  go_wp2_with (go_at_call 14; refine stop_here ?_)
  refine stop_on ?_
  clear zwi qa0 qa1 za qb0 qb1 zb qp0 qp1 zp qq0 qq1 zq
  refine (ref05Same_eq P Q L z pc qc K _ P_28.out Q_28.out).mono ?_
  rintro e w29 ⟨rfl, hx⟩
  have A_30 := Lib.hid (A_28.out.ext hx)
  have B_30 := Lib.hid (B_28.out.ext hx)
  have X_30 := Lib.hid (X_28.out.ext hx)
  have wi_30 := Lib.hid (wi_28.out.ext hx)
  have a_30 := Lib.hid (a_28.out.ext hx)
  have b_30 := Lib.hid (b_28.out.ext hx)
  have P_30 := Lib.hid (P_28.out.ext hx)
  have p_30 := Lib.hid (p_28.out.ext hx)
  have Q_30 := Lib.hid (Q_28.out.ext hx)
  have q_30 := Lib.hid (q_28.out.ext hx)
  clear A_28 B_28 X_28 wi_28 a_28 b_28 P_28 p_28 Q_28 q_28
  clear hx
  have zwi := wi_30.out.lt
  have qa0 : w29.cell? ⟨w.heap.size + 1, 0, none⟩ = some (.slice R1 n1 q1) := a_30.out.at 0 _ rfl
  have qa1 : w29.cell? ⟨w.heap.size + 1, 1, none⟩ = some (.int .i64 k1) := a_30.out.at 1 _ rfl
  have za := a_30.out.lt
  have qb0 : w29.cell? ⟨w.heap.size + 1 + 1, 0, none⟩ = some (.slice R2 n2 q2) := b_30.out.at 0 _ rfl
  have qb1 : w29.cell? ⟨w.heap.size + 1 + 1, 1, none⟩ = some (.int .i64 k2) := b_30.out.at 1 _ rfl
  have zb := b_30.out.lt
  have qp0 : w29.cell? ⟨w15.heap.size, 0, none⟩ = some (.slice P z pc) := p_30.out.at 0 _ rfl
  have qp1 : w29.cell? ⟨w15.heap.size, 1, none⟩ = some (.int .i64 K) := p_30.out.at 1 _ rfl
  have zp := p_30.out.lt
  have qq0 : w29.cell? ⟨w21.heap.size, 0, none⟩ = some (.slice Q z qc) := q_30.out.at 0 _ rfl
  have qq1 : w29.cell? ⟨w21.heap.size, 1, none⟩ = some (.int .i64 K) := q_30.out.at 1 _ rfl
  have zq := q_30.out.lt
  go_wp2_with (go_at_call 15; refine stop_here ?_)
  refine stop_on ?_
  clear zwi qa0 qa1 za qb0 qb1 zb qp0 qp1 zp qq0 qq1 zq
  refine (heapRight_is R1 l1 n1 q1 k1 _ Hs1.out A_30.out Hr1.out).mono ?_
  rintro e w31 ⟨rfl, hx⟩
  have A_32 := Lib.hid (A_30.out.ext hx)
  have B_32 := Lib.hid (B_30.out.ext hx)
  have X_32 := Lib.hid (X_30.out.ext hx)
  have wi_32 := Lib.hid (wi_30.out.ext hx)
  have a_32 := Lib.hid (a_30.out.ext hx)
  have b_32 := Lib.hid (b_30.out.ext hx)
  have P_32 := Lib.hid (P_30.out.ext hx)
  have p_32 := Lib.hid (p_30.out.ext hx)
  have Q_32 := Lib.hid (Q_30.out.ext hx)
  have q_32 := Lib.hid (q_30.out.ext hx)
  clear A_30 B_30 X_30 wi_30 a_30 b_30 P_30 p_30 Q_30 q_30
  clear hx
  have zwi := wi_32.out.lt
  have qa0 : w31.cell? ⟨w.heap.size + 1, 0, none⟩ = some (.slice R1 n1 q1) := a_32.out.at 0 _ rfl
  have qa1 : w31.cell? ⟨w.heap.size + 1, 1, none⟩ = some (.int .i64 k1) := a_32.out.at 1 _ rfl
  have za := a_32.out.lt
  have qb0 : w31.cell? ⟨w.heap.size + 1 + 1, 0, none⟩ = some (.slice R2 n2 q2) := b_32.out.at 0 _ rfl
  have qb1 : w31.cell? ⟨w.heap.size + 1 + 1, 1, none⟩ = some (.int .i64 k2) := b_32.out.at 1 _ rfl
  have zb := b_32.out.lt
  have qp0 : w31.cell? ⟨w15.heap.size, 0, none⟩ = some (.slice P z pc) := p_32.out.at 0 _ rfl
  have qp1 : w31.cell? ⟨w15.heap.size, 1, none⟩ = some (.int .i64 K) := p_32.out.at 1 _ rfl
  have zp := p_32.out.lt
  have qq0 : w31.cell? ⟨w21.heap.size, 0, none⟩ = some (.slice Q z qc) := q_32.out.at 0 _ rfl
  have qq1 : w31.cell? ⟨w21.heap.size, 1, none⟩ = some (.int .i64 K) := q_32.out.at 1 _ rfl
  have zq := q_32.out.lt
  clear P_32
  clear Q_32
  clear p_32
  clear q_32
  clear qp0 qp1 zp qq0 qq1 zq
  go_wp2_with fail
  have HG := Lib.hid (fun w' (hx : Ext w31 w') => ref05Right_is R2 l2 n2 q2 k2 w' (B_32.out.ext hx) Hr2.out)
  clear zwi qa0 qa1 za qb0 qb1 zb
  have qa0 : w31.cell? ⟨w.heap.size + 1, 0, none⟩ = some (.slice R1 n1 q1) := a_32.out.at 0 _ rfl
  have qa1 : w31.cell? ⟨w.heap.size + 1, 1, none⟩ = some (.int .i64 k1) := a_32.out.at 1 _ rfl
  have za := a_32.out.lt
  have qb0 : w31.cell? ⟨w.heap.size + 1 + 1, 0, none⟩ = some (.slice R2 n2 q2) := b_32.out.at 0 _ rfl
  have qb1 : w31.cell? ⟨w.heap.size + 1 + 1, 1, none⟩ = some (.int .i64 k2) := b_32.out.at 1 _ rfl
  have zb := b_32.out.lt
  go_cut [73] from 60 to 73 (fun v wx => v = .bool false ∧ Ext w31 wx)
  case first =>
    first
    | go_region_with
      (first
      | ((go_at_call 13
          refine (HG.out _ ?_).mono ?_
          (first | exact Ext.refl _ | exact (Ext.refl _).drew)
          rintro e wB ⟨rfl, hx⟩
          have hEB := Lib.hid (show Ext w31 wB from by first | exact hx | exact (Ext.refl w31).drew.trans hx)
          clear hx)))
    | fail
    all_goals
      go_wp2_with fail
      go_meet
      exact ⟨rfl, hEB.out⟩
  case rest =>
    obtain ⟨rfl, hx⟩ := hcut
    clear HG qa0 qa1 za qb0 qb1 zb
    have A_33 := Lib.hid (A_32.out.ext hx)
    have B_33 := Lib.hid (B_32.out.ext hx)
    have X_33 := Lib.hid (X_32.out.ext hx)
    have wi_33 := Lib.hid (wi_32.out.ext hx)
    have a_33 := Lib.hid (a_32.out.ext hx)
    have b_33 := Lib.hid (b_32.out.ext hx)
    clear A_32 B_32 X_32 wi_32 a_32 b_32
    have zwi := wi_33.out.lt
    have qa0 : wc.cell? ⟨w.heap.size + 1, 0, none⟩ = some (.slice R1 n1 q1) := a_33.out.at 0 _ rfl
    have qa1 : wc.cell? ⟨w.heap.size + 1, 1, none⟩ = some (.int .i64 k1) := a_33.out.at 1 _ rfl
    have za := a_33.out.lt
    have qb0 : wc.cell? ⟨w.heap.size + 1 + 1, 0, none⟩ = some (.slice R2 n2 q2) := b_33.out.at 0 _ rfl
    have qb1 : wc.cell? ⟨w.heap.size + 1 + 1, 1, none⟩ = some (.int .i64 k2) := b_33.out.at 1 _ rfl
    have zb := b_33.out.lt
    go_wp2_with fail
    have HK34 := Lib.hid (fun w' (hx : Ext wc w') => (show w'.cell? ⟨w.heap.size + 1, 0, none⟩ = some (.slice R1 n1 q1) ∧ w'.cell? ⟨w.heap.size + 1, 1, none⟩ = some (.int .i64 k1) from ⟨(a_33.out.ext hx).at 0 _ rfl, (a_33.out.ext hx).at 1 _ rfl⟩))
    have G34_0 := Lib.hid (fun w' (hx : Ext wc w') => heapFree_is R1 l1 n1 q1 k1 w' Hm1.out Hcf.out (A_33.out.ext hx))
    have G34_1 := Lib.hid (fun w' (hx : Ext wc w') => ref05Free_is R1 l1 n1 q1 k1 w' Hcf.out (A_33.out.ext hx))
    have G34_2 := Lib.hid (fun w' (hx : Ext wc w') => heapFits_is R1 l1 n1 q1 k1 w' n false Hm1.out Hf0.out (A_33.out.ext hx))
    have G34_3 := Lib.hid (fun w' (hx : Ext wc w') => ref05Fits_is R1 l1 n1 q1 k1 w' n false Hk1.out Hf0.out (A_33.out.ext hx))
    have G34_4 := Lib.hid (fun w' (hx : Ext wc w') => heapFits_is R1 l1 n1 q1 k1 w' n true Hm1.out Hf1.out (A_33.out.ext hx))
    have G34_5 := Lib.hid (fun w' (hx : Ext wc w') => ref05Fits_is R1 l1 n1 q1 k1 w' n true Hk1.out Hf1.out (A_33.out.ext hx))
    clear zwi qa0 qa1 za qb0 qb1 zb
    have qa0 : wc.cell? ⟨w.heap.size + 1, 0, none⟩ = some (.slice R1 n1 q1) := a_33.out.at 0 _ rfl
    have qa1 : wc.cell? ⟨w.heap.size + 1, 1, none⟩ = some (.int .i64 k1) := a_33.out.at 1 _ rfl
    have za := a_33.out.lt
    go_region_held3 (fun w' => w'.cell? ⟨w.heap.size + 1, 0, none⟩ = some (.slice R1 n1 q1) ∧ w'.cell? ⟨w.heap.size + 1, 1, none⟩ = some (.int .i64 k1))
      (first | exact HK34.out _ E34_5.out | exact HK34.out _ E34_4.out | exact HK34.out _ E34_3.out | exact HK34.out _ E34_2.out | exact HK34.out _ E34_1.out | exact HK34.out _ E34_0.out | exact HK34.out _ (Ext.refl wc).drew | exact HK34.out _ (Ext.refl wc))
      (first
        | ((go_at_call 20
            with_reducible refine (G34_5.out _ E34_4.out).mono ?_
            rintro e v34_5 ⟨rfl, hx⟩
            have E34_5 := Lib.hid (E34_4.out.trans hx)
            clear hx))
        | ((go_at_call 19
            with_reducible refine (G34_4.out _ E34_3.out).mono ?_
            rintro e v34_4 ⟨rfl, hx⟩
            have E34_4 := Lib.hid (E34_3.out.trans hx)
            clear hx))
        | ((go_at_call 20
            with_reducible refine (G34_3.out _ E34_2.out).mono ?_
            rintro e v34_3 ⟨rfl, hx⟩
            have E34_3 := Lib.hid (E34_2.out.trans hx)
            clear hx))
        | ((go_at_call 19
            with_reducible refine (G34_2.out _ E34_1.out).mono ?_
            rintro e v34_2 ⟨rfl, hx⟩
            have E34_2 := Lib.hid (E34_1.out.trans hx)
            clear hx))
        | ((go_at_call 18
            with_reducible refine (G34_1.out _ E34_0.out).mono ?_
            rintro e v34_1 ⟨rfl, hx⟩
            have E34_1 := Lib.hid (E34_0.out.trans hx)
            clear hx))
        | ((go_at_call 17
            with_reducible refine (G34_0.out _ ?_).mono ?_
            (first | exact Ext.refl _ | exact (Ext.refl _).drew)
            rintro e v34_0 ⟨rfl, hx⟩
            have E34_0 := Lib.hid (show Ext wc v34_0 from by first | exact hx | exact (Ext.refl wc).drew.trans hx)
            clear hx)))
    clear qa0 qa1 za
    go_wp2
    go_ret
    exact ⟨rfl, X_33.out.trans E34_5.out⟩
end Go.Proofs.Ytclpeeemnmhdcaa
