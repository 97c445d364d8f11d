/- The walk of HeapTells, where nothing is right. -/
import Derived.Test.YtclpeeemnmhdcaaHeapN
import Derived.Deep.AppendLies
import Derived.Deep.RegionHeld3
import Derived.Deep.DeepCutAuto
import Derived.Deep.DrawnRows
import Derived.RegionTactic
namespace Go.Proofs.Ytclpeeemnmhdcaa
open Go.RowKit
attribute [local go_sem ↓] Go.wp_at_zero Go.wp_at_succ

attribute [local go_sem] beq_self_eq_true
set_option maxRecDepth 100000 in
set_option maxHeartbeats 8000000 in
theorem tells_a (R1 R2 : Option Addr) (l1 l2 : List HC) (n1 n2 q1 q2 : Nat) (k1 k2 n keep : Int) (w : World) (hA : HcSl w R1 n1 q1 l1) (hB : HcSl w R2 n2 q2 l2) (hr : smallH ⟨l1, k1⟩ 60 = false ∨ smallH ⟨l2, k2⟩ 60 = false ∨ rightH ⟨l1, k1⟩ = false) :
    Calls Try.prog 3 #[.agg #[.slice R1 n1 q1, .int .i64 k1, .slice R2 n2 q2, .int .i64 k2, .int .i64 n, .int .i64 keep]] w fun e w' => e = .returned (.bool true) ∧ Ext w w' := by
  have A_1 := Lib.hid (hA)
  have B_2 := Lib.hid (hB)
  have X_3 := Lib.hid (Ext.refl w)
  clear hA hB
  cases hs1 : smallH ⟨l1, k1⟩ 60
  · have Hs1 := Lib.hid hs1
    clear hs1 hr
    go_enter Try.func3, Try.ntmps3
    go_wp2_with (go_at_call 9; refine stop_here ?_)
    refine stop_on ?_
    generalize hW : (World.alloc (World.alloc (World.alloc w _) _) _) = W4
    obtain ⟨hx, hb0, hb1, hb2⟩ := allocs3 hW
    clear hW
    have A_5 := Lib.hid (A_1.out.ext hx)
    have B_5 := Lib.hid (B_2.out.ext hx)
    have X_5 := Lib.hid (X_3.out.ext hx)
    clear A_1 B_2 X_3
    have wi_6 := Lib.hid hb0
    have a_7 := Lib.hid hb1
    have b_8 := Lib.hid hb2
    clear hx hb0 hb1 hb2
    refine (shown_any _).mono ?_
    rintro e w9 ⟨rfl, hx⟩
    have A_10 := Lib.hid (A_5.out.ext hx)
    have B_10 := Lib.hid (B_5.out.ext hx)
    have X_10 := Lib.hid (X_5.out.ext hx)
    have wi_10 := Lib.hid (wi_6.out.ext hx)
    have a_10 := Lib.hid (a_7.out.ext hx)
    have b_10 := Lib.hid (b_8.out.ext hx)
    clear A_5 B_5 X_5 wi_6 a_7 b_8
    clear hx
    have qwi0 : w9.cell? ⟨w.heap.size, 0, none⟩ = some (.slice R1 n1 q1) := wi_10.out.at 0 _ rfl
    have qwi1 : w9.cell? ⟨w.heap.size, 1, none⟩ = some (.int .i64 k1) := wi_10.out.at 1 _ rfl
    have qwi2 : w9.cell? ⟨w.heap.size, 2, none⟩ = some (.slice R2 n2 q2) := wi_10.out.at 2 _ rfl
    have qwi3 : w9.cell? ⟨w.heap.size, 3, none⟩ = some (.int .i64 k2) := wi_10.out.at 3 _ rfl
    have qwi4 : w9.cell? ⟨w.heap.size, 4, none⟩ = some (.int .i64 n) := wi_10.out.at 4 _ rfl
    have qwi5 : w9.cell? ⟨w.heap.size, 5, none⟩ = some (.int .i64 keep) := wi_10.out.at 5 _ rfl
    have zwi := wi_10.out.lt
    have qa0 : w9.cell? ⟨w.heap.size + 1, 0, none⟩ = some (.slice R1 n1 q1) := a_10.out.at 0 _ rfl
    have qa1 : w9.cell? ⟨w.heap.size + 1, 1, none⟩ = some (.int .i64 k1) := a_10.out.at 1 _ rfl
    have za := a_10.out.lt
    have qb0 : w9.cell? ⟨w.heap.size + 1 + 1, 0, none⟩ = some (.slice R2 n2 q2) := b_10.out.at 0 _ rfl
    have qb1 : w9.cell? ⟨w.heap.size + 1 + 1, 1, none⟩ = some (.int .i64 k2) := b_10.out.at 1 _ rfl
    have zb := b_10.out.lt
    go_wp2_with (go_at_call 10; refine stop_here ?_)
    refine stop_on ?_
    clear qwi0 qwi1 qwi2 qwi3 qwi4 qwi5 zwi qa0 qa1 za qb0 qb1 zb
    refine (ref05Small_is R1 l1 n1 q1 k1 60 _ A_10.out Hs1.out).mono ?_
    rintro e w11 ⟨rfl, hx⟩
    have A_12 := Lib.hid (A_10.out.ext hx)
    have B_12 := Lib.hid (B_10.out.ext hx)
    have X_12 := Lib.hid (X_10.out.ext hx)
    have wi_12 := Lib.hid (wi_10.out.ext hx)
    have a_12 := Lib.hid (a_10.out.ext hx)
    have b_12 := Lib.hid (b_10.out.ext hx)
    clear A_10 B_10 X_10 wi_10 a_10 b_10
    clear hx
    have zwi := wi_12.out.lt
    have qa0 : w11.cell? ⟨w.heap.size + 1, 0, none⟩ = some (.slice R1 n1 q1) := a_12.out.at 0 _ rfl
    have qa1 : w11.cell? ⟨w.heap.size + 1, 1, none⟩ = some (.int .i64 k1) := a_12.out.at 1 _ rfl
    have za := a_12.out.lt
    have qb0 : w11.cell? ⟨w.heap.size + 1 + 1, 0, none⟩ = some (.slice R2 n2 q2) := b_12.out.at 0 _ rfl
    have qb1 : w11.cell? ⟨w.heap.size + 1 + 1, 1, none⟩ = some (.int .i64 k2) := b_12.out.at 1 _ rfl
    have zb := b_12.out.lt
    go_wp2
    go_ret
    exact ⟨rfl, X_12.out⟩
  have Hs1 := Lib.hid hs1
  cases hs2 : smallH ⟨l2, k2⟩ 60
  · have Hs2 := Lib.hid hs2
    clear hs2 hs1 hr
    go_enter Try.func3, Try.ntmps3
    go_wp2_with (go_at_call 9; refine stop_here ?_)
    refine stop_on ?_
    generalize hW : (World.alloc (World.alloc (World.alloc w _) _) _) = W13
    obtain ⟨hx, hb0, hb1, hb2⟩ := allocs3 hW
    clear hW
    have A_14 := Lib.hid (A_1.out.ext hx)
    have B_14 := Lib.hid (B_2.out.ext hx)
    have X_14 := Lib.hid (X_3.out.ext hx)
    clear A_1 B_2 X_3
    have wi_15 := Lib.hid hb0
    have a_16 := Lib.hid hb1
    have b_17 := Lib.hid hb2
    clear hx hb0 hb1 hb2
    refine (shown_any _).mono ?_
    rintro e w18 ⟨rfl, hx⟩
    have A_19 := Lib.hid (A_14.out.ext hx)
    have B_19 := Lib.hid (B_14.out.ext hx)
    have X_19 := Lib.hid (X_14.out.ext hx)
    have wi_19 := Lib.hid (wi_15.out.ext hx)
    have a_19 := Lib.hid (a_16.out.ext hx)
    have b_19 := Lib.hid (b_17.out.ext hx)
    clear A_14 B_14 X_14 wi_15 a_16 b_17
    clear hx
    have qwi0 : w18.cell? ⟨w.heap.size, 0, none⟩ = some (.slice R1 n1 q1) := wi_19.out.at 0 _ rfl
    have qwi1 : w18.cell? ⟨w.heap.size, 1, none⟩ = some (.int .i64 k1) := wi_19.out.at 1 _ rfl
    have qwi2 : w18.cell? ⟨w.heap.size, 2, none⟩ = some (.slice R2 n2 q2) := wi_19.out.at 2 _ rfl
    have qwi3 : w18.cell? ⟨w.heap.size, 3, none⟩ = some (.int .i64 k2) := wi_19.out.at 3 _ rfl
    have qwi4 : w18.cell? ⟨w.heap.size, 4, none⟩ = some (.int .i64 n) := wi_19.out.at 4 _ rfl
    have qwi5 : w18.cell? ⟨w.heap.size, 5, none⟩ = some (.int .i64 keep) := wi_19.out.at 5 _ rfl
    have zwi := wi_19.out.lt
    have qa0 : w18.cell? ⟨w.heap.size + 1, 0, none⟩ = some (.slice R1 n1 q1) := a_19.out.at 0 _ rfl
    have qa1 : w18.cell? ⟨w.heap.size + 1, 1, none⟩ = some (.int .i64 k1) := a_19.out.at 1 _ rfl
    have za := a_19.out.lt
    have qb0 : w18.cell? ⟨w.heap.size + 1 + 1, 0, none⟩ = some (.slice R2 n2 q2) := b_19.out.at 0 _ rfl
    have qb1 : w18.cell? ⟨w.heap.size + 1 + 1, 1, none⟩ = some (.int .i64 k2) := b_19.out.at 1 _ rfl
    have zb := b_19.out.lt
    go_wp2_with (go_at_call 10; refine stop_here ?_)
    refine stop_on ?_
    clear qwi0 qwi1 qwi2 qwi3 qwi4 qwi5 zwi qa0 qa1 za qb0 qb1 zb
    refine (ref05Small_is R1 l1 n1 q1 k1 60 _ A_19.out Hs1.out).mono ?_
    rintro e w20 ⟨rfl, hx⟩
    have A_21 := Lib.hid (A_19.out.ext hx)
    have B_21 := Lib.hid (B_19.out.ext hx)
    have X_21 := Lib.hid (X_19.out.ext hx)
    have wi_21 := Lib.hid (wi_19.out.ext hx)
    have a_21 := Lib.hid (a_19.out.ext hx)
    have b_21 := Lib.hid (b_19.out.ext hx)
    clear A_19 B_19 X_19 wi_19 a_19 b_19
    clear hx
    have zwi := wi_21.out.lt
    have qa0 : w20.cell? ⟨w.heap.size + 1, 0, none⟩ = some (.slice R1 n1 q1) := a_21.out.at 0 _ rfl
    have qa1 : w20.cell? ⟨w.heap.size + 1, 1, none⟩ = some (.int .i64 k1) := a_21.out.at 1 _ rfl
    have za := a_21.out.lt
    have qb0 : w20.cell? ⟨w.heap.size + 1 + 1, 0, none⟩ = some (.slice R2 n2 q2) := b_21.out.at 0 _ rfl
    have qb1 : w20.cell? ⟨w.heap.size + 1 + 1, 1, none⟩ = some (.int .i64 k2) := b_21.out.at 1 _ rfl
    have zb := b_21.out.lt
    go_wp2_with (go_at_call 10; refine stop_here ?_)
    refine stop_on ?_
    clear zwi qa0 qa1 za qb0 qb1 zb
    refine (ref05Small_is R2 l2 n2 q2 k2 60 _ B_21.out Hs2.out).mono ?_
    rintro e w22 ⟨rfl, hx⟩
    have A_23 := Lib.hid (A_21.out.ext hx)
    have B_23 := Lib.hid (B_21.out.ext hx)
    have X_23 := Lib.hid (X_21.out.ext hx)
    have wi_23 := Lib.hid (wi_21.out.ext hx)
    have a_23 := Lib.hid (a_21.out.ext hx)
    have b_23 := Lib.hid (b_21.out.ext hx)
    clear A_21 B_21 X_21 wi_21 a_21 b_21
    clear hx
    have zwi := wi_23.out.lt
    have qa0 : w22.cell? ⟨w.heap.size + 1, 0, none⟩ = some (.slice R1 n1 q1) := a_23.out.at 0 _ rfl
    have qa1 : w22.cell? ⟨w.heap.size + 1, 1, none⟩ = some (.int .i64 k1) := a_23.out.at 1 _ rfl
    have za := a_23.out.lt
    have qb0 : w22.cell? ⟨w.heap.size + 1 + 1, 0, none⟩ = some (.slice R2 n2 q2) := b_23.out.at 0 _ rfl
    have qb1 : w22.cell? ⟨w.heap.size + 1 + 1, 1, none⟩ = some (.int .i64 k2) := b_23.out.at 1 _ rfl
    have zb := b_23.out.lt
    go_wp2
    go_ret
    exact ⟨rfl, X_23.out⟩
  have Hs2 := Lib.hid hs2
  have hr1 : rightH ⟨l1, k1⟩ = false := by simpa [hs1, hs2] using hr
  have Hr1 := Lib.hid hr1
  clear hs1 hs2 hr hr1
  obtain ⟨N, hN⟩ : ∃ N, newH n keep = N := ⟨_, rfl⟩
  obtain ⟨ne, hne⟩ : ∃ e, newHE n keep = e := ⟨_, rfl⟩
  have HNW := Lib.hid (fun w' => heapNew_any n keep w')
  have HNR := Lib.hid (fun w' => ref05New_any n keep w')
  rw [hN, hne] at HNW HNR
  obtain ⟨L, K⟩ := N
  simp only at HNW HNR
  clear hN hne
  obtain ⟨z, hz⟩ : ∃ z, L.length = z := ⟨_, rfl⟩
  rw [hz] at HNW HNR
  clear hz
  go_enter Try.func3, Try.ntmps3
  go_wp2_with (go_at_call 9; refine stop_here ?_)
  refine stop_on ?_
  generalize hW : (World.alloc (World.alloc (World.alloc w _) _) _) = W24
  obtain ⟨hx, hb0, hb1, hb2⟩ := allocs3 hW
  clear hW
  have A_25 := Lib.hid (A_1.out.ext hx)
  have B_25 := Lib.hid (B_2.out.ext hx)
  have X_25 := Lib.hid (X_3.out.ext hx)
  clear A_1 B_2 X_3
  have wi_26 := Lib.hid hb0
  have a_27 := Lib.hid hb1
  have b_28 := Lib.hid hb2
  clear hx hb0 hb1 hb2
  refine (shown_any _).mono ?_
  rintro e w29 ⟨rfl, hx⟩
  have A_30 := Lib.hid (A_25.out.ext hx)
  have B_30 := Lib.hid (B_25.out.ext hx)
  have X_30 := Lib.hid (X_25.out.ext hx)
  have wi_30 := Lib.hid (wi_26.out.ext hx)
  have a_30 := Lib.hid (a_27.out.ext hx)
  have b_30 := Lib.hid (b_28.out.ext hx)
  clear A_25 B_25 X_25 wi_26 a_27 b_28
  clear hx
  have qwi0 : w29.cell? ⟨w.heap.size, 0, none⟩ = some (.slice R1 n1 q1) := wi_30.out.at 0 _ rfl
  have qwi1 : w29.cell? ⟨w.heap.size, 1, none⟩ = some (.int .i64 k1) := wi_30.out.at 1 _ rfl
  have qwi2 : w29.cell? ⟨w.heap.size, 2, none⟩ = some (.slice R2 n2 q2) := wi_30.out.at 2 _ rfl
  have qwi3 : w29.cell? ⟨w.heap.size, 3, none⟩ = some (.int .i64 k2) := wi_30.out.at 3 _ rfl
  have qwi4 : w29.cell? ⟨w.heap.size, 4, none⟩ = some (.int .i64 n) := wi_30.out.at 4 _ rfl
  have qwi5 : w29.cell? ⟨w.heap.size, 5, none⟩ = some (.int .i64 keep) := wi_30.out.at 5 _ rfl
  have zwi := wi_30.out.lt
  have qa0 : w29.cell? ⟨w.heap.size + 1, 0, none⟩ = some (.slice R1 n1 q1) := a_30.out.at 0 _ rfl
  have qa1 : w29.cell? ⟨w.heap.size + 1, 1, none⟩ = some (.int .i64 k1) := a_30.out.at 1 _ rfl
  have za := a_30.out.lt
  have qb0 : w29.cell? ⟨w.heap.size + 1 + 1, 0, none⟩ = some (.slice R2 n2 q2) := b_30.out.at 0 _ rfl
  have qb1 : w29.cell? ⟨w.heap.size + 1 + 1, 1, none⟩ = some (.int .i64 k2) := b_30.out.at 1 _ rfl
  have zb := b_30.out.lt
  go_wp2_with (go_at_call 10; refine stop_here ?_)
  refine stop_on ?_
  clear qwi0 qwi1 qwi2 qwi3 qwi4 qwi5 zwi qa0 qa1 za qb0 qb1 zb
  refine (ref05Small_is R1 l1 n1 q1 k1 60 _ A_30.out Hs1.out).mono ?_
  rintro e w31 ⟨rfl, hx⟩
  have A_32 := Lib.hid (A_30.out.ext hx)
  have B_32 := Lib.hid (B_30.out.ext hx)
  have X_32 := Lib.hid (X_30.out.ext hx)
  have wi_32 := Lib.hid (wi_30.out.ext hx)
  have a_32 := Lib.hid (a_30.out.ext hx)
  have b_32 := Lib.hid (b_30.out.ext hx)
  clear A_30 B_30 X_30 wi_30 a_30 b_30
  clear hx
  have zwi := wi_32.out.lt
  have qa0 : w31.cell? ⟨w.heap.size + 1, 0, none⟩ = some (.slice R1 n1 q1) := a_32.out.at 0 _ rfl
  have qa1 : w31.cell? ⟨w.heap.size + 1, 1, none⟩ = some (.int .i64 k1) := a_32.out.at 1 _ rfl
  have za := a_32.out.lt
  have qb0 : w31.cell? ⟨w.heap.size + 1 + 1, 0, none⟩ = some (.slice R2 n2 q2) := b_32.out.at 0 _ rfl
  have qb1 : w31.cell? ⟨w.heap.size + 1 + 1, 1, none⟩ = some (.int .i64 k2) := b_32.out.at 1 _ rfl
  have zb := b_32.out.lt
  go_wp2_with (go_at_call 10; refine stop_here ?_)
  refine stop_on ?_
  clear zwi qa0 qa1 za qb0 qb1 zb
  refine (ref05Small_is R2 l2 n2 q2 k2 60 _ B_32.out Hs2.out).mono ?_
  rintro e w33 ⟨rfl, hx⟩
  have A_34 := Lib.hid (A_32.out.ext hx)
  have B_34 := Lib.hid (B_32.out.ext hx)
  have X_34 := Lib.hid (X_32.out.ext hx)
  have wi_34 := Lib.hid (wi_32.out.ext hx)
  have a_34 := Lib.hid (a_32.out.ext hx)
  have b_34 := Lib.hid (b_32.out.ext hx)
  clear A_32 B_32 X_32 wi_32 a_32 b_32
  clear hx
  have zwi := wi_34.out.lt
  have qa0 : w33.cell? ⟨w.heap.size + 1, 0, none⟩ = some (.slice R1 n1 q1) := a_34.out.at 0 _ rfl
  have qa1 : w33.cell? ⟨w.heap.size + 1, 1, none⟩ = some (.int .i64 k1) := a_34.out.at 1 _ rfl
  have za := a_34.out.lt
  have qb0 : w33.cell? ⟨w.heap.size + 1 + 1, 0, none⟩ = some (.slice R2 n2 q2) := b_34.out.at 0 _ rfl
  have qb1 : w33.cell? ⟨w.heap.size + 1 + 1, 1, none⟩ = some (.int .i64 k2) := b_34.out.at 1 _ rfl
  have zb := b_34.out.lt
  go_wp2_with (go_at_call 11; refine stop_here ?_)
  refine stop_on ?_
  clear zwi qa0 qa1 za qb0 qb1 zb
  refine (HNW.out _).mono ?_
  rintro e w35 ⟨P, pc, rfl, h1, hx⟩
  have A_36 := Lib.hid (A_34.out.ext hx)
  have B_36 := Lib.hid (B_34.out.ext hx)
  have X_36 := Lib.hid (X_34.out.ext hx)
  have wi_36 := Lib.hid (wi_34.out.ext hx)
  have a_36 := Lib.hid (a_34.out.ext hx)
  have b_36 := Lib.hid (b_34.out.ext hx)
  clear A_34 B_34 X_34 wi_34 a_34 b_34
  have P_37 := Lib.hid h1
  clear hx h1
  have zwi := wi_36.out.lt
  have qa0 : w35.cell? ⟨w.heap.size + 1, 0, none⟩ = some (.slice R1 n1 q1) := a_36.out.at 0 _ rfl
  have qa1 : w35.cell? ⟨w.heap.size + 1, 1, none⟩ = some (.int .i64 k1) := a_36.out.at 1 _ rfl
  have za := a_36.out.lt
  have qb0 : w35.cell? ⟨w.heap.size + 1 + 1, 0, none⟩ = some (.slice R2 n2 q2) := b_36.out.at 0 _ rfl
  have qb1 : w35.cell? ⟨w.heap.size + 1 + 1, 1, none⟩ = some (.int .i64 k2) := b_36.out.at 1 _ rfl
  have zb := b_36.out.lt
  go_wp2_with (go_at_call 12; refine stop_here ?_)
  refine stop_on ?_
  clear zwi qa0 qa1 za qb0 qb1 zb
  generalize hW : (World.alloc w35 _) = W38
  obtain ⟨hx, hb0⟩ := allocs1 hW
  clear hW
  have A_39 := Lib.hid (A_36.out.ext hx)
  have B_39 := Lib.hid (B_36.out.ext hx)
  have X_39 := Lib.hid (X_36.out.ext hx)
  have wi_39 := Lib.hid (wi_36.out.ext hx)
  have a_39 := Lib.hid (a_36.out.ext hx)
  have b_39 := Lib.hid (b_36.out.ext hx)
  have P_39 := Lib.hid (P_37.out.ext hx)
  clear A_36 B_36 X_36 wi_36 a_36 b_36 P_37
  have p_40 := Lib.hid hb0
  clear hx hb0
  refine (HNR.out _).mono ?_
  rintro e w41 ⟨Q, qc, rfl, h1, hx⟩
  have A_42 := Lib.hid (A_39.out.ext hx)
  have B_42 := Lib.hid (B_39.out.ext hx)
  have X_42 := Lib.hid (X_39.out.ext hx)
  have wi_42 := Lib.hid (wi_39.out.ext hx)
  have a_42 := Lib.hid (a_39.out.ext hx)
  have b_42 := Lib.hid (b_39.out.ext hx)
  have P_42 := Lib.hid (P_39.out.ext hx)
  have p_42 := Lib.hid (p_40.out.ext hx)
  clear A_39 B_39 X_39 wi_39 a_39 b_39 P_39 p_40
  have Q_43 := Lib.hid h1
  clear hx h1
  have zwi := wi_42.out.lt
  have qa0 : w41.cell? ⟨w.heap.size + 1, 0, none⟩ = some (.slice R1 n1 q1) := a_42.out.at 0 _ rfl
  have qa1 : w41.cell? ⟨w.heap.size + 1, 1, none⟩ = some (.int .i64 k1) := a_42.out.at 1 _ rfl
  have za := a_42.out.lt
  have qb0 : w41.cell? ⟨w.heap.size + 1 + 1, 0, none⟩ = some (.slice R2 n2 q2) := b_42.out.at 0 _ rfl
  have qb1 : w41.cell? ⟨w.heap.size + 1 + 1, 1, none⟩ = some (.int .i64 k2) := b_42.out.at 1 _ rfl
  have zb := b_42.out.lt
  have qp0 : w41.cell? ⟨w35.heap.size, 0, none⟩ = some (.slice P z pc) := p_42.out.at 0 _ rfl
  have qp1 : w41.cell? ⟨w35.heap.size, 1, none⟩ = some (.int .i64 K) := p_42.out.at 1 _ rfl
  have zp := p_42.out.lt
  go_wp2_with (go_at_call 13; refine stop_here ?_)
  refine stop_on ?_
  clear zwi qa0 qa1 za qb0 qb1 zb qp0 qp1 zp
  generalize hW : (World.alloc w41 _) = W44
  obtain ⟨hx, hb0⟩ := allocs1 hW
  clear hW
  have A_45 := Lib.hid (A_42.out.ext hx)
  have B_45 := Lib.hid (B_42.out.ext hx)
  have X_45 := Lib.hid (X_42.out.ext hx)
  have wi_45 := Lib.hid (wi_42.out.ext hx)
  have a_45 := Lib.hid (a_42.out.ext hx)
  have b_45 := Lib.hid (b_42.out.ext hx)
  have P_45 := Lib.hid (P_42.out.ext hx)
  have p_45 := Lib.hid (p_42.out.ext hx)
  have Q_45 := Lib.hid (Q_43.out.ext hx)
  clear A_42 B_42 X_42 wi_42 a_42 b_42 P_42 p_42 Q_43
  have q_46 := Lib.hid hb0
  clear hx hb0
  refine (ref05Right_is R1 l1 n1 q1 k1 _ A_45.out Hr1.out).mono ?_
  rintro e w47 ⟨rfl, hx⟩
  have A_48 := Lib.hid (A_45.out.ext hx)
  have B_48 := Lib.hid (B_45.out.ext hx)
  have X_48 := Lib.hid (X_45.out.ext hx)
  have wi_48 := Lib.hid (wi_45.out.ext hx)
  have a_48 := Lib.hid (a_45.out.ext hx)
  have b_48 := Lib.hid (b_45.out.ext hx)
  have P_48 := Lib.hid (P_45.out.ext hx)
  have p_48 := Lib.hid (p_45.out.ext hx)
  have Q_48 := Lib.hid (Q_45.out.ext hx)
  have q_48 := Lib.hid (q_46.out.ext hx)
  clear A_45 B_45 X_45 wi_45 a_45 b_45 P_45 p_45 Q_45 q_46
  clear hx
  have zwi := wi_48.out.lt
  have qa0 : w47.cell? ⟨w.heap.size + 1, 0, none⟩ = some (.slice R1 n1 q1) := a_48.out.at 0 _ rfl
  have qa1 : w47.cell? ⟨w.heap.size + 1, 1, none⟩ = some (.int .i64 k1) := a_48.out.at 1 _ rfl
  have za := a_48.out.lt
  have qb0 : w47.cell? ⟨w.heap.size + 1 + 1, 0, none⟩ = some (.slice R2 n2 q2) := b_48.out.at 0 _ rfl
  have qb1 : w47.cell? ⟨w.heap.size + 1 + 1, 1, none⟩ = some (.int .i64 k2) := b_48.out.at 1 _ rfl
  have zb := b_48.out.lt
  have qp0 : w47.cell? ⟨w35.heap.size, 0, none⟩ = some (.slice P z pc) := p_48.out.at 0 _ rfl
  have qp1 : w47.cell? ⟨w35.heap.size, 1, none⟩ = some (.int .i64 K) := p_48.out.at 1 _ rfl
  have zp := p_48.out.lt
  have qq0 : w47.cell? ⟨w41.heap.size, 0, none⟩ = some (.slice Q z qc) := q_48.out.at 0 _ rfl
  have qq1 : w47.cell? ⟨w41.heap.size, 1, none⟩ = some (.int .i64 K) := q_48.out.at 1 _ rfl
  have zq := q_48.out.lt
  go_wp2_with (go_at_call 14; refine stop_here ?_)
  refine stop_on ?_
  clear zwi qa0 qa1 za qb0 qb1 zb qp0 qp1 zp qq0 qq1 zq
  refine (ref05Same_eq P Q L z pc qc K _ P_48.out Q_48.out).mono ?_
  rintro e w49 ⟨rfl, hx⟩
  have A_50 := Lib.hid (A_48.out.ext hx)
  have B_50 := Lib.hid (B_48.out.ext hx)
  have X_50 := Lib.hid (X_48.out.ext hx)
  have wi_50 := Lib.hid (wi_48.out.ext hx)
  have a_50 := Lib.hid (a_48.out.ext hx)
  have b_50 := Lib.hid (b_48.out.ext hx)
  have P_50 := Lib.hid (P_48.out.ext hx)
  have p_50 := Lib.hid (p_48.out.ext hx)
  have Q_50 := Lib.hid (Q_48.out.ext hx)
  have q_50 := Lib.hid (q_48.out.ext hx)
  clear A_48 B_48 X_48 wi_48 a_48 b_48 P_48 p_48 Q_48 q_48
  clear hx
  have zwi := wi_50.out.lt
  have qa0 : w49.cell? ⟨w.heap.size + 1, 0, none⟩ = some (.slice R1 n1 q1) := a_50.out.at 0 _ rfl
  have qa1 : w49.cell? ⟨w.heap.size + 1, 1, none⟩ = some (.int .i64 k1) := a_50.out.at 1 _ rfl
  have za := a_50.out.lt
  have qb0 : w49.cell? ⟨w.heap.size + 1 + 1, 0, none⟩ = some (.slice R2 n2 q2) := b_50.out.at 0 _ rfl
  have qb1 : w49.cell? ⟨w.heap.size + 1 + 1, 1, none⟩ = some (.int .i64 k2) := b_50.out.at 1 _ rfl
  have zb := b_50.out.lt
  have qp0 : w49.cell? ⟨w35.heap.size, 0, none⟩ = some (.slice P z pc) := p_50.out.at 0 _ rfl
  have qp1 : w49.cell? ⟨w35.heap.size, 1, none⟩ = some (.int .i64 K) := p_50.out.at 1 _ rfl
  have zp := p_50.out.lt
  have qq0 : w49.cell? ⟨w41.heap.size, 0, none⟩ = some (.slice Q z qc) := q_50.out.at 0 _ rfl
  have qq1 : w49.cell? ⟨w41.heap.size, 1, none⟩ = some (.int .i64 K) := q_50.out.at 1 _ rfl
  have zq := q_50.out.lt
  go_wp2_with (go_at_call 15; refine stop_here ?_)
  refine stop_on ?_
  clear zwi qa0 qa1 za qb0 qb1 zb qp0 qp1 zp qq0 qq1 zq
  refine (heapRight_is R1 l1 n1 q1 k1 _ Hs1.out A_50.out Hr1.out).mono ?_
  rintro e w51 ⟨rfl, hx⟩
  have A_52 := Lib.hid (A_50.out.ext hx)
  have B_52 := Lib.hid (B_50.out.ext hx)
  have X_52 := Lib.hid (X_50.out.ext hx)
  have wi_52 := Lib.hid (wi_50.out.ext hx)
  have a_52 := Lib.hid (a_50.out.ext hx)
  have b_52 := Lib.hid (b_50.out.ext hx)
  have P_52 := Lib.hid (P_50.out.ext hx)
  have p_52 := Lib.hid (p_50.out.ext hx)
  have Q_52 := Lib.hid (Q_50.out.ext hx)
  have q_52 := Lib.hid (q_50.out.ext hx)
  clear A_50 B_50 X_50 wi_50 a_50 b_50 P_50 p_50 Q_50 q_50
  clear hx
  have zwi := wi_52.out.lt
  have qa0 : w51.cell? ⟨w.heap.size + 1, 0, none⟩ = some (.slice R1 n1 q1) := a_52.out.at 0 _ rfl
  have qa1 : w51.cell? ⟨w.heap.size + 1, 1, none⟩ = some (.int .i64 k1) := a_52.out.at 1 _ rfl
  have za := a_52.out.lt
  have qb0 : w51.cell? ⟨w.heap.size + 1 + 1, 0, none⟩ = some (.slice R2 n2 q2) := b_52.out.at 0 _ rfl
  have qb1 : w51.cell? ⟨w.heap.size + 1 + 1, 1, none⟩ = some (.int .i64 k2) := b_52.out.at 1 _ rfl
  have zb := b_52.out.lt
  have qp0 : w51.cell? ⟨w35.heap.size, 0, none⟩ = some (.slice P z pc) := p_52.out.at 0 _ rfl
  have qp1 : w51.cell? ⟨w35.heap.size, 1, none⟩ = some (.int .i64 K) := p_52.out.at 1 _ rfl
  have zp := p_52.out.lt
  have qq0 : w51.cell? ⟨w41.heap.size, 0, none⟩ = some (.slice Q z qc) := q_52.out.at 0 _ rfl
  have qq1 : w51.cell? ⟨w41.heap.size, 1, none⟩ = some (.int .i64 K) := q_52.out.at 1 _ rfl
  have zq := q_52.out.lt
  clear P_52
  clear Q_52
  clear p_52
  clear q_52
  clear qp0 qp1 zp qq0 qq1 zq
  go_wp2_with fail
  clear zwi qa0 qa1 za qb0 qb1 zb
  have qa0 : w51.cell? ⟨w.heap.size + 1, 0, none⟩ = some (.slice R1 n1 q1) := a_52.out.at 0 _ rfl
  have qa1 : w51.cell? ⟨w.heap.size + 1, 1, none⟩ = some (.int .i64 k1) := a_52.out.at 1 _ rfl
  have za := a_52.out.lt
  have qb0 : w51.cell? ⟨w.heap.size + 1 + 1, 0, none⟩ = some (.slice R2 n2 q2) := b_52.out.at 0 _ rfl
  have qb1 : w51.cell? ⟨w.heap.size + 1 + 1, 1, none⟩ = some (.int .i64 k2) := b_52.out.at 1 _ rfl
  have zb := b_52.out.lt
  go_quiet (fail)
  clear qa0 qa1 za qb0 qb1 zb
  have A_53 := Lib.hid (A_52.out.ext ((Ext.refl _).drewN nq))
  have B_53 := Lib.hid (B_52.out.ext ((Ext.refl _).drewN nq))
  have X_53 := Lib.hid (X_52.out.ext ((Ext.refl _).drewN nq))
  have wi_53 := Lib.hid (wi_52.out.ext ((Ext.refl _).drewN nq))
  have a_53 := Lib.hid (a_52.out.ext ((Ext.refl _).drewN nq))
  have b_53 := Lib.hid (b_52.out.ext ((Ext.refl _).drewN nq))
  clear A_52 B_52 X_52 wi_52 a_52 b_52
  have zwi := wi_53.out.lt
  have qa0 : (w51.drewN nq).cell? ⟨w.heap.size + 1, 0, none⟩ = some (.slice R1 n1 q1) := a_53.out.at 0 _ rfl
  have qa1 : (w51.drewN nq).cell? ⟨w.heap.size + 1, 1, none⟩ = some (.int .i64 k1) := a_53.out.at 1 _ rfl
  have za := a_53.out.lt
  have qb0 : (w51.drewN nq).cell? ⟨w.heap.size + 1 + 1, 0, none⟩ = some (.slice R2 n2 q2) := b_53.out.at 0 _ rfl
  have qb1 : (w51.drewN nq).cell? ⟨w.heap.size + 1 + 1, 1, none⟩ = some (.int .i64 k2) := b_53.out.at 1 _ rfl
  have zb := b_53.out.lt
  go_wp2_with fail
  clear zwi qa0 qa1 za qb0 qb1 zb
  have qa0 : (w51.drewN nq).cell? ⟨w.heap.size + 1, 0, none⟩ = some (.slice R1 n1 q1) := a_53.out.at 0 _ rfl
  have qa1 : (w51.drewN nq).cell? ⟨w.heap.size + 1, 1, none⟩ = some (.int .i64 k1) := a_53.out.at 1 _ rfl
  have za := a_53.out.lt
  go_quiet (fail)
  go_wp2
  go_ret
  exact ⟨rfl, (X_53.out).drewN _⟩
end Go.Proofs.Ytclpeeemnmhdcaa
