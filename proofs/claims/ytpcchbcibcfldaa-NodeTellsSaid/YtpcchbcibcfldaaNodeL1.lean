/- The walk of NodeTells. -/
import Derived.Test.YtpcchbcibcfldaaNodeM
namespace Go.Proofs.Ytpcchbcibcfldaa
open Go.RowKit
attribute [local go_sem ↓] Go.wp_at_zero Go.wp_at_succ

set_option maxRecDepth 100000 in
set_option maxHeartbeats 8000000 in
theorem tells_any (f1 f2 : Bool) (A1 A2 : Option Addr) (l1 l2 : List It) (c1 c2 : Nat) (t : ByteArray) (w : World) (ht : t.size ≤ maxLen) (hA : Sl w A1 l1.length c1 (ivs l1)) (hB : Sl w A2 l2.length c2 (ivs l2)) :
    Calls Try.prog 3 #[.agg #[.bool f1, .slice A1 l1.length c1], .agg #[.bool f2, .slice A2 l2.length c2], .string t] w fun e w' => e = .returned (.bool true) ∧ Ext w w' := by
  have A_1 := Lib.hid (hA)
  have B_2 := Lib.hid (hB)
  have X_3 := Lib.hid (Ext.refl w)
  clear hA hB
  rcases Decidable.em ((l1.length : Int) ≤ 20) with h3 | h3
  rotate_left
  · go_enter Try.func3, Try.ntmps3
    go_wp2_with (go_at_call 10; refine stop_here ?_)
    refine stop_on ?_
    generalize hW : (World.alloc (World.alloc w _) _) = W5
    obtain ⟨hx, hb0, hb1⟩ := allocs2 hW
    clear hW
    have A_6 := Lib.hid (A_1.out.ext hx)
    have B_6 := Lib.hid (B_2.out.ext hx)
    have X_6 := Lib.hid (X_3.out.ext hx)
    clear A_1 B_2 X_3
    have a_7 := Lib.hid hb0
    have b_8 := Lib.hid hb1
    clear hx hb0 hb1
    refine (shown_any _).mono ?_
    rintro e w9 ⟨rfl, hx⟩
    have A_10 := Lib.hid (A_6.out.ext hx)
    have B_10 := Lib.hid (B_6.out.ext hx)
    have X_10 := Lib.hid (X_6.out.ext hx)
    have a_10 := Lib.hid (a_7.out.ext hx)
    have b_10 := Lib.hid (b_8.out.ext hx)
    clear A_6 B_6 X_6 a_7 b_8
    clear hx
    have qa0 : w9.cell? ⟨w.heap.size, 0, none⟩ = some (.bool f1) := a_10.out.at 0 _ rfl
    have qa1 : w9.cell? ⟨w.heap.size, 1, none⟩ = some (.slice A1 l1.length c1) := a_10.out.at 1 _ rfl
    have za := a_10.out.lt
    have qb0 : w9.cell? ⟨w.heap.size + 1, 0, none⟩ = some (.bool f2) := b_10.out.at 0 _ rfl
    have qb1 : w9.cell? ⟨w.heap.size + 1, 1, none⟩ = some (.slice A2 l2.length c2) := b_10.out.at 1 _ rfl
    have zb := b_10.out.lt
    go_wp2
    go_ret
    exact ⟨rfl, X_10.out⟩
  rcases Decidable.em ((l2.length : Int) ≤ 20) with h10 | h10
  rotate_left
  · go_enter Try.func3, Try.ntmps3
    go_wp2_with (go_at_call 10; refine stop_here ?_)
    refine stop_on ?_
    generalize hW : (World.alloc (World.alloc w _) _) = W12
    obtain ⟨hx, hb0, hb1⟩ := allocs2 hW
    clear hW
    have A_13 := Lib.hid (A_1.out.ext hx)
    have B_13 := Lib.hid (B_2.out.ext hx)
    have X_13 := Lib.hid (X_3.out.ext hx)
    clear A_1 B_2 X_3
    have a_14 := Lib.hid hb0
    have b_15 := Lib.hid hb1
    clear hx hb0 hb1
    refine (shown_any _).mono ?_
    rintro e w16 ⟨rfl, hx⟩
    have A_17 := Lib.hid (A_13.out.ext hx)
    have B_17 := Lib.hid (B_13.out.ext hx)
    have X_17 := Lib.hid (X_13.out.ext hx)
    have a_17 := Lib.hid (a_14.out.ext hx)
    have b_17 := Lib.hid (b_15.out.ext hx)
    clear A_13 B_13 X_13 a_14 b_15
    clear hx
    have qa0 : w16.cell? ⟨w.heap.size, 0, none⟩ = some (.bool f1) := a_17.out.at 0 _ rfl
    have qa1 : w16.cell? ⟨w.heap.size, 1, none⟩ = some (.slice A1 l1.length c1) := a_17.out.at 1 _ rfl
    have za := a_17.out.lt
    have qb0 : w16.cell? ⟨w.heap.size + 1, 0, none⟩ = some (.bool f2) := b_17.out.at 0 _ rfl
    have qb1 : w16.cell? ⟨w.heap.size + 1, 1, none⟩ = some (.slice A2 l2.length c2) := b_17.out.at 1 _ rfl
    have zb := b_17.out.lt
    go_wp2
    go_ret
    exact ⟨rfl, X_17.out⟩
  rcases Decidable.em ((t.size : Int) ≤ 200) with h17 | h17
  rotate_left
  · go_enter Try.func3, Try.ntmps3
    go_wp2_with (go_at_call 10; refine stop_here ?_)
    refine stop_on ?_
    generalize hW : (World.alloc (World.alloc w _) _) = W19
    obtain ⟨hx, hb0, hb1⟩ := allocs2 hW
    clear hW
    have A_20 := Lib.hid (A_1.out.ext hx)
    have B_20 := Lib.hid (B_2.out.ext hx)
    have X_20 := Lib.hid (X_3.out.ext hx)
    clear A_1 B_2 X_3
    have a_21 := Lib.hid hb0
    have b_22 := Lib.hid hb1
    clear hx hb0 hb1
    refine (shown_any _).mono ?_
    rintro e w23 ⟨rfl, hx⟩
    have A_24 := Lib.hid (A_20.out.ext hx)
    have B_24 := Lib.hid (B_20.out.ext hx)
    have X_24 := Lib.hid (X_20.out.ext hx)
    have a_24 := Lib.hid (a_21.out.ext hx)
    have b_24 := Lib.hid (b_22.out.ext hx)
    clear A_20 B_20 X_20 a_21 b_22
    clear hx
    have qa0 : w23.cell? ⟨w.heap.size, 0, none⟩ = some (.bool f1) := a_24.out.at 0 _ rfl
    have qa1 : w23.cell? ⟨w.heap.size, 1, none⟩ = some (.slice A1 l1.length c1) := a_24.out.at 1 _ rfl
    have za := a_24.out.lt
    have qb0 : w23.cell? ⟨w.heap.size + 1, 0, none⟩ = some (.bool f2) := b_24.out.at 0 _ rfl
    have qb1 : w23.cell? ⟨w.heap.size + 1, 1, none⟩ = some (.slice A2 l2.length c2) := b_24.out.at 1 _ rfl
    have zb := b_24.out.lt
    go_wp2
    go_ret
    exact ⟨rfl, X_24.out⟩
  obtain ⟨x, hx⟩ : ∃ x, ndB f1 l1 = x := ⟨_, rfl⟩
  obtain ⟨xe, hxe⟩ : ∃ x, ndE l1 = x := ⟨_, rfl⟩
  obtain ⟨pf, hpf⟩ : ∃ x, ndPL t = x := ⟨_, rfl⟩
  obtain ⟨pl, hpl⟩ : ∃ x, ndPI t = x := ⟨_, rfl⟩
  obtain ⟨pe, hpe⟩ : ∃ x, ndPE t = x := ⟨_, rfl⟩
  obtain ⟨m, hm⟩ : ∃ x, x = pl.length := ⟨_, rfl⟩
  obtain ⟨sr, hsr⟩ : ∃ x, sameN f1 l1 f2 l2 = x := ⟨_, rfl⟩
  have Hx := Lib.hid hx
  have Hxe := Lib.hid hxe
  have Hpf := Lib.hid hpf
  have Hpl := Lib.hid hpl
  have Hpe := Lib.hid hpe
  have Hm := Lib.hid hm
  have Hsr := Lib.hid hsr
  have Ht := Lib.hid ht
  clear hx hxe hpf hpl hpe hm hsr ht
  cases hr1 : ndR l1
  · have Hr1 := Lib.hid hr1
    clear hr1
    go_enter Try.func3, Try.ntmps3
    go_wp2_with (go_at_call 10; refine stop_here ?_)
    refine stop_on ?_
    generalize hW : (World.alloc (World.alloc w _) _) = W25
    obtain ⟨hx, hb0, hb1⟩ := allocs2 hW
    clear hW
    have A_26 := Lib.hid (A_1.out.ext hx)
    have B_26 := Lib.hid (B_2.out.ext hx)
    have X_26 := Lib.hid (X_3.out.ext hx)
    clear A_1 B_2 X_3
    have a_27 := Lib.hid hb0
    have b_28 := Lib.hid hb1
    clear hx hb0 hb1
    refine (shown_any _).mono ?_
    rintro e w29 ⟨rfl, hx⟩
    have A_30 := Lib.hid (A_26.out.ext hx)
    have B_30 := Lib.hid (B_26.out.ext hx)
    have X_30 := Lib.hid (X_26.out.ext hx)
    have a_30 := Lib.hid (a_27.out.ext hx)
    have b_30 := Lib.hid (b_28.out.ext hx)
    clear A_26 B_26 X_26 a_27 b_28
    clear hx
    have qa0 : w29.cell? ⟨w.heap.size, 0, none⟩ = some (.bool f1) := a_30.out.at 0 _ rfl
    have qa1 : w29.cell? ⟨w.heap.size, 1, none⟩ = some (.slice A1 l1.length c1) := a_30.out.at 1 _ rfl
    have za := a_30.out.lt
    have qb0 : w29.cell? ⟨w.heap.size + 1, 0, none⟩ = some (.bool f2) := b_30.out.at 0 _ rfl
    have qb1 : w29.cell? ⟨w.heap.size + 1, 1, none⟩ = some (.slice A2 l2.length c2) := b_30.out.at 1 _ rfl
    have zb := b_30.out.lt
    go_wp2_with (go_at_call 11; refine stop_here ?_)
    refine stop_on ?_
    clear qa0 qa1 za qb0 qb1 zb
    refine (nodePrint_is f1 A1 l1 _ c1 _ rfl A_30.out Hx.out Hxe.out).mono ?_
    rintro e w31 ⟨rfl, hx⟩
    have A_32 := Lib.hid (A_30.out.ext hx)
    have B_32 := Lib.hid (B_30.out.ext hx)
    have X_32 := Lib.hid (X_30.out.ext hx)
    have a_32 := Lib.hid (a_30.out.ext hx)
    have b_32 := Lib.hid (b_30.out.ext hx)
    clear A_30 B_30 X_30 a_30 b_30
    clear hx
    have qa0 : w31.cell? ⟨w.heap.size, 0, none⟩ = some (.bool f1) := a_32.out.at 0 _ rfl
    have qa1 : w31.cell? ⟨w.heap.size, 1, none⟩ = some (.slice A1 l1.length c1) := a_32.out.at 1 _ rfl
    have za := a_32.out.lt
    have qb0 : w31.cell? ⟨w.heap.size + 1, 0, none⟩ = some (.bool f2) := b_32.out.at 0 _ rfl
    have qb1 : w31.cell? ⟨w.heap.size + 1, 1, none⟩ = some (.slice A2 l2.length c2) := b_32.out.at 1 _ rfl
    have zb := b_32.out.lt
    go_wp2_with (go_at_call 12; refine stop_here ?_)
    refine stop_on ?_
    clear qa0 qa1 za qb0 qb1 zb
    refine (ref04Print_is f1 A1 l1 _ c1 _ rfl A_32.out Hx.out Hxe.out).mono ?_
    rintro e w33 ⟨rfl, hx⟩
    have A_34 := Lib.hid (A_32.out.ext hx)
    have B_34 := Lib.hid (B_32.out.ext hx)
    have X_34 := Lib.hid (X_32.out.ext hx)
    have a_34 := Lib.hid (a_32.out.ext hx)
    have b_34 := Lib.hid (b_32.out.ext hx)
    clear A_32 B_32 X_32 a_32 b_32
    clear hx
    have qa0 : w33.cell? ⟨w.heap.size, 0, none⟩ = some (.bool f1) := a_34.out.at 0 _ rfl
    have qa1 : w33.cell? ⟨w.heap.size, 1, none⟩ = some (.slice A1 l1.length c1) := a_34.out.at 1 _ rfl
    have za := a_34.out.lt
    have qb0 : w33.cell? ⟨w.heap.size + 1, 0, none⟩ = some (.bool f2) := b_34.out.at 0 _ rfl
    have qb1 : w33.cell? ⟨w.heap.size + 1, 1, none⟩ = some (.slice A2 l2.length c2) := b_34.out.at 1 _ rfl
    have zb := b_34.out.lt
    go_wp2_with (go_at_call 13; refine stop_here ?_)
    refine stop_on ?_
    clear qa0 qa1 za qb0 qb1 zb
    refine (nodeParse_is t _ Ht.out Hpf.out Hpl.out Hm.out Hpe.out).mono ?_
    rintro e w35 ⟨P, pc, rfl, h1, hx⟩
    have A_36 := Lib.hid (A_34.out.ext hx)
    have B_36 := Lib.hid (B_34.out.ext hx)
    have X_36 := Lib.hid (X_34.out.ext hx)
    have a_36 := Lib.hid (a_34.out.ext hx)
    have b_36 := Lib.hid (b_34.out.ext hx)
    clear A_34 B_34 X_34 a_34 b_34
    have P_37 := Lib.hid h1
    clear hx h1
    have qa0 : w35.cell? ⟨w.heap.size, 0, none⟩ = some (.bool f1) := a_36.out.at 0 _ rfl
    have qa1 : w35.cell? ⟨w.heap.size, 1, none⟩ = some (.slice A1 l1.length c1) := a_36.out.at 1 _ rfl
    have za := a_36.out.lt
    have qb0 : w35.cell? ⟨w.heap.size + 1, 0, none⟩ = some (.bool f2) := b_36.out.at 0 _ rfl
    have qb1 : w35.cell? ⟨w.heap.size + 1, 1, none⟩ = some (.slice A2 l2.length c2) := b_36.out.at 1 _ rfl
    have zb := b_36.out.lt
    go_wp2_with (go_at_call 14; refine stop_here ?_)
    refine stop_on ?_
    clear qa0 qa1 za qb0 qb1 zb
    generalize hW : (World.alloc w35 _) = W38
    obtain ⟨hx, hb0⟩ := allocs1 hW
    clear hW
    have A_39 := Lib.hid (A_36.out.ext hx)
    have B_39 := Lib.hid (B_36.out.ext hx)
    have X_39 := Lib.hid (X_36.out.ext hx)
    have a_39 := Lib.hid (a_36.out.ext hx)
    have b_39 := Lib.hid (b_36.out.ext hx)
    have P_39 := Lib.hid (P_37.out.ext hx)
    clear A_36 B_36 X_36 a_36 b_36 P_37
    have p_40 := Lib.hid hb0
    clear hx hb0
    refine (ref04Parse_is t _ Ht.out Hpf.out Hpl.out Hm.out Hpe.out).mono ?_
    rintro e w41 ⟨Q, qc, rfl, h1, hx⟩
    have A_42 := Lib.hid (A_39.out.ext hx)
    have B_42 := Lib.hid (B_39.out.ext hx)
    have X_42 := Lib.hid (X_39.out.ext hx)
    have a_42 := Lib.hid (a_39.out.ext hx)
    have b_42 := Lib.hid (b_39.out.ext hx)
    have P_42 := Lib.hid (P_39.out.ext hx)
    have p_42 := Lib.hid (p_40.out.ext hx)
    clear A_39 B_39 X_39 a_39 b_39 P_39 p_40
    have Q_43 := Lib.hid h1
    clear hx h1
    have qa0 : w41.cell? ⟨w.heap.size, 0, none⟩ = some (.bool f1) := a_42.out.at 0 _ rfl
    have qa1 : w41.cell? ⟨w.heap.size, 1, none⟩ = some (.slice A1 l1.length c1) := a_42.out.at 1 _ rfl
    have za := a_42.out.lt
    have qb0 : w41.cell? ⟨w.heap.size + 1, 0, none⟩ = some (.bool f2) := b_42.out.at 0 _ rfl
    have qb1 : w41.cell? ⟨w.heap.size + 1, 1, none⟩ = some (.slice A2 l2.length c2) := b_42.out.at 1 _ rfl
    have zb := b_42.out.lt
    have qp0 : w41.cell? ⟨w35.heap.size, 0, none⟩ = some (.bool pf) := p_42.out.at 0 _ rfl
    have qp1 : w41.cell? ⟨w35.heap.size, 1, none⟩ = some (.slice P m pc) := p_42.out.at 1 _ rfl
    have zp := p_42.out.lt
    go_wp2_with (go_at_call 15; refine stop_here ?_)
    refine stop_on ?_
    clear qa0 qa1 za qb0 qb1 zb qp0 qp1 zp
    generalize hW : (World.alloc w41 _) = W44
    obtain ⟨hx, hb0⟩ := allocs1 hW
    clear hW
    have A_45 := Lib.hid (A_42.out.ext hx)
    have B_45 := Lib.hid (B_42.out.ext hx)
    have X_45 := Lib.hid (X_42.out.ext hx)
    have a_45 := Lib.hid (a_42.out.ext hx)
    have b_45 := Lib.hid (b_42.out.ext hx)
    have P_45 := Lib.hid (P_42.out.ext hx)
    have p_45 := Lib.hid (p_42.out.ext hx)
    have Q_45 := Lib.hid (Q_43.out.ext hx)
    clear A_42 B_42 X_42 a_42 b_42 P_42 p_42 Q_43
    have q_46 := Lib.hid hb0
    clear hx hb0
    refine (ref04Right_is f1 A1 l1 _ c1 _ rfl A_45.out Hr1.out).mono ?_
    rintro e w47 ⟨rfl, hx⟩
    have A_48 := Lib.hid (A_45.out.ext hx)
    have B_48 := Lib.hid (B_45.out.ext hx)
    have X_48 := Lib.hid (X_45.out.ext hx)
    have a_48 := Lib.hid (a_45.out.ext hx)
    have b_48 := Lib.hid (b_45.out.ext hx)
    have P_48 := Lib.hid (P_45.out.ext hx)
    have p_48 := Lib.hid (p_45.out.ext hx)
    have Q_48 := Lib.hid (Q_45.out.ext hx)
    have q_48 := Lib.hid (q_46.out.ext hx)
    clear A_45 B_45 X_45 a_45 b_45 P_45 p_45 Q_45 q_46
    clear hx
    have qa0 : w47.cell? ⟨w.heap.size, 0, none⟩ = some (.bool f1) := a_48.out.at 0 _ rfl
    have qa1 : w47.cell? ⟨w.heap.size, 1, none⟩ = some (.slice A1 l1.length c1) := a_48.out.at 1 _ rfl
    have za := a_48.out.lt
    have qb0 : w47.cell? ⟨w.heap.size + 1, 0, none⟩ = some (.bool f2) := b_48.out.at 0 _ rfl
    have qb1 : w47.cell? ⟨w.heap.size + 1, 1, none⟩ = some (.slice A2 l2.length c2) := b_48.out.at 1 _ rfl
    have zb := b_48.out.lt
    have qp0 : w47.cell? ⟨w35.heap.size, 0, none⟩ = some (.bool pf) := p_48.out.at 0 _ rfl
    have qp1 : w47.cell? ⟨w35.heap.size, 1, none⟩ = some (.slice P m pc) := p_48.out.at 1 _ rfl
    have zp := p_48.out.lt
    have qq0 : w47.cell? ⟨w41.heap.size, 0, none⟩ = some (.bool pf) := q_48.out.at 0 _ rfl
    have qq1 : w47.cell? ⟨w41.heap.size, 1, none⟩ = some (.slice Q m qc) := q_48.out.at 1 _ rfl
    have zq := q_48.out.lt
    go_wp2_with fail
    clear qa0 qa1 za qb0 qb1 zb qp0 qp1 zp qq0 qq1 zq
    have qa0 : w47.cell? ⟨w.heap.size, 0, none⟩ = some (.bool f1) := a_48.out.at 0 _ rfl
    have qa1 : w47.cell? ⟨w.heap.size, 1, none⟩ = some (.slice A1 l1.length c1) := a_48.out.at 1 _ rfl
    have za := a_48.out.lt
    have qb0 : w47.cell? ⟨w.heap.size + 1, 0, none⟩ = some (.bool f2) := b_48.out.at 0 _ rfl
    have qb1 : w47.cell? ⟨w.heap.size + 1, 1, none⟩ = some (.slice A2 l2.length c2) := b_48.out.at 1 _ rfl
    have zb := b_48.out.lt
    go_quiet (fail)
    clear qa0 qa1 za qb0 qb1 zb
    have A_49 := Lib.hid (A_48.out.ext ((Ext.refl _).drewN nq))
    have B_49 := Lib.hid (B_48.out.ext ((Ext.refl _).drewN nq))
    have X_49 := Lib.hid (X_48.out.ext ((Ext.refl _).drewN nq))
    have a_49 := Lib.hid (a_48.out.ext ((Ext.refl _).drewN nq))
    have b_49 := Lib.hid (b_48.out.ext ((Ext.refl _).drewN nq))
    have P_49 := Lib.hid (P_48.out.ext ((Ext.refl _).drewN nq))
    have p_49 := Lib.hid (p_48.out.ext ((Ext.refl _).drewN nq))
    have Q_49 := Lib.hid (Q_48.out.ext ((Ext.refl _).drewN nq))
    have q_49 := Lib.hid (q_48.out.ext ((Ext.refl _).drewN nq))
    clear A_48 B_48 X_48 a_48 b_48 P_48 p_48 Q_48 q_48
    have qa0 : (w47.drewN nq).cell? ⟨w.heap.size, 0, none⟩ = some (.bool f1) := a_49.out.at 0 _ rfl
    have qa1 : (w47.drewN nq).cell? ⟨w.heap.size, 1, none⟩ = some (.slice A1 l1.length c1) := a_49.out.at 1 _ rfl
    have za := a_49.out.lt
    have qb0 : (w47.drewN nq).cell? ⟨w.heap.size + 1, 0, none⟩ = some (.bool f2) := b_49.out.at 0 _ rfl
    have qb1 : (w47.drewN nq).cell? ⟨w.heap.size + 1, 1, none⟩ = some (.slice A2 l2.length c2) := b_49.out.at 1 _ rfl
    have zb := b_49.out.lt
    have qp0 : (w47.drewN nq).cell? ⟨w35.heap.size, 0, none⟩ = some (.bool pf) := p_49.out.at 0 _ rfl
    have qp1 : (w47.drewN nq).cell? ⟨w35.heap.size, 1, none⟩ = some (.slice P m pc) := p_49.out.at 1 _ rfl
    have zp := p_49.out.lt
    have qq0 : (w47.drewN nq).cell? ⟨w41.heap.size, 0, none⟩ = some (.bool pf) := q_49.out.at 0 _ rfl
    have qq1 : (w47.drewN nq).cell? ⟨w41.heap.size, 1, none⟩ = some (.slice Q m qc) := q_49.out.at 1 _ rfl
    have zq := q_49.out.lt
    go_wp2_with (go_at_call 18; refine stop_here ?_)
    refine stop_on ?_
    clear qa0 qa1 za qb0 qb1 zb qp0 qp1 zp qq0 qq1 zq
    refine (nodeRight_is f1 A1 l1 _ c1 _ rfl A_49.out Hr1.out).mono ?_
    rintro e w50 ⟨rfl, hx⟩
    have A_51 := Lib.hid (A_49.out.ext hx)
    have B_51 := Lib.hid (B_49.out.ext hx)
    have X_51 := Lib.hid (X_49.out.ext hx)
    have a_51 := Lib.hid (a_49.out.ext hx)
    have b_51 := Lib.hid (b_49.out.ext hx)
    have P_51 := Lib.hid (P_49.out.ext hx)
    have p_51 := Lib.hid (p_49.out.ext hx)
    have Q_51 := Lib.hid (Q_49.out.ext hx)
    have q_51 := Lib.hid (q_49.out.ext hx)
    clear A_49 B_49 X_49 a_49 b_49 P_49 p_49 Q_49 q_49
    clear hx
    have qa0 : w50.cell? ⟨w.heap.size, 0, none⟩ = some (.bool f1) := a_51.out.at 0 _ rfl
    have qa1 : w50.cell? ⟨w.heap.size, 1, none⟩ = some (.slice A1 l1.length c1) := a_51.out.at 1 _ rfl
    have za := a_51.out.lt
    have qb0 : w50.cell? ⟨w.heap.size + 1, 0, none⟩ = some (.bool f2) := b_51.out.at 0 _ rfl
    have qb1 : w50.cell? ⟨w.heap.size + 1, 1, none⟩ = some (.slice A2 l2.length c2) := b_51.out.at 1 _ rfl
    have zb := b_51.out.lt
    have qp0 : w50.cell? ⟨w35.heap.size, 0, none⟩ = some (.bool pf) := p_51.out.at 0 _ rfl
    have qp1 : w50.cell? ⟨w35.heap.size, 1, none⟩ = some (.slice P m pc) := p_51.out.at 1 _ rfl
    have zp := p_51.out.lt
    have qq0 : w50.cell? ⟨w41.heap.size, 0, none⟩ = some (.bool pf) := q_51.out.at 0 _ rfl
    have qq1 : w50.cell? ⟨w41.heap.size, 1, none⟩ = some (.slice Q m qc) := q_51.out.at 1 _ rfl
    have zq := q_51.out.lt
    go_wp2_with (go_at_call 17; refine stop_here ?_)
    refine stop_on ?_
    clear qa0 qa1 za qb0 qb1 zb qp0 qp1 zp qq0 qq1 zq
    refine (ref04Same_is pf pf P Q pl pl m m pc qc _ Hm.out Hm.out P_51.out Q_51.out (same_self pf pl)).mono ?_
    rintro e w52 ⟨rfl, hx⟩
    have A_53 := Lib.hid (A_51.out.ext hx)
    have B_53 := Lib.hid (B_51.out.ext hx)
    have X_53 := Lib.hid (X_51.out.ext hx)
    have a_53 := Lib.hid (a_51.out.ext hx)
    have b_53 := Lib.hid (b_51.out.ext hx)
    have P_53 := Lib.hid (P_51.out.ext hx)
    have p_53 := Lib.hid (p_51.out.ext hx)
    have Q_53 := Lib.hid (Q_51.out.ext hx)
    have q_53 := Lib.hid (q_51.out.ext hx)
    clear A_51 B_51 X_51 a_51 b_51 P_51 p_51 Q_51 q_51
    clear hx
    have qa0 : w52.cell? ⟨w.heap.size, 0, none⟩ = some (.bool f1) := a_53.out.at 0 _ rfl
    have qa1 : w52.cell? ⟨w.heap.size, 1, none⟩ = some (.slice A1 l1.length c1) := a_53.out.at 1 _ rfl
    have za := a_53.out.lt
    have qb0 : w52.cell? ⟨w.heap.size + 1, 0, none⟩ = some (.bool f2) := b_53.out.at 0 _ rfl
    have qb1 : w52.cell? ⟨w.heap.size + 1, 1, none⟩ = some (.slice A2 l2.length c2) := b_53.out.at 1 _ rfl
    have zb := b_53.out.lt
    have qp0 : w52.cell? ⟨w35.heap.size, 0, none⟩ = some (.bool pf) := p_53.out.at 0 _ rfl
    have qp1 : w52.cell? ⟨w35.heap.size, 1, none⟩ = some (.slice P m pc) := p_53.out.at 1 _ rfl
    have zp := p_53.out.lt
    have qq0 : w52.cell? ⟨w41.heap.size, 0, none⟩ = some (.bool pf) := q_53.out.at 0 _ rfl
    have qq1 : w52.cell? ⟨w41.heap.size, 1, none⟩ = some (.slice Q m qc) := q_53.out.at 1 _ rfl
    have zq := q_53.out.lt
    go_wp2_with fail
    go_ret
    exact ⟨rfl, X_53.out⟩
  cases hr2 : ndR l2
  · have Hr1 := Lib.hid hr1
    have Hr2 := Lib.hid hr2
    clear hr1 hr2
    go_enter Try.func3, Try.ntmps3
    go_wp2_with (go_at_call 10; refine stop_here ?_)
    refine stop_on ?_
    generalize hW : (World.alloc (World.alloc w _) _) = W54
    obtain ⟨hx, hb0, hb1⟩ := allocs2 hW
    clear hW
    have A_55 := Lib.hid (A_1.out.ext hx)
    have B_55 := Lib.hid (B_2.out.ext hx)
    have X_55 := Lib.hid (X_3.out.ext hx)
    clear A_1 B_2 X_3
    have a_56 := Lib.hid hb0
    have b_57 := Lib.hid hb1
    clear hx hb0 hb1
    refine (shown_any _).mono ?_
    rintro e w58 ⟨rfl, hx⟩
    have A_59 := Lib.hid (A_55.out.ext hx)
    have B_59 := Lib.hid (B_55.out.ext hx)
    have X_59 := Lib.hid (X_55.out.ext hx)
    have a_59 := Lib.hid (a_56.out.ext hx)
    have b_59 := Lib.hid (b_57.out.ext hx)
    clear A_55 B_55 X_55 a_56 b_57
    clear hx
    have qa0 : w58.cell? ⟨w.heap.size, 0, none⟩ = some (.bool f1) := a_59.out.at 0 _ rfl
    have qa1 : w58.cell? ⟨w.heap.size, 1, none⟩ = some (.slice A1 l1.length c1) := a_59.out.at 1 _ rfl
    have za := a_59.out.lt
    have qb0 : w58.cell? ⟨w.heap.size + 1, 0, none⟩ = some (.bool f2) := b_59.out.at 0 _ rfl
    have qb1 : w58.cell? ⟨w.heap.size + 1, 1, none⟩ = some (.slice A2 l2.length c2) := b_59.out.at 1 _ rfl
    have zb := b_59.out.lt
    go_wp2_with (go_at_call 11; refine stop_here ?_)
    refine stop_on ?_
    clear qa0 qa1 za qb0 qb1 zb
    refine (nodePrint_is f1 A1 l1 _ c1 _ rfl A_59.out Hx.out Hxe.out).mono ?_
    rintro e w60 ⟨rfl, hx⟩
    have A_61 := Lib.hid (A_59.out.ext hx)
    have B_61 := Lib.hid (B_59.out.ext hx)
    have X_61 := Lib.hid (X_59.out.ext hx)
    have a_61 := Lib.hid (a_59.out.ext hx)
    have b_61 := Lib.hid (b_59.out.ext hx)
    clear A_59 B_59 X_59 a_59 b_59
    clear hx
    have qa0 : w60.cell? ⟨w.heap.size, 0, none⟩ = some (.bool f1) := a_61.out.at 0 _ rfl
    have qa1 : w60.cell? ⟨w.heap.size, 1, none⟩ = some (.slice A1 l1.length c1) := a_61.out.at 1 _ rfl
    have za := a_61.out.lt
    have qb0 : w60.cell? ⟨w.heap.size + 1, 0, none⟩ = some (.bool f2) := b_61.out.at 0 _ rfl
    have qb1 : w60.cell? ⟨w.heap.size + 1, 1, none⟩ = some (.slice A2 l2.length c2) := b_61.out.at 1 _ rfl
    have zb := b_61.out.lt
    go_wp2_with (go_at_call 12; refine stop_here ?_)
    refine stop_on ?_
    clear qa0 qa1 za qb0 qb1 zb
    refine (ref04Print_is f1 A1 l1 _ c1 _ rfl A_61.out Hx.out Hxe.out).mono ?_
    rintro e w62 ⟨rfl, hx⟩
    have A_63 := Lib.hid (A_61.out.ext hx)
    have B_63 := Lib.hid (B_61.out.ext hx)
    have X_63 := Lib.hid (X_61.out.ext hx)
    have a_63 := Lib.hid (a_61.out.ext hx)
    have b_63 := Lib.hid (b_61.out.ext hx)
    clear A_61 B_61 X_61 a_61 b_61
    clear hx
    have qa0 : w62.cell? ⟨w.heap.size, 0, none⟩ = some (.bool f1) := a_63.out.at 0 _ rfl
    have qa1 : w62.cell? ⟨w.heap.size, 1, none⟩ = some (.slice A1 l1.length c1) := a_63.out.at 1 _ rfl
    have za := a_63.out.lt
    have qb0 : w62.cell? ⟨w.heap.size + 1, 0, none⟩ = some (.bool f2) := b_63.out.at 0 _ rfl
    have qb1 : w62.cell? ⟨w.heap.size + 1, 1, none⟩ = some (.slice A2 l2.length c2) := b_63.out.at 1 _ rfl
    have zb := b_63.out.lt
    go_wp2_with (go_at_call 13; refine stop_here ?_)
    refine stop_on ?_
    clear qa0 qa1 za qb0 qb1 zb
    refine (nodeParse_is t _ Ht.out Hpf.out Hpl.out Hm.out Hpe.out).mono ?_
    rintro e w64 ⟨P, pc, rfl, h1, hx⟩
    have A_65 := Lib.hid (A_63.out.ext hx)
    have B_65 := Lib.hid (B_63.out.ext hx)
    have X_65 := Lib.hid (X_63.out.ext hx)
    have a_65 := Lib.hid (a_63.out.ext hx)
    have b_65 := Lib.hid (b_63.out.ext hx)
    clear A_63 B_63 X_63 a_63 b_63
    have P_66 := Lib.hid h1
    clear hx h1
    have qa0 : w64.cell? ⟨w.heap.size, 0, none⟩ = some (.bool f1) := a_65.out.at 0 _ rfl
    have qa1 : w64.cell? ⟨w.heap.size, 1, none⟩ = some (.slice A1 l1.length c1) := a_65.out.at 1 _ rfl
    have za := a_65.out.lt
    have qb0 : w64.cell? ⟨w.heap.size + 1, 0, none⟩ = some (.bool f2) := b_65.out.at 0 _ rfl
    have qb1 : w64.cell? ⟨w.heap.size + 1, 1, none⟩ = some (.slice A2 l2.length c2) := b_65.out.at 1 _ rfl
    have zb := b_65.out.lt
    go_wp2_with (go_at_call 14; refine stop_here ?_)
    refine stop_on ?_
    clear qa0 qa1 za qb0 qb1 zb
    generalize hW : (World.alloc w64 _) = W67
    obtain ⟨hx, hb0⟩ := allocs1 hW
    clear hW
    have A_68 := Lib.hid (A_65.out.ext hx)
    have B_68 := Lib.hid (B_65.out.ext hx)
    have X_68 := Lib.hid (X_65.out.ext hx)
    have a_68 := Lib.hid (a_65.out.ext hx)
    have b_68 := Lib.hid (b_65.out.ext hx)
    have P_68 := Lib.hid (P_66.out.ext hx)
    clear A_65 B_65 X_65 a_65 b_65 P_66
    have p_69 := Lib.hid hb0
    clear hx hb0
    refine (ref04Parse_is t _ Ht.out Hpf.out Hpl.out Hm.out Hpe.out).mono ?_
    rintro e w70 ⟨Q, qc, rfl, h1, hx⟩
    have A_71 := Lib.hid (A_68.out.ext hx)
    have B_71 := Lib.hid (B_68.out.ext hx)
    have X_71 := Lib.hid (X_68.out.ext hx)
    have a_71 := Lib.hid (a_68.out.ext hx)
    have b_71 := Lib.hid (b_68.out.ext hx)
    have P_71 := Lib.hid (P_68.out.ext hx)
    have p_71 := Lib.hid (p_69.out.ext hx)
    clear A_68 B_68 X_68 a_68 b_68 P_68 p_69
    have Q_72 := Lib.hid h1
    clear hx h1
    have qa0 : w70.cell? ⟨w.heap.size, 0, none⟩ = some (.bool f1) := a_71.out.at 0 _ rfl
    have qa1 : w70.cell? ⟨w.heap.size, 1, none⟩ = some (.slice A1 l1.length c1) := a_71.out.at 1 _ rfl
    have za := a_71.out.lt
    have qb0 : w70.cell? ⟨w.heap.size + 1, 0, none⟩ = some (.bool f2) := b_71.out.at 0 _ rfl
    have qb1 : w70.cell? ⟨w.heap.size + 1, 1, none⟩ = some (.slice A2 l2.length c2) := b_71.out.at 1 _ rfl
    have zb := b_71.out.lt
    have qp0 : w70.cell? ⟨w64.heap.size, 0, none⟩ = some (.bool pf) := p_71.out.at 0 _ rfl
    have qp1 : w70.cell? ⟨w64.heap.size, 1, none⟩ = some (.slice P m pc) := p_71.out.at 1 _ rfl
    have zp := p_71.out.lt
    go_wp2_with (go_at_call 15; refine stop_here ?_)
    refine stop_on ?_
    clear qa0 qa1 za qb0 qb1 zb qp0 qp1 zp
    generalize hW : (World.alloc w70 _) = W73
    obtain ⟨hx, hb0⟩ := allocs1 hW
    clear hW
    have A_74 := Lib.hid (A_71.out.ext hx)
    have B_74 := Lib.hid (B_71.out.ext hx)
    have X_74 := Lib.hid (X_71.out.ext hx)
    have a_74 := Lib.hid (a_71.out.ext hx)
    have b_74 := Lib.hid (b_71.out.ext hx)
    have P_74 := Lib.hid (P_71.out.ext hx)
    have p_74 := Lib.hid (p_71.out.ext hx)
    have Q_74 := Lib.hid (Q_72.out.ext hx)
    clear A_71 B_71 X_71 a_71 b_71 P_71 p_71 Q_72
    have q_75 := Lib.hid hb0
    clear hx hb0
    refine (ref04Right_is f1 A1 l1 _ c1 _ rfl A_74.out Hr1.out).mono ?_
    rintro e w76 ⟨rfl, hx⟩
    have A_77 := Lib.hid (A_74.out.ext hx)
    have B_77 := Lib.hid (B_74.out.ext hx)
    have X_77 := Lib.hid (X_74.out.ext hx)
    have a_77 := Lib.hid (a_74.out.ext hx)
    have b_77 := Lib.hid (b_74.out.ext hx)
    have P_77 := Lib.hid (P_74.out.ext hx)
    have p_77 := Lib.hid (p_74.out.ext hx)
    have Q_77 := Lib.hid (Q_74.out.ext hx)
    have q_77 := Lib.hid (q_75.out.ext hx)
    clear A_74 B_74 X_74 a_74 b_74 P_74 p_74 Q_74 q_75
    clear hx
    have qa0 : w76.cell? ⟨w.heap.size, 0, none⟩ = some (.bool f1) := a_77.out.at 0 _ rfl
    have qa1 : w76.cell? ⟨w.heap.size, 1, none⟩ = some (.slice A1 l1.length c1) := a_77.out.at 1 _ rfl
    have za := a_77.out.lt
    have qb0 : w76.cell? ⟨w.heap.size + 1, 0, none⟩ = some (.bool f2) := b_77.out.at 0 _ rfl
    have qb1 : w76.cell? ⟨w.heap.size + 1, 1, none⟩ = some (.slice A2 l2.length c2) := b_77.out.at 1 _ rfl
    have zb := b_77.out.lt
    have qp0 : w76.cell? ⟨w64.heap.size, 0, none⟩ = some (.bool pf) := p_77.out.at 0 _ rfl
    have qp1 : w76.cell? ⟨w64.heap.size, 1, none⟩ = some (.slice P m pc) := p_77.out.at 1 _ rfl
    have zp := p_77.out.lt
    have qq0 : w76.cell? ⟨w70.heap.size, 0, none⟩ = some (.bool pf) := q_77.out.at 0 _ rfl
    have qq1 : w76.cell? ⟨w70.heap.size, 1, none⟩ = some (.slice Q m qc) := q_77.out.at 1 _ rfl
    have zq := q_77.out.lt
    go_wp2_with fail
    have HG := Lib.hid (fun w' (hx : Ext w76 w') => ref04Right_is f2 A2 l2 _ c2 w' rfl (B_77.out.ext hx) Hr2.out)
    clear qa0 qa1 za qb0 qb1 zb qp0 qp1 zp qq0 qq1 zq
    have qa0 : w76.cell? ⟨w.heap.size, 0, none⟩ = some (.bool f1) := a_77.out.at 0 _ rfl
    have qa1 : w76.cell? ⟨w.heap.size, 1, none⟩ = some (.slice A1 l1.length c1) := a_77.out.at 1 _ rfl
    have za := a_77.out.lt
    have qb0 : w76.cell? ⟨w.heap.size + 1, 0, none⟩ = some (.bool f2) := b_77.out.at 0 _ rfl
    have qb1 : w76.cell? ⟨w.heap.size + 1, 1, none⟩ = some (.slice A2 l2.length c2) := b_77.out.at 1 _ rfl
    have zb := b_77.out.lt
    go_region_with
      (first
      | ((go_at_call 15
          refine (HG.out _ ?_).mono ?_
          (first | exact Ext.refl _ | exact (Ext.refl _).drew)
          rintro e wB ⟨rfl, hx⟩
          have hEB := Lib.hid (show Ext w76 wB from by first | exact hx | exact (Ext.refl w76).drew.trans hx)
          clear hx)))
    all_goals
      clear HG qa0 qa1 za qb0 qb1 zb
      have A_78 := Lib.hid (A_77.out.ext hEB.out)
      have B_78 := Lib.hid (B_77.out.ext hEB.out)
      have X_78 := Lib.hid (X_77.out.ext hEB.out)
      have a_78 := Lib.hid (a_77.out.ext hEB.out)
      have b_78 := Lib.hid (b_77.out.ext hEB.out)
      have P_78 := Lib.hid (P_77.out.ext hEB.out)
      have p_78 := Lib.hid (p_77.out.ext hEB.out)
      have Q_78 := Lib.hid (Q_77.out.ext hEB.out)
      have q_78 := Lib.hid (q_77.out.ext hEB.out)
      clear A_77 B_77 X_77 a_77 b_77 P_77 p_77 Q_77 q_77
      have qa0 : wB.cell? ⟨w.heap.size, 0, none⟩ = some (.bool f1) := a_78.out.at 0 _ rfl
      have qa1 : wB.cell? ⟨w.heap.size, 1, none⟩ = some (.slice A1 l1.length c1) := a_78.out.at 1 _ rfl
      have za := a_78.out.lt
      have qb0 : wB.cell? ⟨w.heap.size + 1, 0, none⟩ = some (.bool f2) := b_78.out.at 0 _ rfl
      have qb1 : wB.cell? ⟨w.heap.size + 1, 1, none⟩ = some (.slice A2 l2.length c2) := b_78.out.at 1 _ rfl
      have zb := b_78.out.lt
      have qp0 : wB.cell? ⟨w64.heap.size, 0, none⟩ = some (.bool pf) := p_78.out.at 0 _ rfl
      have qp1 : wB.cell? ⟨w64.heap.size, 1, none⟩ = some (.slice P m pc) := p_78.out.at 1 _ rfl
      have zp := p_78.out.lt
      have qq0 : wB.cell? ⟨w70.heap.size, 0, none⟩ = some (.bool pf) := q_78.out.at 0 _ rfl
      have qq1 : wB.cell? ⟨w70.heap.size, 1, none⟩ = some (.slice Q m qc) := q_78.out.at 1 _ rfl
      have zq := q_78.out.lt
      go_wp2_with (go_at_call 18; refine stop_here ?_)
      refine stop_on ?_
      clear qa0 qa1 za qb0 qb1 zb qp0 qp1 zp qq0 qq1 zq
      refine (nodeRight_is f1 A1 l1 _ c1 _ rfl A_78.out Hr1.out).mono ?_
      rintro e w79 ⟨rfl, hx⟩
      have A_80 := Lib.hid (A_78.out.ext hx)
      have B_80 := Lib.hid (B_78.out.ext hx)
      have X_80 := Lib.hid (X_78.out.ext hx)
      have a_80 := Lib.hid (a_78.out.ext hx)
      have b_80 := Lib.hid (b_78.out.ext hx)
      have P_80 := Lib.hid (P_78.out.ext hx)
      have p_80 := Lib.hid (p_78.out.ext hx)
      have Q_80 := Lib.hid (Q_78.out.ext hx)
      have q_80 := Lib.hid (q_78.out.ext hx)
      clear A_78 B_78 X_78 a_78 b_78 P_78 p_78 Q_78 q_78
      clear hx
      have qa0 : w79.cell? ⟨w.heap.size, 0, none⟩ = some (.bool f1) := a_80.out.at 0 _ rfl
      have qa1 : w79.cell? ⟨w.heap.size, 1, none⟩ = some (.slice A1 l1.length c1) := a_80.out.at 1 _ rfl
      have za := a_80.out.lt
      have qb0 : w79.cell? ⟨w.heap.size + 1, 0, none⟩ = some (.bool f2) := b_80.out.at 0 _ rfl
      have qb1 : w79.cell? ⟨w.heap.size + 1, 1, none⟩ = some (.slice A2 l2.length c2) := b_80.out.at 1 _ rfl
      have zb := b_80.out.lt
      have qp0 : w79.cell? ⟨w64.heap.size, 0, none⟩ = some (.bool pf) := p_80.out.at 0 _ rfl
      have qp1 : w79.cell? ⟨w64.heap.size, 1, none⟩ = some (.slice P m pc) := p_80.out.at 1 _ rfl
      have zp := p_80.out.lt
      have qq0 : w79.cell? ⟨w70.heap.size, 0, none⟩ = some (.bool pf) := q_80.out.at 0 _ rfl
      have qq1 : w79.cell? ⟨w70.heap.size, 1, none⟩ = some (.slice Q m qc) := q_80.out.at 1 _ rfl
      have zq := q_80.out.lt
      go_wp2_with (go_at_call 17; refine stop_here ?_)
      refine stop_on ?_
      clear qa0 qa1 za qb0 qb1 zb qp0 qp1 zp qq0 qq1 zq
      refine (ref04Same_is pf pf P Q pl pl m m pc qc _ Hm.out Hm.out P_80.out Q_80.out (same_self pf pl)).mono ?_
      rintro e w81 ⟨rfl, hx⟩
      have A_82 := Lib.hid (A_80.out.ext hx)
      have B_82 := Lib.hid (B_80.out.ext hx)
      have X_82 := Lib.hid (X_80.out.ext hx)
      have a_82 := Lib.hid (a_80.out.ext hx)
      have b_82 := Lib.hid (b_80.out.ext hx)
      have P_82 := Lib.hid (P_80.out.ext hx)
      have p_82 := Lib.hid (p_80.out.ext hx)
      have Q_82 := Lib.hid (Q_80.out.ext hx)
      have q_82 := Lib.hid (q_80.out.ext hx)
      clear A_80 B_80 X_80 a_80 b_80 P_80 p_80 Q_80 q_80
      clear hx
      have qa0 : w81.cell? ⟨w.heap.size, 0, none⟩ = some (.bool f1) := a_82.out.at 0 _ rfl
      have qa1 : w81.cell? ⟨w.heap.size, 1, none⟩ = some (.slice A1 l1.length c1) := a_82.out.at 1 _ rfl
      have za := a_82.out.lt
      have qb0 : w81.cell? ⟨w.heap.size + 1, 0, none⟩ = some (.bool f2) := b_82.out.at 0 _ rfl
      have qb1 : w81.cell? ⟨w.heap.size + 1, 1, none⟩ = some (.slice A2 l2.length c2) := b_82.out.at 1 _ rfl
      have zb := b_82.out.lt
      have qp0 : w81.cell? ⟨w64.heap.size, 0, none⟩ = some (.bool pf) := p_82.out.at 0 _ rfl
      have qp1 : w81.cell? ⟨w64.heap.size, 1, none⟩ = some (.slice P m pc) := p_82.out.at 1 _ rfl
      have zp := p_82.out.lt
      have qq0 : w81.cell? ⟨w70.heap.size, 0, none⟩ = some (.bool pf) := q_82.out.at 0 _ rfl
      have qq1 : w81.cell? ⟨w70.heap.size, 1, none⟩ = some (.slice Q m qc) := q_82.out.at 1 _ rfl
      have zq := q_82.out.lt
      go_wp2_with fail
      go_ret
      exact ⟨rfl, X_82.out⟩
  · have Hr1 := Lib.hid hr1
    have Hr2 := Lib.hid hr2
    clear hr1 hr2
    go_enter Try.func3, Try.ntmps3
    go_wp2_with (go_at_call 10; refine stop_here ?_)
    refine stop_on ?_
    generalize hW : (World.alloc (World.alloc w _) _) = W83
    obtain ⟨hx, hb0, hb1⟩ := allocs2 hW
    clear hW
    have A_84 := Lib.hid (A_1.out.ext hx)
    have B_84 := Lib.hid (B_2.out.ext hx)
    have X_84 := Lib.hid (X_3.out.ext hx)
    clear A_1 B_2 X_3
    have a_85 := Lib.hid hb0
    have b_86 := Lib.hid hb1
    clear hx hb0 hb1
    refine (shown_any _).mono ?_
    rintro e w87 ⟨rfl, hx⟩
    have A_88 := Lib.hid (A_84.out.ext hx)
    have B_88 := Lib.hid (B_84.out.ext hx)
    have X_88 := Lib.hid (X_84.out.ext hx)
    have a_88 := Lib.hid (a_85.out.ext hx)
    have b_88 := Lib.hid (b_86.out.ext hx)
    clear A_84 B_84 X_84 a_85 b_86
    clear hx
    have qa0 : w87.cell? ⟨w.heap.size, 0, none⟩ = some (.bool f1) := a_88.out.at 0 _ rfl
    have qa1 : w87.cell? ⟨w.heap.size, 1, none⟩ = some (.slice A1 l1.length c1) := a_88.out.at 1 _ rfl
    have za := a_88.out.lt
    have qb0 : w87.cell? ⟨w.heap.size + 1, 0, none⟩ = some (.bool f2) := b_88.out.at 0 _ rfl
    have qb1 : w87.cell? ⟨w.heap.size + 1, 1, none⟩ = some (.slice A2 l2.length c2) := b_88.out.at 1 _ rfl
    have zb := b_88.out.lt
    go_wp2_with (go_at_call 11; refine stop_here ?_)
    refine stop_on ?_
    clear qa0 qa1 za qb0 qb1 zb
    refine (nodePrint_is f1 A1 l1 _ c1 _ rfl A_88.out Hx.out Hxe.out).mono ?_
    rintro e w89 ⟨rfl, hx⟩
    have A_90 := Lib.hid (A_88.out.ext hx)
    have B_90 := Lib.hid (B_88.out.ext hx)
    have X_90 := Lib.hid (X_88.out.ext hx)
    have a_90 := Lib.hid (a_88.out.ext hx)
    have b_90 := Lib.hid (b_88.out.ext hx)
    clear A_88 B_88 X_88 a_88 b_88
    clear hx
    have qa0 : w89.cell? ⟨w.heap.size, 0, none⟩ = some (.bool f1) := a_90.out.at 0 _ rfl
    have qa1 : w89.cell? ⟨w.heap.size, 1, none⟩ = some (.slice A1 l1.length c1) := a_90.out.at 1 _ rfl
    have za := a_90.out.lt
    have qb0 : w89.cell? ⟨w.heap.size + 1, 0, none⟩ = some (.bool f2) := b_90.out.at 0 _ rfl
    have qb1 : w89.cell? ⟨w.heap.size + 1, 1, none⟩ = some (.slice A2 l2.length c2) := b_90.out.at 1 _ rfl
    have zb := b_90.out.lt
    go_wp2_with (go_at_call 12; refine stop_here ?_)
    refine stop_on ?_
    clear qa0 qa1 za qb0 qb1 zb
    refine (ref04Print_is f1 A1 l1 _ c1 _ rfl A_90.out Hx.out Hxe.out).mono ?_
    rintro e w91 ⟨rfl, hx⟩
    have A_92 := Lib.hid (A_90.out.ext hx)
    have B_92 := Lib.hid (B_90.out.ext hx)
    have X_92 := Lib.hid (X_90.out.ext hx)
    have a_92 := Lib.hid (a_90.out.ext hx)
    have b_92 := Lib.hid (b_90.out.ext hx)
    clear A_90 B_90 X_90 a_90 b_90
    clear hx
    have qa0 : w91.cell? ⟨w.heap.size, 0, none⟩ = some (.bool f1) := a_92.out.at 0 _ rfl
    have qa1 : w91.cell? ⟨w.heap.size, 1, none⟩ = some (.slice A1 l1.length c1) := a_92.out.at 1 _ rfl
    have za := a_92.out.lt
    have qb0 : w91.cell? ⟨w.heap.size + 1, 0, none⟩ = some (.bool f2) := b_92.out.at 0 _ rfl
    have qb1 : w91.cell? ⟨w.heap.size + 1, 1, none⟩ = some (.slice A2 l2.length c2) := b_92.out.at 1 _ rfl
    have zb := b_92.out.lt
    go_wp2_with (go_at_call 13; refine stop_here ?_)
    refine stop_on ?_
    clear qa0 qa1 za qb0 qb1 zb
    refine (nodeParse_is t _ Ht.out Hpf.out Hpl.out Hm.out Hpe.out).mono ?_
    rintro e w93 ⟨P, pc, rfl, h1, hx⟩
    have A_94 := Lib.hid (A_92.out.ext hx)
    have B_94 := Lib.hid (B_92.out.ext hx)
    have X_94 := Lib.hid (X_92.out.ext hx)
    have a_94 := Lib.hid (a_92.out.ext hx)
    have b_94 := Lib.hid (b_92.out.ext hx)
    clear A_92 B_92 X_92 a_92 b_92
    have P_95 := Lib.hid h1
    clear hx h1
    have qa0 : w93.cell? ⟨w.heap.size, 0, none⟩ = some (.bool f1) := a_94.out.at 0 _ rfl
    have qa1 : w93.cell? ⟨w.heap.size, 1, none⟩ = some (.slice A1 l1.length c1) := a_94.out.at 1 _ rfl
    have za := a_94.out.lt
    have qb0 : w93.cell? ⟨w.heap.size + 1, 0, none⟩ = some (.bool f2) := b_94.out.at 0 _ rfl
    have qb1 : w93.cell? ⟨w.heap.size + 1, 1, none⟩ = some (.slice A2 l2.length c2) := b_94.out.at 1 _ rfl
    have zb := b_94.out.lt
    go_wp2_with (go_at_call 14; refine stop_here ?_)
    refine stop_on ?_
    clear qa0 qa1 za qb0 qb1 zb
    generalize hW : (World.alloc w93 _) = W96
    obtain ⟨hx, hb0⟩ := allocs1 hW
    clear hW
    have A_97 := Lib.hid (A_94.out.ext hx)
    have B_97 := Lib.hid (B_94.out.ext hx)
    have X_97 := Lib.hid (X_94.out.ext hx)
    have a_97 := Lib.hid (a_94.out.ext hx)
    have b_97 := Lib.hid (b_94.out.ext hx)
    have P_97 := Lib.hid (P_95.out.ext hx)
    clear A_94 B_94 X_94 a_94 b_94 P_95
    have p_98 := Lib.hid hb0
    clear hx hb0
    refine (ref04Parse_is t _ Ht.out Hpf.out Hpl.out Hm.out Hpe.out).mono ?_
    rintro e w99 ⟨Q, qc, rfl, h1, hx⟩
    have A_100 := Lib.hid (A_97.out.ext hx)
    have B_100 := Lib.hid (B_97.out.ext hx)
    have X_100 := Lib.hid (X_97.out.ext hx)
    have a_100 := Lib.hid (a_97.out.ext hx)
    have b_100 := Lib.hid (b_97.out.ext hx)
    have P_100 := Lib.hid (P_97.out.ext hx)
    have p_100 := Lib.hid (p_98.out.ext hx)
    clear A_97 B_97 X_97 a_97 b_97 P_97 p_98
    have Q_101 := Lib.hid h1
    clear hx h1
    have qa0 : w99.cell? ⟨w.heap.size, 0, none⟩ = some (.bool f1) := a_100.out.at 0 _ rfl
    have qa1 : w99.cell? ⟨w.heap.size, 1, none⟩ = some (.slice A1 l1.length c1) := a_100.out.at 1 _ rfl
    have za := a_100.out.lt
    have qb0 : w99.cell? ⟨w.heap.size + 1, 0, none⟩ = some (.bool f2) := b_100.out.at 0 _ rfl
    have qb1 : w99.cell? ⟨w.heap.size + 1, 1, none⟩ = some (.slice A2 l2.length c2) := b_100.out.at 1 _ rfl
    have zb := b_100.out.lt
    have qp0 : w99.cell? ⟨w93.heap.size, 0, none⟩ = some (.bool pf) := p_100.out.at 0 _ rfl
    have qp1 : w99.cell? ⟨w93.heap.size, 1, none⟩ = some (.slice P m pc) := p_100.out.at 1 _ rfl
    have zp := p_100.out.lt
    go_wp2_with (go_at_call 15; refine stop_here ?_)
    refine stop_on ?_
    clear qa0 qa1 za qb0 qb1 zb qp0 qp1 zp
    generalize hW : (World.alloc w99 _) = W102
    obtain ⟨hx, hb0⟩ := allocs1 hW
    clear hW
    have A_103 := Lib.hid (A_100.out.ext hx)
    have B_103 := Lib.hid (B_100.out.ext hx)
    have X_103 := Lib.hid (X_100.out.ext hx)
    have a_103 := Lib.hid (a_100.out.ext hx)
    have b_103 := Lib.hid (b_100.out.ext hx)
    have P_103 := Lib.hid (P_100.out.ext hx)
    have p_103 := Lib.hid (p_100.out.ext hx)
    have Q_103 := Lib.hid (Q_101.out.ext hx)
    clear A_100 B_100 X_100 a_100 b_100 P_100 p_100 Q_101
    have q_104 := Lib.hid hb0
    clear hx hb0
    refine (ref04Right_is f1 A1 l1 _ c1 _ rfl A_103.out Hr1.out).mono ?_
    rintro e w105 ⟨rfl, hx⟩
    have A_106 := Lib.hid (A_103.out.ext hx)
    have B_106 := Lib.hid (B_103.out.ext hx)
    have X_106 := Lib.hid (X_103.out.ext hx)
    have a_106 := Lib.hid (a_103.out.ext hx)
    have b_106 := Lib.hid (b_103.out.ext hx)
    have P_106 := Lib.hid (P_103.out.ext hx)
    have p_106 := Lib.hid (p_103.out.ext hx)
    have Q_106 := Lib.hid (Q_103.out.ext hx)
    have q_106 := Lib.hid (q_104.out.ext hx)
    clear A_103 B_103 X_103 a_103 b_103 P_103 p_103 Q_103 q_104
    clear hx
    have qa0 : w105.cell? ⟨w.heap.size, 0, none⟩ = some (.bool f1) := a_106.out.at 0 _ rfl
    have qa1 : w105.cell? ⟨w.heap.size, 1, none⟩ = some (.slice A1 l1.length c1) := a_106.out.at 1 _ rfl
    have za := a_106.out.lt
    have qb0 : w105.cell? ⟨w.heap.size + 1, 0, none⟩ = some (.bool f2) := b_106.out.at 0 _ rfl
    have qb1 : w105.cell? ⟨w.heap.size + 1, 1, none⟩ = some (.slice A2 l2.length c2) := b_106.out.at 1 _ rfl
    have zb := b_106.out.lt
    have qp0 : w105.cell? ⟨w93.heap.size, 0, none⟩ = some (.bool pf) := p_106.out.at 0 _ rfl
    have qp1 : w105.cell? ⟨w93.heap.size, 1, none⟩ = some (.slice P m pc) := p_106.out.at 1 _ rfl
    have zp := p_106.out.lt
    have qq0 : w105.cell? ⟨w99.heap.size, 0, none⟩ = some (.bool pf) := q_106.out.at 0 _ rfl
    have qq1 : w105.cell? ⟨w99.heap.size, 1, none⟩ = some (.slice Q m qc) := q_106.out.at 1 _ rfl
    have zq := q_106.out.lt
    go_wp2_with fail
    have HK107 := Lib.hid (fun w' (hx : Ext w105 w') => (show w'.cell? ⟨w.heap.size, 0, none⟩ = some (.bool f1) ∧ w'.cell? ⟨w.heap.size, 1, none⟩ = some (.slice A1 l1.length c1) ∧ w'.cell? ⟨w.heap.size + 1, 0, none⟩ = some (.bool f2) ∧ w'.cell? ⟨w.heap.size + 1, 1, none⟩ = some (.slice A2 l2.length c2) from ⟨(a_106.out.ext hx).at 0 _ rfl, (a_106.out.ext hx).at 1 _ rfl, (b_106.out.ext hx).at 0 _ rfl, (b_106.out.ext hx).at 1 _ rfl⟩))
    have G107_0 := Lib.hid (fun w' (hx : Ext w105 w') => ref04Right_is f2 A2 l2 _ c2 w' rfl (B_106.out.ext hx) Hr2.out)
    have G107_1 := Lib.hid (fun w' (hx : Ext w105 w') => nodeSame_is f1 f2 A1 A2 l1 l2 _ _ c1 c2 w' rfl rfl (A_106.out.ext hx) (B_106.out.ext hx) Hr1.out Hr2.out Hsr.out)
    have G107_2 := Lib.hid (fun w' (hx : Ext w105 w') => ref04Same_is f1 f2 A1 A2 l1 l2 _ _ c1 c2 w' rfl rfl (A_106.out.ext hx) (B_106.out.ext hx) Hsr.out)
    clear qa0 qa1 za qb0 qb1 zb qp0 qp1 zp qq0 qq1 zq
    have qa0 : w105.cell? ⟨w.heap.size, 0, none⟩ = some (.bool f1) := a_106.out.at 0 _ rfl
    have qa1 : w105.cell? ⟨w.heap.size, 1, none⟩ = some (.slice A1 l1.length c1) := a_106.out.at 1 _ rfl
    have za := a_106.out.lt
    have qb0 : w105.cell? ⟨w.heap.size + 1, 0, none⟩ = some (.bool f2) := b_106.out.at 0 _ rfl
    have qb1 : w105.cell? ⟨w.heap.size + 1, 1, none⟩ = some (.slice A2 l2.length c2) := b_106.out.at 1 _ rfl
    have zb := b_106.out.lt
    go_region_held3 (fun w' => w'.cell? ⟨w.heap.size, 0, none⟩ = some (.bool f1) ∧ w'.cell? ⟨w.heap.size, 1, none⟩ = some (.slice A1 l1.length c1) ∧ w'.cell? ⟨w.heap.size + 1, 0, none⟩ = some (.bool f2) ∧ w'.cell? ⟨w.heap.size + 1, 1, none⟩ = some (.slice A2 l2.length c2))
      (first | exact HK107.out _ E107_2.out | exact HK107.out _ E107_1.out | exact HK107.out _ E107_0.out | exact HK107.out _ (Ext.refl w105).drew | exact HK107.out _ (Ext.refl w105))
      (first
        | ((go_at_call 17
            with_reducible refine (G107_2.out _ E107_1.out).mono ?_
            rintro e v107_2 ⟨rfl, hx⟩
            have E107_2 := Lib.hid (E107_1.out.trans hx)
            clear hx))
        | ((go_at_call 16
            with_reducible refine (G107_1.out _ E107_0.out).mono ?_
            rintro e v107_1 ⟨rfl, hx⟩
            have E107_1 := Lib.hid (E107_0.out.trans hx)
            clear hx))
        | ((go_at_call 15
            with_reducible refine (G107_0.out _ ?_).mono ?_
            (first | exact Ext.refl _ | exact (Ext.refl _).drew)
            rintro e v107_0 ⟨rfl, hx⟩
            have E107_0 := Lib.hid (show Ext w105 v107_0 from by first | exact hx | exact (Ext.refl w105).drew.trans hx)
            clear hx)))
    clear qa0 qa1 za qb0 qb1 zb
    have A_108 := Lib.hid (A_106.out.ext E107_2.out)
    have B_108 := Lib.hid (B_106.out.ext E107_2.out)
    have X_108 := Lib.hid (X_106.out.ext E107_2.out)
    have a_108 := Lib.hid (a_106.out.ext E107_2.out)
    have b_108 := Lib.hid (b_106.out.ext E107_2.out)
    have P_108 := Lib.hid (P_106.out.ext E107_2.out)
    have p_108 := Lib.hid (p_106.out.ext E107_2.out)
    have Q_108 := Lib.hid (Q_106.out.ext E107_2.out)
    have q_108 := Lib.hid (q_106.out.ext E107_2.out)
    clear A_106 B_106 X_106 a_106 b_106 P_106 p_106 Q_106 q_106
    have qa0 : v107_2.cell? ⟨w.heap.size, 0, none⟩ = some (.bool f1) := a_108.out.at 0 _ rfl
    have qa1 : v107_2.cell? ⟨w.heap.size, 1, none⟩ = some (.slice A1 l1.length c1) := a_108.out.at 1 _ rfl
    have za := a_108.out.lt
    have qb0 : v107_2.cell? ⟨w.heap.size + 1, 0, none⟩ = some (.bool f2) := b_108.out.at 0 _ rfl
    have qb1 : v107_2.cell? ⟨w.heap.size + 1, 1, none⟩ = some (.slice A2 l2.length c2) := b_108.out.at 1 _ rfl
    have zb := b_108.out.lt
    have qp0 : v107_2.cell? ⟨w93.heap.size, 0, none⟩ = some (.bool pf) := p_108.out.at 0 _ rfl
    have qp1 : v107_2.cell? ⟨w93.heap.size, 1, none⟩ = some (.slice P m pc) := p_108.out.at 1 _ rfl
    have zp := p_108.out.lt
    have qq0 : v107_2.cell? ⟨w99.heap.size, 0, none⟩ = some (.bool pf) := q_108.out.at 0 _ rfl
    have qq1 : v107_2.cell? ⟨w99.heap.size, 1, none⟩ = some (.slice Q m qc) := q_108.out.at 1 _ rfl
    have zq := q_108.out.lt
    go_wp2_with (go_at_call 18; refine stop_here ?_)
    refine stop_on ?_
    clear qa0 qa1 za qb0 qb1 zb qp0 qp1 zp qq0 qq1 zq
    refine (nodeRight_is f1 A1 l1 _ c1 _ rfl A_108.out Hr1.out).mono ?_
    rintro e w109 ⟨rfl, hx⟩
    have A_110 := Lib.hid (A_108.out.ext hx)
    have B_110 := Lib.hid (B_108.out.ext hx)
    have X_110 := Lib.hid (X_108.out.ext hx)
    have a_110 := Lib.hid (a_108.out.ext hx)
    have b_110 := Lib.hid (b_108.out.ext hx)
    have P_110 := Lib.hid (P_108.out.ext hx)
    have p_110 := Lib.hid (p_108.out.ext hx)
    have Q_110 := Lib.hid (Q_108.out.ext hx)
    have q_110 := Lib.hid (q_108.out.ext hx)
    clear A_108 B_108 X_108 a_108 b_108 P_108 p_108 Q_108 q_108
    clear hx
    have qa0 : w109.cell? ⟨w.heap.size, 0, none⟩ = some (.bool f1) := a_110.out.at 0 _ rfl
    have qa1 : w109.cell? ⟨w.heap.size, 1, none⟩ = some (.slice A1 l1.length c1) := a_110.out.at 1 _ rfl
    have za := a_110.out.lt
    have qb0 : w109.cell? ⟨w.heap.size + 1, 0, none⟩ = some (.bool f2) := b_110.out.at 0 _ rfl
    have qb1 : w109.cell? ⟨w.heap.size + 1, 1, none⟩ = some (.slice A2 l2.length c2) := b_110.out.at 1 _ rfl
    have zb := b_110.out.lt
    have qp0 : w109.cell? ⟨w93.heap.size, 0, none⟩ = some (.bool pf) := p_110.out.at 0 _ rfl
    have qp1 : w109.cell? ⟨w93.heap.size, 1, none⟩ = some (.slice P m pc) := p_110.out.at 1 _ rfl
    have zp := p_110.out.lt
    have qq0 : w109.cell? ⟨w99.heap.size, 0, none⟩ = some (.bool pf) := q_110.out.at 0 _ rfl
    have qq1 : w109.cell? ⟨w99.heap.size, 1, none⟩ = some (.slice Q m qc) := q_110.out.at 1 _ rfl
    have zq := q_110.out.lt
    go_wp2_with (go_at_call 17; refine stop_here ?_)
    refine stop_on ?_
    clear qa0 qa1 za qb0 qb1 zb qp0 qp1 zp qq0 qq1 zq
    refine (ref04Same_is pf pf P Q pl pl m m pc qc _ Hm.out Hm.out P_110.out Q_110.out (same_self pf pl)).mono ?_
    rintro e w111 ⟨rfl, hx⟩
    have A_112 := Lib.hid (A_110.out.ext hx)
    have B_112 := Lib.hid (B_110.out.ext hx)
    have X_112 := Lib.hid (X_110.out.ext hx)
    have a_112 := Lib.hid (a_110.out.ext hx)
    have b_112 := Lib.hid (b_110.out.ext hx)
    have P_112 := Lib.hid (P_110.out.ext hx)
    have p_112 := Lib.hid (p_110.out.ext hx)
    have Q_112 := Lib.hid (Q_110.out.ext hx)
    have q_112 := Lib.hid (q_110.out.ext hx)
    clear A_110 B_110 X_110 a_110 b_110 P_110 p_110 Q_110 q_110
    clear hx
    have qa0 : w111.cell? ⟨w.heap.size, 0, none⟩ = some (.bool f1) := a_112.out.at 0 _ rfl
    have qa1 : w111.cell? ⟨w.heap.size, 1, none⟩ = some (.slice A1 l1.length c1) := a_112.out.at 1 _ rfl
    have za := a_112.out.lt
    have qb0 : w111.cell? ⟨w.heap.size + 1, 0, none⟩ = some (.bool f2) := b_112.out.at 0 _ rfl
    have qb1 : w111.cell? ⟨w.heap.size + 1, 1, none⟩ = some (.slice A2 l2.length c2) := b_112.out.at 1 _ rfl
    have zb := b_112.out.lt
    have qp0 : w111.cell? ⟨w93.heap.size, 0, none⟩ = some (.bool pf) := p_112.out.at 0 _ rfl
    have qp1 : w111.cell? ⟨w93.heap.size, 1, none⟩ = some (.slice P m pc) := p_112.out.at 1 _ rfl
    have zp := p_112.out.lt
    have qq0 : w111.cell? ⟨w99.heap.size, 0, none⟩ = some (.bool pf) := q_112.out.at 0 _ rfl
    have qq1 : w111.cell? ⟨w99.heap.size, 1, none⟩ = some (.slice Q m qc) := q_112.out.at 1 _ rfl
    have zq := q_112.out.lt
    go_wp2_with fail
    go_ret
    exact ⟨rfl, X_112.out⟩
end Go.Proofs.Ytpcchbcibcfldaa

