/- The walk of SlotBlocks. -/
import Derived.Test.YthaebcljehmhmaaSlotN
namespace Go.Proofs.Ythaebcljehmhmaa
open Go.RowKit
attribute [local go_sem ↓] Go.wp_at_zero Go.wp_at_succ

set_option maxRecDepth 100000 in
set_option maxHeartbeats 8000000 in
theorem blocks_any (g1 z1 s1 g2 z2 s2 : Int) (w : World) :
    Calls Try.prog 7 #[.agg #[.int .i64 g1, .int .i64 z1, .int .i64 s1], .agg #[.int .i64 g2, .int .i64 z2, .int .i64 s2]] w fun e w' => e = .returned (.bool true) ∧ Ext w w' := by
  have X_1 := Lib.hid (Ext.refl w)
  cases hr1 : supR ⟨g1, z1, s1⟩
  · have H1 := Lib.hid hr1
    clear hr1
    go_enter Try.func7, Try.ntmps7
    go_wp2_with (go_at_call 8; refine stop_here ?_)
    refine stop_on ?_
    generalize hW : (World.alloc (World.alloc w _) _) = W2
    obtain ⟨hx, hb0, hb1⟩ := allocs2 hW
    clear hW
    have X_3 := Lib.hid (X_1.out.ext hx)
    clear X_1
    have s_4 := Lib.hid hb0
    have t_5 := Lib.hid hb1
    clear hx hb0 hb1
    refine (shown_any _).mono ?_
    rintro e w6 ⟨rfl, hx⟩
    have X_7 := Lib.hid (X_3.out.ext hx)
    have s_7 := Lib.hid (s_4.out.ext hx)
    have t_7 := Lib.hid (t_5.out.ext hx)
    clear X_3 s_4 t_5
    clear hx
    have qs0 : w6.cell? ⟨w.heap.size, 0, none⟩ = some (.int .i64 g1) := s_7.out.at 0 _ rfl
    have qs1 : w6.cell? ⟨w.heap.size, 1, none⟩ = some (.int .i64 z1) := s_7.out.at 1 _ rfl
    have qs2 : w6.cell? ⟨w.heap.size, 2, none⟩ = some (.int .i64 s1) := s_7.out.at 2 _ rfl
    have zs := s_7.out.lt
    have qt0 : w6.cell? ⟨w.heap.size + 1, 0, none⟩ = some (.int .i64 g2) := t_7.out.at 0 _ rfl
    have qt1 : w6.cell? ⟨w.heap.size + 1, 1, none⟩ = some (.int .i64 z2) := t_7.out.at 1 _ rfl
    have qt2 : w6.cell? ⟨w.heap.size + 1, 2, none⟩ = some (.int .i64 s2) := t_7.out.at 2 _ rfl
    have zt := t_7.out.lt
    go_wp2_with (go_at_call 18; refine stop_here ?_)
    refine stop_on ?_
    clear qs0 qs1 qs2 zs qt0 qt1 qt2 zt
    refine (ref03Right_is g1 z1 s1 _ H1.out).mono ?_
    rintro e w8 ⟨rfl, hx⟩
    have X_9 := Lib.hid (X_7.out.ext hx)
    have s_9 := Lib.hid (s_7.out.ext hx)
    have t_9 := Lib.hid (t_7.out.ext hx)
    clear X_7 s_7 t_7
    clear hx
    have qs0 : w8.cell? ⟨w.heap.size, 0, none⟩ = some (.int .i64 g1) := s_9.out.at 0 _ rfl
    have qs1 : w8.cell? ⟨w.heap.size, 1, none⟩ = some (.int .i64 z1) := s_9.out.at 1 _ rfl
    have qs2 : w8.cell? ⟨w.heap.size, 2, none⟩ = some (.int .i64 s1) := s_9.out.at 2 _ rfl
    have zs := s_9.out.lt
    have qt0 : w8.cell? ⟨w.heap.size + 1, 0, none⟩ = some (.int .i64 g2) := t_9.out.at 0 _ rfl
    have qt1 : w8.cell? ⟨w.heap.size + 1, 1, none⟩ = some (.int .i64 z2) := t_9.out.at 1 _ rfl
    have qt2 : w8.cell? ⟨w.heap.size + 1, 2, none⟩ = some (.int .i64 s2) := t_9.out.at 2 _ rfl
    have zt := t_9.out.lt
    go_wp2
    go_ret
    exact ⟨rfl, X_9.out⟩
  cases hr2 : supR ⟨g2, z2, s2⟩
  · have H1 := Lib.hid hr1
    have H2 := Lib.hid hr2
    clear hr1 hr2
    go_enter Try.func7, Try.ntmps7
    go_wp2_with (go_at_call 8; refine stop_here ?_)
    refine stop_on ?_
    generalize hW : (World.alloc (World.alloc w _) _) = W10
    obtain ⟨hx, hb0, hb1⟩ := allocs2 hW
    clear hW
    have X_11 := Lib.hid (X_1.out.ext hx)
    clear X_1
    have s_12 := Lib.hid hb0
    have t_13 := Lib.hid hb1
    clear hx hb0 hb1
    refine (shown_any _).mono ?_
    rintro e w14 ⟨rfl, hx⟩
    have X_15 := Lib.hid (X_11.out.ext hx)
    have s_15 := Lib.hid (s_12.out.ext hx)
    have t_15 := Lib.hid (t_13.out.ext hx)
    clear X_11 s_12 t_13
    clear hx
    have qs0 : w14.cell? ⟨w.heap.size, 0, none⟩ = some (.int .i64 g1) := s_15.out.at 0 _ rfl
    have qs1 : w14.cell? ⟨w.heap.size, 1, none⟩ = some (.int .i64 z1) := s_15.out.at 1 _ rfl
    have qs2 : w14.cell? ⟨w.heap.size, 2, none⟩ = some (.int .i64 s1) := s_15.out.at 2 _ rfl
    have zs := s_15.out.lt
    have qt0 : w14.cell? ⟨w.heap.size + 1, 0, none⟩ = some (.int .i64 g2) := t_15.out.at 0 _ rfl
    have qt1 : w14.cell? ⟨w.heap.size + 1, 1, none⟩ = some (.int .i64 z2) := t_15.out.at 1 _ rfl
    have qt2 : w14.cell? ⟨w.heap.size + 1, 2, none⟩ = some (.int .i64 s2) := t_15.out.at 2 _ rfl
    have zt := t_15.out.lt
    go_wp2_with (go_at_call 18; refine stop_here ?_)
    refine stop_on ?_
    clear qs0 qs1 qs2 zs qt0 qt1 qt2 zt
    refine (ref03Right_is g1 z1 s1 _ H1.out).mono ?_
    rintro e w16 ⟨rfl, hx⟩
    have X_17 := Lib.hid (X_15.out.ext hx)
    have s_17 := Lib.hid (s_15.out.ext hx)
    have t_17 := Lib.hid (t_15.out.ext hx)
    clear X_15 s_15 t_15
    clear hx
    have qs0 : w16.cell? ⟨w.heap.size, 0, none⟩ = some (.int .i64 g1) := s_17.out.at 0 _ rfl
    have qs1 : w16.cell? ⟨w.heap.size, 1, none⟩ = some (.int .i64 z1) := s_17.out.at 1 _ rfl
    have qs2 : w16.cell? ⟨w.heap.size, 2, none⟩ = some (.int .i64 s1) := s_17.out.at 2 _ rfl
    have zs := s_17.out.lt
    have qt0 : w16.cell? ⟨w.heap.size + 1, 0, none⟩ = some (.int .i64 g2) := t_17.out.at 0 _ rfl
    have qt1 : w16.cell? ⟨w.heap.size + 1, 1, none⟩ = some (.int .i64 z2) := t_17.out.at 1 _ rfl
    have qt2 : w16.cell? ⟨w.heap.size + 1, 2, none⟩ = some (.int .i64 s2) := t_17.out.at 2 _ rfl
    have zt := t_17.out.lt
    go_wp2_with (go_at_call 18; refine stop_here ?_)
    refine stop_on ?_
    clear qs0 qs1 qs2 zs qt0 qt1 qt2 zt
    refine (ref03Right_is g2 z2 s2 _ H2.out).mono ?_
    rintro e w18 ⟨rfl, hx⟩
    have X_19 := Lib.hid (X_17.out.ext hx)
    have s_19 := Lib.hid (s_17.out.ext hx)
    have t_19 := Lib.hid (t_17.out.ext hx)
    clear X_17 s_17 t_17
    clear hx
    have qs0 : w18.cell? ⟨w.heap.size, 0, none⟩ = some (.int .i64 g1) := s_19.out.at 0 _ rfl
    have qs1 : w18.cell? ⟨w.heap.size, 1, none⟩ = some (.int .i64 z1) := s_19.out.at 1 _ rfl
    have qs2 : w18.cell? ⟨w.heap.size, 2, none⟩ = some (.int .i64 s1) := s_19.out.at 2 _ rfl
    have zs := s_19.out.lt
    have qt0 : w18.cell? ⟨w.heap.size + 1, 0, none⟩ = some (.int .i64 g2) := t_19.out.at 0 _ rfl
    have qt1 : w18.cell? ⟨w.heap.size + 1, 1, none⟩ = some (.int .i64 z2) := t_19.out.at 1 _ rfl
    have qt2 : w18.cell? ⟨w.heap.size + 1, 2, none⟩ = some (.int .i64 s2) := t_19.out.at 2 _ rfl
    have zt := t_19.out.lt
    go_wp2
    go_ret
    exact ⟨rfl, X_19.out⟩
  have ha := supB_size _ hr1
  have e1 := eq_same g1 z1 s1
  have hq : pickV (supB ⟨g1, z1, s1⟩) (supB ⟨g1, z1, s1⟩) = .tuple #[.int .i64 0, .agg #[.int .i64 g1, .int .i64 z1, .int .i64 s1], .int .i64 0] := by rw [pick_two hr1 hr1, if_neg (by omega), if_neg (by omega)]; rfl
  have Hm := Lib.hid (show (supB ⟨g1, z1, s1⟩).size ≤ maxLen from by rw [ha]; unfold maxLen; omega)
  by_cases he : (⟨g1, z1, s1⟩ : Sup) = ⟨g2, z2, s2⟩
  · have H1 := Lib.hid hr1
    have H2 := Lib.hid hr2
    have He1 := Lib.hid (show supE ⟨g1, z1, s1⟩ = 0 from by unfold supE; rw [hr1]; rfl)
    have He2 := Lib.hid (show supE ⟨g2, z2, s2⟩ = 0 from by unfold supE; rw [hr2]; rfl)
    have Hq := Lib.hid hq
    clear hr1 hr2 hq
    cases he
    obtain ⟨a, hx⟩ : ∃ x, supB ⟨g1, z1, s1⟩ = x := ⟨_, rfl⟩
    rw [hx] at ha Hq Hm
    have Hx := Lib.hid hx
    clear hx
    have ha1 : (a.size : Int) = 40 := by omega
    clear ha
    go_enter Try.func7, Try.ntmps7
    go_wp2_with (go_at_call 8; refine stop_here ?_)
    refine stop_on ?_
    generalize hW : (World.alloc (World.alloc w _) _) = W20
    obtain ⟨hx, hb0, hb1⟩ := allocs2 hW
    clear hW
    have X_21 := Lib.hid (X_1.out.ext hx)
    clear X_1
    have s_22 := Lib.hid hb0
    have t_23 := Lib.hid hb1
    clear hx hb0 hb1
    refine (shown_any _).mono ?_
    rintro e w24 ⟨rfl, hx⟩
    have X_25 := Lib.hid (X_21.out.ext hx)
    have s_25 := Lib.hid (s_22.out.ext hx)
    have t_25 := Lib.hid (t_23.out.ext hx)
    clear X_21 s_22 t_23
    clear hx
    have qs0 : w24.cell? ⟨w.heap.size, 0, none⟩ = some (.int .i64 g1) := s_25.out.at 0 _ rfl
    have qs1 : w24.cell? ⟨w.heap.size, 1, none⟩ = some (.int .i64 z1) := s_25.out.at 1 _ rfl
    have qs2 : w24.cell? ⟨w.heap.size, 2, none⟩ = some (.int .i64 s1) := s_25.out.at 2 _ rfl
    have zs := s_25.out.lt
    have qt0 : w24.cell? ⟨w.heap.size + 1, 0, none⟩ = some (.int .i64 g1) := t_25.out.at 0 _ rfl
    have qt1 : w24.cell? ⟨w.heap.size + 1, 1, none⟩ = some (.int .i64 z1) := t_25.out.at 1 _ rfl
    have qt2 : w24.cell? ⟨w.heap.size + 1, 2, none⟩ = some (.int .i64 s1) := t_25.out.at 2 _ rfl
    have zt := t_25.out.lt
    go_wp2_with (go_at_call 18; refine stop_here ?_)
    refine stop_on ?_
    clear qs0 qs1 qs2 zs qt0 qt1 qt2 zt
    refine (ref03Right_is g1 z1 s1 _ H1.out).mono ?_
    rintro e w26 ⟨rfl, hx⟩
    have X_27 := Lib.hid (X_25.out.ext hx)
    have s_27 := Lib.hid (s_25.out.ext hx)
    have t_27 := Lib.hid (t_25.out.ext hx)
    clear X_25 s_25 t_25
    clear hx
    have qs0 : w26.cell? ⟨w.heap.size, 0, none⟩ = some (.int .i64 g1) := s_27.out.at 0 _ rfl
    have qs1 : w26.cell? ⟨w.heap.size, 1, none⟩ = some (.int .i64 z1) := s_27.out.at 1 _ rfl
    have qs2 : w26.cell? ⟨w.heap.size, 2, none⟩ = some (.int .i64 s1) := s_27.out.at 2 _ rfl
    have zs := s_27.out.lt
    have qt0 : w26.cell? ⟨w.heap.size + 1, 0, none⟩ = some (.int .i64 g1) := t_27.out.at 0 _ rfl
    have qt1 : w26.cell? ⟨w.heap.size + 1, 1, none⟩ = some (.int .i64 z1) := t_27.out.at 1 _ rfl
    have qt2 : w26.cell? ⟨w.heap.size + 1, 2, none⟩ = some (.int .i64 s1) := t_27.out.at 2 _ rfl
    have zt := t_27.out.lt
    go_wp2_with (go_at_call 18; refine stop_here ?_)
    refine stop_on ?_
    clear qs0 qs1 qs2 zs qt0 qt1 qt2 zt
    refine (ref03Right_is g1 z1 s1 _ H2.out).mono ?_
    rintro e w28 ⟨rfl, hx⟩
    have X_29 := Lib.hid (X_27.out.ext hx)
    have s_29 := Lib.hid (s_27.out.ext hx)
    have t_29 := Lib.hid (t_27.out.ext hx)
    clear X_27 s_27 t_27
    clear hx
    have qs0 : w28.cell? ⟨w.heap.size, 0, none⟩ = some (.int .i64 g1) := s_29.out.at 0 _ rfl
    have qs1 : w28.cell? ⟨w.heap.size, 1, none⟩ = some (.int .i64 z1) := s_29.out.at 1 _ rfl
    have qs2 : w28.cell? ⟨w.heap.size, 2, none⟩ = some (.int .i64 s1) := s_29.out.at 2 _ rfl
    have zs := s_29.out.lt
    have qt0 : w28.cell? ⟨w.heap.size + 1, 0, none⟩ = some (.int .i64 g1) := t_29.out.at 0 _ rfl
    have qt1 : w28.cell? ⟨w.heap.size + 1, 1, none⟩ = some (.int .i64 z1) := t_29.out.at 1 _ rfl
    have qt2 : w28.cell? ⟨w.heap.size + 1, 2, none⟩ = some (.int .i64 s1) := t_29.out.at 2 _ rfl
    have zt := t_29.out.lt
    go_wp2_with (go_at_call 9; refine stop_here ?_)
    refine stop_on ?_
    clear qs0 qs1 qs2 zs qt0 qt1 qt2 zt
    refine (slotPrint_is g1 z1 s1 _ Hx.out He1.out).mono ?_
    rintro e w30 ⟨rfl, hx⟩
    have X_31 := Lib.hid (X_29.out.ext hx)
    have s_31 := Lib.hid (s_29.out.ext hx)
    have t_31 := Lib.hid (t_29.out.ext hx)
    clear X_29 s_29 t_29
    clear hx
    have qs0 : w30.cell? ⟨w.heap.size, 0, none⟩ = some (.int .i64 g1) := s_31.out.at 0 _ rfl
    have qs1 : w30.cell? ⟨w.heap.size, 1, none⟩ = some (.int .i64 z1) := s_31.out.at 1 _ rfl
    have qs2 : w30.cell? ⟨w.heap.size, 2, none⟩ = some (.int .i64 s1) := s_31.out.at 2 _ rfl
    have zs := s_31.out.lt
    have qt0 : w30.cell? ⟨w.heap.size + 1, 0, none⟩ = some (.int .i64 g1) := t_31.out.at 0 _ rfl
    have qt1 : w30.cell? ⟨w.heap.size + 1, 1, none⟩ = some (.int .i64 z1) := t_31.out.at 1 _ rfl
    have qt2 : w30.cell? ⟨w.heap.size + 1, 2, none⟩ = some (.int .i64 s1) := t_31.out.at 2 _ rfl
    have zt := t_31.out.lt
    go_wp2_with (go_at_call 9; refine stop_here ?_)
    refine stop_on ?_
    clear qs0 qs1 qs2 zs qt0 qt1 qt2 zt
    refine (slotPrint_is g1 z1 s1 _ Hx.out He2.out).mono ?_
    rintro e w32 ⟨rfl, hx⟩
    have X_33 := Lib.hid (X_31.out.ext hx)
    have s_33 := Lib.hid (s_31.out.ext hx)
    have t_33 := Lib.hid (t_31.out.ext hx)
    clear X_31 s_31 t_31
    clear hx
    have qs0 : w32.cell? ⟨w.heap.size, 0, none⟩ = some (.int .i64 g1) := s_33.out.at 0 _ rfl
    have qs1 : w32.cell? ⟨w.heap.size, 1, none⟩ = some (.int .i64 z1) := s_33.out.at 1 _ rfl
    have qs2 : w32.cell? ⟨w.heap.size, 2, none⟩ = some (.int .i64 s1) := s_33.out.at 2 _ rfl
    have zs := s_33.out.lt
    have qt0 : w32.cell? ⟨w.heap.size + 1, 0, none⟩ = some (.int .i64 g1) := t_33.out.at 0 _ rfl
    have qt1 : w32.cell? ⟨w.heap.size + 1, 1, none⟩ = some (.int .i64 z1) := t_33.out.at 1 _ rfl
    have qt2 : w32.cell? ⟨w.heap.size + 1, 2, none⟩ = some (.int .i64 s1) := t_33.out.at 2 _ rfl
    have zt := t_33.out.lt
    go_wp2_with (go_at_call 13; refine stop_here ?_)
    refine stop_on ?_
    clear qs0 qs1 qs2 zs qt0 qt1 qt2 zt
    refine (slotPick_is a a _ Hm.out Hm.out Hq.out).mono ?_
    rintro e w34 ⟨rfl, hx⟩
    have X_35 := Lib.hid (X_33.out.ext hx)
    have s_35 := Lib.hid (s_33.out.ext hx)
    have t_35 := Lib.hid (t_33.out.ext hx)
    clear X_33 s_33 t_33
    clear hx
    have qs0 : w34.cell? ⟨w.heap.size, 0, none⟩ = some (.int .i64 g1) := s_35.out.at 0 _ rfl
    have qs1 : w34.cell? ⟨w.heap.size, 1, none⟩ = some (.int .i64 z1) := s_35.out.at 1 _ rfl
    have qs2 : w34.cell? ⟨w.heap.size, 2, none⟩ = some (.int .i64 s1) := s_35.out.at 2 _ rfl
    have zs := s_35.out.lt
    have qt0 : w34.cell? ⟨w.heap.size + 1, 0, none⟩ = some (.int .i64 g1) := t_35.out.at 0 _ rfl
    have qt1 : w34.cell? ⟨w.heap.size + 1, 1, none⟩ = some (.int .i64 z1) := t_35.out.at 1 _ rfl
    have qt2 : w34.cell? ⟨w.heap.size + 1, 2, none⟩ = some (.int .i64 s1) := t_35.out.at 2 _ rfl
    have zt := t_35.out.lt
    go_wp2_with (go_at_call 17; refine stop_here ?_)
    refine stop_on ?_
    clear qs0 qs1 qs2 zs qt0 qt1 qt2 zt
    generalize hW : (World.alloc w34 _) = W36
    obtain ⟨hx, hb0⟩ := allocs1 hW
    clear hW
    have X_37 := Lib.hid (X_35.out.ext hx)
    have s_37 := Lib.hid (s_35.out.ext hx)
    have t_37 := Lib.hid (t_35.out.ext hx)
    clear X_35 s_35 t_35
    have p_38 := Lib.hid hb0
    clear hx hb0
    refine (slotRight_is g1 z1 s1 _ H1.out).mono ?_
    rintro e w39 ⟨rfl, hx⟩
    have X_40 := Lib.hid (X_37.out.ext hx)
    have s_40 := Lib.hid (s_37.out.ext hx)
    have t_40 := Lib.hid (t_37.out.ext hx)
    have p_40 := Lib.hid (p_38.out.ext hx)
    clear X_37 s_37 t_37 p_38
    clear hx
    have qs0 : w39.cell? ⟨w.heap.size, 0, none⟩ = some (.int .i64 g1) := s_40.out.at 0 _ rfl
    have qs1 : w39.cell? ⟨w.heap.size, 1, none⟩ = some (.int .i64 z1) := s_40.out.at 1 _ rfl
    have qs2 : w39.cell? ⟨w.heap.size, 2, none⟩ = some (.int .i64 s1) := s_40.out.at 2 _ rfl
    have zs := s_40.out.lt
    have qt0 : w39.cell? ⟨w.heap.size + 1, 0, none⟩ = some (.int .i64 g1) := t_40.out.at 0 _ rfl
    have qt1 : w39.cell? ⟨w.heap.size + 1, 1, none⟩ = some (.int .i64 z1) := t_40.out.at 1 _ rfl
    have qt2 : w39.cell? ⟨w.heap.size + 1, 2, none⟩ = some (.int .i64 s1) := t_40.out.at 2 _ rfl
    have zt := t_40.out.lt
    have qp0 : w39.cell? ⟨w34.heap.size, 0, none⟩ = some (.int .i64 g1) := p_40.out.at 0 _ rfl
    have qp1 : w39.cell? ⟨w34.heap.size, 1, none⟩ = some (.int .i64 z1) := p_40.out.at 1 _ rfl
    have qp2 : w39.cell? ⟨w34.heap.size, 2, none⟩ = some (.int .i64 s1) := p_40.out.at 2 _ rfl
    have zp := p_40.out.lt
    go_wp2
    go_ret
    exact ⟨rfl, X_40.out⟩
  · have hne := block_ne hr1 hr2 he
    have e2 := eq_diff he
    clear he
    have H1 := Lib.hid hr1
    have H2 := Lib.hid hr2
    have He1 := Lib.hid (show supE ⟨g1, z1, s1⟩ = 0 from by unfold supE; rw [hr1]; rfl)
    have He2 := Lib.hid (show supE ⟨g2, z2, s2⟩ = 0 from by unfold supE; rw [hr2]; rfl)
    have Hq := Lib.hid hq
    clear hr1 hr2 hq
    obtain ⟨a, hx⟩ : ∃ x, supB ⟨g1, z1, s1⟩ = x := ⟨_, rfl⟩
    obtain ⟨b, hy⟩ : ∃ x, supB ⟨g2, z2, s2⟩ = x := ⟨_, rfl⟩
    rw [hx] at ha Hq hne Hm
    rw [hy] at hne
    have Hx := Lib.hid hx
    have Hy := Lib.hid hy
    clear hx hy
    have ha1 : (a.size : Int) = 40 := by omega
    clear ha
    go_enter Try.func7, Try.ntmps7
    go_wp2_with (go_at_call 8; refine stop_here ?_)
    refine stop_on ?_
    generalize hW : (World.alloc (World.alloc w _) _) = W41
    obtain ⟨hx, hb0, hb1⟩ := allocs2 hW
    clear hW
    have X_42 := Lib.hid (X_1.out.ext hx)
    clear X_1
    have s_43 := Lib.hid hb0
    have t_44 := Lib.hid hb1
    clear hx hb0 hb1
    refine (shown_any _).mono ?_
    rintro e w45 ⟨rfl, hx⟩
    have X_46 := Lib.hid (X_42.out.ext hx)
    have s_46 := Lib.hid (s_43.out.ext hx)
    have t_46 := Lib.hid (t_44.out.ext hx)
    clear X_42 s_43 t_44
    clear hx
    have qs0 : w45.cell? ⟨w.heap.size, 0, none⟩ = some (.int .i64 g1) := s_46.out.at 0 _ rfl
    have qs1 : w45.cell? ⟨w.heap.size, 1, none⟩ = some (.int .i64 z1) := s_46.out.at 1 _ rfl
    have qs2 : w45.cell? ⟨w.heap.size, 2, none⟩ = some (.int .i64 s1) := s_46.out.at 2 _ rfl
    have zs := s_46.out.lt
    have qt0 : w45.cell? ⟨w.heap.size + 1, 0, none⟩ = some (.int .i64 g2) := t_46.out.at 0 _ rfl
    have qt1 : w45.cell? ⟨w.heap.size + 1, 1, none⟩ = some (.int .i64 z2) := t_46.out.at 1 _ rfl
    have qt2 : w45.cell? ⟨w.heap.size + 1, 2, none⟩ = some (.int .i64 s2) := t_46.out.at 2 _ rfl
    have zt := t_46.out.lt
    go_wp2_with (go_at_call 18; refine stop_here ?_)
    refine stop_on ?_
    clear qs0 qs1 qs2 zs qt0 qt1 qt2 zt
    refine (ref03Right_is g1 z1 s1 _ H1.out).mono ?_
    rintro e w47 ⟨rfl, hx⟩
    have X_48 := Lib.hid (X_46.out.ext hx)
    have s_48 := Lib.hid (s_46.out.ext hx)
    have t_48 := Lib.hid (t_46.out.ext hx)
    clear X_46 s_46 t_46
    clear hx
    have qs0 : w47.cell? ⟨w.heap.size, 0, none⟩ = some (.int .i64 g1) := s_48.out.at 0 _ rfl
    have qs1 : w47.cell? ⟨w.heap.size, 1, none⟩ = some (.int .i64 z1) := s_48.out.at 1 _ rfl
    have qs2 : w47.cell? ⟨w.heap.size, 2, none⟩ = some (.int .i64 s1) := s_48.out.at 2 _ rfl
    have zs := s_48.out.lt
    have qt0 : w47.cell? ⟨w.heap.size + 1, 0, none⟩ = some (.int .i64 g2) := t_48.out.at 0 _ rfl
    have qt1 : w47.cell? ⟨w.heap.size + 1, 1, none⟩ = some (.int .i64 z2) := t_48.out.at 1 _ rfl
    have qt2 : w47.cell? ⟨w.heap.size + 1, 2, none⟩ = some (.int .i64 s2) := t_48.out.at 2 _ rfl
    have zt := t_48.out.lt
    go_wp2_with (go_at_call 18; refine stop_here ?_)
    refine stop_on ?_
    clear qs0 qs1 qs2 zs qt0 qt1 qt2 zt
    refine (ref03Right_is g2 z2 s2 _ H2.out).mono ?_
    rintro e w49 ⟨rfl, hx⟩
    have X_50 := Lib.hid (X_48.out.ext hx)
    have s_50 := Lib.hid (s_48.out.ext hx)
    have t_50 := Lib.hid (t_48.out.ext hx)
    clear X_48 s_48 t_48
    clear hx
    have qs0 : w49.cell? ⟨w.heap.size, 0, none⟩ = some (.int .i64 g1) := s_50.out.at 0 _ rfl
    have qs1 : w49.cell? ⟨w.heap.size, 1, none⟩ = some (.int .i64 z1) := s_50.out.at 1 _ rfl
    have qs2 : w49.cell? ⟨w.heap.size, 2, none⟩ = some (.int .i64 s1) := s_50.out.at 2 _ rfl
    have zs := s_50.out.lt
    have qt0 : w49.cell? ⟨w.heap.size + 1, 0, none⟩ = some (.int .i64 g2) := t_50.out.at 0 _ rfl
    have qt1 : w49.cell? ⟨w.heap.size + 1, 1, none⟩ = some (.int .i64 z2) := t_50.out.at 1 _ rfl
    have qt2 : w49.cell? ⟨w.heap.size + 1, 2, none⟩ = some (.int .i64 s2) := t_50.out.at 2 _ rfl
    have zt := t_50.out.lt
    go_wp2_with (go_at_call 9; refine stop_here ?_)
    refine stop_on ?_
    clear qs0 qs1 qs2 zs qt0 qt1 qt2 zt
    refine (slotPrint_is g1 z1 s1 _ Hx.out He1.out).mono ?_
    rintro e w51 ⟨rfl, hx⟩
    have X_52 := Lib.hid (X_50.out.ext hx)
    have s_52 := Lib.hid (s_50.out.ext hx)
    have t_52 := Lib.hid (t_50.out.ext hx)
    clear X_50 s_50 t_50
    clear hx
    have qs0 : w51.cell? ⟨w.heap.size, 0, none⟩ = some (.int .i64 g1) := s_52.out.at 0 _ rfl
    have qs1 : w51.cell? ⟨w.heap.size, 1, none⟩ = some (.int .i64 z1) := s_52.out.at 1 _ rfl
    have qs2 : w51.cell? ⟨w.heap.size, 2, none⟩ = some (.int .i64 s1) := s_52.out.at 2 _ rfl
    have zs := s_52.out.lt
    have qt0 : w51.cell? ⟨w.heap.size + 1, 0, none⟩ = some (.int .i64 g2) := t_52.out.at 0 _ rfl
    have qt1 : w51.cell? ⟨w.heap.size + 1, 1, none⟩ = some (.int .i64 z2) := t_52.out.at 1 _ rfl
    have qt2 : w51.cell? ⟨w.heap.size + 1, 2, none⟩ = some (.int .i64 s2) := t_52.out.at 2 _ rfl
    have zt := t_52.out.lt
    go_wp2_with (go_at_call 9; refine stop_here ?_)
    refine stop_on ?_
    clear qs0 qs1 qs2 zs qt0 qt1 qt2 zt
    refine (slotPrint_is g2 z2 s2 _ Hy.out He2.out).mono ?_
    rintro e w53 ⟨rfl, hx⟩
    have X_54 := Lib.hid (X_52.out.ext hx)
    have s_54 := Lib.hid (s_52.out.ext hx)
    have t_54 := Lib.hid (t_52.out.ext hx)
    clear X_52 s_52 t_52
    clear hx
    have qs0 : w53.cell? ⟨w.heap.size, 0, none⟩ = some (.int .i64 g1) := s_54.out.at 0 _ rfl
    have qs1 : w53.cell? ⟨w.heap.size, 1, none⟩ = some (.int .i64 z1) := s_54.out.at 1 _ rfl
    have qs2 : w53.cell? ⟨w.heap.size, 2, none⟩ = some (.int .i64 s1) := s_54.out.at 2 _ rfl
    have zs := s_54.out.lt
    have qt0 : w53.cell? ⟨w.heap.size + 1, 0, none⟩ = some (.int .i64 g2) := t_54.out.at 0 _ rfl
    have qt1 : w53.cell? ⟨w.heap.size + 1, 1, none⟩ = some (.int .i64 z2) := t_54.out.at 1 _ rfl
    have qt2 : w53.cell? ⟨w.heap.size + 1, 2, none⟩ = some (.int .i64 s2) := t_54.out.at 2 _ rfl
    have zt := t_54.out.lt
    go_wp2_with (go_at_call 13; refine stop_here ?_)
    refine stop_on ?_
    clear qs0 qs1 qs2 zs qt0 qt1 qt2 zt
    refine (slotPick_is a a _ Hm.out Hm.out Hq.out).mono ?_
    rintro e w55 ⟨rfl, hx⟩
    have X_56 := Lib.hid (X_54.out.ext hx)
    have s_56 := Lib.hid (s_54.out.ext hx)
    have t_56 := Lib.hid (t_54.out.ext hx)
    clear X_54 s_54 t_54
    clear hx
    have qs0 : w55.cell? ⟨w.heap.size, 0, none⟩ = some (.int .i64 g1) := s_56.out.at 0 _ rfl
    have qs1 : w55.cell? ⟨w.heap.size, 1, none⟩ = some (.int .i64 z1) := s_56.out.at 1 _ rfl
    have qs2 : w55.cell? ⟨w.heap.size, 2, none⟩ = some (.int .i64 s1) := s_56.out.at 2 _ rfl
    have zs := s_56.out.lt
    have qt0 : w55.cell? ⟨w.heap.size + 1, 0, none⟩ = some (.int .i64 g2) := t_56.out.at 0 _ rfl
    have qt1 : w55.cell? ⟨w.heap.size + 1, 1, none⟩ = some (.int .i64 z2) := t_56.out.at 1 _ rfl
    have qt2 : w55.cell? ⟨w.heap.size + 1, 2, none⟩ = some (.int .i64 s2) := t_56.out.at 2 _ rfl
    have zt := t_56.out.lt
    go_wp2_with (go_at_call 17; refine stop_here ?_)
    refine stop_on ?_
    clear qs0 qs1 qs2 zs qt0 qt1 qt2 zt
    generalize hW : (World.alloc w55 _) = W57
    obtain ⟨hx, hb0⟩ := allocs1 hW
    clear hW
    have X_58 := Lib.hid (X_56.out.ext hx)
    have s_58 := Lib.hid (s_56.out.ext hx)
    have t_58 := Lib.hid (t_56.out.ext hx)
    clear X_56 s_56 t_56
    have p_59 := Lib.hid hb0
    clear hx hb0
    refine (slotRight_is g1 z1 s1 _ H1.out).mono ?_
    rintro e w60 ⟨rfl, hx⟩
    have X_61 := Lib.hid (X_58.out.ext hx)
    have s_61 := Lib.hid (s_58.out.ext hx)
    have t_61 := Lib.hid (t_58.out.ext hx)
    have p_61 := Lib.hid (p_59.out.ext hx)
    clear X_58 s_58 t_58 p_59
    clear hx
    have qs0 : w60.cell? ⟨w.heap.size, 0, none⟩ = some (.int .i64 g1) := s_61.out.at 0 _ rfl
    have qs1 : w60.cell? ⟨w.heap.size, 1, none⟩ = some (.int .i64 z1) := s_61.out.at 1 _ rfl
    have qs2 : w60.cell? ⟨w.heap.size, 2, none⟩ = some (.int .i64 s1) := s_61.out.at 2 _ rfl
    have zs := s_61.out.lt
    have qt0 : w60.cell? ⟨w.heap.size + 1, 0, none⟩ = some (.int .i64 g2) := t_61.out.at 0 _ rfl
    have qt1 : w60.cell? ⟨w.heap.size + 1, 1, none⟩ = some (.int .i64 z2) := t_61.out.at 1 _ rfl
    have qt2 : w60.cell? ⟨w.heap.size + 1, 2, none⟩ = some (.int .i64 s2) := t_61.out.at 2 _ rfl
    have zt := t_61.out.lt
    have qp0 : w60.cell? ⟨w55.heap.size, 0, none⟩ = some (.int .i64 g1) := p_61.out.at 0 _ rfl
    have qp1 : w60.cell? ⟨w55.heap.size, 1, none⟩ = some (.int .i64 z1) := p_61.out.at 1 _ rfl
    have qp2 : w60.cell? ⟨w55.heap.size, 2, none⟩ = some (.int .i64 s1) := p_61.out.at 2 _ rfl
    have zp := p_61.out.lt
    go_wp2
    go_ret
    exact ⟨rfl, X_61.out⟩
end Go.Proofs.Ythaebcljehmhmaa

