/- The walk of SlotPicks. -/
import Derived.Test.YthaebcljehmhmaaSlotN
namespace Go.Proofs.Ythaebcljehmhmaa
open Go.RowKit
attribute [local go_sem ↓] Go.wp_at_zero Go.wp_at_succ

set_option maxRecDepth 100000 in
set_option maxHeartbeats 8000000 in
theorem picks_any (g1 z1 s1 g2 z2 s2 : Int) (o : ByteArray) (w : World) (ho : o.size ≤ maxLen) :
    Calls Try.prog 5 #[.agg #[.int .i64 g1, .int .i64 z1, .int .i64 s1], .agg #[.int .i64 g2, .int .i64 z2, .int .i64 s2], .string o] w fun e w' => e = .returned (.bool true) ∧ Ext w w' := by
  have X_1 := Lib.hid (Ext.refl w)
  cases hr1 : supR ⟨g1, z1, s1⟩
  · have H1 := Lib.hid hr1
    clear hr1
    go_enter Try.func5, Try.ntmps5
    go_wp2_with (go_at_call 8; refine stop_here ?_)
    refine stop_on ?_
    generalize hW : (World.alloc (World.alloc w _) _) = W2
    obtain ⟨hx, hb0, hb1⟩ := allocs2 hW
    clear hW
    have X_3 := Lib.hid (X_1.out.ext hx)
    clear X_1
    have s_4 := Lib.hid hb0
    have t_5 := Lib.hid hb1
    clear hx hb0 hb1
    refine (shown_any _).mono ?_
    rintro e w6 ⟨rfl, hx⟩
    have X_7 := Lib.hid (X_3.out.ext hx)
    have s_7 := Lib.hid (s_4.out.ext hx)
    have t_7 := Lib.hid (t_5.out.ext hx)
    clear X_3 s_4 t_5
    clear hx
    have qs0 : w6.cell? ⟨w.heap.size, 0, none⟩ = some (.int .i64 g1) := s_7.out.at 0 _ rfl
    have qs1 : w6.cell? ⟨w.heap.size, 1, none⟩ = some (.int .i64 z1) := s_7.out.at 1 _ rfl
    have qs2 : w6.cell? ⟨w.heap.size, 2, none⟩ = some (.int .i64 s1) := s_7.out.at 2 _ rfl
    have zs := s_7.out.lt
    have qt0 : w6.cell? ⟨w.heap.size + 1, 0, none⟩ = some (.int .i64 g2) := t_7.out.at 0 _ rfl
    have qt1 : w6.cell? ⟨w.heap.size + 1, 1, none⟩ = some (.int .i64 z2) := t_7.out.at 1 _ rfl
    have qt2 : w6.cell? ⟨w.heap.size + 1, 2, none⟩ = some (.int .i64 s2) := t_7.out.at 2 _ rfl
    have zt := t_7.out.lt
    go_wp2_with (go_at_call 18; refine stop_here ?_)
    refine stop_on ?_
    clear qs0 qs1 qs2 zs qt0 qt1 qt2 zt
    refine (ref03Right_is g1 z1 s1 _ H1.out).mono ?_
    rintro e w8 ⟨rfl, hx⟩
    have X_9 := Lib.hid (X_7.out.ext hx)
    have s_9 := Lib.hid (s_7.out.ext hx)
    have t_9 := Lib.hid (t_7.out.ext hx)
    clear X_7 s_7 t_7
    clear hx
    have qs0 : w8.cell? ⟨w.heap.size, 0, none⟩ = some (.int .i64 g1) := s_9.out.at 0 _ rfl
    have qs1 : w8.cell? ⟨w.heap.size, 1, none⟩ = some (.int .i64 z1) := s_9.out.at 1 _ rfl
    have qs2 : w8.cell? ⟨w.heap.size, 2, none⟩ = some (.int .i64 s1) := s_9.out.at 2 _ rfl
    have zs := s_9.out.lt
    have qt0 : w8.cell? ⟨w.heap.size + 1, 0, none⟩ = some (.int .i64 g2) := t_9.out.at 0 _ rfl
    have qt1 : w8.cell? ⟨w.heap.size + 1, 1, none⟩ = some (.int .i64 z2) := t_9.out.at 1 _ rfl
    have qt2 : w8.cell? ⟨w.heap.size + 1, 2, none⟩ = some (.int .i64 s2) := t_9.out.at 2 _ rfl
    have zt := t_9.out.lt
    go_wp2
    go_ret
    exact ⟨rfl, X_9.out⟩
  cases hr2 : supR ⟨g2, z2, s2⟩
  · have H1 := Lib.hid hr1
    have H2 := Lib.hid hr2
    clear hr1 hr2
    go_enter Try.func5, Try.ntmps5
    go_wp2_with (go_at_call 8; refine stop_here ?_)
    refine stop_on ?_
    generalize hW : (World.alloc (World.alloc w _) _) = W10
    obtain ⟨hx, hb0, hb1⟩ := allocs2 hW
    clear hW
    have X_11 := Lib.hid (X_1.out.ext hx)
    clear X_1
    have s_12 := Lib.hid hb0
    have t_13 := Lib.hid hb1
    clear hx hb0 hb1
    refine (shown_any _).mono ?_
    rintro e w14 ⟨rfl, hx⟩
    have X_15 := Lib.hid (X_11.out.ext hx)
    have s_15 := Lib.hid (s_12.out.ext hx)
    have t_15 := Lib.hid (t_13.out.ext hx)
    clear X_11 s_12 t_13
    clear hx
    have qs0 : w14.cell? ⟨w.heap.size, 0, none⟩ = some (.int .i64 g1) := s_15.out.at 0 _ rfl
    have qs1 : w14.cell? ⟨w.heap.size, 1, none⟩ = some (.int .i64 z1) := s_15.out.at 1 _ rfl
    have qs2 : w14.cell? ⟨w.heap.size, 2, none⟩ = some (.int .i64 s1) := s_15.out.at 2 _ rfl
    have zs := s_15.out.lt
    have qt0 : w14.cell? ⟨w.heap.size + 1, 0, none⟩ = some (.int .i64 g2) := t_15.out.at 0 _ rfl
    have qt1 : w14.cell? ⟨w.heap.size + 1, 1, none⟩ = some (.int .i64 z2) := t_15.out.at 1 _ rfl
    have qt2 : w14.cell? ⟨w.heap.size + 1, 2, none⟩ = some (.int .i64 s2) := t_15.out.at 2 _ rfl
    have zt := t_15.out.lt
    go_wp2_with (go_at_call 18; refine stop_here ?_)
    refine stop_on ?_
    clear qs0 qs1 qs2 zs qt0 qt1 qt2 zt
    refine (ref03Right_is g1 z1 s1 _ H1.out).mono ?_
    rintro e w16 ⟨rfl, hx⟩
    have X_17 := Lib.hid (X_15.out.ext hx)
    have s_17 := Lib.hid (s_15.out.ext hx)
    have t_17 := Lib.hid (t_15.out.ext hx)
    clear X_15 s_15 t_15
    clear hx
    have qs0 : w16.cell? ⟨w.heap.size, 0, none⟩ = some (.int .i64 g1) := s_17.out.at 0 _ rfl
    have qs1 : w16.cell? ⟨w.heap.size, 1, none⟩ = some (.int .i64 z1) := s_17.out.at 1 _ rfl
    have qs2 : w16.cell? ⟨w.heap.size, 2, none⟩ = some (.int .i64 s1) := s_17.out.at 2 _ rfl
    have zs := s_17.out.lt
    have qt0 : w16.cell? ⟨w.heap.size + 1, 0, none⟩ = some (.int .i64 g2) := t_17.out.at 0 _ rfl
    have qt1 : w16.cell? ⟨w.heap.size + 1, 1, none⟩ = some (.int .i64 z2) := t_17.out.at 1 _ rfl
    have qt2 : w16.cell? ⟨w.heap.size + 1, 2, none⟩ = some (.int .i64 s2) := t_17.out.at 2 _ rfl
    have zt := t_17.out.lt
    go_wp2_with (go_at_call 18; refine stop_here ?_)
    refine stop_on ?_
    clear qs0 qs1 qs2 zs qt0 qt1 qt2 zt
    refine (ref03Right_is g2 z2 s2 _ H2.out).mono ?_
    rintro e w18 ⟨rfl, hx⟩
    have X_19 := Lib.hid (X_17.out.ext hx)
    have s_19 := Lib.hid (s_17.out.ext hx)
    have t_19 := Lib.hid (t_17.out.ext hx)
    clear X_17 s_17 t_17
    clear hx
    have qs0 : w18.cell? ⟨w.heap.size, 0, none⟩ = some (.int .i64 g1) := s_19.out.at 0 _ rfl
    have qs1 : w18.cell? ⟨w.heap.size, 1, none⟩ = some (.int .i64 z1) := s_19.out.at 1 _ rfl
    have qs2 : w18.cell? ⟨w.heap.size, 2, none⟩ = some (.int .i64 s1) := s_19.out.at 2 _ rfl
    have zs := s_19.out.lt
    have qt0 : w18.cell? ⟨w.heap.size + 1, 0, none⟩ = some (.int .i64 g2) := t_19.out.at 0 _ rfl
    have qt1 : w18.cell? ⟨w.heap.size + 1, 1, none⟩ = some (.int .i64 z2) := t_19.out.at 1 _ rfl
    have qt2 : w18.cell? ⟨w.heap.size + 1, 2, none⟩ = some (.int .i64 s2) := t_19.out.at 2 _ rfl
    have zt := t_19.out.lt
    go_wp2
    go_ret
    exact ⟨rfl, X_19.out⟩
  rcases Decidable.em ((o.size : Int) ≤ 200) with hsz | hsz
  rotate_left
  · have H1 := Lib.hid hr1
    have H2 := Lib.hid hr2
    clear hr1 hr2
    go_enter Try.func5, Try.ntmps5
    go_wp2_with (go_at_call 8; refine stop_here ?_)
    refine stop_on ?_
    generalize hW : (World.alloc (World.alloc w _) _) = W20
    obtain ⟨hx, hb0, hb1⟩ := allocs2 hW
    clear hW
    have X_21 := Lib.hid (X_1.out.ext hx)
    clear X_1
    have s_22 := Lib.hid hb0
    have t_23 := Lib.hid hb1
    clear hx hb0 hb1
    refine (shown_any _).mono ?_
    rintro e w24 ⟨rfl, hx⟩
    have X_25 := Lib.hid (X_21.out.ext hx)
    have s_25 := Lib.hid (s_22.out.ext hx)
    have t_25 := Lib.hid (t_23.out.ext hx)
    clear X_21 s_22 t_23
    clear hx
    have qs0 : w24.cell? ⟨w.heap.size, 0, none⟩ = some (.int .i64 g1) := s_25.out.at 0 _ rfl
    have qs1 : w24.cell? ⟨w.heap.size, 1, none⟩ = some (.int .i64 z1) := s_25.out.at 1 _ rfl
    have qs2 : w24.cell? ⟨w.heap.size, 2, none⟩ = some (.int .i64 s1) := s_25.out.at 2 _ rfl
    have zs := s_25.out.lt
    have qt0 : w24.cell? ⟨w.heap.size + 1, 0, none⟩ = some (.int .i64 g2) := t_25.out.at 0 _ rfl
    have qt1 : w24.cell? ⟨w.heap.size + 1, 1, none⟩ = some (.int .i64 z2) := t_25.out.at 1 _ rfl
    have qt2 : w24.cell? ⟨w.heap.size + 1, 2, none⟩ = some (.int .i64 s2) := t_25.out.at 2 _ rfl
    have zt := t_25.out.lt
    go_wp2_with (go_at_call 18; refine stop_here ?_)
    refine stop_on ?_
    clear qs0 qs1 qs2 zs qt0 qt1 qt2 zt
    refine (ref03Right_is g1 z1 s1 _ H1.out).mono ?_
    rintro e w26 ⟨rfl, hx⟩
    have X_27 := Lib.hid (X_25.out.ext hx)
    have s_27 := Lib.hid (s_25.out.ext hx)
    have t_27 := Lib.hid (t_25.out.ext hx)
    clear X_25 s_25 t_25
    clear hx
    have qs0 : w26.cell? ⟨w.heap.size, 0, none⟩ = some (.int .i64 g1) := s_27.out.at 0 _ rfl
    have qs1 : w26.cell? ⟨w.heap.size, 1, none⟩ = some (.int .i64 z1) := s_27.out.at 1 _ rfl
    have qs2 : w26.cell? ⟨w.heap.size, 2, none⟩ = some (.int .i64 s1) := s_27.out.at 2 _ rfl
    have zs := s_27.out.lt
    have qt0 : w26.cell? ⟨w.heap.size + 1, 0, none⟩ = some (.int .i64 g2) := t_27.out.at 0 _ rfl
    have qt1 : w26.cell? ⟨w.heap.size + 1, 1, none⟩ = some (.int .i64 z2) := t_27.out.at 1 _ rfl
    have qt2 : w26.cell? ⟨w.heap.size + 1, 2, none⟩ = some (.int .i64 s2) := t_27.out.at 2 _ rfl
    have zt := t_27.out.lt
    go_wp2_with (go_at_call 18; refine stop_here ?_)
    refine stop_on ?_
    clear qs0 qs1 qs2 zs qt0 qt1 qt2 zt
    refine (ref03Right_is g2 z2 s2 _ H2.out).mono ?_
    rintro e w28 ⟨rfl, hx⟩
    have X_29 := Lib.hid (X_27.out.ext hx)
    have s_29 := Lib.hid (s_27.out.ext hx)
    have t_29 := Lib.hid (t_27.out.ext hx)
    clear X_27 s_27 t_27
    clear hx
    have qs0 : w28.cell? ⟨w.heap.size, 0, none⟩ = some (.int .i64 g1) := s_29.out.at 0 _ rfl
    have qs1 : w28.cell? ⟨w.heap.size, 1, none⟩ = some (.int .i64 z1) := s_29.out.at 1 _ rfl
    have qs2 : w28.cell? ⟨w.heap.size, 2, none⟩ = some (.int .i64 s1) := s_29.out.at 2 _ rfl
    have zs := s_29.out.lt
    have qt0 : w28.cell? ⟨w.heap.size + 1, 0, none⟩ = some (.int .i64 g2) := t_29.out.at 0 _ rfl
    have qt1 : w28.cell? ⟨w.heap.size + 1, 1, none⟩ = some (.int .i64 z2) := t_29.out.at 1 _ rfl
    have qt2 : w28.cell? ⟨w.heap.size + 1, 2, none⟩ = some (.int .i64 s2) := t_29.out.at 2 _ rfl
    have zt := t_29.out.lt
    go_wp2
    go_ret
    exact ⟨rfl, X_29.out⟩
  have e1 := eq_same g1 z1 s1
  have e2 := eq_same g2 z2 s2
  have p12 := pick_two hr1 hr2
  have p21 := pick_two hr2 hr1
  have Hma := Lib.hid (show (supB ⟨g1, z1, s1⟩).size ≤ maxLen from by rw [supB_size _ hr1]; unfold maxLen; omega)
  have Hmb := Lib.hid (show (supB ⟨g2, z2, s2⟩).size ≤ maxLen from by rw [supB_size _ hr2]; unfold maxLen; omega)
  have Ho := Lib.hid ho
  have H1 := Lib.hid hr1
  have H2 := Lib.hid hr2
  have He1 := Lib.hid (show supE ⟨g1, z1, s1⟩ = 0 from by unfold supE; rw [hr1]; rfl)
  have He2 := Lib.hid (show supE ⟨g2, z2, s2⟩ = 0 from by unfold supE; rw [hr2]; rfl)
  have O1 := Lib.hid (fun h : parS o = none => pick_odd1 hr1 h)
  have O2 := Lib.hid (fun h : parS o = none => pick_odd2 hr1 h)
  have O3 := Lib.hid (fun h : parS o = none => pick_none h)
  obtain ⟨a, hx⟩ : ∃ x, supB ⟨g1, z1, s1⟩ = x := ⟨_, rfl⟩
  obtain ⟨b, hy⟩ : ∃ x, supB ⟨g2, z2, s2⟩ = x := ⟨_, rfl⟩
  rw [hx] at p12 p21 Hma O1 O2
  rw [hy] at p12 p21 Hmb
  have Hx := Lib.hid hx
  have Hy := Lib.hid hy
  clear hx hy hr1 hr2 ho
  rcases Int.lt_trichotomy g1 g2 with hg | hg | hg
  · have Hq1 := Lib.hid (show pickV a b = .tuple #[.int .i64 1, .agg #[.int .i64 g2, .int .i64 z2, .int .i64 s2], .int .i64 0] from by rw [p12]; simp only [Sup.v]; first | rw [if_pos (by omega), if_pos (by omega)] | rw [if_neg (by omega), if_neg (by omega)])
    have Hq2 := Lib.hid (show pickV b a = .tuple #[.int .i64 0, .agg #[.int .i64 g2, .int .i64 z2, .int .i64 s2], .int .i64 0] from by rw [p21]; simp only [Sup.v]; first | rw [if_pos (by omega), if_pos (by omega)] | rw [if_neg (by omega), if_neg (by omega)])
    clear p12 p21
    cases hn : parS o with
    | some y =>
      obtain ⟨g3, z3, s3⟩ := y
      have Hn := Lib.hid hn
      clear hn
      go_enter Try.func5, Try.ntmps5
      go_wp2_with (go_at_call 8; refine stop_here ?_)
      refine stop_on ?_
      generalize hW : (World.alloc (World.alloc w _) _) = W30
      obtain ⟨hx, hb0, hb1⟩ := allocs2 hW
      clear hW
      have X_31 := Lib.hid (X_1.out.ext hx)
      clear X_1
      have s_32 := Lib.hid hb0
      have t_33 := Lib.hid hb1
      clear hx hb0 hb1
      refine (shown_any _).mono ?_
      rintro e w34 ⟨rfl, hx⟩
      have X_35 := Lib.hid (X_31.out.ext hx)
      have s_35 := Lib.hid (s_32.out.ext hx)
      have t_35 := Lib.hid (t_33.out.ext hx)
      clear X_31 s_32 t_33
      clear hx
      have qs0 : w34.cell? ⟨w.heap.size, 0, none⟩ = some (.int .i64 g1) := s_35.out.at 0 _ rfl
      have qs1 : w34.cell? ⟨w.heap.size, 1, none⟩ = some (.int .i64 z1) := s_35.out.at 1 _ rfl
      have qs2 : w34.cell? ⟨w.heap.size, 2, none⟩ = some (.int .i64 s1) := s_35.out.at 2 _ rfl
      have zs := s_35.out.lt
      have qt0 : w34.cell? ⟨w.heap.size + 1, 0, none⟩ = some (.int .i64 g2) := t_35.out.at 0 _ rfl
      have qt1 : w34.cell? ⟨w.heap.size + 1, 1, none⟩ = some (.int .i64 z2) := t_35.out.at 1 _ rfl
      have qt2 : w34.cell? ⟨w.heap.size + 1, 2, none⟩ = some (.int .i64 s2) := t_35.out.at 2 _ rfl
      have zt := t_35.out.lt
      go_wp2_with (go_at_call 18; refine stop_here ?_)
      refine stop_on ?_
      clear qs0 qs1 qs2 zs qt0 qt1 qt2 zt
      refine (ref03Right_is g1 z1 s1 _ H1.out).mono ?_
      rintro e w36 ⟨rfl, hx⟩
      have X_37 := Lib.hid (X_35.out.ext hx)
      have s_37 := Lib.hid (s_35.out.ext hx)
      have t_37 := Lib.hid (t_35.out.ext hx)
      clear X_35 s_35 t_35
      clear hx
      have qs0 : w36.cell? ⟨w.heap.size, 0, none⟩ = some (.int .i64 g1) := s_37.out.at 0 _ rfl
      have qs1 : w36.cell? ⟨w.heap.size, 1, none⟩ = some (.int .i64 z1) := s_37.out.at 1 _ rfl
      have qs2 : w36.cell? ⟨w.heap.size, 2, none⟩ = some (.int .i64 s1) := s_37.out.at 2 _ rfl
      have zs := s_37.out.lt
      have qt0 : w36.cell? ⟨w.heap.size + 1, 0, none⟩ = some (.int .i64 g2) := t_37.out.at 0 _ rfl
      have qt1 : w36.cell? ⟨w.heap.size + 1, 1, none⟩ = some (.int .i64 z2) := t_37.out.at 1 _ rfl
      have qt2 : w36.cell? ⟨w.heap.size + 1, 2, none⟩ = some (.int .i64 s2) := t_37.out.at 2 _ rfl
      have zt := t_37.out.lt
      go_wp2_with (go_at_call 18; refine stop_here ?_)
      refine stop_on ?_
      clear qs0 qs1 qs2 zs qt0 qt1 qt2 zt
      refine (ref03Right_is g2 z2 s2 _ H2.out).mono ?_
      rintro e w38 ⟨rfl, hx⟩
      have X_39 := Lib.hid (X_37.out.ext hx)
      have s_39 := Lib.hid (s_37.out.ext hx)
      have t_39 := Lib.hid (t_37.out.ext hx)
      clear X_37 s_37 t_37
      clear hx
      have qs0 : w38.cell? ⟨w.heap.size, 0, none⟩ = some (.int .i64 g1) := s_39.out.at 0 _ rfl
      have qs1 : w38.cell? ⟨w.heap.size, 1, none⟩ = some (.int .i64 z1) := s_39.out.at 1 _ rfl
      have qs2 : w38.cell? ⟨w.heap.size, 2, none⟩ = some (.int .i64 s1) := s_39.out.at 2 _ rfl
      have zs := s_39.out.lt
      have qt0 : w38.cell? ⟨w.heap.size + 1, 0, none⟩ = some (.int .i64 g2) := t_39.out.at 0 _ rfl
      have qt1 : w38.cell? ⟨w.heap.size + 1, 1, none⟩ = some (.int .i64 z2) := t_39.out.at 1 _ rfl
      have qt2 : w38.cell? ⟨w.heap.size + 1, 2, none⟩ = some (.int .i64 s2) := t_39.out.at 2 _ rfl
      have zt := t_39.out.lt
      go_wp2_with (go_at_call 9; refine stop_here ?_)
      refine stop_on ?_
      clear qs0 qs1 qs2 zs qt0 qt1 qt2 zt
      refine (slotPrint_is g1 z1 s1 _ Hx.out He1.out).mono ?_
      rintro e w40 ⟨rfl, hx⟩
      have X_41 := Lib.hid (X_39.out.ext hx)
      have s_41 := Lib.hid (s_39.out.ext hx)
      have t_41 := Lib.hid (t_39.out.ext hx)
      clear X_39 s_39 t_39
      clear hx
      have qs0 : w40.cell? ⟨w.heap.size, 0, none⟩ = some (.int .i64 g1) := s_41.out.at 0 _ rfl
      have qs1 : w40.cell? ⟨w.heap.size, 1, none⟩ = some (.int .i64 z1) := s_41.out.at 1 _ rfl
      have qs2 : w40.cell? ⟨w.heap.size, 2, none⟩ = some (.int .i64 s1) := s_41.out.at 2 _ rfl
      have zs := s_41.out.lt
      have qt0 : w40.cell? ⟨w.heap.size + 1, 0, none⟩ = some (.int .i64 g2) := t_41.out.at 0 _ rfl
      have qt1 : w40.cell? ⟨w.heap.size + 1, 1, none⟩ = some (.int .i64 z2) := t_41.out.at 1 _ rfl
      have qt2 : w40.cell? ⟨w.heap.size + 1, 2, none⟩ = some (.int .i64 s2) := t_41.out.at 2 _ rfl
      have zt := t_41.out.lt
      go_wp2_with (go_at_call 9; refine stop_here ?_)
      refine stop_on ?_
      clear qs0 qs1 qs2 zs qt0 qt1 qt2 zt
      refine (slotPrint_is g2 z2 s2 _ Hy.out He2.out).mono ?_
      rintro e w42 ⟨rfl, hx⟩
      have X_43 := Lib.hid (X_41.out.ext hx)
      have s_43 := Lib.hid (s_41.out.ext hx)
      have t_43 := Lib.hid (t_41.out.ext hx)
      clear X_41 s_41 t_41
      clear hx
      have qs0 : w42.cell? ⟨w.heap.size, 0, none⟩ = some (.int .i64 g1) := s_43.out.at 0 _ rfl
      have qs1 : w42.cell? ⟨w.heap.size, 1, none⟩ = some (.int .i64 z1) := s_43.out.at 1 _ rfl
      have qs2 : w42.cell? ⟨w.heap.size, 2, none⟩ = some (.int .i64 s1) := s_43.out.at 2 _ rfl
      have zs := s_43.out.lt
      have qt0 : w42.cell? ⟨w.heap.size + 1, 0, none⟩ = some (.int .i64 g2) := t_43.out.at 0 _ rfl
      have qt1 : w42.cell? ⟨w.heap.size + 1, 1, none⟩ = some (.int .i64 z2) := t_43.out.at 1 _ rfl
      have qt2 : w42.cell? ⟨w.heap.size + 1, 2, none⟩ = some (.int .i64 s2) := t_43.out.at 2 _ rfl
      have zt := t_43.out.lt
      go_wp2_with (go_at_call 13; refine stop_here ?_)
      refine stop_on ?_
      clear qs0 qs1 qs2 zs qt0 qt1 qt2 zt
      refine (slotPick_is a b _ Hma.out Hmb.out Hq1.out).mono ?_
      rintro e w44 ⟨rfl, hx⟩
      have X_45 := Lib.hid (X_43.out.ext hx)
      have s_45 := Lib.hid (s_43.out.ext hx)
      have t_45 := Lib.hid (t_43.out.ext hx)
      clear X_43 s_43 t_43
      clear hx
      have qs0 : w44.cell? ⟨w.heap.size, 0, none⟩ = some (.int .i64 g1) := s_45.out.at 0 _ rfl
      have qs1 : w44.cell? ⟨w.heap.size, 1, none⟩ = some (.int .i64 z1) := s_45.out.at 1 _ rfl
      have qs2 : w44.cell? ⟨w.heap.size, 2, none⟩ = some (.int .i64 s1) := s_45.out.at 2 _ rfl
      have zs := s_45.out.lt
      have qt0 : w44.cell? ⟨w.heap.size + 1, 0, none⟩ = some (.int .i64 g2) := t_45.out.at 0 _ rfl
      have qt1 : w44.cell? ⟨w.heap.size + 1, 1, none⟩ = some (.int .i64 z2) := t_45.out.at 1 _ rfl
      have qt2 : w44.cell? ⟨w.heap.size + 1, 2, none⟩ = some (.int .i64 s2) := t_45.out.at 2 _ rfl
      have zt := t_45.out.lt
      go_wp2_with (go_at_call 13; refine stop_here ?_)
      refine stop_on ?_
      clear qs0 qs1 qs2 zs qt0 qt1 qt2 zt
      generalize hW : (World.alloc w44 _) = W46
      obtain ⟨hx, hb0⟩ := allocs1 hW
      clear hW
      have X_47 := Lib.hid (X_45.out.ext hx)
      have s_47 := Lib.hid (s_45.out.ext hx)
      have t_47 := Lib.hid (t_45.out.ext hx)
      clear X_45 s_45 t_45
      have u_48 := Lib.hid hb0
      clear hx hb0
      refine (slotPick_is b a _ Hmb.out Hma.out Hq2.out).mono ?_
      rintro e w49 ⟨rfl, hx⟩
      have X_50 := Lib.hid (X_47.out.ext hx)
      have s_50 := Lib.hid (s_47.out.ext hx)
      have t_50 := Lib.hid (t_47.out.ext hx)
      have u_50 := Lib.hid (u_48.out.ext hx)
      clear X_47 s_47 t_47 u_48
      clear hx
      have qs0 : w49.cell? ⟨w.heap.size, 0, none⟩ = some (.int .i64 g1) := s_50.out.at 0 _ rfl
      have qs1 : w49.cell? ⟨w.heap.size, 1, none⟩ = some (.int .i64 z1) := s_50.out.at 1 _ rfl
      have qs2 : w49.cell? ⟨w.heap.size, 2, none⟩ = some (.int .i64 s1) := s_50.out.at 2 _ rfl
      have zs := s_50.out.lt
      have qt0 : w49.cell? ⟨w.heap.size + 1, 0, none⟩ = some (.int .i64 g2) := t_50.out.at 0 _ rfl
      have qt1 : w49.cell? ⟨w.heap.size + 1, 1, none⟩ = some (.int .i64 z2) := t_50.out.at 1 _ rfl
      have qt2 : w49.cell? ⟨w.heap.size + 1, 2, none⟩ = some (.int .i64 s2) := t_50.out.at 2 _ rfl
      have zt := t_50.out.lt
      have qu0 : w49.cell? ⟨w44.heap.size, 0, none⟩ = some (.int .i64 g2) := u_50.out.at 0 _ rfl
      have qu1 : w49.cell? ⟨w44.heap.size, 1, none⟩ = some (.int .i64 z2) := u_50.out.at 1 _ rfl
      have qu2 : w49.cell? ⟨w44.heap.size, 2, none⟩ = some (.int .i64 s2) := u_50.out.at 2 _ rfl
      have zu := u_50.out.lt
      go_wp2_with (go_at_call 11; refine stop_here ?_)
      refine stop_on ?_
      clear qs0 qs1 qs2 zs qt0 qt1 qt2 zt qu0 qu1 qu2 zu
      generalize hW : (World.alloc w49 _) = W51
      obtain ⟨hx, hb0⟩ := allocs1 hW
      clear hW
      have X_52 := Lib.hid (X_50.out.ext hx)
      have s_52 := Lib.hid (s_50.out.ext hx)
      have t_52 := Lib.hid (t_50.out.ext hx)
      have u_52 := Lib.hid (u_50.out.ext hx)
      clear X_50 s_50 t_50 u_50
      have v_53 := Lib.hid hb0
      clear hx hb0
      refine (slotParse_y o _ Ho.out Hn.out).mono ?_
      rintro e w54 ⟨rfl, hx⟩
      have X_55 := Lib.hid (X_52.out.ext hx)
      have s_55 := Lib.hid (s_52.out.ext hx)
      have t_55 := Lib.hid (t_52.out.ext hx)
      have u_55 := Lib.hid (u_52.out.ext hx)
      have v_55 := Lib.hid (v_53.out.ext hx)
      clear X_52 s_52 t_52 u_52 v_53
      clear hx
      have qs0 : w54.cell? ⟨w.heap.size, 0, none⟩ = some (.int .i64 g1) := s_55.out.at 0 _ rfl
      have qs1 : w54.cell? ⟨w.heap.size, 1, none⟩ = some (.int .i64 z1) := s_55.out.at 1 _ rfl
      have qs2 : w54.cell? ⟨w.heap.size, 2, none⟩ = some (.int .i64 s1) := s_55.out.at 2 _ rfl
      have zs := s_55.out.lt
      have qt0 : w54.cell? ⟨w.heap.size + 1, 0, none⟩ = some (.int .i64 g2) := t_55.out.at 0 _ rfl
      have qt1 : w54.cell? ⟨w.heap.size + 1, 1, none⟩ = some (.int .i64 z2) := t_55.out.at 1 _ rfl
      have qt2 : w54.cell? ⟨w.heap.size + 1, 2, none⟩ = some (.int .i64 s2) := t_55.out.at 2 _ rfl
      have zt := t_55.out.lt
      have qu0 : w54.cell? ⟨w44.heap.size, 0, none⟩ = some (.int .i64 g2) := u_55.out.at 0 _ rfl
      have qu1 : w54.cell? ⟨w44.heap.size, 1, none⟩ = some (.int .i64 z2) := u_55.out.at 1 _ rfl
      have qu2 : w54.cell? ⟨w44.heap.size, 2, none⟩ = some (.int .i64 s2) := u_55.out.at 2 _ rfl
      have zu := u_55.out.lt
      have qv0 : w54.cell? ⟨w49.heap.size, 0, none⟩ = some (.int .i64 g2) := v_55.out.at 0 _ rfl
      have qv1 : w54.cell? ⟨w49.heap.size, 1, none⟩ = some (.int .i64 z2) := v_55.out.at 1 _ rfl
      have qv2 : w54.cell? ⟨w49.heap.size, 2, none⟩ = some (.int .i64 s2) := v_55.out.at 2 _ rfl
      have zv := v_55.out.lt
      go_wp2
      go_ret
      exact ⟨rfl, X_55.out.alloc _⟩
    | none =>
      have Hn := Lib.hid hn
      have Q1 := Lib.hid (O1.out hn)
      have Q2 := Lib.hid (O2.out hn)
      have Q3 := Lib.hid (show pickV o o = .tuple #[.int .i64 0, .agg #[.int .i64 0, .int .i64 0, .int .i64 0], .int .i64 4] from O3.out hn)
      clear hn O1 O2 O3
      go_enter Try.func5, Try.ntmps5
      go_wp2_with (go_at_call 8; refine stop_here ?_)
      refine stop_on ?_
      generalize hW : (World.alloc (World.alloc w _) _) = W56
      obtain ⟨hx, hb0, hb1⟩ := allocs2 hW
      clear hW
      have X_57 := Lib.hid (X_1.out.ext hx)
      clear X_1
      have s_58 := Lib.hid hb0
      have t_59 := Lib.hid hb1
      clear hx hb0 hb1
      refine (shown_any _).mono ?_
      rintro e w60 ⟨rfl, hx⟩
      have X_61 := Lib.hid (X_57.out.ext hx)
      have s_61 := Lib.hid (s_58.out.ext hx)
      have t_61 := Lib.hid (t_59.out.ext hx)
      clear X_57 s_58 t_59
      clear hx
      have qs0 : w60.cell? ⟨w.heap.size, 0, none⟩ = some (.int .i64 g1) := s_61.out.at 0 _ rfl
      have qs1 : w60.cell? ⟨w.heap.size, 1, none⟩ = some (.int .i64 z1) := s_61.out.at 1 _ rfl
      have qs2 : w60.cell? ⟨w.heap.size, 2, none⟩ = some (.int .i64 s1) := s_61.out.at 2 _ rfl
      have zs := s_61.out.lt
      have qt0 : w60.cell? ⟨w.heap.size + 1, 0, none⟩ = some (.int .i64 g2) := t_61.out.at 0 _ rfl
      have qt1 : w60.cell? ⟨w.heap.size + 1, 1, none⟩ = some (.int .i64 z2) := t_61.out.at 1 _ rfl
      have qt2 : w60.cell? ⟨w.heap.size + 1, 2, none⟩ = some (.int .i64 s2) := t_61.out.at 2 _ rfl
      have zt := t_61.out.lt
      go_wp2_with (go_at_call 18; refine stop_here ?_)
      refine stop_on ?_
      clear qs0 qs1 qs2 zs qt0 qt1 qt2 zt
      refine (ref03Right_is g1 z1 s1 _ H1.out).mono ?_
      rintro e w62 ⟨rfl, hx⟩
      have X_63 := Lib.hid (X_61.out.ext hx)
      have s_63 := Lib.hid (s_61.out.ext hx)
      have t_63 := Lib.hid (t_61.out.ext hx)
      clear X_61 s_61 t_61
      clear hx
      have qs0 : w62.cell? ⟨w.heap.size, 0, none⟩ = some (.int .i64 g1) := s_63.out.at 0 _ rfl
      have qs1 : w62.cell? ⟨w.heap.size, 1, none⟩ = some (.int .i64 z1) := s_63.out.at 1 _ rfl
      have qs2 : w62.cell? ⟨w.heap.size, 2, none⟩ = some (.int .i64 s1) := s_63.out.at 2 _ rfl
      have zs := s_63.out.lt
      have qt0 : w62.cell? ⟨w.heap.size + 1, 0, none⟩ = some (.int .i64 g2) := t_63.out.at 0 _ rfl
      have qt1 : w62.cell? ⟨w.heap.size + 1, 1, none⟩ = some (.int .i64 z2) := t_63.out.at 1 _ rfl
      have qt2 : w62.cell? ⟨w.heap.size + 1, 2, none⟩ = some (.int .i64 s2) := t_63.out.at 2 _ rfl
      have zt := t_63.out.lt
      go_wp2_with (go_at_call 18; refine stop_here ?_)
      refine stop_on ?_
      clear qs0 qs1 qs2 zs qt0 qt1 qt2 zt
      refine (ref03Right_is g2 z2 s2 _ H2.out).mono ?_
      rintro e w64 ⟨rfl, hx⟩
      have X_65 := Lib.hid (X_63.out.ext hx)
      have s_65 := Lib.hid (s_63.out.ext hx)
      have t_65 := Lib.hid (t_63.out.ext hx)
      clear X_63 s_63 t_63
      clear hx
      have qs0 : w64.cell? ⟨w.heap.size, 0, none⟩ = some (.int .i64 g1) := s_65.out.at 0 _ rfl
      have qs1 : w64.cell? ⟨w.heap.size, 1, none⟩ = some (.int .i64 z1) := s_65.out.at 1 _ rfl
      have qs2 : w64.cell? ⟨w.heap.size, 2, none⟩ = some (.int .i64 s1) := s_65.out.at 2 _ rfl
      have zs := s_65.out.lt
      have qt0 : w64.cell? ⟨w.heap.size + 1, 0, none⟩ = some (.int .i64 g2) := t_65.out.at 0 _ rfl
      have qt1 : w64.cell? ⟨w.heap.size + 1, 1, none⟩ = some (.int .i64 z2) := t_65.out.at 1 _ rfl
      have qt2 : w64.cell? ⟨w.heap.size + 1, 2, none⟩ = some (.int .i64 s2) := t_65.out.at 2 _ rfl
      have zt := t_65.out.lt
      go_wp2_with (go_at_call 9; refine stop_here ?_)
      refine stop_on ?_
      clear qs0 qs1 qs2 zs qt0 qt1 qt2 zt
      refine (slotPrint_is g1 z1 s1 _ Hx.out He1.out).mono ?_
      rintro e w66 ⟨rfl, hx⟩
      have X_67 := Lib.hid (X_65.out.ext hx)
      have s_67 := Lib.hid (s_65.out.ext hx)
      have t_67 := Lib.hid (t_65.out.ext hx)
      clear X_65 s_65 t_65
      clear hx
      have qs0 : w66.cell? ⟨w.heap.size, 0, none⟩ = some (.int .i64 g1) := s_67.out.at 0 _ rfl
      have qs1 : w66.cell? ⟨w.heap.size, 1, none⟩ = some (.int .i64 z1) := s_67.out.at 1 _ rfl
      have qs2 : w66.cell? ⟨w.heap.size, 2, none⟩ = some (.int .i64 s1) := s_67.out.at 2 _ rfl
      have zs := s_67.out.lt
      have qt0 : w66.cell? ⟨w.heap.size + 1, 0, none⟩ = some (.int .i64 g2) := t_67.out.at 0 _ rfl
      have qt1 : w66.cell? ⟨w.heap.size + 1, 1, none⟩ = some (.int .i64 z2) := t_67.out.at 1 _ rfl
      have qt2 : w66.cell? ⟨w.heap.size + 1, 2, none⟩ = some (.int .i64 s2) := t_67.out.at 2 _ rfl
      have zt := t_67.out.lt
      go_wp2_with (go_at_call 9; refine stop_here ?_)
      refine stop_on ?_
      clear qs0 qs1 qs2 zs qt0 qt1 qt2 zt
      refine (slotPrint_is g2 z2 s2 _ Hy.out He2.out).mono ?_
      rintro e w68 ⟨rfl, hx⟩
      have X_69 := Lib.hid (X_67.out.ext hx)
      have s_69 := Lib.hid (s_67.out.ext hx)
      have t_69 := Lib.hid (t_67.out.ext hx)
      clear X_67 s_67 t_67
      clear hx
      have qs0 : w68.cell? ⟨w.heap.size, 0, none⟩ = some (.int .i64 g1) := s_69.out.at 0 _ rfl
      have qs1 : w68.cell? ⟨w.heap.size, 1, none⟩ = some (.int .i64 z1) := s_69.out.at 1 _ rfl
      have qs2 : w68.cell? ⟨w.heap.size, 2, none⟩ = some (.int .i64 s1) := s_69.out.at 2 _ rfl
      have zs := s_69.out.lt
      have qt0 : w68.cell? ⟨w.heap.size + 1, 0, none⟩ = some (.int .i64 g2) := t_69.out.at 0 _ rfl
      have qt1 : w68.cell? ⟨w.heap.size + 1, 1, none⟩ = some (.int .i64 z2) := t_69.out.at 1 _ rfl
      have qt2 : w68.cell? ⟨w.heap.size + 1, 2, none⟩ = some (.int .i64 s2) := t_69.out.at 2 _ rfl
      have zt := t_69.out.lt
      go_wp2_with (go_at_call 13; refine stop_here ?_)
      refine stop_on ?_
      clear qs0 qs1 qs2 zs qt0 qt1 qt2 zt
      refine (slotPick_is a b _ Hma.out Hmb.out Hq1.out).mono ?_
      rintro e w70 ⟨rfl, hx⟩
      have X_71 := Lib.hid (X_69.out.ext hx)
      have s_71 := Lib.hid (s_69.out.ext hx)
      have t_71 := Lib.hid (t_69.out.ext hx)
      clear X_69 s_69 t_69
      clear hx
      have qs0 : w70.cell? ⟨w.heap.size, 0, none⟩ = some (.int .i64 g1) := s_71.out.at 0 _ rfl
      have qs1 : w70.cell? ⟨w.heap.size, 1, none⟩ = some (.int .i64 z1) := s_71.out.at 1 _ rfl
      have qs2 : w70.cell? ⟨w.heap.size, 2, none⟩ = some (.int .i64 s1) := s_71.out.at 2 _ rfl
      have zs := s_71.out.lt
      have qt0 : w70.cell? ⟨w.heap.size + 1, 0, none⟩ = some (.int .i64 g2) := t_71.out.at 0 _ rfl
      have qt1 : w70.cell? ⟨w.heap.size + 1, 1, none⟩ = some (.int .i64 z2) := t_71.out.at 1 _ rfl
      have qt2 : w70.cell? ⟨w.heap.size + 1, 2, none⟩ = some (.int .i64 s2) := t_71.out.at 2 _ rfl
      have zt := t_71.out.lt
      go_wp2_with (go_at_call 13; refine stop_here ?_)
      refine stop_on ?_
      clear qs0 qs1 qs2 zs qt0 qt1 qt2 zt
      generalize hW : (World.alloc w70 _) = W72
      obtain ⟨hx, hb0⟩ := allocs1 hW
      clear hW
      have X_73 := Lib.hid (X_71.out.ext hx)
      have s_73 := Lib.hid (s_71.out.ext hx)
      have t_73 := Lib.hid (t_71.out.ext hx)
      clear X_71 s_71 t_71
      have u_74 := Lib.hid hb0
      clear hx hb0
      refine (slotPick_is b a _ Hmb.out Hma.out Hq2.out).mono ?_
      rintro e w75 ⟨rfl, hx⟩
      have X_76 := Lib.hid (X_73.out.ext hx)
      have s_76 := Lib.hid (s_73.out.ext hx)
      have t_76 := Lib.hid (t_73.out.ext hx)
      have u_76 := Lib.hid (u_74.out.ext hx)
      clear X_73 s_73 t_73 u_74
      clear hx
      have qs0 : w75.cell? ⟨w.heap.size, 0, none⟩ = some (.int .i64 g1) := s_76.out.at 0 _ rfl
      have qs1 : w75.cell? ⟨w.heap.size, 1, none⟩ = some (.int .i64 z1) := s_76.out.at 1 _ rfl
      have qs2 : w75.cell? ⟨w.heap.size, 2, none⟩ = some (.int .i64 s1) := s_76.out.at 2 _ rfl
      have zs := s_76.out.lt
      have qt0 : w75.cell? ⟨w.heap.size + 1, 0, none⟩ = some (.int .i64 g2) := t_76.out.at 0 _ rfl
      have qt1 : w75.cell? ⟨w.heap.size + 1, 1, none⟩ = some (.int .i64 z2) := t_76.out.at 1 _ rfl
      have qt2 : w75.cell? ⟨w.heap.size + 1, 2, none⟩ = some (.int .i64 s2) := t_76.out.at 2 _ rfl
      have zt := t_76.out.lt
      have qu0 : w75.cell? ⟨w70.heap.size, 0, none⟩ = some (.int .i64 g2) := u_76.out.at 0 _ rfl
      have qu1 : w75.cell? ⟨w70.heap.size, 1, none⟩ = some (.int .i64 z2) := u_76.out.at 1 _ rfl
      have qu2 : w75.cell? ⟨w70.heap.size, 2, none⟩ = some (.int .i64 s2) := u_76.out.at 2 _ rfl
      have zu := u_76.out.lt
      go_wp2_with (go_at_call 11; refine stop_here ?_)
      refine stop_on ?_
      clear qs0 qs1 qs2 zs qt0 qt1 qt2 zt qu0 qu1 qu2 zu
      generalize hW : (World.alloc w75 _) = W77
      obtain ⟨hx, hb0⟩ := allocs1 hW
      clear hW
      have X_78 := Lib.hid (X_76.out.ext hx)
      have s_78 := Lib.hid (s_76.out.ext hx)
      have t_78 := Lib.hid (t_76.out.ext hx)
      have u_78 := Lib.hid (u_76.out.ext hx)
      clear X_76 s_76 t_76 u_76
      have v_79 := Lib.hid hb0
      clear hx hb0
      refine (slotParse_n o _ Ho.out Hn.out).mono ?_
      rintro e w80 ⟨rfl, hx⟩
      have X_81 := Lib.hid (X_78.out.ext hx)
      have s_81 := Lib.hid (s_78.out.ext hx)
      have t_81 := Lib.hid (t_78.out.ext hx)
      have u_81 := Lib.hid (u_78.out.ext hx)
      have v_81 := Lib.hid (v_79.out.ext hx)
      clear X_78 s_78 t_78 u_78 v_79
      clear hx
      have qs0 : w80.cell? ⟨w.heap.size, 0, none⟩ = some (.int .i64 g1) := s_81.out.at 0 _ rfl
      have qs1 : w80.cell? ⟨w.heap.size, 1, none⟩ = some (.int .i64 z1) := s_81.out.at 1 _ rfl
      have qs2 : w80.cell? ⟨w.heap.size, 2, none⟩ = some (.int .i64 s1) := s_81.out.at 2 _ rfl
      have zs := s_81.out.lt
      have qt0 : w80.cell? ⟨w.heap.size + 1, 0, none⟩ = some (.int .i64 g2) := t_81.out.at 0 _ rfl
      have qt1 : w80.cell? ⟨w.heap.size + 1, 1, none⟩ = some (.int .i64 z2) := t_81.out.at 1 _ rfl
      have qt2 : w80.cell? ⟨w.heap.size + 1, 2, none⟩ = some (.int .i64 s2) := t_81.out.at 2 _ rfl
      have zt := t_81.out.lt
      have qu0 : w80.cell? ⟨w70.heap.size, 0, none⟩ = some (.int .i64 g2) := u_81.out.at 0 _ rfl
      have qu1 : w80.cell? ⟨w70.heap.size, 1, none⟩ = some (.int .i64 z2) := u_81.out.at 1 _ rfl
      have qu2 : w80.cell? ⟨w70.heap.size, 2, none⟩ = some (.int .i64 s2) := u_81.out.at 2 _ rfl
      have zu := u_81.out.lt
      have qv0 : w80.cell? ⟨w75.heap.size, 0, none⟩ = some (.int .i64 g2) := v_81.out.at 0 _ rfl
      have qv1 : w80.cell? ⟨w75.heap.size, 1, none⟩ = some (.int .i64 z2) := v_81.out.at 1 _ rfl
      have qv2 : w80.cell? ⟨w75.heap.size, 2, none⟩ = some (.int .i64 s2) := v_81.out.at 2 _ rfl
      have zv := v_81.out.lt
      go_wp2_with (go_at_call 13; refine stop_here ?_)
      refine stop_on ?_
      clear qs0 qs1 qs2 zs qt0 qt1 qt2 zt qu0 qu1 qu2 zu qv0 qv1 qv2 zv
      generalize hW : (World.alloc w80 _) = W82
      obtain ⟨hx, hb0⟩ := allocs1 hW
      clear hW
      have X_83 := Lib.hid (X_81.out.ext hx)
      have s_83 := Lib.hid (s_81.out.ext hx)
      have t_83 := Lib.hid (t_81.out.ext hx)
      have u_83 := Lib.hid (u_81.out.ext hx)
      have v_83 := Lib.hid (v_81.out.ext hx)
      clear X_81 s_81 t_81 u_81 v_81
      have n_84 := Lib.hid hb0
      clear hx hb0
      refine (slotPick_is a o _ Hma.out Ho.out Q1.out).mono ?_
      rintro e w85 ⟨rfl, hx⟩
      have X_86 := Lib.hid (X_83.out.ext hx)
      have s_86 := Lib.hid (s_83.out.ext hx)
      have t_86 := Lib.hid (t_83.out.ext hx)
      have u_86 := Lib.hid (u_83.out.ext hx)
      have v_86 := Lib.hid (v_83.out.ext hx)
      have n_86 := Lib.hid (n_84.out.ext hx)
      clear X_83 s_83 t_83 u_83 v_83 n_84
      clear hx
      have qs0 : w85.cell? ⟨w.heap.size, 0, none⟩ = some (.int .i64 g1) := s_86.out.at 0 _ rfl
      have qs1 : w85.cell? ⟨w.heap.size, 1, none⟩ = some (.int .i64 z1) := s_86.out.at 1 _ rfl
      have qs2 : w85.cell? ⟨w.heap.size, 2, none⟩ = some (.int .i64 s1) := s_86.out.at 2 _ rfl
      have zs := s_86.out.lt
      have qt0 : w85.cell? ⟨w.heap.size + 1, 0, none⟩ = some (.int .i64 g2) := t_86.out.at 0 _ rfl
      have qt1 : w85.cell? ⟨w.heap.size + 1, 1, none⟩ = some (.int .i64 z2) := t_86.out.at 1 _ rfl
      have qt2 : w85.cell? ⟨w.heap.size + 1, 2, none⟩ = some (.int .i64 s2) := t_86.out.at 2 _ rfl
      have zt := t_86.out.lt
      have qu0 : w85.cell? ⟨w70.heap.size, 0, none⟩ = some (.int .i64 g2) := u_86.out.at 0 _ rfl
      have qu1 : w85.cell? ⟨w70.heap.size, 1, none⟩ = some (.int .i64 z2) := u_86.out.at 1 _ rfl
      have qu2 : w85.cell? ⟨w70.heap.size, 2, none⟩ = some (.int .i64 s2) := u_86.out.at 2 _ rfl
      have zu := u_86.out.lt
      have qv0 : w85.cell? ⟨w75.heap.size, 0, none⟩ = some (.int .i64 g2) := v_86.out.at 0 _ rfl
      have qv1 : w85.cell? ⟨w75.heap.size, 1, none⟩ = some (.int .i64 z2) := v_86.out.at 1 _ rfl
      have qv2 : w85.cell? ⟨w75.heap.size, 2, none⟩ = some (.int .i64 s2) := v_86.out.at 2 _ rfl
      have zv := v_86.out.lt
      have qn0 : w85.cell? ⟨w80.heap.size, 0, none⟩ = some (.int .i64 0) := n_86.out.at 0 _ rfl
      have qn1 : w85.cell? ⟨w80.heap.size, 1, none⟩ = some (.int .i64 0) := n_86.out.at 1 _ rfl
      have qn2 : w85.cell? ⟨w80.heap.size, 2, none⟩ = some (.int .i64 0) := n_86.out.at 2 _ rfl
      have zn := n_86.out.lt
      go_wp2_with (go_at_call 13; refine stop_here ?_)
      refine stop_on ?_
      clear qs0 qs1 qs2 zs qt0 qt1 qt2 zt qu0 qu1 qu2 zu qv0 qv1 qv2 zv qn0 qn1 qn2 zn
      generalize hW : (World.alloc w85 _) = W87
      obtain ⟨hx, hb0⟩ := allocs1 hW
      clear hW
      have X_88 := Lib.hid (X_86.out.ext hx)
      have s_88 := Lib.hid (s_86.out.ext hx)
      have t_88 := Lib.hid (t_86.out.ext hx)
      have u_88 := Lib.hid (u_86.out.ext hx)
      have v_88 := Lib.hid (v_86.out.ext hx)
      have n_88 := Lib.hid (n_86.out.ext hx)
      clear X_86 s_86 t_86 u_86 v_86 n_86
      have p_89 := Lib.hid hb0
      clear hx hb0
      refine (slotPick_is o a _ Ho.out Hma.out Q2.out).mono ?_
      rintro e w90 ⟨rfl, hx⟩
      have X_91 := Lib.hid (X_88.out.ext hx)
      have s_91 := Lib.hid (s_88.out.ext hx)
      have t_91 := Lib.hid (t_88.out.ext hx)
      have u_91 := Lib.hid (u_88.out.ext hx)
      have v_91 := Lib.hid (v_88.out.ext hx)
      have n_91 := Lib.hid (n_88.out.ext hx)
      have p_91 := Lib.hid (p_89.out.ext hx)
      clear X_88 s_88 t_88 u_88 v_88 n_88 p_89
      clear hx
      have qs0 : w90.cell? ⟨w.heap.size, 0, none⟩ = some (.int .i64 g1) := s_91.out.at 0 _ rfl
      have qs1 : w90.cell? ⟨w.heap.size, 1, none⟩ = some (.int .i64 z1) := s_91.out.at 1 _ rfl
      have qs2 : w90.cell? ⟨w.heap.size, 2, none⟩ = some (.int .i64 s1) := s_91.out.at 2 _ rfl
      have zs := s_91.out.lt
      have qt0 : w90.cell? ⟨w.heap.size + 1, 0, none⟩ = some (.int .i64 g2) := t_91.out.at 0 _ rfl
      have qt1 : w90.cell? ⟨w.heap.size + 1, 1, none⟩ = some (.int .i64 z2) := t_91.out.at 1 _ rfl
      have qt2 : w90.cell? ⟨w.heap.size + 1, 2, none⟩ = some (.int .i64 s2) := t_91.out.at 2 _ rfl
      have zt := t_91.out.lt
      have qu0 : w90.cell? ⟨w70.heap.size, 0, none⟩ = some (.int .i64 g2) := u_91.out.at 0 _ rfl
      have qu1 : w90.cell? ⟨w70.heap.size, 1, none⟩ = some (.int .i64 z2) := u_91.out.at 1 _ rfl
      have qu2 : w90.cell? ⟨w70.heap.size, 2, none⟩ = some (.int .i64 s2) := u_91.out.at 2 _ rfl
      have zu := u_91.out.lt
      have qv0 : w90.cell? ⟨w75.heap.size, 0, none⟩ = some (.int .i64 g2) := v_91.out.at 0 _ rfl
      have qv1 : w90.cell? ⟨w75.heap.size, 1, none⟩ = some (.int .i64 z2) := v_91.out.at 1 _ rfl
      have qv2 : w90.cell? ⟨w75.heap.size, 2, none⟩ = some (.int .i64 s2) := v_91.out.at 2 _ rfl
      have zv := v_91.out.lt
      have qn0 : w90.cell? ⟨w80.heap.size, 0, none⟩ = some (.int .i64 0) := n_91.out.at 0 _ rfl
      have qn1 : w90.cell? ⟨w80.heap.size, 1, none⟩ = some (.int .i64 0) := n_91.out.at 1 _ rfl
      have qn2 : w90.cell? ⟨w80.heap.size, 2, none⟩ = some (.int .i64 0) := n_91.out.at 2 _ rfl
      have zn := n_91.out.lt
      have qp0 : w90.cell? ⟨w85.heap.size, 0, none⟩ = some (.int .i64 g1) := p_91.out.at 0 _ rfl
      have qp1 : w90.cell? ⟨w85.heap.size, 1, none⟩ = some (.int .i64 z1) := p_91.out.at 1 _ rfl
      have qp2 : w90.cell? ⟨w85.heap.size, 2, none⟩ = some (.int .i64 s1) := p_91.out.at 2 _ rfl
      have zp := p_91.out.lt
      go_wp2_with (go_at_call 13; refine stop_here ?_)
      refine stop_on ?_
      clear qs0 qs1 qs2 zs qt0 qt1 qt2 zt qu0 qu1 qu2 zu qv0 qv1 qv2 zv qn0 qn1 qn2 zn qp0 qp1 qp2 zp
      generalize hW : (World.alloc w90 _) = W92
      obtain ⟨hx, hb0⟩ := allocs1 hW
      clear hW
      have X_93 := Lib.hid (X_91.out.ext hx)
      have s_93 := Lib.hid (s_91.out.ext hx)
      have t_93 := Lib.hid (t_91.out.ext hx)
      have u_93 := Lib.hid (u_91.out.ext hx)
      have v_93 := Lib.hid (v_91.out.ext hx)
      have n_93 := Lib.hid (n_91.out.ext hx)
      have p_93 := Lib.hid (p_91.out.ext hx)
      clear X_91 s_91 t_91 u_91 v_91 n_91 p_91
      have q_94 := Lib.hid hb0
      clear hx hb0
      refine (slotPick_is o o _ Ho.out Ho.out Q3.out).mono ?_
      rintro e w95 ⟨rfl, hx⟩
      have X_96 := Lib.hid (X_93.out.ext hx)
      have s_96 := Lib.hid (s_93.out.ext hx)
      have t_96 := Lib.hid (t_93.out.ext hx)
      have u_96 := Lib.hid (u_93.out.ext hx)
      have v_96 := Lib.hid (v_93.out.ext hx)
      have n_96 := Lib.hid (n_93.out.ext hx)
      have p_96 := Lib.hid (p_93.out.ext hx)
      have q_96 := Lib.hid (q_94.out.ext hx)
      clear X_93 s_93 t_93 u_93 v_93 n_93 p_93 q_94
      clear hx
      have qs0 : w95.cell? ⟨w.heap.size, 0, none⟩ = some (.int .i64 g1) := s_96.out.at 0 _ rfl
      have qs1 : w95.cell? ⟨w.heap.size, 1, none⟩ = some (.int .i64 z1) := s_96.out.at 1 _ rfl
      have qs2 : w95.cell? ⟨w.heap.size, 2, none⟩ = some (.int .i64 s1) := s_96.out.at 2 _ rfl
      have zs := s_96.out.lt
      have qt0 : w95.cell? ⟨w.heap.size + 1, 0, none⟩ = some (.int .i64 g2) := t_96.out.at 0 _ rfl
      have qt1 : w95.cell? ⟨w.heap.size + 1, 1, none⟩ = some (.int .i64 z2) := t_96.out.at 1 _ rfl
      have qt2 : w95.cell? ⟨w.heap.size + 1, 2, none⟩ = some (.int .i64 s2) := t_96.out.at 2 _ rfl
      have zt := t_96.out.lt
      have qu0 : w95.cell? ⟨w70.heap.size, 0, none⟩ = some (.int .i64 g2) := u_96.out.at 0 _ rfl
      have qu1 : w95.cell? ⟨w70.heap.size, 1, none⟩ = some (.int .i64 z2) := u_96.out.at 1 _ rfl
      have qu2 : w95.cell? ⟨w70.heap.size, 2, none⟩ = some (.int .i64 s2) := u_96.out.at 2 _ rfl
      have zu := u_96.out.lt
      have qv0 : w95.cell? ⟨w75.heap.size, 0, none⟩ = some (.int .i64 g2) := v_96.out.at 0 _ rfl
      have qv1 : w95.cell? ⟨w75.heap.size, 1, none⟩ = some (.int .i64 z2) := v_96.out.at 1 _ rfl
      have qv2 : w95.cell? ⟨w75.heap.size, 2, none⟩ = some (.int .i64 s2) := v_96.out.at 2 _ rfl
      have zv := v_96.out.lt
      have qn0 : w95.cell? ⟨w80.heap.size, 0, none⟩ = some (.int .i64 0) := n_96.out.at 0 _ rfl
      have qn1 : w95.cell? ⟨w80.heap.size, 1, none⟩ = some (.int .i64 0) := n_96.out.at 1 _ rfl
      have qn2 : w95.cell? ⟨w80.heap.size, 2, none⟩ = some (.int .i64 0) := n_96.out.at 2 _ rfl
      have zn := n_96.out.lt
      have qp0 : w95.cell? ⟨w85.heap.size, 0, none⟩ = some (.int .i64 g1) := p_96.out.at 0 _ rfl
      have qp1 : w95.cell? ⟨w85.heap.size, 1, none⟩ = some (.int .i64 z1) := p_96.out.at 1 _ rfl
      have qp2 : w95.cell? ⟨w85.heap.size, 2, none⟩ = some (.int .i64 s1) := p_96.out.at 2 _ rfl
      have zp := p_96.out.lt
      have qq0 : w95.cell? ⟨w90.heap.size, 0, none⟩ = some (.int .i64 g1) := q_96.out.at 0 _ rfl
      have qq1 : w95.cell? ⟨w90.heap.size, 1, none⟩ = some (.int .i64 z1) := q_96.out.at 1 _ rfl
      have qq2 : w95.cell? ⟨w90.heap.size, 2, none⟩ = some (.int .i64 s1) := q_96.out.at 2 _ rfl
      have zq := q_96.out.lt
      go_wp2
      go_ret
      exact ⟨rfl, X_96.out.alloc _⟩
  · subst hg
    have Hq1 := Lib.hid (show pickV a b = .tuple #[.int .i64 0, .agg #[.int .i64 g1, .int .i64 z1, .int .i64 s1], .int .i64 0] from by rw [p12]; simp only [Sup.v]; first | rw [if_pos (by omega), if_pos (by omega)] | rw [if_neg (by omega), if_neg (by omega)])
    have Hq2 := Lib.hid (show pickV b a = .tuple #[.int .i64 0, .agg #[.int .i64 g1, .int .i64 z2, .int .i64 s2], .int .i64 0] from by rw [p21]; simp only [Sup.v]; first | rw [if_pos (by omega), if_pos (by omega)] | rw [if_neg (by omega), if_neg (by omega)])
    clear p12 p21
    cases hn : parS o with
    | some y =>
      obtain ⟨g3, z3, s3⟩ := y
      have Hn := Lib.hid hn
      clear hn
      go_enter Try.func5, Try.ntmps5
      go_wp2_with (go_at_call 8; refine stop_here ?_)
      refine stop_on ?_
      generalize hW : (World.alloc (World.alloc w _) _) = W97
      obtain ⟨hx, hb0, hb1⟩ := allocs2 hW
      clear hW
      have X_98 := Lib.hid (X_1.out.ext hx)
      clear X_1
      have s_99 := Lib.hid hb0
      have t_100 := Lib.hid hb1
      clear hx hb0 hb1
      refine (shown_any _).mono ?_
      rintro e w101 ⟨rfl, hx⟩
      have X_102 := Lib.hid (X_98.out.ext hx)
      have s_102 := Lib.hid (s_99.out.ext hx)
      have t_102 := Lib.hid (t_100.out.ext hx)
      clear X_98 s_99 t_100
      clear hx
      have qs0 : w101.cell? ⟨w.heap.size, 0, none⟩ = some (.int .i64 g1) := s_102.out.at 0 _ rfl
      have qs1 : w101.cell? ⟨w.heap.size, 1, none⟩ = some (.int .i64 z1) := s_102.out.at 1 _ rfl
      have qs2 : w101.cell? ⟨w.heap.size, 2, none⟩ = some (.int .i64 s1) := s_102.out.at 2 _ rfl
      have zs := s_102.out.lt
      have qt0 : w101.cell? ⟨w.heap.size + 1, 0, none⟩ = some (.int .i64 g1) := t_102.out.at 0 _ rfl
      have qt1 : w101.cell? ⟨w.heap.size + 1, 1, none⟩ = some (.int .i64 z2) := t_102.out.at 1 _ rfl
      have qt2 : w101.cell? ⟨w.heap.size + 1, 2, none⟩ = some (.int .i64 s2) := t_102.out.at 2 _ rfl
      have zt := t_102.out.lt
      go_wp2_with (go_at_call 18; refine stop_here ?_)
      refine stop_on ?_
      clear qs0 qs1 qs2 zs qt0 qt1 qt2 zt
      refine (ref03Right_is g1 z1 s1 _ H1.out).mono ?_
      rintro e w103 ⟨rfl, hx⟩
      have X_104 := Lib.hid (X_102.out.ext hx)
      have s_104 := Lib.hid (s_102.out.ext hx)
      have t_104 := Lib.hid (t_102.out.ext hx)
      clear X_102 s_102 t_102
      clear hx
      have qs0 : w103.cell? ⟨w.heap.size, 0, none⟩ = some (.int .i64 g1) := s_104.out.at 0 _ rfl
      have qs1 : w103.cell? ⟨w.heap.size, 1, none⟩ = some (.int .i64 z1) := s_104.out.at 1 _ rfl
      have qs2 : w103.cell? ⟨w.heap.size, 2, none⟩ = some (.int .i64 s1) := s_104.out.at 2 _ rfl
      have zs := s_104.out.lt
      have qt0 : w103.cell? ⟨w.heap.size + 1, 0, none⟩ = some (.int .i64 g1) := t_104.out.at 0 _ rfl
      have qt1 : w103.cell? ⟨w.heap.size + 1, 1, none⟩ = some (.int .i64 z2) := t_104.out.at 1 _ rfl
      have qt2 : w103.cell? ⟨w.heap.size + 1, 2, none⟩ = some (.int .i64 s2) := t_104.out.at 2 _ rfl
      have zt := t_104.out.lt
      go_wp2_with (go_at_call 18; refine stop_here ?_)
      refine stop_on ?_
      clear qs0 qs1 qs2 zs qt0 qt1 qt2 zt
      refine (ref03Right_is g1 z2 s2 _ H2.out).mono ?_
      rintro e w105 ⟨rfl, hx⟩
      have X_106 := Lib.hid (X_104.out.ext hx)
      have s_106 := Lib.hid (s_104.out.ext hx)
      have t_106 := Lib.hid (t_104.out.ext hx)
      clear X_104 s_104 t_104
      clear hx
      have qs0 : w105.cell? ⟨w.heap.size, 0, none⟩ = some (.int .i64 g1) := s_106.out.at 0 _ rfl
      have qs1 : w105.cell? ⟨w.heap.size, 1, none⟩ = some (.int .i64 z1) := s_106.out.at 1 _ rfl
      have qs2 : w105.cell? ⟨w.heap.size, 2, none⟩ = some (.int .i64 s1) := s_106.out.at 2 _ rfl
      have zs := s_106.out.lt
      have qt0 : w105.cell? ⟨w.heap.size + 1, 0, none⟩ = some (.int .i64 g1) := t_106.out.at 0 _ rfl
      have qt1 : w105.cell? ⟨w.heap.size + 1, 1, none⟩ = some (.int .i64 z2) := t_106.out.at 1 _ rfl
      have qt2 : w105.cell? ⟨w.heap.size + 1, 2, none⟩ = some (.int .i64 s2) := t_106.out.at 2 _ rfl
      have zt := t_106.out.lt
      go_wp2_with (go_at_call 9; refine stop_here ?_)
      refine stop_on ?_
      clear qs0 qs1 qs2 zs qt0 qt1 qt2 zt
      refine (slotPrint_is g1 z1 s1 _ Hx.out He1.out).mono ?_
      rintro e w107 ⟨rfl, hx⟩
      have X_108 := Lib.hid (X_106.out.ext hx)
      have s_108 := Lib.hid (s_106.out.ext hx)
      have t_108 := Lib.hid (t_106.out.ext hx)
      clear X_106 s_106 t_106
      clear hx
      have qs0 : w107.cell? ⟨w.heap.size, 0, none⟩ = some (.int .i64 g1) := s_108.out.at 0 _ rfl
      have qs1 : w107.cell? ⟨w.heap.size, 1, none⟩ = some (.int .i64 z1) := s_108.out.at 1 _ rfl
      have qs2 : w107.cell? ⟨w.heap.size, 2, none⟩ = some (.int .i64 s1) := s_108.out.at 2 _ rfl
      have zs := s_108.out.lt
      have qt0 : w107.cell? ⟨w.heap.size + 1, 0, none⟩ = some (.int .i64 g1) := t_108.out.at 0 _ rfl
      have qt1 : w107.cell? ⟨w.heap.size + 1, 1, none⟩ = some (.int .i64 z2) := t_108.out.at 1 _ rfl
      have qt2 : w107.cell? ⟨w.heap.size + 1, 2, none⟩ = some (.int .i64 s2) := t_108.out.at 2 _ rfl
      have zt := t_108.out.lt
      go_wp2_with (go_at_call 9; refine stop_here ?_)
      refine stop_on ?_
      clear qs0 qs1 qs2 zs qt0 qt1 qt2 zt
      refine (slotPrint_is g1 z2 s2 _ Hy.out He2.out).mono ?_
      rintro e w109 ⟨rfl, hx⟩
      have X_110 := Lib.hid (X_108.out.ext hx)
      have s_110 := Lib.hid (s_108.out.ext hx)
      have t_110 := Lib.hid (t_108.out.ext hx)
      clear X_108 s_108 t_108
      clear hx
      have qs0 : w109.cell? ⟨w.heap.size, 0, none⟩ = some (.int .i64 g1) := s_110.out.at 0 _ rfl
      have qs1 : w109.cell? ⟨w.heap.size, 1, none⟩ = some (.int .i64 z1) := s_110.out.at 1 _ rfl
      have qs2 : w109.cell? ⟨w.heap.size, 2, none⟩ = some (.int .i64 s1) := s_110.out.at 2 _ rfl
      have zs := s_110.out.lt
      have qt0 : w109.cell? ⟨w.heap.size + 1, 0, none⟩ = some (.int .i64 g1) := t_110.out.at 0 _ rfl
      have qt1 : w109.cell? ⟨w.heap.size + 1, 1, none⟩ = some (.int .i64 z2) := t_110.out.at 1 _ rfl
      have qt2 : w109.cell? ⟨w.heap.size + 1, 2, none⟩ = some (.int .i64 s2) := t_110.out.at 2 _ rfl
      have zt := t_110.out.lt
      go_wp2_with (go_at_call 13; refine stop_here ?_)
      refine stop_on ?_
      clear qs0 qs1 qs2 zs qt0 qt1 qt2 zt
      refine (slotPick_is a b _ Hma.out Hmb.out Hq1.out).mono ?_
      rintro e w111 ⟨rfl, hx⟩
      have X_112 := Lib.hid (X_110.out.ext hx)
      have s_112 := Lib.hid (s_110.out.ext hx)
      have t_112 := Lib.hid (t_110.out.ext hx)
      clear X_110 s_110 t_110
      clear hx
      have qs0 : w111.cell? ⟨w.heap.size, 0, none⟩ = some (.int .i64 g1) := s_112.out.at 0 _ rfl
      have qs1 : w111.cell? ⟨w.heap.size, 1, none⟩ = some (.int .i64 z1) := s_112.out.at 1 _ rfl
      have qs2 : w111.cell? ⟨w.heap.size, 2, none⟩ = some (.int .i64 s1) := s_112.out.at 2 _ rfl
      have zs := s_112.out.lt
      have qt0 : w111.cell? ⟨w.heap.size + 1, 0, none⟩ = some (.int .i64 g1) := t_112.out.at 0 _ rfl
      have qt1 : w111.cell? ⟨w.heap.size + 1, 1, none⟩ = some (.int .i64 z2) := t_112.out.at 1 _ rfl
      have qt2 : w111.cell? ⟨w.heap.size + 1, 2, none⟩ = some (.int .i64 s2) := t_112.out.at 2 _ rfl
      have zt := t_112.out.lt
      go_wp2_with (go_at_call 13; refine stop_here ?_)
      refine stop_on ?_
      clear qs0 qs1 qs2 zs qt0 qt1 qt2 zt
      generalize hW : (World.alloc w111 _) = W113
      obtain ⟨hx, hb0⟩ := allocs1 hW
      clear hW
      have X_114 := Lib.hid (X_112.out.ext hx)
      have s_114 := Lib.hid (s_112.out.ext hx)
      have t_114 := Lib.hid (t_112.out.ext hx)
      clear X_112 s_112 t_112
      have u_115 := Lib.hid hb0
      clear hx hb0
      refine (slotPick_is b a _ Hmb.out Hma.out Hq2.out).mono ?_
      rintro e w116 ⟨rfl, hx⟩
      have X_117 := Lib.hid (X_114.out.ext hx)
      have s_117 := Lib.hid (s_114.out.ext hx)
      have t_117 := Lib.hid (t_114.out.ext hx)
      have u_117 := Lib.hid (u_115.out.ext hx)
      clear X_114 s_114 t_114 u_115
      clear hx
      have qs0 : w116.cell? ⟨w.heap.size, 0, none⟩ = some (.int .i64 g1) := s_117.out.at 0 _ rfl
      have qs1 : w116.cell? ⟨w.heap.size, 1, none⟩ = some (.int .i64 z1) := s_117.out.at 1 _ rfl
      have qs2 : w116.cell? ⟨w.heap.size, 2, none⟩ = some (.int .i64 s1) := s_117.out.at 2 _ rfl
      have zs := s_117.out.lt
      have qt0 : w116.cell? ⟨w.heap.size + 1, 0, none⟩ = some (.int .i64 g1) := t_117.out.at 0 _ rfl
      have qt1 : w116.cell? ⟨w.heap.size + 1, 1, none⟩ = some (.int .i64 z2) := t_117.out.at 1 _ rfl
      have qt2 : w116.cell? ⟨w.heap.size + 1, 2, none⟩ = some (.int .i64 s2) := t_117.out.at 2 _ rfl
      have zt := t_117.out.lt
      have qu0 : w116.cell? ⟨w111.heap.size, 0, none⟩ = some (.int .i64 g1) := u_117.out.at 0 _ rfl
      have qu1 : w116.cell? ⟨w111.heap.size, 1, none⟩ = some (.int .i64 z1) := u_117.out.at 1 _ rfl
      have qu2 : w116.cell? ⟨w111.heap.size, 2, none⟩ = some (.int .i64 s1) := u_117.out.at 2 _ rfl
      have zu := u_117.out.lt
      go_wp2_with (go_at_call 11; refine stop_here ?_)
      refine stop_on ?_
      clear qs0 qs1 qs2 zs qt0 qt1 qt2 zt qu0 qu1 qu2 zu
      generalize hW : (World.alloc w116 _) = W118
      obtain ⟨hx, hb0⟩ := allocs1 hW
      clear hW
      have X_119 := Lib.hid (X_117.out.ext hx)
      have s_119 := Lib.hid (s_117.out.ext hx)
      have t_119 := Lib.hid (t_117.out.ext hx)
      have u_119 := Lib.hid (u_117.out.ext hx)
      clear X_117 s_117 t_117 u_117
      have v_120 := Lib.hid hb0
      clear hx hb0
      refine (slotParse_y o _ Ho.out Hn.out).mono ?_
      rintro e w121 ⟨rfl, hx⟩
      have X_122 := Lib.hid (X_119.out.ext hx)
      have s_122 := Lib.hid (s_119.out.ext hx)
      have t_122 := Lib.hid (t_119.out.ext hx)
      have u_122 := Lib.hid (u_119.out.ext hx)
      have v_122 := Lib.hid (v_120.out.ext hx)
      clear X_119 s_119 t_119 u_119 v_120
      clear hx
      have qs0 : w121.cell? ⟨w.heap.size, 0, none⟩ = some (.int .i64 g1) := s_122.out.at 0 _ rfl
      have qs1 : w121.cell? ⟨w.heap.size, 1, none⟩ = some (.int .i64 z1) := s_122.out.at 1 _ rfl
      have qs2 : w121.cell? ⟨w.heap.size, 2, none⟩ = some (.int .i64 s1) := s_122.out.at 2 _ rfl
      have zs := s_122.out.lt
      have qt0 : w121.cell? ⟨w.heap.size + 1, 0, none⟩ = some (.int .i64 g1) := t_122.out.at 0 _ rfl
      have qt1 : w121.cell? ⟨w.heap.size + 1, 1, none⟩ = some (.int .i64 z2) := t_122.out.at 1 _ rfl
      have qt2 : w121.cell? ⟨w.heap.size + 1, 2, none⟩ = some (.int .i64 s2) := t_122.out.at 2 _ rfl
      have zt := t_122.out.lt
      have qu0 : w121.cell? ⟨w111.heap.size, 0, none⟩ = some (.int .i64 g1) := u_122.out.at 0 _ rfl
      have qu1 : w121.cell? ⟨w111.heap.size, 1, none⟩ = some (.int .i64 z1) := u_122.out.at 1 _ rfl
      have qu2 : w121.cell? ⟨w111.heap.size, 2, none⟩ = some (.int .i64 s1) := u_122.out.at 2 _ rfl
      have zu := u_122.out.lt
      have qv0 : w121.cell? ⟨w116.heap.size, 0, none⟩ = some (.int .i64 g1) := v_122.out.at 0 _ rfl
      have qv1 : w121.cell? ⟨w116.heap.size, 1, none⟩ = some (.int .i64 z2) := v_122.out.at 1 _ rfl
      have qv2 : w121.cell? ⟨w116.heap.size, 2, none⟩ = some (.int .i64 s2) := v_122.out.at 2 _ rfl
      have zv := v_122.out.lt
      go_wp2
      go_ret
      exact ⟨rfl, X_122.out.alloc _⟩
    | none =>
      have Hn := Lib.hid hn
      have Q1 := Lib.hid (O1.out hn)
      have Q2 := Lib.hid (O2.out hn)
      have Q3 := Lib.hid (show pickV o o = .tuple #[.int .i64 0, .agg #[.int .i64 0, .int .i64 0, .int .i64 0], .int .i64 4] from O3.out hn)
      clear hn O1 O2 O3
      go_enter Try.func5, Try.ntmps5
      go_wp2_with (go_at_call 8; refine stop_here ?_)
      refine stop_on ?_
      generalize hW : (World.alloc (World.alloc w _) _) = W123
      obtain ⟨hx, hb0, hb1⟩ := allocs2 hW
      clear hW
      have X_124 := Lib.hid (X_1.out.ext hx)
      clear X_1
      have s_125 := Lib.hid hb0
      have t_126 := Lib.hid hb1
      clear hx hb0 hb1
      refine (shown_any _).mono ?_
      rintro e w127 ⟨rfl, hx⟩
      have X_128 := Lib.hid (X_124.out.ext hx)
      have s_128 := Lib.hid (s_125.out.ext hx)
      have t_128 := Lib.hid (t_126.out.ext hx)
      clear X_124 s_125 t_126
      clear hx
      have qs0 : w127.cell? ⟨w.heap.size, 0, none⟩ = some (.int .i64 g1) := s_128.out.at 0 _ rfl
      have qs1 : w127.cell? ⟨w.heap.size, 1, none⟩ = some (.int .i64 z1) := s_128.out.at 1 _ rfl
      have qs2 : w127.cell? ⟨w.heap.size, 2, none⟩ = some (.int .i64 s1) := s_128.out.at 2 _ rfl
      have zs := s_128.out.lt
      have qt0 : w127.cell? ⟨w.heap.size + 1, 0, none⟩ = some (.int .i64 g1) := t_128.out.at 0 _ rfl
      have qt1 : w127.cell? ⟨w.heap.size + 1, 1, none⟩ = some (.int .i64 z2) := t_128.out.at 1 _ rfl
      have qt2 : w127.cell? ⟨w.heap.size + 1, 2, none⟩ = some (.int .i64 s2) := t_128.out.at 2 _ rfl
      have zt := t_128.out.lt
      go_wp2_with (go_at_call 18; refine stop_here ?_)
      refine stop_on ?_
      clear qs0 qs1 qs2 zs qt0 qt1 qt2 zt
      refine (ref03Right_is g1 z1 s1 _ H1.out).mono ?_
      rintro e w129 ⟨rfl, hx⟩
      have X_130 := Lib.hid (X_128.out.ext hx)
      have s_130 := Lib.hid (s_128.out.ext hx)
      have t_130 := Lib.hid (t_128.out.ext hx)
      clear X_128 s_128 t_128
      clear hx
      have qs0 : w129.cell? ⟨w.heap.size, 0, none⟩ = some (.int .i64 g1) := s_130.out.at 0 _ rfl
      have qs1 : w129.cell? ⟨w.heap.size, 1, none⟩ = some (.int .i64 z1) := s_130.out.at 1 _ rfl
      have qs2 : w129.cell? ⟨w.heap.size, 2, none⟩ = some (.int .i64 s1) := s_130.out.at 2 _ rfl
      have zs := s_130.out.lt
      have qt0 : w129.cell? ⟨w.heap.size + 1, 0, none⟩ = some (.int .i64 g1) := t_130.out.at 0 _ rfl
      have qt1 : w129.cell? ⟨w.heap.size + 1, 1, none⟩ = some (.int .i64 z2) := t_130.out.at 1 _ rfl
      have qt2 : w129.cell? ⟨w.heap.size + 1, 2, none⟩ = some (.int .i64 s2) := t_130.out.at 2 _ rfl
      have zt := t_130.out.lt
      go_wp2_with (go_at_call 18; refine stop_here ?_)
      refine stop_on ?_
      clear qs0 qs1 qs2 zs qt0 qt1 qt2 zt
      refine (ref03Right_is g1 z2 s2 _ H2.out).mono ?_
      rintro e w131 ⟨rfl, hx⟩
      have X_132 := Lib.hid (X_130.out.ext hx)
      have s_132 := Lib.hid (s_130.out.ext hx)
      have t_132 := Lib.hid (t_130.out.ext hx)
      clear X_130 s_130 t_130
      clear hx
      have qs0 : w131.cell? ⟨w.heap.size, 0, none⟩ = some (.int .i64 g1) := s_132.out.at 0 _ rfl
      have qs1 : w131.cell? ⟨w.heap.size, 1, none⟩ = some (.int .i64 z1) := s_132.out.at 1 _ rfl
      have qs2 : w131.cell? ⟨w.heap.size, 2, none⟩ = some (.int .i64 s1) := s_132.out.at 2 _ rfl
      have zs := s_132.out.lt
      have qt0 : w131.cell? ⟨w.heap.size + 1, 0, none⟩ = some (.int .i64 g1) := t_132.out.at 0 _ rfl
      have qt1 : w131.cell? ⟨w.heap.size + 1, 1, none⟩ = some (.int .i64 z2) := t_132.out.at 1 _ rfl
      have qt2 : w131.cell? ⟨w.heap.size + 1, 2, none⟩ = some (.int .i64 s2) := t_132.out.at 2 _ rfl
      have zt := t_132.out.lt
      go_wp2_with (go_at_call 9; refine stop_here ?_)
      refine stop_on ?_
      clear qs0 qs1 qs2 zs qt0 qt1 qt2 zt
      refine (slotPrint_is g1 z1 s1 _ Hx.out He1.out).mono ?_
      rintro e w133 ⟨rfl, hx⟩
      have X_134 := Lib.hid (X_132.out.ext hx)
      have s_134 := Lib.hid (s_132.out.ext hx)
      have t_134 := Lib.hid (t_132.out.ext hx)
      clear X_132 s_132 t_132
      clear hx
      have qs0 : w133.cell? ⟨w.heap.size, 0, none⟩ = some (.int .i64 g1) := s_134.out.at 0 _ rfl
      have qs1 : w133.cell? ⟨w.heap.size, 1, none⟩ = some (.int .i64 z1) := s_134.out.at 1 _ rfl
      have qs2 : w133.cell? ⟨w.heap.size, 2, none⟩ = some (.int .i64 s1) := s_134.out.at 2 _ rfl
      have zs := s_134.out.lt
      have qt0 : w133.cell? ⟨w.heap.size + 1, 0, none⟩ = some (.int .i64 g1) := t_134.out.at 0 _ rfl
      have qt1 : w133.cell? ⟨w.heap.size + 1, 1, none⟩ = some (.int .i64 z2) := t_134.out.at 1 _ rfl
      have qt2 : w133.cell? ⟨w.heap.size + 1, 2, none⟩ = some (.int .i64 s2) := t_134.out.at 2 _ rfl
      have zt := t_134.out.lt
      go_wp2_with (go_at_call 9; refine stop_here ?_)
      refine stop_on ?_
      clear qs0 qs1 qs2 zs qt0 qt1 qt2 zt
      refine (slotPrint_is g1 z2 s2 _ Hy.out He2.out).mono ?_
      rintro e w135 ⟨rfl, hx⟩
      have X_136 := Lib.hid (X_134.out.ext hx)
      have s_136 := Lib.hid (s_134.out.ext hx)
      have t_136 := Lib.hid (t_134.out.ext hx)
      clear X_134 s_134 t_134
      clear hx
      have qs0 : w135.cell? ⟨w.heap.size, 0, none⟩ = some (.int .i64 g1) := s_136.out.at 0 _ rfl
      have qs1 : w135.cell? ⟨w.heap.size, 1, none⟩ = some (.int .i64 z1) := s_136.out.at 1 _ rfl
      have qs2 : w135.cell? ⟨w.heap.size, 2, none⟩ = some (.int .i64 s1) := s_136.out.at 2 _ rfl
      have zs := s_136.out.lt
      have qt0 : w135.cell? ⟨w.heap.size + 1, 0, none⟩ = some (.int .i64 g1) := t_136.out.at 0 _ rfl
      have qt1 : w135.cell? ⟨w.heap.size + 1, 1, none⟩ = some (.int .i64 z2) := t_136.out.at 1 _ rfl
      have qt2 : w135.cell? ⟨w.heap.size + 1, 2, none⟩ = some (.int .i64 s2) := t_136.out.at 2 _ rfl
      have zt := t_136.out.lt
      go_wp2_with (go_at_call 13; refine stop_here ?_)
      refine stop_on ?_
      clear qs0 qs1 qs2 zs qt0 qt1 qt2 zt
      refine (slotPick_is a b _ Hma.out Hmb.out Hq1.out).mono ?_
      rintro e w137 ⟨rfl, hx⟩
      have X_138 := Lib.hid (X_136.out.ext hx)
      have s_138 := Lib.hid (s_136.out.ext hx)
      have t_138 := Lib.hid (t_136.out.ext hx)
      clear X_136 s_136 t_136
      clear hx
      have qs0 : w137.cell? ⟨w.heap.size, 0, none⟩ = some (.int .i64 g1) := s_138.out.at 0 _ rfl
      have qs1 : w137.cell? ⟨w.heap.size, 1, none⟩ = some (.int .i64 z1) := s_138.out.at 1 _ rfl
      have qs2 : w137.cell? ⟨w.heap.size, 2, none⟩ = some (.int .i64 s1) := s_138.out.at 2 _ rfl
      have zs := s_138.out.lt
      have qt0 : w137.cell? ⟨w.heap.size + 1, 0, none⟩ = some (.int .i64 g1) := t_138.out.at 0 _ rfl
      have qt1 : w137.cell? ⟨w.heap.size + 1, 1, none⟩ = some (.int .i64 z2) := t_138.out.at 1 _ rfl
      have qt2 : w137.cell? ⟨w.heap.size + 1, 2, none⟩ = some (.int .i64 s2) := t_138.out.at 2 _ rfl
      have zt := t_138.out.lt
      go_wp2_with (go_at_call 13; refine stop_here ?_)
      refine stop_on ?_
      clear qs0 qs1 qs2 zs qt0 qt1 qt2 zt
      generalize hW : (World.alloc w137 _) = W139
      obtain ⟨hx, hb0⟩ := allocs1 hW
      clear hW
      have X_140 := Lib.hid (X_138.out.ext hx)
      have s_140 := Lib.hid (s_138.out.ext hx)
      have t_140 := Lib.hid (t_138.out.ext hx)
      clear X_138 s_138 t_138
      have u_141 := Lib.hid hb0
      clear hx hb0
      refine (slotPick_is b a _ Hmb.out Hma.out Hq2.out).mono ?_
      rintro e w142 ⟨rfl, hx⟩
      have X_143 := Lib.hid (X_140.out.ext hx)
      have s_143 := Lib.hid (s_140.out.ext hx)
      have t_143 := Lib.hid (t_140.out.ext hx)
      have u_143 := Lib.hid (u_141.out.ext hx)
      clear X_140 s_140 t_140 u_141
      clear hx
      have qs0 : w142.cell? ⟨w.heap.size, 0, none⟩ = some (.int .i64 g1) := s_143.out.at 0 _ rfl
      have qs1 : w142.cell? ⟨w.heap.size, 1, none⟩ = some (.int .i64 z1) := s_143.out.at 1 _ rfl
      have qs2 : w142.cell? ⟨w.heap.size, 2, none⟩ = some (.int .i64 s1) := s_143.out.at 2 _ rfl
      have zs := s_143.out.lt
      have qt0 : w142.cell? ⟨w.heap.size + 1, 0, none⟩ = some (.int .i64 g1) := t_143.out.at 0 _ rfl
      have qt1 : w142.cell? ⟨w.heap.size + 1, 1, none⟩ = some (.int .i64 z2) := t_143.out.at 1 _ rfl
      have qt2 : w142.cell? ⟨w.heap.size + 1, 2, none⟩ = some (.int .i64 s2) := t_143.out.at 2 _ rfl
      have zt := t_143.out.lt
      have qu0 : w142.cell? ⟨w137.heap.size, 0, none⟩ = some (.int .i64 g1) := u_143.out.at 0 _ rfl
      have qu1 : w142.cell? ⟨w137.heap.size, 1, none⟩ = some (.int .i64 z1) := u_143.out.at 1 _ rfl
      have qu2 : w142.cell? ⟨w137.heap.size, 2, none⟩ = some (.int .i64 s1) := u_143.out.at 2 _ rfl
      have zu := u_143.out.lt
      go_wp2_with (go_at_call 11; refine stop_here ?_)
      refine stop_on ?_
      clear qs0 qs1 qs2 zs qt0 qt1 qt2 zt qu0 qu1 qu2 zu
      generalize hW : (World.alloc w142 _) = W144
      obtain ⟨hx, hb0⟩ := allocs1 hW
      clear hW
      have X_145 := Lib.hid (X_143.out.ext hx)
      have s_145 := Lib.hid (s_143.out.ext hx)
      have t_145 := Lib.hid (t_143.out.ext hx)
      have u_145 := Lib.hid (u_143.out.ext hx)
      clear X_143 s_143 t_143 u_143
      have v_146 := Lib.hid hb0
      clear hx hb0
      refine (slotParse_n o _ Ho.out Hn.out).mono ?_
      rintro e w147 ⟨rfl, hx⟩
      have X_148 := Lib.hid (X_145.out.ext hx)
      have s_148 := Lib.hid (s_145.out.ext hx)
      have t_148 := Lib.hid (t_145.out.ext hx)
      have u_148 := Lib.hid (u_145.out.ext hx)
      have v_148 := Lib.hid (v_146.out.ext hx)
      clear X_145 s_145 t_145 u_145 v_146
      clear hx
      have qs0 : w147.cell? ⟨w.heap.size, 0, none⟩ = some (.int .i64 g1) := s_148.out.at 0 _ rfl
      have qs1 : w147.cell? ⟨w.heap.size, 1, none⟩ = some (.int .i64 z1) := s_148.out.at 1 _ rfl
      have qs2 : w147.cell? ⟨w.heap.size, 2, none⟩ = some (.int .i64 s1) := s_148.out.at 2 _ rfl
      have zs := s_148.out.lt
      have qt0 : w147.cell? ⟨w.heap.size + 1, 0, none⟩ = some (.int .i64 g1) := t_148.out.at 0 _ rfl
      have qt1 : w147.cell? ⟨w.heap.size + 1, 1, none⟩ = some (.int .i64 z2) := t_148.out.at 1 _ rfl
      have qt2 : w147.cell? ⟨w.heap.size + 1, 2, none⟩ = some (.int .i64 s2) := t_148.out.at 2 _ rfl
      have zt := t_148.out.lt
      have qu0 : w147.cell? ⟨w137.heap.size, 0, none⟩ = some (.int .i64 g1) := u_148.out.at 0 _ rfl
      have qu1 : w147.cell? ⟨w137.heap.size, 1, none⟩ = some (.int .i64 z1) := u_148.out.at 1 _ rfl
      have qu2 : w147.cell? ⟨w137.heap.size, 2, none⟩ = some (.int .i64 s1) := u_148.out.at 2 _ rfl
      have zu := u_148.out.lt
      have qv0 : w147.cell? ⟨w142.heap.size, 0, none⟩ = some (.int .i64 g1) := v_148.out.at 0 _ rfl
      have qv1 : w147.cell? ⟨w142.heap.size, 1, none⟩ = some (.int .i64 z2) := v_148.out.at 1 _ rfl
      have qv2 : w147.cell? ⟨w142.heap.size, 2, none⟩ = some (.int .i64 s2) := v_148.out.at 2 _ rfl
      have zv := v_148.out.lt
      go_wp2_with (go_at_call 13; refine stop_here ?_)
      refine stop_on ?_
      clear qs0 qs1 qs2 zs qt0 qt1 qt2 zt qu0 qu1 qu2 zu qv0 qv1 qv2 zv
      generalize hW : (World.alloc w147 _) = W149
      obtain ⟨hx, hb0⟩ := allocs1 hW
      clear hW
      have X_150 := Lib.hid (X_148.out.ext hx)
      have s_150 := Lib.hid (s_148.out.ext hx)
      have t_150 := Lib.hid (t_148.out.ext hx)
      have u_150 := Lib.hid (u_148.out.ext hx)
      have v_150 := Lib.hid (v_148.out.ext hx)
      clear X_148 s_148 t_148 u_148 v_148
      have n_151 := Lib.hid hb0
      clear hx hb0
      refine (slotPick_is a o _ Hma.out Ho.out Q1.out).mono ?_
      rintro e w152 ⟨rfl, hx⟩
      have X_153 := Lib.hid (X_150.out.ext hx)
      have s_153 := Lib.hid (s_150.out.ext hx)
      have t_153 := Lib.hid (t_150.out.ext hx)
      have u_153 := Lib.hid (u_150.out.ext hx)
      have v_153 := Lib.hid (v_150.out.ext hx)
      have n_153 := Lib.hid (n_151.out.ext hx)
      clear X_150 s_150 t_150 u_150 v_150 n_151
      clear hx
      have qs0 : w152.cell? ⟨w.heap.size, 0, none⟩ = some (.int .i64 g1) := s_153.out.at 0 _ rfl
      have qs1 : w152.cell? ⟨w.heap.size, 1, none⟩ = some (.int .i64 z1) := s_153.out.at 1 _ rfl
      have qs2 : w152.cell? ⟨w.heap.size, 2, none⟩ = some (.int .i64 s1) := s_153.out.at 2 _ rfl
      have zs := s_153.out.lt
      have qt0 : w152.cell? ⟨w.heap.size + 1, 0, none⟩ = some (.int .i64 g1) := t_153.out.at 0 _ rfl
      have qt1 : w152.cell? ⟨w.heap.size + 1, 1, none⟩ = some (.int .i64 z2) := t_153.out.at 1 _ rfl
      have qt2 : w152.cell? ⟨w.heap.size + 1, 2, none⟩ = some (.int .i64 s2) := t_153.out.at 2 _ rfl
      have zt := t_153.out.lt
      have qu0 : w152.cell? ⟨w137.heap.size, 0, none⟩ = some (.int .i64 g1) := u_153.out.at 0 _ rfl
      have qu1 : w152.cell? ⟨w137.heap.size, 1, none⟩ = some (.int .i64 z1) := u_153.out.at 1 _ rfl
      have qu2 : w152.cell? ⟨w137.heap.size, 2, none⟩ = some (.int .i64 s1) := u_153.out.at 2 _ rfl
      have zu := u_153.out.lt
      have qv0 : w152.cell? ⟨w142.heap.size, 0, none⟩ = some (.int .i64 g1) := v_153.out.at 0 _ rfl
      have qv1 : w152.cell? ⟨w142.heap.size, 1, none⟩ = some (.int .i64 z2) := v_153.out.at 1 _ rfl
      have qv2 : w152.cell? ⟨w142.heap.size, 2, none⟩ = some (.int .i64 s2) := v_153.out.at 2 _ rfl
      have zv := v_153.out.lt
      have qn0 : w152.cell? ⟨w147.heap.size, 0, none⟩ = some (.int .i64 0) := n_153.out.at 0 _ rfl
      have qn1 : w152.cell? ⟨w147.heap.size, 1, none⟩ = some (.int .i64 0) := n_153.out.at 1 _ rfl
      have qn2 : w152.cell? ⟨w147.heap.size, 2, none⟩ = some (.int .i64 0) := n_153.out.at 2 _ rfl
      have zn := n_153.out.lt
      go_wp2_with (go_at_call 13; refine stop_here ?_)
      refine stop_on ?_
      clear qs0 qs1 qs2 zs qt0 qt1 qt2 zt qu0 qu1 qu2 zu qv0 qv1 qv2 zv qn0 qn1 qn2 zn
      generalize hW : (World.alloc w152 _) = W154
      obtain ⟨hx, hb0⟩ := allocs1 hW
      clear hW
      have X_155 := Lib.hid (X_153.out.ext hx)
      have s_155 := Lib.hid (s_153.out.ext hx)
      have t_155 := Lib.hid (t_153.out.ext hx)
      have u_155 := Lib.hid (u_153.out.ext hx)
      have v_155 := Lib.hid (v_153.out.ext hx)
      have n_155 := Lib.hid (n_153.out.ext hx)
      clear X_153 s_153 t_153 u_153 v_153 n_153
      have p_156 := Lib.hid hb0
      clear hx hb0
      refine (slotPick_is o a _ Ho.out Hma.out Q2.out).mono ?_
      rintro e w157 ⟨rfl, hx⟩
      have X_158 := Lib.hid (X_155.out.ext hx)
      have s_158 := Lib.hid (s_155.out.ext hx)
      have t_158 := Lib.hid (t_155.out.ext hx)
      have u_158 := Lib.hid (u_155.out.ext hx)
      have v_158 := Lib.hid (v_155.out.ext hx)
      have n_158 := Lib.hid (n_155.out.ext hx)
      have p_158 := Lib.hid (p_156.out.ext hx)
      clear X_155 s_155 t_155 u_155 v_155 n_155 p_156
      clear hx
      have qs0 : w157.cell? ⟨w.heap.size, 0, none⟩ = some (.int .i64 g1) := s_158.out.at 0 _ rfl
      have qs1 : w157.cell? ⟨w.heap.size, 1, none⟩ = some (.int .i64 z1) := s_158.out.at 1 _ rfl
      have qs2 : w157.cell? ⟨w.heap.size, 2, none⟩ = some (.int .i64 s1) := s_158.out.at 2 _ rfl
      have zs := s_158.out.lt
      have qt0 : w157.cell? ⟨w.heap.size + 1, 0, none⟩ = some (.int .i64 g1) := t_158.out.at 0 _ rfl
      have qt1 : w157.cell? ⟨w.heap.size + 1, 1, none⟩ = some (.int .i64 z2) := t_158.out.at 1 _ rfl
      have qt2 : w157.cell? ⟨w.heap.size + 1, 2, none⟩ = some (.int .i64 s2) := t_158.out.at 2 _ rfl
      have zt := t_158.out.lt
      have qu0 : w157.cell? ⟨w137.heap.size, 0, none⟩ = some (.int .i64 g1) := u_158.out.at 0 _ rfl
      have qu1 : w157.cell? ⟨w137.heap.size, 1, none⟩ = some (.int .i64 z1) := u_158.out.at 1 _ rfl
      have qu2 : w157.cell? ⟨w137.heap.size, 2, none⟩ = some (.int .i64 s1) := u_158.out.at 2 _ rfl
      have zu := u_158.out.lt
      have qv0 : w157.cell? ⟨w142.heap.size, 0, none⟩ = some (.int .i64 g1) := v_158.out.at 0 _ rfl
      have qv1 : w157.cell? ⟨w142.heap.size, 1, none⟩ = some (.int .i64 z2) := v_158.out.at 1 _ rfl
      have qv2 : w157.cell? ⟨w142.heap.size, 2, none⟩ = some (.int .i64 s2) := v_158.out.at 2 _ rfl
      have zv := v_158.out.lt
      have qn0 : w157.cell? ⟨w147.heap.size, 0, none⟩ = some (.int .i64 0) := n_158.out.at 0 _ rfl
      have qn1 : w157.cell? ⟨w147.heap.size, 1, none⟩ = some (.int .i64 0) := n_158.out.at 1 _ rfl
      have qn2 : w157.cell? ⟨w147.heap.size, 2, none⟩ = some (.int .i64 0) := n_158.out.at 2 _ rfl
      have zn := n_158.out.lt
      have qp0 : w157.cell? ⟨w152.heap.size, 0, none⟩ = some (.int .i64 g1) := p_158.out.at 0 _ rfl
      have qp1 : w157.cell? ⟨w152.heap.size, 1, none⟩ = some (.int .i64 z1) := p_158.out.at 1 _ rfl
      have qp2 : w157.cell? ⟨w152.heap.size, 2, none⟩ = some (.int .i64 s1) := p_158.out.at 2 _ rfl
      have zp := p_158.out.lt
      go_wp2_with (go_at_call 13; refine stop_here ?_)
      refine stop_on ?_
      clear qs0 qs1 qs2 zs qt0 qt1 qt2 zt qu0 qu1 qu2 zu qv0 qv1 qv2 zv qn0 qn1 qn2 zn qp0 qp1 qp2 zp
      generalize hW : (World.alloc w157 _) = W159
      obtain ⟨hx, hb0⟩ := allocs1 hW
      clear hW
      have X_160 := Lib.hid (X_158.out.ext hx)
      have s_160 := Lib.hid (s_158.out.ext hx)
      have t_160 := Lib.hid (t_158.out.ext hx)
      have u_160 := Lib.hid (u_158.out.ext hx)
      have v_160 := Lib.hid (v_158.out.ext hx)
      have n_160 := Lib.hid (n_158.out.ext hx)
      have p_160 := Lib.hid (p_158.out.ext hx)
      clear X_158 s_158 t_158 u_158 v_158 n_158 p_158
      have q_161 := Lib.hid hb0
      clear hx hb0
      refine (slotPick_is o o _ Ho.out Ho.out Q3.out).mono ?_
      rintro e w162 ⟨rfl, hx⟩
      have X_163 := Lib.hid (X_160.out.ext hx)
      have s_163 := Lib.hid (s_160.out.ext hx)
      have t_163 := Lib.hid (t_160.out.ext hx)
      have u_163 := Lib.hid (u_160.out.ext hx)
      have v_163 := Lib.hid (v_160.out.ext hx)
      have n_163 := Lib.hid (n_160.out.ext hx)
      have p_163 := Lib.hid (p_160.out.ext hx)
      have q_163 := Lib.hid (q_161.out.ext hx)
      clear X_160 s_160 t_160 u_160 v_160 n_160 p_160 q_161
      clear hx
      have qs0 : w162.cell? ⟨w.heap.size, 0, none⟩ = some (.int .i64 g1) := s_163.out.at 0 _ rfl
      have qs1 : w162.cell? ⟨w.heap.size, 1, none⟩ = some (.int .i64 z1) := s_163.out.at 1 _ rfl
      have qs2 : w162.cell? ⟨w.heap.size, 2, none⟩ = some (.int .i64 s1) := s_163.out.at 2 _ rfl
      have zs := s_163.out.lt
      have qt0 : w162.cell? ⟨w.heap.size + 1, 0, none⟩ = some (.int .i64 g1) := t_163.out.at 0 _ rfl
      have qt1 : w162.cell? ⟨w.heap.size + 1, 1, none⟩ = some (.int .i64 z2) := t_163.out.at 1 _ rfl
      have qt2 : w162.cell? ⟨w.heap.size + 1, 2, none⟩ = some (.int .i64 s2) := t_163.out.at 2 _ rfl
      have zt := t_163.out.lt
      have qu0 : w162.cell? ⟨w137.heap.size, 0, none⟩ = some (.int .i64 g1) := u_163.out.at 0 _ rfl
      have qu1 : w162.cell? ⟨w137.heap.size, 1, none⟩ = some (.int .i64 z1) := u_163.out.at 1 _ rfl
      have qu2 : w162.cell? ⟨w137.heap.size, 2, none⟩ = some (.int .i64 s1) := u_163.out.at 2 _ rfl
      have zu := u_163.out.lt
      have qv0 : w162.cell? ⟨w142.heap.size, 0, none⟩ = some (.int .i64 g1) := v_163.out.at 0 _ rfl
      have qv1 : w162.cell? ⟨w142.heap.size, 1, none⟩ = some (.int .i64 z2) := v_163.out.at 1 _ rfl
      have qv2 : w162.cell? ⟨w142.heap.size, 2, none⟩ = some (.int .i64 s2) := v_163.out.at 2 _ rfl
      have zv := v_163.out.lt
      have qn0 : w162.cell? ⟨w147.heap.size, 0, none⟩ = some (.int .i64 0) := n_163.out.at 0 _ rfl
      have qn1 : w162.cell? ⟨w147.heap.size, 1, none⟩ = some (.int .i64 0) := n_163.out.at 1 _ rfl
      have qn2 : w162.cell? ⟨w147.heap.size, 2, none⟩ = some (.int .i64 0) := n_163.out.at 2 _ rfl
      have zn := n_163.out.lt
      have qp0 : w162.cell? ⟨w152.heap.size, 0, none⟩ = some (.int .i64 g1) := p_163.out.at 0 _ rfl
      have qp1 : w162.cell? ⟨w152.heap.size, 1, none⟩ = some (.int .i64 z1) := p_163.out.at 1 _ rfl
      have qp2 : w162.cell? ⟨w152.heap.size, 2, none⟩ = some (.int .i64 s1) := p_163.out.at 2 _ rfl
      have zp := p_163.out.lt
      have qq0 : w162.cell? ⟨w157.heap.size, 0, none⟩ = some (.int .i64 g1) := q_163.out.at 0 _ rfl
      have qq1 : w162.cell? ⟨w157.heap.size, 1, none⟩ = some (.int .i64 z1) := q_163.out.at 1 _ rfl
      have qq2 : w162.cell? ⟨w157.heap.size, 2, none⟩ = some (.int .i64 s1) := q_163.out.at 2 _ rfl
      have zq := q_163.out.lt
      go_wp2
      go_ret
      exact ⟨rfl, X_163.out.alloc _⟩
  · have Hq1 := Lib.hid (show pickV a b = .tuple #[.int .i64 0, .agg #[.int .i64 g1, .int .i64 z1, .int .i64 s1], .int .i64 0] from by rw [p12]; simp only [Sup.v]; first | rw [if_pos (by omega), if_pos (by omega)] | rw [if_neg (by omega), if_neg (by omega)])
    have Hq2 := Lib.hid (show pickV b a = .tuple #[.int .i64 1, .agg #[.int .i64 g1, .int .i64 z1, .int .i64 s1], .int .i64 0] from by rw [p21]; simp only [Sup.v]; first | rw [if_pos (by omega), if_pos (by omega)] | rw [if_neg (by omega), if_neg (by omega)])
    clear p12 p21
    cases hn : parS o with
    | some y =>
      obtain ⟨g3, z3, s3⟩ := y
      have Hn := Lib.hid hn
      clear hn
      go_enter Try.func5, Try.ntmps5
      go_wp2_with (go_at_call 8; refine stop_here ?_)
      refine stop_on ?_
      generalize hW : (World.alloc (World.alloc w _) _) = W164
      obtain ⟨hx, hb0, hb1⟩ := allocs2 hW
      clear hW
      have X_165 := Lib.hid (X_1.out.ext hx)
      clear X_1
      have s_166 := Lib.hid hb0
      have t_167 := Lib.hid hb1
      clear hx hb0 hb1
      refine (shown_any _).mono ?_
      rintro e w168 ⟨rfl, hx⟩
      have X_169 := Lib.hid (X_165.out.ext hx)
      have s_169 := Lib.hid (s_166.out.ext hx)
      have t_169 := Lib.hid (t_167.out.ext hx)
      clear X_165 s_166 t_167
      clear hx
      have qs0 : w168.cell? ⟨w.heap.size, 0, none⟩ = some (.int .i64 g1) := s_169.out.at 0 _ rfl
      have qs1 : w168.cell? ⟨w.heap.size, 1, none⟩ = some (.int .i64 z1) := s_169.out.at 1 _ rfl
      have qs2 : w168.cell? ⟨w.heap.size, 2, none⟩ = some (.int .i64 s1) := s_169.out.at 2 _ rfl
      have zs := s_169.out.lt
      have qt0 : w168.cell? ⟨w.heap.size + 1, 0, none⟩ = some (.int .i64 g2) := t_169.out.at 0 _ rfl
      have qt1 : w168.cell? ⟨w.heap.size + 1, 1, none⟩ = some (.int .i64 z2) := t_169.out.at 1 _ rfl
      have qt2 : w168.cell? ⟨w.heap.size + 1, 2, none⟩ = some (.int .i64 s2) := t_169.out.at 2 _ rfl
      have zt := t_169.out.lt
      go_wp2_with (go_at_call 18; refine stop_here ?_)
      refine stop_on ?_
      clear qs0 qs1 qs2 zs qt0 qt1 qt2 zt
      refine (ref03Right_is g1 z1 s1 _ H1.out).mono ?_
      rintro e w170 ⟨rfl, hx⟩
      have X_171 := Lib.hid (X_169.out.ext hx)
      have s_171 := Lib.hid (s_169.out.ext hx)
      have t_171 := Lib.hid (t_169.out.ext hx)
      clear X_169 s_169 t_169
      clear hx
      have qs0 : w170.cell? ⟨w.heap.size, 0, none⟩ = some (.int .i64 g1) := s_171.out.at 0 _ rfl
      have qs1 : w170.cell? ⟨w.heap.size, 1, none⟩ = some (.int .i64 z1) := s_171.out.at 1 _ rfl
      have qs2 : w170.cell? ⟨w.heap.size, 2, none⟩ = some (.int .i64 s1) := s_171.out.at 2 _ rfl
      have zs := s_171.out.lt
      have qt0 : w170.cell? ⟨w.heap.size + 1, 0, none⟩ = some (.int .i64 g2) := t_171.out.at 0 _ rfl
      have qt1 : w170.cell? ⟨w.heap.size + 1, 1, none⟩ = some (.int .i64 z2) := t_171.out.at 1 _ rfl
      have qt2 : w170.cell? ⟨w.heap.size + 1, 2, none⟩ = some (.int .i64 s2) := t_171.out.at 2 _ rfl
      have zt := t_171.out.lt
      go_wp2_with (go_at_call 18; refine stop_here ?_)
      refine stop_on ?_
      clear qs0 qs1 qs2 zs qt0 qt1 qt2 zt
      refine (ref03Right_is g2 z2 s2 _ H2.out).mono ?_
      rintro e w172 ⟨rfl, hx⟩
      have X_173 := Lib.hid (X_171.out.ext hx)
      have s_173 := Lib.hid (s_171.out.ext hx)
      have t_173 := Lib.hid (t_171.out.ext hx)
      clear X_171 s_171 t_171
      clear hx
      have qs0 : w172.cell? ⟨w.heap.size, 0, none⟩ = some (.int .i64 g1) := s_173.out.at 0 _ rfl
      have qs1 : w172.cell? ⟨w.heap.size, 1, none⟩ = some (.int .i64 z1) := s_173.out.at 1 _ rfl
      have qs2 : w172.cell? ⟨w.heap.size, 2, none⟩ = some (.int .i64 s1) := s_173.out.at 2 _ rfl
      have zs := s_173.out.lt
      have qt0 : w172.cell? ⟨w.heap.size + 1, 0, none⟩ = some (.int .i64 g2) := t_173.out.at 0 _ rfl
      have qt1 : w172.cell? ⟨w.heap.size + 1, 1, none⟩ = some (.int .i64 z2) := t_173.out.at 1 _ rfl
      have qt2 : w172.cell? ⟨w.heap.size + 1, 2, none⟩ = some (.int .i64 s2) := t_173.out.at 2 _ rfl
      have zt := t_173.out.lt
      go_wp2_with (go_at_call 9; refine stop_here ?_)
      refine stop_on ?_
      clear qs0 qs1 qs2 zs qt0 qt1 qt2 zt
      refine (slotPrint_is g1 z1 s1 _ Hx.out He1.out).mono ?_
      rintro e w174 ⟨rfl, hx⟩
      have X_175 := Lib.hid (X_173.out.ext hx)
      have s_175 := Lib.hid (s_173.out.ext hx)
      have t_175 := Lib.hid (t_173.out.ext hx)
      clear X_173 s_173 t_173
      clear hx
      have qs0 : w174.cell? ⟨w.heap.size, 0, none⟩ = some (.int .i64 g1) := s_175.out.at 0 _ rfl
      have qs1 : w174.cell? ⟨w.heap.size, 1, none⟩ = some (.int .i64 z1) := s_175.out.at 1 _ rfl
      have qs2 : w174.cell? ⟨w.heap.size, 2, none⟩ = some (.int .i64 s1) := s_175.out.at 2 _ rfl
      have zs := s_175.out.lt
      have qt0 : w174.cell? ⟨w.heap.size + 1, 0, none⟩ = some (.int .i64 g2) := t_175.out.at 0 _ rfl
      have qt1 : w174.cell? ⟨w.heap.size + 1, 1, none⟩ = some (.int .i64 z2) := t_175.out.at 1 _ rfl
      have qt2 : w174.cell? ⟨w.heap.size + 1, 2, none⟩ = some (.int .i64 s2) := t_175.out.at 2 _ rfl
      have zt := t_175.out.lt
      go_wp2_with (go_at_call 9; refine stop_here ?_)
      refine stop_on ?_
      clear qs0 qs1 qs2 zs qt0 qt1 qt2 zt
      refine (slotPrint_is g2 z2 s2 _ Hy.out He2.out).mono ?_
      rintro e w176 ⟨rfl, hx⟩
      have X_177 := Lib.hid (X_175.out.ext hx)
      have s_177 := Lib.hid (s_175.out.ext hx)
      have t_177 := Lib.hid (t_175.out.ext hx)
      clear X_175 s_175 t_175
      clear hx
      have qs0 : w176.cell? ⟨w.heap.size, 0, none⟩ = some (.int .i64 g1) := s_177.out.at 0 _ rfl
      have qs1 : w176.cell? ⟨w.heap.size, 1, none⟩ = some (.int .i64 z1) := s_177.out.at 1 _ rfl
      have qs2 : w176.cell? ⟨w.heap.size, 2, none⟩ = some (.int .i64 s1) := s_177.out.at 2 _ rfl
      have zs := s_177.out.lt
      have qt0 : w176.cell? ⟨w.heap.size + 1, 0, none⟩ = some (.int .i64 g2) := t_177.out.at 0 _ rfl
      have qt1 : w176.cell? ⟨w.heap.size + 1, 1, none⟩ = some (.int .i64 z2) := t_177.out.at 1 _ rfl
      have qt2 : w176.cell? ⟨w.heap.size + 1, 2, none⟩ = some (.int .i64 s2) := t_177.out.at 2 _ rfl
      have zt := t_177.out.lt
      go_wp2_with (go_at_call 13; refine stop_here ?_)
      refine stop_on ?_
      clear qs0 qs1 qs2 zs qt0 qt1 qt2 zt
      refine (slotPick_is a b _ Hma.out Hmb.out Hq1.out).mono ?_
      rintro e w178 ⟨rfl, hx⟩
      have X_179 := Lib.hid (X_177.out.ext hx)
      have s_179 := Lib.hid (s_177.out.ext hx)
      have t_179 := Lib.hid (t_177.out.ext hx)
      clear X_177 s_177 t_177
      clear hx
      have qs0 : w178.cell? ⟨w.heap.size, 0, none⟩ = some (.int .i64 g1) := s_179.out.at 0 _ rfl
      have qs1 : w178.cell? ⟨w.heap.size, 1, none⟩ = some (.int .i64 z1) := s_179.out.at 1 _ rfl
      have qs2 : w178.cell? ⟨w.heap.size, 2, none⟩ = some (.int .i64 s1) := s_179.out.at 2 _ rfl
      have zs := s_179.out.lt
      have qt0 : w178.cell? ⟨w.heap.size + 1, 0, none⟩ = some (.int .i64 g2) := t_179.out.at 0 _ rfl
      have qt1 : w178.cell? ⟨w.heap.size + 1, 1, none⟩ = some (.int .i64 z2) := t_179.out.at 1 _ rfl
      have qt2 : w178.cell? ⟨w.heap.size + 1, 2, none⟩ = some (.int .i64 s2) := t_179.out.at 2 _ rfl
      have zt := t_179.out.lt
      go_wp2_with (go_at_call 13; refine stop_here ?_)
      refine stop_on ?_
      clear qs0 qs1 qs2 zs qt0 qt1 qt2 zt
      generalize hW : (World.alloc w178 _) = W180
      obtain ⟨hx, hb0⟩ := allocs1 hW
      clear hW
      have X_181 := Lib.hid (X_179.out.ext hx)
      have s_181 := Lib.hid (s_179.out.ext hx)
      have t_181 := Lib.hid (t_179.out.ext hx)
      clear X_179 s_179 t_179
      have u_182 := Lib.hid hb0
      clear hx hb0
      refine (slotPick_is b a _ Hmb.out Hma.out Hq2.out).mono ?_
      rintro e w183 ⟨rfl, hx⟩
      have X_184 := Lib.hid (X_181.out.ext hx)
      have s_184 := Lib.hid (s_181.out.ext hx)
      have t_184 := Lib.hid (t_181.out.ext hx)
      have u_184 := Lib.hid (u_182.out.ext hx)
      clear X_181 s_181 t_181 u_182
      clear hx
      have qs0 : w183.cell? ⟨w.heap.size, 0, none⟩ = some (.int .i64 g1) := s_184.out.at 0 _ rfl
      have qs1 : w183.cell? ⟨w.heap.size, 1, none⟩ = some (.int .i64 z1) := s_184.out.at 1 _ rfl
      have qs2 : w183.cell? ⟨w.heap.size, 2, none⟩ = some (.int .i64 s1) := s_184.out.at 2 _ rfl
      have zs := s_184.out.lt
      have qt0 : w183.cell? ⟨w.heap.size + 1, 0, none⟩ = some (.int .i64 g2) := t_184.out.at 0 _ rfl
      have qt1 : w183.cell? ⟨w.heap.size + 1, 1, none⟩ = some (.int .i64 z2) := t_184.out.at 1 _ rfl
      have qt2 : w183.cell? ⟨w.heap.size + 1, 2, none⟩ = some (.int .i64 s2) := t_184.out.at 2 _ rfl
      have zt := t_184.out.lt
      have qu0 : w183.cell? ⟨w178.heap.size, 0, none⟩ = some (.int .i64 g1) := u_184.out.at 0 _ rfl
      have qu1 : w183.cell? ⟨w178.heap.size, 1, none⟩ = some (.int .i64 z1) := u_184.out.at 1 _ rfl
      have qu2 : w183.cell? ⟨w178.heap.size, 2, none⟩ = some (.int .i64 s1) := u_184.out.at 2 _ rfl
      have zu := u_184.out.lt
      go_wp2_with (go_at_call 11; refine stop_here ?_)
      refine stop_on ?_
      clear qs0 qs1 qs2 zs qt0 qt1 qt2 zt qu0 qu1 qu2 zu
      generalize hW : (World.alloc w183 _) = W185
      obtain ⟨hx, hb0⟩ := allocs1 hW
      clear hW
      have X_186 := Lib.hid (X_184.out.ext hx)
      have s_186 := Lib.hid (s_184.out.ext hx)
      have t_186 := Lib.hid (t_184.out.ext hx)
      have u_186 := Lib.hid (u_184.out.ext hx)
      clear X_184 s_184 t_184 u_184
      have v_187 := Lib.hid hb0
      clear hx hb0
      refine (slotParse_y o _ Ho.out Hn.out).mono ?_
      rintro e w188 ⟨rfl, hx⟩
      have X_189 := Lib.hid (X_186.out.ext hx)
      have s_189 := Lib.hid (s_186.out.ext hx)
      have t_189 := Lib.hid (t_186.out.ext hx)
      have u_189 := Lib.hid (u_186.out.ext hx)
      have v_189 := Lib.hid (v_187.out.ext hx)
      clear X_186 s_186 t_186 u_186 v_187
      clear hx
      have qs0 : w188.cell? ⟨w.heap.size, 0, none⟩ = some (.int .i64 g1) := s_189.out.at 0 _ rfl
      have qs1 : w188.cell? ⟨w.heap.size, 1, none⟩ = some (.int .i64 z1) := s_189.out.at 1 _ rfl
      have qs2 : w188.cell? ⟨w.heap.size, 2, none⟩ = some (.int .i64 s1) := s_189.out.at 2 _ rfl
      have zs := s_189.out.lt
      have qt0 : w188.cell? ⟨w.heap.size + 1, 0, none⟩ = some (.int .i64 g2) := t_189.out.at 0 _ rfl
      have qt1 : w188.cell? ⟨w.heap.size + 1, 1, none⟩ = some (.int .i64 z2) := t_189.out.at 1 _ rfl
      have qt2 : w188.cell? ⟨w.heap.size + 1, 2, none⟩ = some (.int .i64 s2) := t_189.out.at 2 _ rfl
      have zt := t_189.out.lt
      have qu0 : w188.cell? ⟨w178.heap.size, 0, none⟩ = some (.int .i64 g1) := u_189.out.at 0 _ rfl
      have qu1 : w188.cell? ⟨w178.heap.size, 1, none⟩ = some (.int .i64 z1) := u_189.out.at 1 _ rfl
      have qu2 : w188.cell? ⟨w178.heap.size, 2, none⟩ = some (.int .i64 s1) := u_189.out.at 2 _ rfl
      have zu := u_189.out.lt
      have qv0 : w188.cell? ⟨w183.heap.size, 0, none⟩ = some (.int .i64 g1) := v_189.out.at 0 _ rfl
      have qv1 : w188.cell? ⟨w183.heap.size, 1, none⟩ = some (.int .i64 z1) := v_189.out.at 1 _ rfl
      have qv2 : w188.cell? ⟨w183.heap.size, 2, none⟩ = some (.int .i64 s1) := v_189.out.at 2 _ rfl
      have zv := v_189.out.lt
      go_wp2
      go_ret
      exact ⟨rfl, X_189.out.alloc _⟩
    | none =>
      have Hn := Lib.hid hn
      have Q1 := Lib.hid (O1.out hn)
      have Q2 := Lib.hid (O2.out hn)
      have Q3 := Lib.hid (show pickV o o = .tuple #[.int .i64 0, .agg #[.int .i64 0, .int .i64 0, .int .i64 0], .int .i64 4] from O3.out hn)
      clear hn O1 O2 O3
      go_enter Try.func5, Try.ntmps5
      go_wp2_with (go_at_call 8; refine stop_here ?_)
      refine stop_on ?_
      generalize hW : (World.alloc (World.alloc w _) _) = W190
      obtain ⟨hx, hb0, hb1⟩ := allocs2 hW
      clear hW
      have X_191 := Lib.hid (X_1.out.ext hx)
      clear X_1
      have s_192 := Lib.hid hb0
      have t_193 := Lib.hid hb1
      clear hx hb0 hb1
      refine (shown_any _).mono ?_
      rintro e w194 ⟨rfl, hx⟩
      have X_195 := Lib.hid (X_191.out.ext hx)
      have s_195 := Lib.hid (s_192.out.ext hx)
      have t_195 := Lib.hid (t_193.out.ext hx)
      clear X_191 s_192 t_193
      clear hx
      have qs0 : w194.cell? ⟨w.heap.size, 0, none⟩ = some (.int .i64 g1) := s_195.out.at 0 _ rfl
      have qs1 : w194.cell? ⟨w.heap.size, 1, none⟩ = some (.int .i64 z1) := s_195.out.at 1 _ rfl
      have qs2 : w194.cell? ⟨w.heap.size, 2, none⟩ = some (.int .i64 s1) := s_195.out.at 2 _ rfl
      have zs := s_195.out.lt
      have qt0 : w194.cell? ⟨w.heap.size + 1, 0, none⟩ = some (.int .i64 g2) := t_195.out.at 0 _ rfl
      have qt1 : w194.cell? ⟨w.heap.size + 1, 1, none⟩ = some (.int .i64 z2) := t_195.out.at 1 _ rfl
      have qt2 : w194.cell? ⟨w.heap.size + 1, 2, none⟩ = some (.int .i64 s2) := t_195.out.at 2 _ rfl
      have zt := t_195.out.lt
      go_wp2_with (go_at_call 18; refine stop_here ?_)
      refine stop_on ?_
      clear qs0 qs1 qs2 zs qt0 qt1 qt2 zt
      refine (ref03Right_is g1 z1 s1 _ H1.out).mono ?_
      rintro e w196 ⟨rfl, hx⟩
      have X_197 := Lib.hid (X_195.out.ext hx)
      have s_197 := Lib.hid (s_195.out.ext hx)
      have t_197 := Lib.hid (t_195.out.ext hx)
      clear X_195 s_195 t_195
      clear hx
      have qs0 : w196.cell? ⟨w.heap.size, 0, none⟩ = some (.int .i64 g1) := s_197.out.at 0 _ rfl
      have qs1 : w196.cell? ⟨w.heap.size, 1, none⟩ = some (.int .i64 z1) := s_197.out.at 1 _ rfl
      have qs2 : w196.cell? ⟨w.heap.size, 2, none⟩ = some (.int .i64 s1) := s_197.out.at 2 _ rfl
      have zs := s_197.out.lt
      have qt0 : w196.cell? ⟨w.heap.size + 1, 0, none⟩ = some (.int .i64 g2) := t_197.out.at 0 _ rfl
      have qt1 : w196.cell? ⟨w.heap.size + 1, 1, none⟩ = some (.int .i64 z2) := t_197.out.at 1 _ rfl
      have qt2 : w196.cell? ⟨w.heap.size + 1, 2, none⟩ = some (.int .i64 s2) := t_197.out.at 2 _ rfl
      have zt := t_197.out.lt
      go_wp2_with (go_at_call 18; refine stop_here ?_)
      refine stop_on ?_
      clear qs0 qs1 qs2 zs qt0 qt1 qt2 zt
      refine (ref03Right_is g2 z2 s2 _ H2.out).mono ?_
      rintro e w198 ⟨rfl, hx⟩
      have X_199 := Lib.hid (X_197.out.ext hx)
      have s_199 := Lib.hid (s_197.out.ext hx)
      have t_199 := Lib.hid (t_197.out.ext hx)
      clear X_197 s_197 t_197
      clear hx
      have qs0 : w198.cell? ⟨w.heap.size, 0, none⟩ = some (.int .i64 g1) := s_199.out.at 0 _ rfl
      have qs1 : w198.cell? ⟨w.heap.size, 1, none⟩ = some (.int .i64 z1) := s_199.out.at 1 _ rfl
      have qs2 : w198.cell? ⟨w.heap.size, 2, none⟩ = some (.int .i64 s1) := s_199.out.at 2 _ rfl
      have zs := s_199.out.lt
      have qt0 : w198.cell? ⟨w.heap.size + 1, 0, none⟩ = some (.int .i64 g2) := t_199.out.at 0 _ rfl
      have qt1 : w198.cell? ⟨w.heap.size + 1, 1, none⟩ = some (.int .i64 z2) := t_199.out.at 1 _ rfl
      have qt2 : w198.cell? ⟨w.heap.size + 1, 2, none⟩ = some (.int .i64 s2) := t_199.out.at 2 _ rfl
      have zt := t_199.out.lt
      go_wp2_with (go_at_call 9; refine stop_here ?_)
      refine stop_on ?_
      clear qs0 qs1 qs2 zs qt0 qt1 qt2 zt
      refine (slotPrint_is g1 z1 s1 _ Hx.out He1.out).mono ?_
      rintro e w200 ⟨rfl, hx⟩
      have X_201 := Lib.hid (X_199.out.ext hx)
      have s_201 := Lib.hid (s_199.out.ext hx)
      have t_201 := Lib.hid (t_199.out.ext hx)
      clear X_199 s_199 t_199
      clear hx
      have qs0 : w200.cell? ⟨w.heap.size, 0, none⟩ = some (.int .i64 g1) := s_201.out.at 0 _ rfl
      have qs1 : w200.cell? ⟨w.heap.size, 1, none⟩ = some (.int .i64 z1) := s_201.out.at 1 _ rfl
      have qs2 : w200.cell? ⟨w.heap.size, 2, none⟩ = some (.int .i64 s1) := s_201.out.at 2 _ rfl
      have zs := s_201.out.lt
      have qt0 : w200.cell? ⟨w.heap.size + 1, 0, none⟩ = some (.int .i64 g2) := t_201.out.at 0 _ rfl
      have qt1 : w200.cell? ⟨w.heap.size + 1, 1, none⟩ = some (.int .i64 z2) := t_201.out.at 1 _ rfl
      have qt2 : w200.cell? ⟨w.heap.size + 1, 2, none⟩ = some (.int .i64 s2) := t_201.out.at 2 _ rfl
      have zt := t_201.out.lt
      go_wp2_with (go_at_call 9; refine stop_here ?_)
      refine stop_on ?_
      clear qs0 qs1 qs2 zs qt0 qt1 qt2 zt
      refine (slotPrint_is g2 z2 s2 _ Hy.out He2.out).mono ?_
      rintro e w202 ⟨rfl, hx⟩
      have X_203 := Lib.hid (X_201.out.ext hx)
      have s_203 := Lib.hid (s_201.out.ext hx)
      have t_203 := Lib.hid (t_201.out.ext hx)
      clear X_201 s_201 t_201
      clear hx
      have qs0 : w202.cell? ⟨w.heap.size, 0, none⟩ = some (.int .i64 g1) := s_203.out.at 0 _ rfl
      have qs1 : w202.cell? ⟨w.heap.size, 1, none⟩ = some (.int .i64 z1) := s_203.out.at 1 _ rfl
      have qs2 : w202.cell? ⟨w.heap.size, 2, none⟩ = some (.int .i64 s1) := s_203.out.at 2 _ rfl
      have zs := s_203.out.lt
      have qt0 : w202.cell? ⟨w.heap.size + 1, 0, none⟩ = some (.int .i64 g2) := t_203.out.at 0 _ rfl
      have qt1 : w202.cell? ⟨w.heap.size + 1, 1, none⟩ = some (.int .i64 z2) := t_203.out.at 1 _ rfl
      have qt2 : w202.cell? ⟨w.heap.size + 1, 2, none⟩ = some (.int .i64 s2) := t_203.out.at 2 _ rfl
      have zt := t_203.out.lt
      go_wp2_with (go_at_call 13; refine stop_here ?_)
      refine stop_on ?_
      clear qs0 qs1 qs2 zs qt0 qt1 qt2 zt
      refine (slotPick_is a b _ Hma.out Hmb.out Hq1.out).mono ?_
      rintro e w204 ⟨rfl, hx⟩
      have X_205 := Lib.hid (X_203.out.ext hx)
      have s_205 := Lib.hid (s_203.out.ext hx)
      have t_205 := Lib.hid (t_203.out.ext hx)
      clear X_203 s_203 t_203
      clear hx
      have qs0 : w204.cell? ⟨w.heap.size, 0, none⟩ = some (.int .i64 g1) := s_205.out.at 0 _ rfl
      have qs1 : w204.cell? ⟨w.heap.size, 1, none⟩ = some (.int .i64 z1) := s_205.out.at 1 _ rfl
      have qs2 : w204.cell? ⟨w.heap.size, 2, none⟩ = some (.int .i64 s1) := s_205.out.at 2 _ rfl
      have zs := s_205.out.lt
      have qt0 : w204.cell? ⟨w.heap.size + 1, 0, none⟩ = some (.int .i64 g2) := t_205.out.at 0 _ rfl
      have qt1 : w204.cell? ⟨w.heap.size + 1, 1, none⟩ = some (.int .i64 z2) := t_205.out.at 1 _ rfl
      have qt2 : w204.cell? ⟨w.heap.size + 1, 2, none⟩ = some (.int .i64 s2) := t_205.out.at 2 _ rfl
      have zt := t_205.out.lt
      go_wp2_with (go_at_call 13; refine stop_here ?_)
      refine stop_on ?_
      clear qs0 qs1 qs2 zs qt0 qt1 qt2 zt
      generalize hW : (World.alloc w204 _) = W206
      obtain ⟨hx, hb0⟩ := allocs1 hW
      clear hW
      have X_207 := Lib.hid (X_205.out.ext hx)
      have s_207 := Lib.hid (s_205.out.ext hx)
      have t_207 := Lib.hid (t_205.out.ext hx)
      clear X_205 s_205 t_205
      have u_208 := Lib.hid hb0
      clear hx hb0
      refine (slotPick_is b a _ Hmb.out Hma.out Hq2.out).mono ?_
      rintro e w209 ⟨rfl, hx⟩
      have X_210 := Lib.hid (X_207.out.ext hx)
      have s_210 := Lib.hid (s_207.out.ext hx)
      have t_210 := Lib.hid (t_207.out.ext hx)
      have u_210 := Lib.hid (u_208.out.ext hx)
      clear X_207 s_207 t_207 u_208
      clear hx
      have qs0 : w209.cell? ⟨w.heap.size, 0, none⟩ = some (.int .i64 g1) := s_210.out.at 0 _ rfl
      have qs1 : w209.cell? ⟨w.heap.size, 1, none⟩ = some (.int .i64 z1) := s_210.out.at 1 _ rfl
      have qs2 : w209.cell? ⟨w.heap.size, 2, none⟩ = some (.int .i64 s1) := s_210.out.at 2 _ rfl
      have zs := s_210.out.lt
      have qt0 : w209.cell? ⟨w.heap.size + 1, 0, none⟩ = some (.int .i64 g2) := t_210.out.at 0 _ rfl
      have qt1 : w209.cell? ⟨w.heap.size + 1, 1, none⟩ = some (.int .i64 z2) := t_210.out.at 1 _ rfl
      have qt2 : w209.cell? ⟨w.heap.size + 1, 2, none⟩ = some (.int .i64 s2) := t_210.out.at 2 _ rfl
      have zt := t_210.out.lt
      have qu0 : w209.cell? ⟨w204.heap.size, 0, none⟩ = some (.int .i64 g1) := u_210.out.at 0 _ rfl
      have qu1 : w209.cell? ⟨w204.heap.size, 1, none⟩ = some (.int .i64 z1) := u_210.out.at 1 _ rfl
      have qu2 : w209.cell? ⟨w204.heap.size, 2, none⟩ = some (.int .i64 s1) := u_210.out.at 2 _ rfl
      have zu := u_210.out.lt
      go_wp2_with (go_at_call 11; refine stop_here ?_)
      refine stop_on ?_
      clear qs0 qs1 qs2 zs qt0 qt1 qt2 zt qu0 qu1 qu2 zu
      generalize hW : (World.alloc w209 _) = W211
      obtain ⟨hx, hb0⟩ := allocs1 hW
      clear hW
      have X_212 := Lib.hid (X_210.out.ext hx)
      have s_212 := Lib.hid (s_210.out.ext hx)
      have t_212 := Lib.hid (t_210.out.ext hx)
      have u_212 := Lib.hid (u_210.out.ext hx)
      clear X_210 s_210 t_210 u_210
      have v_213 := Lib.hid hb0
      clear hx hb0
      refine (slotParse_n o _ Ho.out Hn.out).mono ?_
      rintro e w214 ⟨rfl, hx⟩
      have X_215 := Lib.hid (X_212.out.ext hx)
      have s_215 := Lib.hid (s_212.out.ext hx)
      have t_215 := Lib.hid (t_212.out.ext hx)
      have u_215 := Lib.hid (u_212.out.ext hx)
      have v_215 := Lib.hid (v_213.out.ext hx)
      clear X_212 s_212 t_212 u_212 v_213
      clear hx
      have qs0 : w214.cell? ⟨w.heap.size, 0, none⟩ = some (.int .i64 g1) := s_215.out.at 0 _ rfl
      have qs1 : w214.cell? ⟨w.heap.size, 1, none⟩ = some (.int .i64 z1) := s_215.out.at 1 _ rfl
      have qs2 : w214.cell? ⟨w.heap.size, 2, none⟩ = some (.int .i64 s1) := s_215.out.at 2 _ rfl
      have zs := s_215.out.lt
      have qt0 : w214.cell? ⟨w.heap.size + 1, 0, none⟩ = some (.int .i64 g2) := t_215.out.at 0 _ rfl
      have qt1 : w214.cell? ⟨w.heap.size + 1, 1, none⟩ = some (.int .i64 z2) := t_215.out.at 1 _ rfl
      have qt2 : w214.cell? ⟨w.heap.size + 1, 2, none⟩ = some (.int .i64 s2) := t_215.out.at 2 _ rfl
      have zt := t_215.out.lt
      have qu0 : w214.cell? ⟨w204.heap.size, 0, none⟩ = some (.int .i64 g1) := u_215.out.at 0 _ rfl
      have qu1 : w214.cell? ⟨w204.heap.size, 1, none⟩ = some (.int .i64 z1) := u_215.out.at 1 _ rfl
      have qu2 : w214.cell? ⟨w204.heap.size, 2, none⟩ = some (.int .i64 s1) := u_215.out.at 2 _ rfl
      have zu := u_215.out.lt
      have qv0 : w214.cell? ⟨w209.heap.size, 0, none⟩ = some (.int .i64 g1) := v_215.out.at 0 _ rfl
      have qv1 : w214.cell? ⟨w209.heap.size, 1, none⟩ = some (.int .i64 z1) := v_215.out.at 1 _ rfl
      have qv2 : w214.cell? ⟨w209.heap.size, 2, none⟩ = some (.int .i64 s1) := v_215.out.at 2 _ rfl
      have zv := v_215.out.lt
      go_wp2_with (go_at_call 13; refine stop_here ?_)
      refine stop_on ?_
      clear qs0 qs1 qs2 zs qt0 qt1 qt2 zt qu0 qu1 qu2 zu qv0 qv1 qv2 zv
      generalize hW : (World.alloc w214 _) = W216
      obtain ⟨hx, hb0⟩ := allocs1 hW
      clear hW
      have X_217 := Lib.hid (X_215.out.ext hx)
      have s_217 := Lib.hid (s_215.out.ext hx)
      have t_217 := Lib.hid (t_215.out.ext hx)
      have u_217 := Lib.hid (u_215.out.ext hx)
      have v_217 := Lib.hid (v_215.out.ext hx)
      clear X_215 s_215 t_215 u_215 v_215
      have n_218 := Lib.hid hb0
      clear hx hb0
      refine (slotPick_is a o _ Hma.out Ho.out Q1.out).mono ?_
      rintro e w219 ⟨rfl, hx⟩
      have X_220 := Lib.hid (X_217.out.ext hx)
      have s_220 := Lib.hid (s_217.out.ext hx)
      have t_220 := Lib.hid (t_217.out.ext hx)
      have u_220 := Lib.hid (u_217.out.ext hx)
      have v_220 := Lib.hid (v_217.out.ext hx)
      have n_220 := Lib.hid (n_218.out.ext hx)
      clear X_217 s_217 t_217 u_217 v_217 n_218
      clear hx
      have qs0 : w219.cell? ⟨w.heap.size, 0, none⟩ = some (.int .i64 g1) := s_220.out.at 0 _ rfl
      have qs1 : w219.cell? ⟨w.heap.size, 1, none⟩ = some (.int .i64 z1) := s_220.out.at 1 _ rfl
      have qs2 : w219.cell? ⟨w.heap.size, 2, none⟩ = some (.int .i64 s1) := s_220.out.at 2 _ rfl
      have zs := s_220.out.lt
      have qt0 : w219.cell? ⟨w.heap.size + 1, 0, none⟩ = some (.int .i64 g2) := t_220.out.at 0 _ rfl
      have qt1 : w219.cell? ⟨w.heap.size + 1, 1, none⟩ = some (.int .i64 z2) := t_220.out.at 1 _ rfl
      have qt2 : w219.cell? ⟨w.heap.size + 1, 2, none⟩ = some (.int .i64 s2) := t_220.out.at 2 _ rfl
      have zt := t_220.out.lt
      have qu0 : w219.cell? ⟨w204.heap.size, 0, none⟩ = some (.int .i64 g1) := u_220.out.at 0 _ rfl
      have qu1 : w219.cell? ⟨w204.heap.size, 1, none⟩ = some (.int .i64 z1) := u_220.out.at 1 _ rfl
      have qu2 : w219.cell? ⟨w204.heap.size, 2, none⟩ = some (.int .i64 s1) := u_220.out.at 2 _ rfl
      have zu := u_220.out.lt
      have qv0 : w219.cell? ⟨w209.heap.size, 0, none⟩ = some (.int .i64 g1) := v_220.out.at 0 _ rfl
      have qv1 : w219.cell? ⟨w209.heap.size, 1, none⟩ = some (.int .i64 z1) := v_220.out.at 1 _ rfl
      have qv2 : w219.cell? ⟨w209.heap.size, 2, none⟩ = some (.int .i64 s1) := v_220.out.at 2 _ rfl
      have zv := v_220.out.lt
      have qn0 : w219.cell? ⟨w214.heap.size, 0, none⟩ = some (.int .i64 0) := n_220.out.at 0 _ rfl
      have qn1 : w219.cell? ⟨w214.heap.size, 1, none⟩ = some (.int .i64 0) := n_220.out.at 1 _ rfl
      have qn2 : w219.cell? ⟨w214.heap.size, 2, none⟩ = some (.int .i64 0) := n_220.out.at 2 _ rfl
      have zn := n_220.out.lt
      go_wp2_with (go_at_call 13; refine stop_here ?_)
      refine stop_on ?_
      clear qs0 qs1 qs2 zs qt0 qt1 qt2 zt qu0 qu1 qu2 zu qv0 qv1 qv2 zv qn0 qn1 qn2 zn
      generalize hW : (World.alloc w219 _) = W221
      obtain ⟨hx, hb0⟩ := allocs1 hW
      clear hW
      have X_222 := Lib.hid (X_220.out.ext hx)
      have s_222 := Lib.hid (s_220.out.ext hx)
      have t_222 := Lib.hid (t_220.out.ext hx)
      have u_222 := Lib.hid (u_220.out.ext hx)
      have v_222 := Lib.hid (v_220.out.ext hx)
      have n_222 := Lib.hid (n_220.out.ext hx)
      clear X_220 s_220 t_220 u_220 v_220 n_220
      have p_223 := Lib.hid hb0
      clear hx hb0
      refine (slotPick_is o a _ Ho.out Hma.out Q2.out).mono ?_
      rintro e w224 ⟨rfl, hx⟩
      have X_225 := Lib.hid (X_222.out.ext hx)
      have s_225 := Lib.hid (s_222.out.ext hx)
      have t_225 := Lib.hid (t_222.out.ext hx)
      have u_225 := Lib.hid (u_222.out.ext hx)
      have v_225 := Lib.hid (v_222.out.ext hx)
      have n_225 := Lib.hid (n_222.out.ext hx)
      have p_225 := Lib.hid (p_223.out.ext hx)
      clear X_222 s_222 t_222 u_222 v_222 n_222 p_223
      clear hx
      have qs0 : w224.cell? ⟨w.heap.size, 0, none⟩ = some (.int .i64 g1) := s_225.out.at 0 _ rfl
      have qs1 : w224.cell? ⟨w.heap.size, 1, none⟩ = some (.int .i64 z1) := s_225.out.at 1 _ rfl
      have qs2 : w224.cell? ⟨w.heap.size, 2, none⟩ = some (.int .i64 s1) := s_225.out.at 2 _ rfl
      have zs := s_225.out.lt
      have qt0 : w224.cell? ⟨w.heap.size + 1, 0, none⟩ = some (.int .i64 g2) := t_225.out.at 0 _ rfl
      have qt1 : w224.cell? ⟨w.heap.size + 1, 1, none⟩ = some (.int .i64 z2) := t_225.out.at 1 _ rfl
      have qt2 : w224.cell? ⟨w.heap.size + 1, 2, none⟩ = some (.int .i64 s2) := t_225.out.at 2 _ rfl
      have zt := t_225.out.lt
      have qu0 : w224.cell? ⟨w204.heap.size, 0, none⟩ = some (.int .i64 g1) := u_225.out.at 0 _ rfl
      have qu1 : w224.cell? ⟨w204.heap.size, 1, none⟩ = some (.int .i64 z1) := u_225.out.at 1 _ rfl
      have qu2 : w224.cell? ⟨w204.heap.size, 2, none⟩ = some (.int .i64 s1) := u_225.out.at 2 _ rfl
      have zu := u_225.out.lt
      have qv0 : w224.cell? ⟨w209.heap.size, 0, none⟩ = some (.int .i64 g1) := v_225.out.at 0 _ rfl
      have qv1 : w224.cell? ⟨w209.heap.size, 1, none⟩ = some (.int .i64 z1) := v_225.out.at 1 _ rfl
      have qv2 : w224.cell? ⟨w209.heap.size, 2, none⟩ = some (.int .i64 s1) := v_225.out.at 2 _ rfl
      have zv := v_225.out.lt
      have qn0 : w224.cell? ⟨w214.heap.size, 0, none⟩ = some (.int .i64 0) := n_225.out.at 0 _ rfl
      have qn1 : w224.cell? ⟨w214.heap.size, 1, none⟩ = some (.int .i64 0) := n_225.out.at 1 _ rfl
      have qn2 : w224.cell? ⟨w214.heap.size, 2, none⟩ = some (.int .i64 0) := n_225.out.at 2 _ rfl
      have zn := n_225.out.lt
      have qp0 : w224.cell? ⟨w219.heap.size, 0, none⟩ = some (.int .i64 g1) := p_225.out.at 0 _ rfl
      have qp1 : w224.cell? ⟨w219.heap.size, 1, none⟩ = some (.int .i64 z1) := p_225.out.at 1 _ rfl
      have qp2 : w224.cell? ⟨w219.heap.size, 2, none⟩ = some (.int .i64 s1) := p_225.out.at 2 _ rfl
      have zp := p_225.out.lt
      go_wp2_with (go_at_call 13; refine stop_here ?_)
      refine stop_on ?_
      clear qs0 qs1 qs2 zs qt0 qt1 qt2 zt qu0 qu1 qu2 zu qv0 qv1 qv2 zv qn0 qn1 qn2 zn qp0 qp1 qp2 zp
      generalize hW : (World.alloc w224 _) = W226
      obtain ⟨hx, hb0⟩ := allocs1 hW
      clear hW
      have X_227 := Lib.hid (X_225.out.ext hx)
      have s_227 := Lib.hid (s_225.out.ext hx)
      have t_227 := Lib.hid (t_225.out.ext hx)
      have u_227 := Lib.hid (u_225.out.ext hx)
      have v_227 := Lib.hid (v_225.out.ext hx)
      have n_227 := Lib.hid (n_225.out.ext hx)
      have p_227 := Lib.hid (p_225.out.ext hx)
      clear X_225 s_225 t_225 u_225 v_225 n_225 p_225
      have q_228 := Lib.hid hb0
      clear hx hb0
      refine (slotPick_is o o _ Ho.out Ho.out Q3.out).mono ?_
      rintro e w229 ⟨rfl, hx⟩
      have X_230 := Lib.hid (X_227.out.ext hx)
      have s_230 := Lib.hid (s_227.out.ext hx)
      have t_230 := Lib.hid (t_227.out.ext hx)
      have u_230 := Lib.hid (u_227.out.ext hx)
      have v_230 := Lib.hid (v_227.out.ext hx)
      have n_230 := Lib.hid (n_227.out.ext hx)
      have p_230 := Lib.hid (p_227.out.ext hx)
      have q_230 := Lib.hid (q_228.out.ext hx)
      clear X_227 s_227 t_227 u_227 v_227 n_227 p_227 q_228
      clear hx
      have qs0 : w229.cell? ⟨w.heap.size, 0, none⟩ = some (.int .i64 g1) := s_230.out.at 0 _ rfl
      have qs1 : w229.cell? ⟨w.heap.size, 1, none⟩ = some (.int .i64 z1) := s_230.out.at 1 _ rfl
      have qs2 : w229.cell? ⟨w.heap.size, 2, none⟩ = some (.int .i64 s1) := s_230.out.at 2 _ rfl
      have zs := s_230.out.lt
      have qt0 : w229.cell? ⟨w.heap.size + 1, 0, none⟩ = some (.int .i64 g2) := t_230.out.at 0 _ rfl
      have qt1 : w229.cell? ⟨w.heap.size + 1, 1, none⟩ = some (.int .i64 z2) := t_230.out.at 1 _ rfl
      have qt2 : w229.cell? ⟨w.heap.size + 1, 2, none⟩ = some (.int .i64 s2) := t_230.out.at 2 _ rfl
      have zt := t_230.out.lt
      have qu0 : w229.cell? ⟨w204.heap.size, 0, none⟩ = some (.int .i64 g1) := u_230.out.at 0 _ rfl
      have qu1 : w229.cell? ⟨w204.heap.size, 1, none⟩ = some (.int .i64 z1) := u_230.out.at 1 _ rfl
      have qu2 : w229.cell? ⟨w204.heap.size, 2, none⟩ = some (.int .i64 s1) := u_230.out.at 2 _ rfl
      have zu := u_230.out.lt
      have qv0 : w229.cell? ⟨w209.heap.size, 0, none⟩ = some (.int .i64 g1) := v_230.out.at 0 _ rfl
      have qv1 : w229.cell? ⟨w209.heap.size, 1, none⟩ = some (.int .i64 z1) := v_230.out.at 1 _ rfl
      have qv2 : w229.cell? ⟨w209.heap.size, 2, none⟩ = some (.int .i64 s1) := v_230.out.at 2 _ rfl
      have zv := v_230.out.lt
      have qn0 : w229.cell? ⟨w214.heap.size, 0, none⟩ = some (.int .i64 0) := n_230.out.at 0 _ rfl
      have qn1 : w229.cell? ⟨w214.heap.size, 1, none⟩ = some (.int .i64 0) := n_230.out.at 1 _ rfl
      have qn2 : w229.cell? ⟨w214.heap.size, 2, none⟩ = some (.int .i64 0) := n_230.out.at 2 _ rfl
      have zn := n_230.out.lt
      have qp0 : w229.cell? ⟨w219.heap.size, 0, none⟩ = some (.int .i64 g1) := p_230.out.at 0 _ rfl
      have qp1 : w229.cell? ⟨w219.heap.size, 1, none⟩ = some (.int .i64 z1) := p_230.out.at 1 _ rfl
      have qp2 : w229.cell? ⟨w219.heap.size, 2, none⟩ = some (.int .i64 s1) := p_230.out.at 2 _ rfl
      have zp := p_230.out.lt
      have qq0 : w229.cell? ⟨w224.heap.size, 0, none⟩ = some (.int .i64 g1) := q_230.out.at 0 _ rfl
      have qq1 : w229.cell? ⟨w224.heap.size, 1, none⟩ = some (.int .i64 z1) := q_230.out.at 1 _ rfl
      have qq2 : w229.cell? ⟨w224.heap.size, 2, none⟩ = some (.int .i64 s1) := q_230.out.at 2 _ rfl
      have zq := q_230.out.lt
      go_wp2
      go_ret
      exact ⟨rfl, X_230.out.alloc _⟩
end Go.Proofs.Ythaebcljehmhmaa

