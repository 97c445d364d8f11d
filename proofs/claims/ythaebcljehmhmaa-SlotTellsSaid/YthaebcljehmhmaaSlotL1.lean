/- The walk of SlotTells. -/
import Derived.Test.YthaebcljehmhmaaSlotN
namespace Go.Proofs.Ythaebcljehmhmaa
open Go.RowKit
attribute [local go_sem ↓] Go.wp_at_zero Go.wp_at_succ

set_option maxRecDepth 100000 in
set_option maxHeartbeats 8000000 in
theorem tells_any (g z s : Int) (a b : ByteArray) (A : Option Addr) (l : List UInt8) (c : Nat) (w : World) (ha : a.size ≤ maxLen) (hb : b.size ≤ maxLen) (hA : Sl w A l.length c (l.map bv)) :
    Calls Try.prog 3 #[.agg #[.int .i64 g, .int .i64 z, .int .i64 s, .string a, .string b, .slice A l.length c]] w fun e w' => e = .returned (.bool true) ∧ Ext w w' := by
  have A_1 := Lib.hid (hA)
  have X_2 := Lib.hid (Ext.refl w)
  clear hA
  rcases Decidable.em ((a.size : Int) ≤ 200) with h2 | h2
  rotate_left
  · go_enter Try.func3, Try.ntmps3
    go_wp2_with (go_at_call 8; refine stop_here ?_)
    refine stop_on ?_
    generalize hW : (World.alloc (World.alloc w _) _) = W4
    obtain ⟨hx, hb0, hb1⟩ := allocs2 hW
    clear hW
    have A_5 := Lib.hid (A_1.out.ext hx)
    have X_5 := Lib.hid (X_2.out.ext hx)
    clear A_1 X_2
    have wi_6 := Lib.hid hb0
    have s_7 := Lib.hid hb1
    clear hx hb0 hb1
    refine (shown_any _).mono ?_
    rintro e w8 ⟨rfl, hx⟩
    have A_9 := Lib.hid (A_5.out.ext hx)
    have X_9 := Lib.hid (X_5.out.ext hx)
    have wi_9 := Lib.hid (wi_6.out.ext hx)
    have s_9 := Lib.hid (s_7.out.ext hx)
    clear A_5 X_5 wi_6 s_7
    clear hx
    have qwi0 : w8.cell? ⟨w.heap.size, 0, none⟩ = some (.int .i64 g) := wi_9.out.at 0 _ rfl
    have qwi1 : w8.cell? ⟨w.heap.size, 1, none⟩ = some (.int .i64 z) := wi_9.out.at 1 _ rfl
    have qwi2 : w8.cell? ⟨w.heap.size, 2, none⟩ = some (.int .i64 s) := wi_9.out.at 2 _ rfl
    have qwi3 : w8.cell? ⟨w.heap.size, 3, none⟩ = some (.string a) := wi_9.out.at 3 _ rfl
    have qwi4 : w8.cell? ⟨w.heap.size, 4, none⟩ = some (.string b) := wi_9.out.at 4 _ rfl
    have qwi5 : w8.cell? ⟨w.heap.size, 5, none⟩ = some (.slice A l.length c) := wi_9.out.at 5 _ rfl
    have zwi := wi_9.out.lt
    have qs0 : w8.cell? ⟨w.heap.size + 1, 0, none⟩ = some (.int .i64 g) := s_9.out.at 0 _ rfl
    have qs1 : w8.cell? ⟨w.heap.size + 1, 1, none⟩ = some (.int .i64 z) := s_9.out.at 1 _ rfl
    have qs2 : w8.cell? ⟨w.heap.size + 1, 2, none⟩ = some (.int .i64 s) := s_9.out.at 2 _ rfl
    have zs := s_9.out.lt
    go_wp2
    go_ret
    exact ⟨rfl, X_9.out⟩
  rcases Decidable.em ((b.size : Int) ≤ 200) with h9 | h9
  rotate_left
  · go_enter Try.func3, Try.ntmps3
    go_wp2_with (go_at_call 8; refine stop_here ?_)
    refine stop_on ?_
    generalize hW : (World.alloc (World.alloc w _) _) = W11
    obtain ⟨hx, hb0, hb1⟩ := allocs2 hW
    clear hW
    have A_12 := Lib.hid (A_1.out.ext hx)
    have X_12 := Lib.hid (X_2.out.ext hx)
    clear A_1 X_2
    have wi_13 := Lib.hid hb0
    have s_14 := Lib.hid hb1
    clear hx hb0 hb1
    refine (shown_any _).mono ?_
    rintro e w15 ⟨rfl, hx⟩
    have A_16 := Lib.hid (A_12.out.ext hx)
    have X_16 := Lib.hid (X_12.out.ext hx)
    have wi_16 := Lib.hid (wi_13.out.ext hx)
    have s_16 := Lib.hid (s_14.out.ext hx)
    clear A_12 X_12 wi_13 s_14
    clear hx
    have qwi0 : w15.cell? ⟨w.heap.size, 0, none⟩ = some (.int .i64 g) := wi_16.out.at 0 _ rfl
    have qwi1 : w15.cell? ⟨w.heap.size, 1, none⟩ = some (.int .i64 z) := wi_16.out.at 1 _ rfl
    have qwi2 : w15.cell? ⟨w.heap.size, 2, none⟩ = some (.int .i64 s) := wi_16.out.at 2 _ rfl
    have qwi3 : w15.cell? ⟨w.heap.size, 3, none⟩ = some (.string a) := wi_16.out.at 3 _ rfl
    have qwi4 : w15.cell? ⟨w.heap.size, 4, none⟩ = some (.string b) := wi_16.out.at 4 _ rfl
    have qwi5 : w15.cell? ⟨w.heap.size, 5, none⟩ = some (.slice A l.length c) := wi_16.out.at 5 _ rfl
    have zwi := wi_16.out.lt
    have qs0 : w15.cell? ⟨w.heap.size + 1, 0, none⟩ = some (.int .i64 g) := s_16.out.at 0 _ rfl
    have qs1 : w15.cell? ⟨w.heap.size + 1, 1, none⟩ = some (.int .i64 z) := s_16.out.at 1 _ rfl
    have qs2 : w15.cell? ⟨w.heap.size + 1, 2, none⟩ = some (.int .i64 s) := s_16.out.at 2 _ rfl
    have zs := s_16.out.lt
    go_wp2
    go_ret
    exact ⟨rfl, X_16.out⟩
  rcases Decidable.em ((l.length : Int) ≤ 1000) with h16 | h16
  rotate_left
  · go_enter Try.func3, Try.ntmps3
    go_wp2_with (go_at_call 8; refine stop_here ?_)
    refine stop_on ?_
    generalize hW : (World.alloc (World.alloc w _) _) = W18
    obtain ⟨hx, hb0, hb1⟩ := allocs2 hW
    clear hW
    have A_19 := Lib.hid (A_1.out.ext hx)
    have X_19 := Lib.hid (X_2.out.ext hx)
    clear A_1 X_2
    have wi_20 := Lib.hid hb0
    have s_21 := Lib.hid hb1
    clear hx hb0 hb1
    refine (shown_any _).mono ?_
    rintro e w22 ⟨rfl, hx⟩
    have A_23 := Lib.hid (A_19.out.ext hx)
    have X_23 := Lib.hid (X_19.out.ext hx)
    have wi_23 := Lib.hid (wi_20.out.ext hx)
    have s_23 := Lib.hid (s_21.out.ext hx)
    clear A_19 X_19 wi_20 s_21
    clear hx
    have qwi0 : w22.cell? ⟨w.heap.size, 0, none⟩ = some (.int .i64 g) := wi_23.out.at 0 _ rfl
    have qwi1 : w22.cell? ⟨w.heap.size, 1, none⟩ = some (.int .i64 z) := wi_23.out.at 1 _ rfl
    have qwi2 : w22.cell? ⟨w.heap.size, 2, none⟩ = some (.int .i64 s) := wi_23.out.at 2 _ rfl
    have qwi3 : w22.cell? ⟨w.heap.size, 3, none⟩ = some (.string a) := wi_23.out.at 3 _ rfl
    have qwi4 : w22.cell? ⟨w.heap.size, 4, none⟩ = some (.string b) := wi_23.out.at 4 _ rfl
    have qwi5 : w22.cell? ⟨w.heap.size, 5, none⟩ = some (.slice A l.length c) := wi_23.out.at 5 _ rfl
    have zwi := wi_23.out.lt
    have qs0 : w22.cell? ⟨w.heap.size + 1, 0, none⟩ = some (.int .i64 g) := s_23.out.at 0 _ rfl
    have qs1 : w22.cell? ⟨w.heap.size + 1, 1, none⟩ = some (.int .i64 z) := s_23.out.at 1 _ rfl
    have qs2 : w22.cell? ⟨w.heap.size + 1, 2, none⟩ = some (.int .i64 s) := s_23.out.at 2 _ rfl
    have zs := s_23.out.lt
    go_wp2
    go_ret
    exact ⟨rfl, X_23.out⟩
  obtain ⟨x, hx⟩ : ∃ x, supB ⟨g, z, s⟩ = x := ⟨_, rfl⟩
  obtain ⟨xe, hxe⟩ : ∃ x, supE ⟨g, z, s⟩ = x := ⟨_, rfl⟩
  obtain ⟨r, hr⟩ : ∃ x, supR ⟨g, z, s⟩ = x := ⟨_, rfl⟩
  obtain ⟨pg, pz, ps, hp⟩ := sup_ex (parX a)
  obtain ⟨pe, hpe⟩ : ∃ x, parE a = x := ⟨_, rfl⟩
  obtain ⟨qi, qg, qz, qs, qe, hq⟩ := pickV_ex a b
  have Hx := Lib.hid hx
  have Hxe := Lib.hid hxe
  have Hr := Lib.hid hr
  have Hp := Lib.hid hp
  have Hpe := Lib.hid hpe
  have Hq := Lib.hid hq
  have Ha := Lib.hid ha
  have Hb := Lib.hid hb
  clear hx hxe hr hp hpe hq ha hb
  have e1 := eq_same pg pz ps
  have e2 := eq_same qg qz qs
  go_enter Try.func3, Try.ntmps3
  go_wp2_with (go_at_call 8; refine stop_here ?_)
  refine stop_on ?_
  generalize hW : (World.alloc (World.alloc w _) _) = W24
  obtain ⟨hx, hb0, hb1⟩ := allocs2 hW
  clear hW
  have A_25 := Lib.hid (A_1.out.ext hx)
  have X_25 := Lib.hid (X_2.out.ext hx)
  clear A_1 X_2
  have wi_26 := Lib.hid hb0
  have s_27 := Lib.hid hb1
  clear hx hb0 hb1
  refine (shown_any _).mono ?_
  rintro e w28 ⟨rfl, hx⟩
  have A_29 := Lib.hid (A_25.out.ext hx)
  have X_29 := Lib.hid (X_25.out.ext hx)
  have wi_29 := Lib.hid (wi_26.out.ext hx)
  have s_29 := Lib.hid (s_27.out.ext hx)
  clear A_25 X_25 wi_26 s_27
  clear hx
  have qwi0 : w28.cell? ⟨w.heap.size, 0, none⟩ = some (.int .i64 g) := wi_29.out.at 0 _ rfl
  have qwi1 : w28.cell? ⟨w.heap.size, 1, none⟩ = some (.int .i64 z) := wi_29.out.at 1 _ rfl
  have qwi2 : w28.cell? ⟨w.heap.size, 2, none⟩ = some (.int .i64 s) := wi_29.out.at 2 _ rfl
  have qwi3 : w28.cell? ⟨w.heap.size, 3, none⟩ = some (.string a) := wi_29.out.at 3 _ rfl
  have qwi4 : w28.cell? ⟨w.heap.size, 4, none⟩ = some (.string b) := wi_29.out.at 4 _ rfl
  have qwi5 : w28.cell? ⟨w.heap.size, 5, none⟩ = some (.slice A l.length c) := wi_29.out.at 5 _ rfl
  have zwi := wi_29.out.lt
  have qs0 : w28.cell? ⟨w.heap.size + 1, 0, none⟩ = some (.int .i64 g) := s_29.out.at 0 _ rfl
  have qs1 : w28.cell? ⟨w.heap.size + 1, 1, none⟩ = some (.int .i64 z) := s_29.out.at 1 _ rfl
  have qs2 : w28.cell? ⟨w.heap.size + 1, 2, none⟩ = some (.int .i64 s) := s_29.out.at 2 _ rfl
  have zs := s_29.out.lt
  go_wp2_with (go_at_call 9; refine stop_here ?_)
  refine stop_on ?_
  clear qwi0 qwi1 qwi2 qwi3 qwi4 qwi5 zwi qs0 qs1 qs2 zs
  refine (slotPrint_is g z s _ Hx.out Hxe.out).mono ?_
  rintro e w30 ⟨rfl, hx⟩
  have A_31 := Lib.hid (A_29.out.ext hx)
  have X_31 := Lib.hid (X_29.out.ext hx)
  have wi_31 := Lib.hid (wi_29.out.ext hx)
  have s_31 := Lib.hid (s_29.out.ext hx)
  clear A_29 X_29 wi_29 s_29
  clear hx
  have zwi := wi_31.out.lt
  have qs0 : w30.cell? ⟨w.heap.size + 1, 0, none⟩ = some (.int .i64 g) := s_31.out.at 0 _ rfl
  have qs1 : w30.cell? ⟨w.heap.size + 1, 1, none⟩ = some (.int .i64 z) := s_31.out.at 1 _ rfl
  have qs2 : w30.cell? ⟨w.heap.size + 1, 2, none⟩ = some (.int .i64 s) := s_31.out.at 2 _ rfl
  have zs := s_31.out.lt
  go_wp2_with (go_at_call 10; refine stop_here ?_)
  refine stop_on ?_
  clear zwi qs0 qs1 qs2 zs
  refine (ref03Print_is g z s _ Hx.out Hxe.out).mono ?_
  rintro e w32 ⟨rfl, hx⟩
  have A_33 := Lib.hid (A_31.out.ext hx)
  have X_33 := Lib.hid (X_31.out.ext hx)
  have wi_33 := Lib.hid (wi_31.out.ext hx)
  have s_33 := Lib.hid (s_31.out.ext hx)
  clear A_31 X_31 wi_31 s_31
  clear hx
  have zwi := wi_33.out.lt
  have qs0 : w32.cell? ⟨w.heap.size + 1, 0, none⟩ = some (.int .i64 g) := s_33.out.at 0 _ rfl
  have qs1 : w32.cell? ⟨w.heap.size + 1, 1, none⟩ = some (.int .i64 z) := s_33.out.at 1 _ rfl
  have qs2 : w32.cell? ⟨w.heap.size + 1, 2, none⟩ = some (.int .i64 s) := s_33.out.at 2 _ rfl
  have zs := s_33.out.lt
  go_wp2_with (go_at_call 11; refine stop_here ?_)
  refine stop_on ?_
  clear zwi qs0 qs1 qs2 zs
  refine (slotParse_is a _ Ha.out Hp.out Hpe.out).mono ?_
  rintro e w34 ⟨rfl, hx⟩
  have A_35 := Lib.hid (A_33.out.ext hx)
  have X_35 := Lib.hid (X_33.out.ext hx)
  have wi_35 := Lib.hid (wi_33.out.ext hx)
  have s_35 := Lib.hid (s_33.out.ext hx)
  clear A_33 X_33 wi_33 s_33
  clear hx
  have zwi := wi_35.out.lt
  have qs0 : w34.cell? ⟨w.heap.size + 1, 0, none⟩ = some (.int .i64 g) := s_35.out.at 0 _ rfl
  have qs1 : w34.cell? ⟨w.heap.size + 1, 1, none⟩ = some (.int .i64 z) := s_35.out.at 1 _ rfl
  have qs2 : w34.cell? ⟨w.heap.size + 1, 2, none⟩ = some (.int .i64 s) := s_35.out.at 2 _ rfl
  have zs := s_35.out.lt
  go_wp2_with (go_at_call 12; refine stop_here ?_)
  refine stop_on ?_
  clear zwi qs0 qs1 qs2 zs
  generalize hW : (World.alloc w34 _) = W36
  obtain ⟨hx, hb0⟩ := allocs1 hW
  clear hW
  have A_37 := Lib.hid (A_35.out.ext hx)
  have X_37 := Lib.hid (X_35.out.ext hx)
  have wi_37 := Lib.hid (wi_35.out.ext hx)
  have s_37 := Lib.hid (s_35.out.ext hx)
  clear A_35 X_35 wi_35 s_35
  have p_38 := Lib.hid hb0
  clear hx hb0
  refine (ref03Parse_is a _ Ha.out Hp.out Hpe.out).mono ?_
  rintro e w39 ⟨rfl, hx⟩
  have A_40 := Lib.hid (A_37.out.ext hx)
  have X_40 := Lib.hid (X_37.out.ext hx)
  have wi_40 := Lib.hid (wi_37.out.ext hx)
  have s_40 := Lib.hid (s_37.out.ext hx)
  have p_40 := Lib.hid (p_38.out.ext hx)
  clear A_37 X_37 wi_37 s_37 p_38
  clear hx
  have zwi := wi_40.out.lt
  have qs0 : w39.cell? ⟨w.heap.size + 1, 0, none⟩ = some (.int .i64 g) := s_40.out.at 0 _ rfl
  have qs1 : w39.cell? ⟨w.heap.size + 1, 1, none⟩ = some (.int .i64 z) := s_40.out.at 1 _ rfl
  have qs2 : w39.cell? ⟨w.heap.size + 1, 2, none⟩ = some (.int .i64 s) := s_40.out.at 2 _ rfl
  have zs := s_40.out.lt
  have qp0 : w39.cell? ⟨w34.heap.size, 0, none⟩ = some (.int .i64 pg) := p_40.out.at 0 _ rfl
  have qp1 : w39.cell? ⟨w34.heap.size, 1, none⟩ = some (.int .i64 pz) := p_40.out.at 1 _ rfl
  have qp2 : w39.cell? ⟨w34.heap.size, 2, none⟩ = some (.int .i64 ps) := p_40.out.at 2 _ rfl
  have zp := p_40.out.lt
  go_wp2_with (go_at_call 13; refine stop_here ?_)
  refine stop_on ?_
  clear zwi qs0 qs1 qs2 zs qp0 qp1 qp2 zp
  generalize hW : (World.alloc w39 _) = W41
  obtain ⟨hx, hb0⟩ := allocs1 hW
  clear hW
  have A_42 := Lib.hid (A_40.out.ext hx)
  have X_42 := Lib.hid (X_40.out.ext hx)
  have wi_42 := Lib.hid (wi_40.out.ext hx)
  have s_42 := Lib.hid (s_40.out.ext hx)
  have p_42 := Lib.hid (p_40.out.ext hx)
  clear A_40 X_40 wi_40 s_40 p_40
  have q_43 := Lib.hid hb0
  clear hx hb0
  refine (slotPick_is a b _ Ha.out Hb.out Hq.out).mono ?_
  rintro e w44 ⟨rfl, hx⟩
  have A_45 := Lib.hid (A_42.out.ext hx)
  have X_45 := Lib.hid (X_42.out.ext hx)
  have wi_45 := Lib.hid (wi_42.out.ext hx)
  have s_45 := Lib.hid (s_42.out.ext hx)
  have p_45 := Lib.hid (p_42.out.ext hx)
  have q_45 := Lib.hid (q_43.out.ext hx)
  clear A_42 X_42 wi_42 s_42 p_42 q_43
  clear hx
  have zwi := wi_45.out.lt
  have qs0 : w44.cell? ⟨w.heap.size + 1, 0, none⟩ = some (.int .i64 g) := s_45.out.at 0 _ rfl
  have qs1 : w44.cell? ⟨w.heap.size + 1, 1, none⟩ = some (.int .i64 z) := s_45.out.at 1 _ rfl
  have qs2 : w44.cell? ⟨w.heap.size + 1, 2, none⟩ = some (.int .i64 s) := s_45.out.at 2 _ rfl
  have zs := s_45.out.lt
  have qp0 : w44.cell? ⟨w34.heap.size, 0, none⟩ = some (.int .i64 pg) := p_45.out.at 0 _ rfl
  have qp1 : w44.cell? ⟨w34.heap.size, 1, none⟩ = some (.int .i64 pz) := p_45.out.at 1 _ rfl
  have qp2 : w44.cell? ⟨w34.heap.size, 2, none⟩ = some (.int .i64 ps) := p_45.out.at 2 _ rfl
  have zp := p_45.out.lt
  have qq0 : w44.cell? ⟨w39.heap.size, 0, none⟩ = some (.int .i64 pg) := q_45.out.at 0 _ rfl
  have qq1 : w44.cell? ⟨w39.heap.size, 1, none⟩ = some (.int .i64 pz) := q_45.out.at 1 _ rfl
  have qq2 : w44.cell? ⟨w39.heap.size, 2, none⟩ = some (.int .i64 ps) := q_45.out.at 2 _ rfl
  have zq := q_45.out.lt
  go_wp2_with (go_at_call 14; refine stop_here ?_)
  refine stop_on ?_
  clear zwi qs0 qs1 qs2 zs qp0 qp1 qp2 zp qq0 qq1 qq2 zq
  generalize hW : (World.alloc w44 _) = W46
  obtain ⟨hx, hb0⟩ := allocs1 hW
  clear hW
  have A_47 := Lib.hid (A_45.out.ext hx)
  have X_47 := Lib.hid (X_45.out.ext hx)
  have wi_47 := Lib.hid (wi_45.out.ext hx)
  have s_47 := Lib.hid (s_45.out.ext hx)
  have p_47 := Lib.hid (p_45.out.ext hx)
  have q_47 := Lib.hid (q_45.out.ext hx)
  clear A_45 X_45 wi_45 s_45 p_45 q_45
  have t_48 := Lib.hid hb0
  clear hx hb0
  refine (ref03Pick_is a b _ Ha.out Hb.out Hq.out).mono ?_
  rintro e w49 ⟨rfl, hx⟩
  have A_50 := Lib.hid (A_47.out.ext hx)
  have X_50 := Lib.hid (X_47.out.ext hx)
  have wi_50 := Lib.hid (wi_47.out.ext hx)
  have s_50 := Lib.hid (s_47.out.ext hx)
  have p_50 := Lib.hid (p_47.out.ext hx)
  have q_50 := Lib.hid (q_47.out.ext hx)
  have t_50 := Lib.hid (t_48.out.ext hx)
  clear A_47 X_47 wi_47 s_47 p_47 q_47 t_48
  clear hx
  have zwi := wi_50.out.lt
  have qs0 : w49.cell? ⟨w.heap.size + 1, 0, none⟩ = some (.int .i64 g) := s_50.out.at 0 _ rfl
  have qs1 : w49.cell? ⟨w.heap.size + 1, 1, none⟩ = some (.int .i64 z) := s_50.out.at 1 _ rfl
  have qs2 : w49.cell? ⟨w.heap.size + 1, 2, none⟩ = some (.int .i64 s) := s_50.out.at 2 _ rfl
  have zs := s_50.out.lt
  have qp0 : w49.cell? ⟨w34.heap.size, 0, none⟩ = some (.int .i64 pg) := p_50.out.at 0 _ rfl
  have qp1 : w49.cell? ⟨w34.heap.size, 1, none⟩ = some (.int .i64 pz) := p_50.out.at 1 _ rfl
  have qp2 : w49.cell? ⟨w34.heap.size, 2, none⟩ = some (.int .i64 ps) := p_50.out.at 2 _ rfl
  have zp := p_50.out.lt
  have qq0 : w49.cell? ⟨w39.heap.size, 0, none⟩ = some (.int .i64 pg) := q_50.out.at 0 _ rfl
  have qq1 : w49.cell? ⟨w39.heap.size, 1, none⟩ = some (.int .i64 pz) := q_50.out.at 1 _ rfl
  have qq2 : w49.cell? ⟨w39.heap.size, 2, none⟩ = some (.int .i64 ps) := q_50.out.at 2 _ rfl
  have zq := q_50.out.lt
  have qt0 : w49.cell? ⟨w44.heap.size, 0, none⟩ = some (.int .i64 qg) := t_50.out.at 0 _ rfl
  have qt1 : w49.cell? ⟨w44.heap.size, 1, none⟩ = some (.int .i64 qz) := t_50.out.at 1 _ rfl
  have qt2 : w49.cell? ⟨w44.heap.size, 2, none⟩ = some (.int .i64 qs) := t_50.out.at 2 _ rfl
  have zt := t_50.out.lt
  go_wp2_with (go_at_call 15; refine stop_here ?_)
  refine stop_on ?_
  clear zwi qs0 qs1 qs2 zs qp0 qp1 qp2 zp qq0 qq1 qq2 zq qt0 qt1 qt2 zt
  generalize hW : (World.alloc w49 _) = W51
  obtain ⟨hx, hb0⟩ := allocs1 hW
  clear hW
  have A_52 := Lib.hid (A_50.out.ext hx)
  have X_52 := Lib.hid (X_50.out.ext hx)
  have wi_52 := Lib.hid (wi_50.out.ext hx)
  have s_52 := Lib.hid (s_50.out.ext hx)
  have p_52 := Lib.hid (p_50.out.ext hx)
  have q_52 := Lib.hid (q_50.out.ext hx)
  have t_52 := Lib.hid (t_50.out.ext hx)
  clear A_50 X_50 wi_50 s_50 p_50 q_50 t_50
  have u_53 := Lib.hid hb0
  clear hx hb0
  refine (slotBook_any A l l.length c _ rfl A_52.out).mono ?_
  rintro e w_ ⟨rfl, rfl⟩
  have zwi := wi_52.out.lt
  have qs0 : W51.cell? ⟨w.heap.size + 1, 0, none⟩ = some (.int .i64 g) := s_52.out.at 0 _ rfl
  have qs1 : W51.cell? ⟨w.heap.size + 1, 1, none⟩ = some (.int .i64 z) := s_52.out.at 1 _ rfl
  have qs2 : W51.cell? ⟨w.heap.size + 1, 2, none⟩ = some (.int .i64 s) := s_52.out.at 2 _ rfl
  have zs := s_52.out.lt
  have qp0 : W51.cell? ⟨w34.heap.size, 0, none⟩ = some (.int .i64 pg) := p_52.out.at 0 _ rfl
  have qp1 : W51.cell? ⟨w34.heap.size, 1, none⟩ = some (.int .i64 pz) := p_52.out.at 1 _ rfl
  have qp2 : W51.cell? ⟨w34.heap.size, 2, none⟩ = some (.int .i64 ps) := p_52.out.at 2 _ rfl
  have zp := p_52.out.lt
  have qq0 : W51.cell? ⟨w39.heap.size, 0, none⟩ = some (.int .i64 pg) := q_52.out.at 0 _ rfl
  have qq1 : W51.cell? ⟨w39.heap.size, 1, none⟩ = some (.int .i64 pz) := q_52.out.at 1 _ rfl
  have qq2 : W51.cell? ⟨w39.heap.size, 2, none⟩ = some (.int .i64 ps) := q_52.out.at 2 _ rfl
  have zq := q_52.out.lt
  have qt0 : W51.cell? ⟨w44.heap.size, 0, none⟩ = some (.int .i64 qg) := t_52.out.at 0 _ rfl
  have qt1 : W51.cell? ⟨w44.heap.size, 1, none⟩ = some (.int .i64 qz) := t_52.out.at 1 _ rfl
  have qt2 : W51.cell? ⟨w44.heap.size, 2, none⟩ = some (.int .i64 qs) := t_52.out.at 2 _ rfl
  have zt := t_52.out.lt
  have qu0 : W51.cell? ⟨w49.heap.size, 0, none⟩ = some (.int .i64 qg) := u_53.out.at 0 _ rfl
  have qu1 : W51.cell? ⟨w49.heap.size, 1, none⟩ = some (.int .i64 qz) := u_53.out.at 1 _ rfl
  have qu2 : W51.cell? ⟨w49.heap.size, 2, none⟩ = some (.int .i64 qs) := u_53.out.at 2 _ rfl
  have zu := u_53.out.lt
  go_wp2_with (go_at_call 16; refine stop_here ?_)
  refine stop_on ?_
  clear zwi qs0 qs1 qs2 zs qp0 qp1 qp2 zp qq0 qq1 qq2 zq qt0 qt1 qt2 zt qu0 qu1 qu2 zu
  refine (ref03Book_any A l l.length c _ rfl A_52.out).mono ?_
  rintro e w_ ⟨rfl, rfl⟩
  have zwi := wi_52.out.lt
  have qs0 : W51.cell? ⟨w.heap.size + 1, 0, none⟩ = some (.int .i64 g) := s_52.out.at 0 _ rfl
  have qs1 : W51.cell? ⟨w.heap.size + 1, 1, none⟩ = some (.int .i64 z) := s_52.out.at 1 _ rfl
  have qs2 : W51.cell? ⟨w.heap.size + 1, 2, none⟩ = some (.int .i64 s) := s_52.out.at 2 _ rfl
  have zs := s_52.out.lt
  have qp0 : W51.cell? ⟨w34.heap.size, 0, none⟩ = some (.int .i64 pg) := p_52.out.at 0 _ rfl
  have qp1 : W51.cell? ⟨w34.heap.size, 1, none⟩ = some (.int .i64 pz) := p_52.out.at 1 _ rfl
  have qp2 : W51.cell? ⟨w34.heap.size, 2, none⟩ = some (.int .i64 ps) := p_52.out.at 2 _ rfl
  have zp := p_52.out.lt
  have qq0 : W51.cell? ⟨w39.heap.size, 0, none⟩ = some (.int .i64 pg) := q_52.out.at 0 _ rfl
  have qq1 : W51.cell? ⟨w39.heap.size, 1, none⟩ = some (.int .i64 pz) := q_52.out.at 1 _ rfl
  have qq2 : W51.cell? ⟨w39.heap.size, 2, none⟩ = some (.int .i64 ps) := q_52.out.at 2 _ rfl
  have zq := q_52.out.lt
  have qt0 : W51.cell? ⟨w44.heap.size, 0, none⟩ = some (.int .i64 qg) := t_52.out.at 0 _ rfl
  have qt1 : W51.cell? ⟨w44.heap.size, 1, none⟩ = some (.int .i64 qz) := t_52.out.at 1 _ rfl
  have qt2 : W51.cell? ⟨w44.heap.size, 2, none⟩ = some (.int .i64 qs) := t_52.out.at 2 _ rfl
  have zt := t_52.out.lt
  have qu0 : W51.cell? ⟨w49.heap.size, 0, none⟩ = some (.int .i64 qg) := u_53.out.at 0 _ rfl
  have qu1 : W51.cell? ⟨w49.heap.size, 1, none⟩ = some (.int .i64 qz) := u_53.out.at 1 _ rfl
  have qu2 : W51.cell? ⟨w49.heap.size, 2, none⟩ = some (.int .i64 qs) := u_53.out.at 2 _ rfl
  have zu := u_53.out.lt
  go_wp2_with fail
  have HK54 := Lib.hid (fun w' (hx : Ext W51 w') => (show w'.cell? ⟨w.heap.size + 1, 0, none⟩ = some (.int .i64 g) ∧ w'.cell? ⟨w.heap.size + 1, 1, none⟩ = some (.int .i64 z) ∧ w'.cell? ⟨w.heap.size + 1, 2, none⟩ = some (.int .i64 s) ∧ w'.cell? ⟨w34.heap.size, 0, none⟩ = some (.int .i64 pg) ∧ w'.cell? ⟨w34.heap.size, 1, none⟩ = some (.int .i64 pz) ∧ w'.cell? ⟨w34.heap.size, 2, none⟩ = some (.int .i64 ps) ∧ w'.cell? ⟨w39.heap.size, 0, none⟩ = some (.int .i64 pg) ∧ w'.cell? ⟨w39.heap.size, 1, none⟩ = some (.int .i64 pz) ∧ w'.cell? ⟨w39.heap.size, 2, none⟩ = some (.int .i64 ps) ∧ w'.cell? ⟨w44.heap.size, 0, none⟩ = some (.int .i64 qg) ∧ w'.cell? ⟨w44.heap.size, 1, none⟩ = some (.int .i64 qz) ∧ w'.cell? ⟨w44.heap.size, 2, none⟩ = some (.int .i64 qs) ∧ w'.cell? ⟨w49.heap.size, 0, none⟩ = some (.int .i64 qg) ∧ w'.cell? ⟨w49.heap.size, 1, none⟩ = some (.int .i64 qz) ∧ w'.cell? ⟨w49.heap.size, 2, none⟩ = some (.int .i64 qs) from ⟨(s_52.out.ext hx).at 0 _ rfl, (s_52.out.ext hx).at 1 _ rfl, (s_52.out.ext hx).at 2 _ rfl, (p_52.out.ext hx).at 0 _ rfl, (p_52.out.ext hx).at 1 _ rfl, (p_52.out.ext hx).at 2 _ rfl, (q_52.out.ext hx).at 0 _ rfl, (q_52.out.ext hx).at 1 _ rfl, (q_52.out.ext hx).at 2 _ rfl, (t_52.out.ext hx).at 0 _ rfl, (t_52.out.ext hx).at 1 _ rfl, (t_52.out.ext hx).at 2 _ rfl, (u_53.out.ext hx).at 0 _ rfl, (u_53.out.ext hx).at 1 _ rfl, (u_53.out.ext hx).at 2 _ rfl⟩))
  have G54_0 := Lib.hid (fun w' (hx : Ext W51 w') => slotRight_is g z s w' Hr.out)
  have G54_1 := Lib.hid (fun w' (hx : Ext W51 w') => ref03Right_is g z s w' Hr.out)
  clear zwi qs0 qs1 qs2 zs qp0 qp1 qp2 zp qq0 qq1 qq2 zq qt0 qt1 qt2 zt qu0 qu1 qu2 zu
  have qs0 : W51.cell? ⟨w.heap.size + 1, 0, none⟩ = some (.int .i64 g) := s_52.out.at 0 _ rfl
  have qs1 : W51.cell? ⟨w.heap.size + 1, 1, none⟩ = some (.int .i64 z) := s_52.out.at 1 _ rfl
  have qs2 : W51.cell? ⟨w.heap.size + 1, 2, none⟩ = some (.int .i64 s) := s_52.out.at 2 _ rfl
  have zs := s_52.out.lt
  have qp0 : W51.cell? ⟨w34.heap.size, 0, none⟩ = some (.int .i64 pg) := p_52.out.at 0 _ rfl
  have qp1 : W51.cell? ⟨w34.heap.size, 1, none⟩ = some (.int .i64 pz) := p_52.out.at 1 _ rfl
  have qp2 : W51.cell? ⟨w34.heap.size, 2, none⟩ = some (.int .i64 ps) := p_52.out.at 2 _ rfl
  have zp := p_52.out.lt
  have qq0 : W51.cell? ⟨w39.heap.size, 0, none⟩ = some (.int .i64 pg) := q_52.out.at 0 _ rfl
  have qq1 : W51.cell? ⟨w39.heap.size, 1, none⟩ = some (.int .i64 pz) := q_52.out.at 1 _ rfl
  have qq2 : W51.cell? ⟨w39.heap.size, 2, none⟩ = some (.int .i64 ps) := q_52.out.at 2 _ rfl
  have zq := q_52.out.lt
  have qt0 : W51.cell? ⟨w44.heap.size, 0, none⟩ = some (.int .i64 qg) := t_52.out.at 0 _ rfl
  have qt1 : W51.cell? ⟨w44.heap.size, 1, none⟩ = some (.int .i64 qz) := t_52.out.at 1 _ rfl
  have qt2 : W51.cell? ⟨w44.heap.size, 2, none⟩ = some (.int .i64 qs) := t_52.out.at 2 _ rfl
  have zt := t_52.out.lt
  have qu0 : W51.cell? ⟨w49.heap.size, 0, none⟩ = some (.int .i64 qg) := u_53.out.at 0 _ rfl
  have qu1 : W51.cell? ⟨w49.heap.size, 1, none⟩ = some (.int .i64 qz) := u_53.out.at 1 _ rfl
  have qu2 : W51.cell? ⟨w49.heap.size, 2, none⟩ = some (.int .i64 qs) := u_53.out.at 2 _ rfl
  have zu := u_53.out.lt
  go_region_held3 (fun w' => w'.cell? ⟨w.heap.size + 1, 0, none⟩ = some (.int .i64 g) ∧ w'.cell? ⟨w.heap.size + 1, 1, none⟩ = some (.int .i64 z) ∧ w'.cell? ⟨w.heap.size + 1, 2, none⟩ = some (.int .i64 s) ∧ w'.cell? ⟨w34.heap.size, 0, none⟩ = some (.int .i64 pg) ∧ w'.cell? ⟨w34.heap.size, 1, none⟩ = some (.int .i64 pz) ∧ w'.cell? ⟨w34.heap.size, 2, none⟩ = some (.int .i64 ps) ∧ w'.cell? ⟨w39.heap.size, 0, none⟩ = some (.int .i64 pg) ∧ w'.cell? ⟨w39.heap.size, 1, none⟩ = some (.int .i64 pz) ∧ w'.cell? ⟨w39.heap.size, 2, none⟩ = some (.int .i64 ps) ∧ w'.cell? ⟨w44.heap.size, 0, none⟩ = some (.int .i64 qg) ∧ w'.cell? ⟨w44.heap.size, 1, none⟩ = some (.int .i64 qz) ∧ w'.cell? ⟨w44.heap.size, 2, none⟩ = some (.int .i64 qs) ∧ w'.cell? ⟨w49.heap.size, 0, none⟩ = some (.int .i64 qg) ∧ w'.cell? ⟨w49.heap.size, 1, none⟩ = some (.int .i64 qz) ∧ w'.cell? ⟨w49.heap.size, 2, none⟩ = some (.int .i64 qs))
    (first | exact HK54.out _ E54_1.out | exact HK54.out _ E54_0.out | exact HK54.out _ (Ext.refl W51).drew | exact HK54.out _ (Ext.refl W51))
    (first
      | ((go_at_call 18
          with_reducible refine (G54_1.out _ E54_0.out).mono ?_
          rintro e v54_1 ⟨rfl, hx⟩
          have E54_1 := Lib.hid (E54_0.out.trans hx)
          clear hx))
      | ((go_at_call 17
          with_reducible refine (G54_0.out _ ?_).mono ?_
          (first | exact Ext.refl _ | exact (Ext.refl _).drew)
          rintro e v54_0 ⟨rfl, hx⟩
          have E54_0 := Lib.hid (show Ext W51 v54_0 from by first | exact hx | exact (Ext.refl W51).drew.trans hx)
          clear hx)))
  clear qs0 qs1 qs2 zs qp0 qp1 qp2 zp qq0 qq1 qq2 zq qt0 qt1 qt2 zt qu0 qu1 qu2 zu
  go_wp2
  go_ret
  exact ⟨rfl, X_52.out.trans E54_1.out⟩
end Go.Proofs.Ythaebcljehmhmaa

