/- The walk of NodeItems. -/
import Derived.Test.YtpcchbcibcfldaaNodeM
namespace Go.Proofs.Ytpcchbcibcfldaa
open Go.RowKit
attribute [local go_sem ↓] Go.wp_at_zero Go.wp_at_succ

set_option maxRecDepth 100000 in
set_option maxHeartbeats 8000000 in
theorem items_any (f1 : Bool) (A1 A2 A3 : Option Addr) (l1 l2 l3 : List It) (c1 c2 c3 : Nat) (key at_ gone : Int) (w : World) (hA : Sl w A1 l1.length c1 (ivs l1)) (hB : Sl w A2 l2.length c2 (ivs l2)) (hC : Sl w A3 l3.length c3 (ivs l3)) (hg : -9223372036854775808 ≤ gone ∧ gone ≤ 9223372036854775807) :
    Calls Try.prog 4 #[.agg #[.bool f1, .slice A1 l1.length c1, .int .i64 key, .slice A2 l2.length c2, .int .i64 at_, .int .i64 gone, .slice A3 l3.length c3]] w fun e w' => e = .returned (.bool true) ∧ Ext w w' := by
  have A_1 := Lib.hid (hA)
  have B_2 := Lib.hid (hB)
  have C_3 := Lib.hid (hC)
  have X_4 := Lib.hid (Ext.refl w)
  clear hA hB hC
  rcases Decidable.em ((l2.length : Int) ≤ 20) with h4 | h4
  rotate_left
  · go_enter Try.func4, Try.ntmps4
    go_wp2_with (go_at_call 10; refine stop_here ?_)
    refine stop_on ?_
    generalize hW : (World.alloc (World.alloc w _) _) = W6
    obtain ⟨hx, hb0, hb1⟩ := allocs2 hW
    clear hW
    have A_7 := Lib.hid (A_1.out.ext hx)
    have B_7 := Lib.hid (B_2.out.ext hx)
    have C_7 := Lib.hid (C_3.out.ext hx)
    have X_7 := Lib.hid (X_4.out.ext hx)
    clear A_1 B_2 C_3 X_4
    have wi_8 := Lib.hid hb0
    have n_9 := Lib.hid hb1
    clear hx hb0 hb1
    refine (shown_any _).mono ?_
    rintro e w10 ⟨rfl, hx⟩
    have A_11 := Lib.hid (A_7.out.ext hx)
    have B_11 := Lib.hid (B_7.out.ext hx)
    have C_11 := Lib.hid (C_7.out.ext hx)
    have X_11 := Lib.hid (X_7.out.ext hx)
    have wi_11 := Lib.hid (wi_8.out.ext hx)
    have n_11 := Lib.hid (n_9.out.ext hx)
    clear A_7 B_7 C_7 X_7 wi_8 n_9
    clear hx
    have qwi0 : w10.cell? ⟨w.heap.size, 0, none⟩ = some (.bool f1) := wi_11.out.at 0 _ rfl
    have qwi1 : w10.cell? ⟨w.heap.size, 1, none⟩ = some (.slice A1 l1.length c1) := wi_11.out.at 1 _ rfl
    have qwi2 : w10.cell? ⟨w.heap.size, 2, none⟩ = some (.int .i64 key) := wi_11.out.at 2 _ rfl
    have qwi3 : w10.cell? ⟨w.heap.size, 3, none⟩ = some (.slice A2 l2.length c2) := wi_11.out.at 3 _ rfl
    have qwi4 : w10.cell? ⟨w.heap.size, 4, none⟩ = some (.int .i64 at_) := wi_11.out.at 4 _ rfl
    have qwi5 : w10.cell? ⟨w.heap.size, 5, none⟩ = some (.int .i64 gone) := wi_11.out.at 5 _ rfl
    have qwi6 : w10.cell? ⟨w.heap.size, 6, none⟩ = some (.slice A3 l3.length c3) := wi_11.out.at 6 _ rfl
    have zwi := wi_11.out.lt
    have qn0 : w10.cell? ⟨w.heap.size + 1, 0, none⟩ = some (.bool f1) := n_11.out.at 0 _ rfl
    have qn1 : w10.cell? ⟨w.heap.size + 1, 1, none⟩ = some (.slice A1 l1.length c1) := n_11.out.at 1 _ rfl
    have zn := n_11.out.lt
    go_wp2
    go_ret
    exact ⟨rfl, X_11.out⟩
  rcases Decidable.em ((l3.length : Int) ≤ 20) with h11 | h11
  rotate_left
  · go_enter Try.func4, Try.ntmps4
    go_wp2_with (go_at_call 10; refine stop_here ?_)
    refine stop_on ?_
    generalize hW : (World.alloc (World.alloc w _) _) = W13
    obtain ⟨hx, hb0, hb1⟩ := allocs2 hW
    clear hW
    have A_14 := Lib.hid (A_1.out.ext hx)
    have B_14 := Lib.hid (B_2.out.ext hx)
    have C_14 := Lib.hid (C_3.out.ext hx)
    have X_14 := Lib.hid (X_4.out.ext hx)
    clear A_1 B_2 C_3 X_4
    have wi_15 := Lib.hid hb0
    have n_16 := Lib.hid hb1
    clear hx hb0 hb1
    refine (shown_any _).mono ?_
    rintro e w17 ⟨rfl, hx⟩
    have A_18 := Lib.hid (A_14.out.ext hx)
    have B_18 := Lib.hid (B_14.out.ext hx)
    have C_18 := Lib.hid (C_14.out.ext hx)
    have X_18 := Lib.hid (X_14.out.ext hx)
    have wi_18 := Lib.hid (wi_15.out.ext hx)
    have n_18 := Lib.hid (n_16.out.ext hx)
    clear A_14 B_14 C_14 X_14 wi_15 n_16
    clear hx
    have qwi0 : w17.cell? ⟨w.heap.size, 0, none⟩ = some (.bool f1) := wi_18.out.at 0 _ rfl
    have qwi1 : w17.cell? ⟨w.heap.size, 1, none⟩ = some (.slice A1 l1.length c1) := wi_18.out.at 1 _ rfl
    have qwi2 : w17.cell? ⟨w.heap.size, 2, none⟩ = some (.int .i64 key) := wi_18.out.at 2 _ rfl
    have qwi3 : w17.cell? ⟨w.heap.size, 3, none⟩ = some (.slice A2 l2.length c2) := wi_18.out.at 3 _ rfl
    have qwi4 : w17.cell? ⟨w.heap.size, 4, none⟩ = some (.int .i64 at_) := wi_18.out.at 4 _ rfl
    have qwi5 : w17.cell? ⟨w.heap.size, 5, none⟩ = some (.int .i64 gone) := wi_18.out.at 5 _ rfl
    have qwi6 : w17.cell? ⟨w.heap.size, 6, none⟩ = some (.slice A3 l3.length c3) := wi_18.out.at 6 _ rfl
    have zwi := wi_18.out.lt
    have qn0 : w17.cell? ⟨w.heap.size + 1, 0, none⟩ = some (.bool f1) := n_18.out.at 0 _ rfl
    have qn1 : w17.cell? ⟨w.heap.size + 1, 1, none⟩ = some (.slice A1 l1.length c1) := n_18.out.at 1 _ rfl
    have zn := n_18.out.lt
    go_wp2
    go_ret
    exact ⟨rfl, X_18.out⟩
  have HLS := Lib.hid (show (splitS l2).length ≤ 100000 from Nat.le_trans (splitS_le _) (by omega))
  cases hr : ndR l1
  · have Hr := Lib.hid hr
    clear hr
    rcases Decidable.em (0 ≤ at_) with k18 | k18
    rotate_left
    · go_enter Try.func4, Try.ntmps4
      go_wp2_with (go_at_call 10; refine stop_here ?_)
      refine stop_on ?_
      generalize hW : (World.alloc (World.alloc w _) _) = W20
      obtain ⟨hx, hb0, hb1⟩ := allocs2 hW
      clear hW
      have A_21 := Lib.hid (A_1.out.ext hx)
      have B_21 := Lib.hid (B_2.out.ext hx)
      have C_21 := Lib.hid (C_3.out.ext hx)
      have X_21 := Lib.hid (X_4.out.ext hx)
      clear A_1 B_2 C_3 X_4
      have wi_22 := Lib.hid hb0
      have n_23 := Lib.hid hb1
      clear hx hb0 hb1
      refine (shown_any _).mono ?_
      rintro e w24 ⟨rfl, hx⟩
      have A_25 := Lib.hid (A_21.out.ext hx)
      have B_25 := Lib.hid (B_21.out.ext hx)
      have C_25 := Lib.hid (C_21.out.ext hx)
      have X_25 := Lib.hid (X_21.out.ext hx)
      have wi_25 := Lib.hid (wi_22.out.ext hx)
      have n_25 := Lib.hid (n_23.out.ext hx)
      clear A_21 B_21 C_21 X_21 wi_22 n_23
      clear hx
      have qwi0 : w24.cell? ⟨w.heap.size, 0, none⟩ = some (.bool f1) := wi_25.out.at 0 _ rfl
      have qwi1 : w24.cell? ⟨w.heap.size, 1, none⟩ = some (.slice A1 l1.length c1) := wi_25.out.at 1 _ rfl
      have qwi2 : w24.cell? ⟨w.heap.size, 2, none⟩ = some (.int .i64 key) := wi_25.out.at 2 _ rfl
      have qwi3 : w24.cell? ⟨w.heap.size, 3, none⟩ = some (.slice A2 l2.length c2) := wi_25.out.at 3 _ rfl
      have qwi4 : w24.cell? ⟨w.heap.size, 4, none⟩ = some (.int .i64 at_) := wi_25.out.at 4 _ rfl
      have qwi5 : w24.cell? ⟨w.heap.size, 5, none⟩ = some (.int .i64 gone) := wi_25.out.at 5 _ rfl
      have qwi6 : w24.cell? ⟨w.heap.size, 6, none⟩ = some (.slice A3 l3.length c3) := wi_25.out.at 6 _ rfl
      have zwi := wi_25.out.lt
      have qn0 : w24.cell? ⟨w.heap.size + 1, 0, none⟩ = some (.bool f1) := n_25.out.at 0 _ rfl
      have qn1 : w24.cell? ⟨w.heap.size + 1, 1, none⟩ = some (.slice A1 l1.length c1) := n_25.out.at 1 _ rfl
      have zn := n_25.out.lt
      go_wp2_with (go_at_call 15; refine stop_here ?_)
      refine stop_on ?_
      clear qwi0 qwi1 qwi2 qwi3 qwi4 qwi5 qwi6 zwi qn0 qn1 zn
      refine (ref04Right_is f1 A1 l1 _ c1 _ rfl A_25.out Hr.out).mono ?_
      rintro e w26 ⟨rfl, hx⟩
      have A_27 := Lib.hid (A_25.out.ext hx)
      have B_27 := Lib.hid (B_25.out.ext hx)
      have C_27 := Lib.hid (C_25.out.ext hx)
      have X_27 := Lib.hid (X_25.out.ext hx)
      have wi_27 := Lib.hid (wi_25.out.ext hx)
      have n_27 := Lib.hid (n_25.out.ext hx)
      clear A_25 B_25 C_25 X_25 wi_25 n_25
      clear hx
      have zwi := wi_27.out.lt
      have qn0 : w26.cell? ⟨w.heap.size + 1, 0, none⟩ = some (.bool f1) := n_27.out.at 0 _ rfl
      have qn1 : w26.cell? ⟨w.heap.size + 1, 1, none⟩ = some (.slice A1 l1.length c1) := n_27.out.at 1 _ rfl
      have zn := n_27.out.lt
      go_wp2_with (go_at_call 22; refine stop_here ?_)
      refine stop_on ?_
      clear zwi qn0 qn1 zn
      refine (nodeSplit_any A2 l2 _ c2 _ rfl (by omega) B_27.out).mono ?_
      rintro e w28 ⟨P, pc, rfl, h1, hx⟩
      have A_29 := Lib.hid (A_27.out.ext hx)
      have B_29 := Lib.hid (B_27.out.ext hx)
      have C_29 := Lib.hid (C_27.out.ext hx)
      have X_29 := Lib.hid (X_27.out.ext hx)
      have wi_29 := Lib.hid (wi_27.out.ext hx)
      have n_29 := Lib.hid (n_27.out.ext hx)
      clear A_27 B_27 C_27 X_27 wi_27 n_27
      have P_30 := Lib.hid h1
      clear hx h1
      have zwi := wi_29.out.lt
      have qn0 : w28.cell? ⟨w.heap.size + 1, 0, none⟩ = some (.bool f1) := n_29.out.at 0 _ rfl
      have qn1 : w28.cell? ⟨w.heap.size + 1, 1, none⟩ = some (.slice A1 l1.length c1) := n_29.out.at 1 _ rfl
      have zn := n_29.out.lt
      go_wp2_with (go_at_call 23; refine stop_here ?_)
      refine stop_on ?_
      clear zwi qn0 qn1 zn
      refine (ref04Split_rows A2 l2 _ c2 _ rfl (by omega) B_29.out).mono ?_
      rintro e w31 ⟨Q, qc, rfl, h1, hx⟩
      have A_32 := Lib.hid (A_29.out.ext hx)
      have B_32 := Lib.hid (B_29.out.ext hx)
      have C_32 := Lib.hid (C_29.out.ext hx)
      have X_32 := Lib.hid (X_29.out.ext hx)
      have wi_32 := Lib.hid (wi_29.out.ext hx)
      have n_32 := Lib.hid (n_29.out.ext hx)
      have P_32 := Lib.hid (P_30.out.ext hx)
      clear A_29 B_29 C_29 X_29 wi_29 n_29 P_30
      have Q_33 := Lib.hid h1
      clear hx h1
      have zwi := wi_32.out.lt
      have qn0 : w31.cell? ⟨w.heap.size + 1, 0, none⟩ = some (.bool f1) := n_32.out.at 0 _ rfl
      have qn1 : w31.cell? ⟨w.heap.size + 1, 1, none⟩ = some (.slice A1 l1.length c1) := n_32.out.at 1 _ rfl
      have zn := n_32.out.lt
      go_wp2_with (go_at_call 21; refine stop_here ?_)
      refine stop_on ?_
      clear zwi qn0 qn1 zn
      refine (ref04Rows_same P Q (splitS l2) _ pc qc _ HLS.out P_32.out Q_33.out).mono ?_
      rintro e w34 ⟨rfl, hx⟩
      have A_35 := Lib.hid (A_32.out.ext hx)
      have B_35 := Lib.hid (B_32.out.ext hx)
      have C_35 := Lib.hid (C_32.out.ext hx)
      have X_35 := Lib.hid (X_32.out.ext hx)
      have wi_35 := Lib.hid (wi_32.out.ext hx)
      have n_35 := Lib.hid (n_32.out.ext hx)
      have P_35 := Lib.hid (P_32.out.ext hx)
      have Q_35 := Lib.hid (Q_33.out.ext hx)
      clear A_32 B_32 C_32 X_32 wi_32 n_32 P_32 Q_33
      clear hx
      have zwi := wi_35.out.lt
      have qn0 : w34.cell? ⟨w.heap.size + 1, 0, none⟩ = some (.bool f1) := n_35.out.at 0 _ rfl
      have qn1 : w34.cell? ⟨w.heap.size + 1, 1, none⟩ = some (.slice A1 l1.length c1) := n_35.out.at 1 _ rfl
      have zn := n_35.out.lt
      go_wp2
      go_ret
      exact ⟨rfl, X_35.out⟩
    rcases Decidable.em (at_ ≤ (l2.length : Int)) with k35 | k35
    rotate_left
    · go_enter Try.func4, Try.ntmps4
      go_wp2_with (go_at_call 10; refine stop_here ?_)
      refine stop_on ?_
      generalize hW : (World.alloc (World.alloc w _) _) = W37
      obtain ⟨hx, hb0, hb1⟩ := allocs2 hW
      clear hW
      have A_38 := Lib.hid (A_1.out.ext hx)
      have B_38 := Lib.hid (B_2.out.ext hx)
      have C_38 := Lib.hid (C_3.out.ext hx)
      have X_38 := Lib.hid (X_4.out.ext hx)
      clear A_1 B_2 C_3 X_4
      have wi_39 := Lib.hid hb0
      have n_40 := Lib.hid hb1
      clear hx hb0 hb1
      refine (shown_any _).mono ?_
      rintro e w41 ⟨rfl, hx⟩
      have A_42 := Lib.hid (A_38.out.ext hx)
      have B_42 := Lib.hid (B_38.out.ext hx)
      have C_42 := Lib.hid (C_38.out.ext hx)
      have X_42 := Lib.hid (X_38.out.ext hx)
      have wi_42 := Lib.hid (wi_39.out.ext hx)
      have n_42 := Lib.hid (n_40.out.ext hx)
      clear A_38 B_38 C_38 X_38 wi_39 n_40
      clear hx
      have qwi0 : w41.cell? ⟨w.heap.size, 0, none⟩ = some (.bool f1) := wi_42.out.at 0 _ rfl
      have qwi1 : w41.cell? ⟨w.heap.size, 1, none⟩ = some (.slice A1 l1.length c1) := wi_42.out.at 1 _ rfl
      have qwi2 : w41.cell? ⟨w.heap.size, 2, none⟩ = some (.int .i64 key) := wi_42.out.at 2 _ rfl
      have qwi3 : w41.cell? ⟨w.heap.size, 3, none⟩ = some (.slice A2 l2.length c2) := wi_42.out.at 3 _ rfl
      have qwi4 : w41.cell? ⟨w.heap.size, 4, none⟩ = some (.int .i64 at_) := wi_42.out.at 4 _ rfl
      have qwi5 : w41.cell? ⟨w.heap.size, 5, none⟩ = some (.int .i64 gone) := wi_42.out.at 5 _ rfl
      have qwi6 : w41.cell? ⟨w.heap.size, 6, none⟩ = some (.slice A3 l3.length c3) := wi_42.out.at 6 _ rfl
      have zwi := wi_42.out.lt
      have qn0 : w41.cell? ⟨w.heap.size + 1, 0, none⟩ = some (.bool f1) := n_42.out.at 0 _ rfl
      have qn1 : w41.cell? ⟨w.heap.size + 1, 1, none⟩ = some (.slice A1 l1.length c1) := n_42.out.at 1 _ rfl
      have zn := n_42.out.lt
      go_wp2_with (go_at_call 15; refine stop_here ?_)
      refine stop_on ?_
      clear qwi0 qwi1 qwi2 qwi3 qwi4 qwi5 qwi6 zwi qn0 qn1 zn
      refine (ref04Right_is f1 A1 l1 _ c1 _ rfl A_42.out Hr.out).mono ?_
      rintro e w43 ⟨rfl, hx⟩
      have A_44 := Lib.hid (A_42.out.ext hx)
      have B_44 := Lib.hid (B_42.out.ext hx)
      have C_44 := Lib.hid (C_42.out.ext hx)
      have X_44 := Lib.hid (X_42.out.ext hx)
      have wi_44 := Lib.hid (wi_42.out.ext hx)
      have n_44 := Lib.hid (n_42.out.ext hx)
      clear A_42 B_42 C_42 X_42 wi_42 n_42
      clear hx
      have zwi := wi_44.out.lt
      have qn0 : w43.cell? ⟨w.heap.size + 1, 0, none⟩ = some (.bool f1) := n_44.out.at 0 _ rfl
      have qn1 : w43.cell? ⟨w.heap.size + 1, 1, none⟩ = some (.slice A1 l1.length c1) := n_44.out.at 1 _ rfl
      have zn := n_44.out.lt
      go_wp2_with (go_at_call 22; refine stop_here ?_)
      refine stop_on ?_
      clear zwi qn0 qn1 zn
      refine (nodeSplit_any A2 l2 _ c2 _ rfl (by omega) B_44.out).mono ?_
      rintro e w45 ⟨P, pc, rfl, h1, hx⟩
      have A_46 := Lib.hid (A_44.out.ext hx)
      have B_46 := Lib.hid (B_44.out.ext hx)
      have C_46 := Lib.hid (C_44.out.ext hx)
      have X_46 := Lib.hid (X_44.out.ext hx)
      have wi_46 := Lib.hid (wi_44.out.ext hx)
      have n_46 := Lib.hid (n_44.out.ext hx)
      clear A_44 B_44 C_44 X_44 wi_44 n_44
      have P_47 := Lib.hid h1
      clear hx h1
      have zwi := wi_46.out.lt
      have qn0 : w45.cell? ⟨w.heap.size + 1, 0, none⟩ = some (.bool f1) := n_46.out.at 0 _ rfl
      have qn1 : w45.cell? ⟨w.heap.size + 1, 1, none⟩ = some (.slice A1 l1.length c1) := n_46.out.at 1 _ rfl
      have zn := n_46.out.lt
      go_wp2_with (go_at_call 23; refine stop_here ?_)
      refine stop_on ?_
      clear zwi qn0 qn1 zn
      refine (ref04Split_rows A2 l2 _ c2 _ rfl (by omega) B_46.out).mono ?_
      rintro e w48 ⟨Q, qc, rfl, h1, hx⟩
      have A_49 := Lib.hid (A_46.out.ext hx)
      have B_49 := Lib.hid (B_46.out.ext hx)
      have C_49 := Lib.hid (C_46.out.ext hx)
      have X_49 := Lib.hid (X_46.out.ext hx)
      have wi_49 := Lib.hid (wi_46.out.ext hx)
      have n_49 := Lib.hid (n_46.out.ext hx)
      have P_49 := Lib.hid (P_47.out.ext hx)
      clear A_46 B_46 C_46 X_46 wi_46 n_46 P_47
      have Q_50 := Lib.hid h1
      clear hx h1
      have zwi := wi_49.out.lt
      have qn0 : w48.cell? ⟨w.heap.size + 1, 0, none⟩ = some (.bool f1) := n_49.out.at 0 _ rfl
      have qn1 : w48.cell? ⟨w.heap.size + 1, 1, none⟩ = some (.slice A1 l1.length c1) := n_49.out.at 1 _ rfl
      have zn := n_49.out.lt
      go_wp2_with (go_at_call 21; refine stop_here ?_)
      refine stop_on ?_
      clear zwi qn0 qn1 zn
      refine (ref04Rows_same P Q (splitS l2) _ pc qc _ HLS.out P_49.out Q_50.out).mono ?_
      rintro e w51 ⟨rfl, hx⟩
      have A_52 := Lib.hid (A_49.out.ext hx)
      have B_52 := Lib.hid (B_49.out.ext hx)
      have C_52 := Lib.hid (C_49.out.ext hx)
      have X_52 := Lib.hid (X_49.out.ext hx)
      have wi_52 := Lib.hid (wi_49.out.ext hx)
      have n_52 := Lib.hid (n_49.out.ext hx)
      have P_52 := Lib.hid (P_49.out.ext hx)
      have Q_52 := Lib.hid (Q_50.out.ext hx)
      clear A_49 B_49 C_49 X_49 wi_49 n_49 P_49 Q_50
      clear hx
      have zwi := wi_52.out.lt
      have qn0 : w51.cell? ⟨w.heap.size + 1, 0, none⟩ = some (.bool f1) := n_52.out.at 0 _ rfl
      have qn1 : w51.cell? ⟨w.heap.size + 1, 1, none⟩ = some (.slice A1 l1.length c1) := n_52.out.at 1 _ rfl
      have zn := n_52.out.lt
      go_wp2
      go_ret
      exact ⟨rfl, X_52.out⟩
    rcases Decidable.em (0 ≤ gone) with k52 | k52
    rotate_left
    · go_enter Try.func4, Try.ntmps4
      go_wp2_with (go_at_call 10; refine stop_here ?_)
      refine stop_on ?_
      generalize hW : (World.alloc (World.alloc w _) _) = W54
      obtain ⟨hx, hb0, hb1⟩ := allocs2 hW
      clear hW
      have A_55 := Lib.hid (A_1.out.ext hx)
      have B_55 := Lib.hid (B_2.out.ext hx)
      have C_55 := Lib.hid (C_3.out.ext hx)
      have X_55 := Lib.hid (X_4.out.ext hx)
      clear A_1 B_2 C_3 X_4
      have wi_56 := Lib.hid hb0
      have n_57 := Lib.hid hb1
      clear hx hb0 hb1
      refine (shown_any _).mono ?_
      rintro e w58 ⟨rfl, hx⟩
      have A_59 := Lib.hid (A_55.out.ext hx)
      have B_59 := Lib.hid (B_55.out.ext hx)
      have C_59 := Lib.hid (C_55.out.ext hx)
      have X_59 := Lib.hid (X_55.out.ext hx)
      have wi_59 := Lib.hid (wi_56.out.ext hx)
      have n_59 := Lib.hid (n_57.out.ext hx)
      clear A_55 B_55 C_55 X_55 wi_56 n_57
      clear hx
      have qwi0 : w58.cell? ⟨w.heap.size, 0, none⟩ = some (.bool f1) := wi_59.out.at 0 _ rfl
      have qwi1 : w58.cell? ⟨w.heap.size, 1, none⟩ = some (.slice A1 l1.length c1) := wi_59.out.at 1 _ rfl
      have qwi2 : w58.cell? ⟨w.heap.size, 2, none⟩ = some (.int .i64 key) := wi_59.out.at 2 _ rfl
      have qwi3 : w58.cell? ⟨w.heap.size, 3, none⟩ = some (.slice A2 l2.length c2) := wi_59.out.at 3 _ rfl
      have qwi4 : w58.cell? ⟨w.heap.size, 4, none⟩ = some (.int .i64 at_) := wi_59.out.at 4 _ rfl
      have qwi5 : w58.cell? ⟨w.heap.size, 5, none⟩ = some (.int .i64 gone) := wi_59.out.at 5 _ rfl
      have qwi6 : w58.cell? ⟨w.heap.size, 6, none⟩ = some (.slice A3 l3.length c3) := wi_59.out.at 6 _ rfl
      have zwi := wi_59.out.lt
      have qn0 : w58.cell? ⟨w.heap.size + 1, 0, none⟩ = some (.bool f1) := n_59.out.at 0 _ rfl
      have qn1 : w58.cell? ⟨w.heap.size + 1, 1, none⟩ = some (.slice A1 l1.length c1) := n_59.out.at 1 _ rfl
      have zn := n_59.out.lt
      go_wp2_with (go_at_call 15; refine stop_here ?_)
      refine stop_on ?_
      clear qwi0 qwi1 qwi2 qwi3 qwi4 qwi5 qwi6 zwi qn0 qn1 zn
      refine (ref04Right_is f1 A1 l1 _ c1 _ rfl A_59.out Hr.out).mono ?_
      rintro e w60 ⟨rfl, hx⟩
      have A_61 := Lib.hid (A_59.out.ext hx)
      have B_61 := Lib.hid (B_59.out.ext hx)
      have C_61 := Lib.hid (C_59.out.ext hx)
      have X_61 := Lib.hid (X_59.out.ext hx)
      have wi_61 := Lib.hid (wi_59.out.ext hx)
      have n_61 := Lib.hid (n_59.out.ext hx)
      clear A_59 B_59 C_59 X_59 wi_59 n_59
      clear hx
      have zwi := wi_61.out.lt
      have qn0 : w60.cell? ⟨w.heap.size + 1, 0, none⟩ = some (.bool f1) := n_61.out.at 0 _ rfl
      have qn1 : w60.cell? ⟨w.heap.size + 1, 1, none⟩ = some (.slice A1 l1.length c1) := n_61.out.at 1 _ rfl
      have zn := n_61.out.lt
      go_wp2_with (go_at_call 22; refine stop_here ?_)
      refine stop_on ?_
      clear zwi qn0 qn1 zn
      refine (nodeSplit_any A2 l2 _ c2 _ rfl (by omega) B_61.out).mono ?_
      rintro e w62 ⟨P, pc, rfl, h1, hx⟩
      have A_63 := Lib.hid (A_61.out.ext hx)
      have B_63 := Lib.hid (B_61.out.ext hx)
      have C_63 := Lib.hid (C_61.out.ext hx)
      have X_63 := Lib.hid (X_61.out.ext hx)
      have wi_63 := Lib.hid (wi_61.out.ext hx)
      have n_63 := Lib.hid (n_61.out.ext hx)
      clear A_61 B_61 C_61 X_61 wi_61 n_61
      have P_64 := Lib.hid h1
      clear hx h1
      have zwi := wi_63.out.lt
      have qn0 : w62.cell? ⟨w.heap.size + 1, 0, none⟩ = some (.bool f1) := n_63.out.at 0 _ rfl
      have qn1 : w62.cell? ⟨w.heap.size + 1, 1, none⟩ = some (.slice A1 l1.length c1) := n_63.out.at 1 _ rfl
      have zn := n_63.out.lt
      go_wp2_with (go_at_call 23; refine stop_here ?_)
      refine stop_on ?_
      clear zwi qn0 qn1 zn
      refine (ref04Split_rows A2 l2 _ c2 _ rfl (by omega) B_63.out).mono ?_
      rintro e w65 ⟨Q, qc, rfl, h1, hx⟩
      have A_66 := Lib.hid (A_63.out.ext hx)
      have B_66 := Lib.hid (B_63.out.ext hx)
      have C_66 := Lib.hid (C_63.out.ext hx)
      have X_66 := Lib.hid (X_63.out.ext hx)
      have wi_66 := Lib.hid (wi_63.out.ext hx)
      have n_66 := Lib.hid (n_63.out.ext hx)
      have P_66 := Lib.hid (P_64.out.ext hx)
      clear A_63 B_63 C_63 X_63 wi_63 n_63 P_64
      have Q_67 := Lib.hid h1
      clear hx h1
      have zwi := wi_66.out.lt
      have qn0 : w65.cell? ⟨w.heap.size + 1, 0, none⟩ = some (.bool f1) := n_66.out.at 0 _ rfl
      have qn1 : w65.cell? ⟨w.heap.size + 1, 1, none⟩ = some (.slice A1 l1.length c1) := n_66.out.at 1 _ rfl
      have zn := n_66.out.lt
      go_wp2_with (go_at_call 21; refine stop_here ?_)
      refine stop_on ?_
      clear zwi qn0 qn1 zn
      refine (ref04Rows_same P Q (splitS l2) _ pc qc _ HLS.out P_66.out Q_67.out).mono ?_
      rintro e w68 ⟨rfl, hx⟩
      have A_69 := Lib.hid (A_66.out.ext hx)
      have B_69 := Lib.hid (B_66.out.ext hx)
      have C_69 := Lib.hid (C_66.out.ext hx)
      have X_69 := Lib.hid (X_66.out.ext hx)
      have wi_69 := Lib.hid (wi_66.out.ext hx)
      have n_69 := Lib.hid (n_66.out.ext hx)
      have P_69 := Lib.hid (P_66.out.ext hx)
      have Q_69 := Lib.hid (Q_67.out.ext hx)
      clear A_66 B_66 C_66 X_66 wi_66 n_66 P_66 Q_67
      clear hx
      have zwi := wi_69.out.lt
      have qn0 : w68.cell? ⟨w.heap.size + 1, 0, none⟩ = some (.bool f1) := n_69.out.at 0 _ rfl
      have qn1 : w68.cell? ⟨w.heap.size + 1, 1, none⟩ = some (.slice A1 l1.length c1) := n_69.out.at 1 _ rfl
      have zn := n_69.out.lt
      go_wp2
      go_ret
      exact ⟨rfl, X_69.out⟩
    rcases Decidable.em (gone ≤ (l2.length : Int) - at_) with k69 | k69
    rotate_left
    · go_enter Try.func4, Try.ntmps4
      go_wp2_with (go_at_call 10; refine stop_here ?_)
      refine stop_on ?_
      generalize hW : (World.alloc (World.alloc w _) _) = W71
      obtain ⟨hx, hb0, hb1⟩ := allocs2 hW
      clear hW
      have A_72 := Lib.hid (A_1.out.ext hx)
      have B_72 := Lib.hid (B_2.out.ext hx)
      have C_72 := Lib.hid (C_3.out.ext hx)
      have X_72 := Lib.hid (X_4.out.ext hx)
      clear A_1 B_2 C_3 X_4
      have wi_73 := Lib.hid hb0
      have n_74 := Lib.hid hb1
      clear hx hb0 hb1
      refine (shown_any _).mono ?_
      rintro e w75 ⟨rfl, hx⟩
      have A_76 := Lib.hid (A_72.out.ext hx)
      have B_76 := Lib.hid (B_72.out.ext hx)
      have C_76 := Lib.hid (C_72.out.ext hx)
      have X_76 := Lib.hid (X_72.out.ext hx)
      have wi_76 := Lib.hid (wi_73.out.ext hx)
      have n_76 := Lib.hid (n_74.out.ext hx)
      clear A_72 B_72 C_72 X_72 wi_73 n_74
      clear hx
      have qwi0 : w75.cell? ⟨w.heap.size, 0, none⟩ = some (.bool f1) := wi_76.out.at 0 _ rfl
      have qwi1 : w75.cell? ⟨w.heap.size, 1, none⟩ = some (.slice A1 l1.length c1) := wi_76.out.at 1 _ rfl
      have qwi2 : w75.cell? ⟨w.heap.size, 2, none⟩ = some (.int .i64 key) := wi_76.out.at 2 _ rfl
      have qwi3 : w75.cell? ⟨w.heap.size, 3, none⟩ = some (.slice A2 l2.length c2) := wi_76.out.at 3 _ rfl
      have qwi4 : w75.cell? ⟨w.heap.size, 4, none⟩ = some (.int .i64 at_) := wi_76.out.at 4 _ rfl
      have qwi5 : w75.cell? ⟨w.heap.size, 5, none⟩ = some (.int .i64 gone) := wi_76.out.at 5 _ rfl
      have qwi6 : w75.cell? ⟨w.heap.size, 6, none⟩ = some (.slice A3 l3.length c3) := wi_76.out.at 6 _ rfl
      have zwi := wi_76.out.lt
      have qn0 : w75.cell? ⟨w.heap.size + 1, 0, none⟩ = some (.bool f1) := n_76.out.at 0 _ rfl
      have qn1 : w75.cell? ⟨w.heap.size + 1, 1, none⟩ = some (.slice A1 l1.length c1) := n_76.out.at 1 _ rfl
      have zn := n_76.out.lt
      go_wp2_with (go_at_call 15; refine stop_here ?_)
      refine stop_on ?_
      clear qwi0 qwi1 qwi2 qwi3 qwi4 qwi5 qwi6 zwi qn0 qn1 zn
      refine (ref04Right_is f1 A1 l1 _ c1 _ rfl A_76.out Hr.out).mono ?_
      rintro e w77 ⟨rfl, hx⟩
      have A_78 := Lib.hid (A_76.out.ext hx)
      have B_78 := Lib.hid (B_76.out.ext hx)
      have C_78 := Lib.hid (C_76.out.ext hx)
      have X_78 := Lib.hid (X_76.out.ext hx)
      have wi_78 := Lib.hid (wi_76.out.ext hx)
      have n_78 := Lib.hid (n_76.out.ext hx)
      clear A_76 B_76 C_76 X_76 wi_76 n_76
      clear hx
      have zwi := wi_78.out.lt
      have qn0 : w77.cell? ⟨w.heap.size + 1, 0, none⟩ = some (.bool f1) := n_78.out.at 0 _ rfl
      have qn1 : w77.cell? ⟨w.heap.size + 1, 1, none⟩ = some (.slice A1 l1.length c1) := n_78.out.at 1 _ rfl
      have zn := n_78.out.lt
      go_wp2_with (go_at_call 22; refine stop_here ?_)
      refine stop_on ?_
      clear zwi qn0 qn1 zn
      refine (nodeSplit_any A2 l2 _ c2 _ rfl (by omega) B_78.out).mono ?_
      rintro e w79 ⟨P, pc, rfl, h1, hx⟩
      have A_80 := Lib.hid (A_78.out.ext hx)
      have B_80 := Lib.hid (B_78.out.ext hx)
      have C_80 := Lib.hid (C_78.out.ext hx)
      have X_80 := Lib.hid (X_78.out.ext hx)
      have wi_80 := Lib.hid (wi_78.out.ext hx)
      have n_80 := Lib.hid (n_78.out.ext hx)
      clear A_78 B_78 C_78 X_78 wi_78 n_78
      have P_81 := Lib.hid h1
      clear hx h1
      have zwi := wi_80.out.lt
      have qn0 : w79.cell? ⟨w.heap.size + 1, 0, none⟩ = some (.bool f1) := n_80.out.at 0 _ rfl
      have qn1 : w79.cell? ⟨w.heap.size + 1, 1, none⟩ = some (.slice A1 l1.length c1) := n_80.out.at 1 _ rfl
      have zn := n_80.out.lt
      go_wp2_with (go_at_call 23; refine stop_here ?_)
      refine stop_on ?_
      clear zwi qn0 qn1 zn
      refine (ref04Split_rows A2 l2 _ c2 _ rfl (by omega) B_80.out).mono ?_
      rintro e w82 ⟨Q, qc, rfl, h1, hx⟩
      have A_83 := Lib.hid (A_80.out.ext hx)
      have B_83 := Lib.hid (B_80.out.ext hx)
      have C_83 := Lib.hid (C_80.out.ext hx)
      have X_83 := Lib.hid (X_80.out.ext hx)
      have wi_83 := Lib.hid (wi_80.out.ext hx)
      have n_83 := Lib.hid (n_80.out.ext hx)
      have P_83 := Lib.hid (P_81.out.ext hx)
      clear A_80 B_80 C_80 X_80 wi_80 n_80 P_81
      have Q_84 := Lib.hid h1
      clear hx h1
      have zwi := wi_83.out.lt
      have qn0 : w82.cell? ⟨w.heap.size + 1, 0, none⟩ = some (.bool f1) := n_83.out.at 0 _ rfl
      have qn1 : w82.cell? ⟨w.heap.size + 1, 1, none⟩ = some (.slice A1 l1.length c1) := n_83.out.at 1 _ rfl
      have zn := n_83.out.lt
      go_wp2_with (go_at_call 21; refine stop_here ?_)
      refine stop_on ?_
      clear zwi qn0 qn1 zn
      refine (ref04Rows_same P Q (splitS l2) _ pc qc _ HLS.out P_83.out Q_84.out).mono ?_
      rintro e w85 ⟨rfl, hx⟩
      have A_86 := Lib.hid (A_83.out.ext hx)
      have B_86 := Lib.hid (B_83.out.ext hx)
      have C_86 := Lib.hid (C_83.out.ext hx)
      have X_86 := Lib.hid (X_83.out.ext hx)
      have wi_86 := Lib.hid (wi_83.out.ext hx)
      have n_86 := Lib.hid (n_83.out.ext hx)
      have P_86 := Lib.hid (P_83.out.ext hx)
      have Q_86 := Lib.hid (Q_84.out.ext hx)
      clear A_83 B_83 C_83 X_83 wi_83 n_83 P_83 Q_84
      clear hx
      have zwi := wi_86.out.lt
      have qn0 : w85.cell? ⟨w.heap.size + 1, 0, none⟩ = some (.bool f1) := n_86.out.at 0 _ rfl
      have qn1 : w85.cell? ⟨w.heap.size + 1, 1, none⟩ = some (.slice A1 l1.length c1) := n_86.out.at 1 _ rfl
      have zn := n_86.out.lt
      go_wp2
      go_ret
      exact ⟨rfl, X_86.out⟩
    obtain ⟨a, rfl⟩ := Int.eq_ofNat_of_zero_le (show 0 ≤ at_ by omega)
    obtain ⟨g, rfl⟩ := Int.eq_ofNat_of_zero_le (show 0 ≤ gone by omega)
    have hag1 : a ≤ l2.length := by omega
    have hag2 : a + g ≤ l2.length := by omega
    have HWL := Lib.hid (withS_len (l := l2) (more := l3) (a := a) (g := g) rfl rfl hag2)
    go_enter Try.func4, Try.ntmps4
    go_wp2_with (go_at_call 10; refine stop_here ?_)
    refine stop_on ?_
    generalize hW : (World.alloc (World.alloc w _) _) = W87
    obtain ⟨hx, hb0, hb1⟩ := allocs2 hW
    clear hW
    have A_88 := Lib.hid (A_1.out.ext hx)
    have B_88 := Lib.hid (B_2.out.ext hx)
    have C_88 := Lib.hid (C_3.out.ext hx)
    have X_88 := Lib.hid (X_4.out.ext hx)
    clear A_1 B_2 C_3 X_4
    have wi_89 := Lib.hid hb0
    have n_90 := Lib.hid hb1
    clear hx hb0 hb1
    refine (shown_any _).mono ?_
    rintro e w91 ⟨rfl, hx⟩
    have A_92 := Lib.hid (A_88.out.ext hx)
    have B_92 := Lib.hid (B_88.out.ext hx)
    have C_92 := Lib.hid (C_88.out.ext hx)
    have X_92 := Lib.hid (X_88.out.ext hx)
    have wi_92 := Lib.hid (wi_89.out.ext hx)
    have n_92 := Lib.hid (n_90.out.ext hx)
    clear A_88 B_88 C_88 X_88 wi_89 n_90
    clear hx
    have qwi0 : w91.cell? ⟨w.heap.size, 0, none⟩ = some (.bool f1) := wi_92.out.at 0 _ rfl
    have qwi1 : w91.cell? ⟨w.heap.size, 1, none⟩ = some (.slice A1 l1.length c1) := wi_92.out.at 1 _ rfl
    have qwi2 : w91.cell? ⟨w.heap.size, 2, none⟩ = some (.int .i64 key) := wi_92.out.at 2 _ rfl
    have qwi3 : w91.cell? ⟨w.heap.size, 3, none⟩ = some (.slice A2 l2.length c2) := wi_92.out.at 3 _ rfl
    have qwi4 : w91.cell? ⟨w.heap.size, 4, none⟩ = some (.int .i64 (a : Nat)) := wi_92.out.at 4 _ rfl
    have qwi5 : w91.cell? ⟨w.heap.size, 5, none⟩ = some (.int .i64 (g : Nat)) := wi_92.out.at 5 _ rfl
    have qwi6 : w91.cell? ⟨w.heap.size, 6, none⟩ = some (.slice A3 l3.length c3) := wi_92.out.at 6 _ rfl
    have zwi := wi_92.out.lt
    have qn0 : w91.cell? ⟨w.heap.size + 1, 0, none⟩ = some (.bool f1) := n_92.out.at 0 _ rfl
    have qn1 : w91.cell? ⟨w.heap.size + 1, 1, none⟩ = some (.slice A1 l1.length c1) := n_92.out.at 1 _ rfl
    have zn := n_92.out.lt
    go_wp2_with (go_at_call 15; refine stop_here ?_)
    refine stop_on ?_
    clear qwi0 qwi1 qwi2 qwi3 qwi4 qwi5 qwi6 zwi qn0 qn1 zn
    refine (ref04Right_is f1 A1 l1 _ c1 _ rfl A_92.out Hr.out).mono ?_
    rintro e w93 ⟨rfl, hx⟩
    have A_94 := Lib.hid (A_92.out.ext hx)
    have B_94 := Lib.hid (B_92.out.ext hx)
    have C_94 := Lib.hid (C_92.out.ext hx)
    have X_94 := Lib.hid (X_92.out.ext hx)
    have wi_94 := Lib.hid (wi_92.out.ext hx)
    have n_94 := Lib.hid (n_92.out.ext hx)
    clear A_92 B_92 C_92 X_92 wi_92 n_92
    clear hx
    have zwi := wi_94.out.lt
    have qn0 : w93.cell? ⟨w.heap.size + 1, 0, none⟩ = some (.bool f1) := n_94.out.at 0 _ rfl
    have qn1 : w93.cell? ⟨w.heap.size + 1, 1, none⟩ = some (.slice A1 l1.length c1) := n_94.out.at 1 _ rfl
    have zn := n_94.out.lt
    go_wp2_with (go_at_call 22; refine stop_here ?_)
    refine stop_on ?_
    clear zwi qn0 qn1 zn
    refine (nodeSplit_any A2 l2 _ c2 _ rfl (by omega) B_94.out).mono ?_
    rintro e w95 ⟨P, pc, rfl, h1, hx⟩
    have A_96 := Lib.hid (A_94.out.ext hx)
    have B_96 := Lib.hid (B_94.out.ext hx)
    have C_96 := Lib.hid (C_94.out.ext hx)
    have X_96 := Lib.hid (X_94.out.ext hx)
    have wi_96 := Lib.hid (wi_94.out.ext hx)
    have n_96 := Lib.hid (n_94.out.ext hx)
    clear A_94 B_94 C_94 X_94 wi_94 n_94
    have P_97 := Lib.hid h1
    clear hx h1
    have zwi := wi_96.out.lt
    have qn0 : w95.cell? ⟨w.heap.size + 1, 0, none⟩ = some (.bool f1) := n_96.out.at 0 _ rfl
    have qn1 : w95.cell? ⟨w.heap.size + 1, 1, none⟩ = some (.slice A1 l1.length c1) := n_96.out.at 1 _ rfl
    have zn := n_96.out.lt
    go_wp2_with (go_at_call 23; refine stop_here ?_)
    refine stop_on ?_
    clear zwi qn0 qn1 zn
    refine (ref04Split_rows A2 l2 _ c2 _ rfl (by omega) B_96.out).mono ?_
    rintro e w98 ⟨Q, qc, rfl, h1, hx⟩
    have A_99 := Lib.hid (A_96.out.ext hx)
    have B_99 := Lib.hid (B_96.out.ext hx)
    have C_99 := Lib.hid (C_96.out.ext hx)
    have X_99 := Lib.hid (X_96.out.ext hx)
    have wi_99 := Lib.hid (wi_96.out.ext hx)
    have n_99 := Lib.hid (n_96.out.ext hx)
    have P_99 := Lib.hid (P_97.out.ext hx)
    clear A_96 B_96 C_96 X_96 wi_96 n_96 P_97
    have Q_100 := Lib.hid h1
    clear hx h1
    have zwi := wi_99.out.lt
    have qn0 : w98.cell? ⟨w.heap.size + 1, 0, none⟩ = some (.bool f1) := n_99.out.at 0 _ rfl
    have qn1 : w98.cell? ⟨w.heap.size + 1, 1, none⟩ = some (.slice A1 l1.length c1) := n_99.out.at 1 _ rfl
    have zn := n_99.out.lt
    go_wp2_with (go_at_call 21; refine stop_here ?_)
    refine stop_on ?_
    clear zwi qn0 qn1 zn
    refine (ref04Rows_same P Q (splitS l2) _ pc qc _ HLS.out P_99.out Q_100.out).mono ?_
    rintro e w101 ⟨rfl, hx⟩
    have A_102 := Lib.hid (A_99.out.ext hx)
    have B_102 := Lib.hid (B_99.out.ext hx)
    have C_102 := Lib.hid (C_99.out.ext hx)
    have X_102 := Lib.hid (X_99.out.ext hx)
    have wi_102 := Lib.hid (wi_99.out.ext hx)
    have n_102 := Lib.hid (n_99.out.ext hx)
    have P_102 := Lib.hid (P_99.out.ext hx)
    have Q_102 := Lib.hid (Q_100.out.ext hx)
    clear A_99 B_99 C_99 X_99 wi_99 n_99 P_99 Q_100
    clear hx
    have zwi := wi_102.out.lt
    have qn0 : w101.cell? ⟨w.heap.size + 1, 0, none⟩ = some (.bool f1) := n_102.out.at 0 _ rfl
    have qn1 : w101.cell? ⟨w.heap.size + 1, 1, none⟩ = some (.slice A1 l1.length c1) := n_102.out.at 1 _ rfl
    have zn := n_102.out.lt
    go_wp2_with (go_at_call 25; refine stop_here ?_)
    refine stop_on ?_
    clear zwi qn0 qn1 zn
    refine (nodeWith_any A2 A3 l2 l3 _ _ c2 c3 a g _ rfl rfl hag1 hag2 (by omega) (by omega) B_102.out C_102.out).mono ?_
    rintro e w103 ⟨U, uc, rfl, h1, hx⟩
    have A_104 := Lib.hid (A_102.out.ext hx)
    have B_104 := Lib.hid (B_102.out.ext hx)
    have C_104 := Lib.hid (C_102.out.ext hx)
    have X_104 := Lib.hid (X_102.out.ext hx)
    have wi_104 := Lib.hid (wi_102.out.ext hx)
    have n_104 := Lib.hid (n_102.out.ext hx)
    have P_104 := Lib.hid (P_102.out.ext hx)
    have Q_104 := Lib.hid (Q_102.out.ext hx)
    clear A_102 B_102 C_102 X_102 wi_102 n_102 P_102 Q_102
    have U_105 := Lib.hid h1
    clear hx h1
    have zwi := wi_104.out.lt
    have qn0 : w103.cell? ⟨w.heap.size + 1, 0, none⟩ = some (.bool f1) := n_104.out.at 0 _ rfl
    have qn1 : w103.cell? ⟨w.heap.size + 1, 1, none⟩ = some (.slice A1 l1.length c1) := n_104.out.at 1 _ rfl
    have zn := n_104.out.lt
    go_wp2_with (go_at_call 26; refine stop_here ?_)
    refine stop_on ?_
    clear zwi qn0 qn1 zn
    refine (ref04With_any A2 A3 l2 l3 _ _ c2 c3 a g _ rfl rfl hag1 hag2 (by omega) (by omega) B_104.out C_104.out).mono ?_
    rintro e w106 ⟨V, vc, rfl, h1, hx⟩
    have A_107 := Lib.hid (A_104.out.ext hx)
    have B_107 := Lib.hid (B_104.out.ext hx)
    have C_107 := Lib.hid (C_104.out.ext hx)
    have X_107 := Lib.hid (X_104.out.ext hx)
    have wi_107 := Lib.hid (wi_104.out.ext hx)
    have n_107 := Lib.hid (n_104.out.ext hx)
    have P_107 := Lib.hid (P_104.out.ext hx)
    have Q_107 := Lib.hid (Q_104.out.ext hx)
    have U_107 := Lib.hid (U_105.out.ext hx)
    clear A_104 B_104 C_104 X_104 wi_104 n_104 P_104 Q_104 U_105
    have V_108 := Lib.hid h1
    clear hx h1
    have zwi := wi_107.out.lt
    have qn0 : w106.cell? ⟨w.heap.size + 1, 0, none⟩ = some (.bool f1) := n_107.out.at 0 _ rfl
    have qn1 : w106.cell? ⟨w.heap.size + 1, 1, none⟩ = some (.slice A1 l1.length c1) := n_107.out.at 1 _ rfl
    have zn := n_107.out.lt
    go_wp2_with (go_at_call 24; refine stop_here ?_)
    refine stop_on ?_
    clear zwi qn0 qn1 zn
    refine (ref04Items_same U V (withS l2 a g l3) _ uc vc _ HWL.out U_107.out V_108.out).mono ?_
    rintro e w109 ⟨rfl, hx⟩
    have A_110 := Lib.hid (A_107.out.ext hx)
    have B_110 := Lib.hid (B_107.out.ext hx)
    have C_110 := Lib.hid (C_107.out.ext hx)
    have X_110 := Lib.hid (X_107.out.ext hx)
    have wi_110 := Lib.hid (wi_107.out.ext hx)
    have n_110 := Lib.hid (n_107.out.ext hx)
    have P_110 := Lib.hid (P_107.out.ext hx)
    have Q_110 := Lib.hid (Q_107.out.ext hx)
    have U_110 := Lib.hid (U_107.out.ext hx)
    have V_110 := Lib.hid (V_108.out.ext hx)
    clear A_107 B_107 C_107 X_107 wi_107 n_107 P_107 Q_107 U_107 V_108
    clear hx
    have zwi := wi_110.out.lt
    have qn0 : w109.cell? ⟨w.heap.size + 1, 0, none⟩ = some (.bool f1) := n_110.out.at 0 _ rfl
    have qn1 : w109.cell? ⟨w.heap.size + 1, 1, none⟩ = some (.slice A1 l1.length c1) := n_110.out.at 1 _ rfl
    have zn := n_110.out.lt
    go_wp2
    go_ret
    exact ⟨rfl, X_110.out⟩
  · have Hr := Lib.hid hr
    clear hr
    rcases Decidable.em (0 ≤ at_) with k110 | k110
    rotate_left
    · go_enter Try.func4, Try.ntmps4
      go_wp2_with (go_at_call 10; refine stop_here ?_)
      refine stop_on ?_
      generalize hW : (World.alloc (World.alloc w _) _) = W112
      obtain ⟨hx, hb0, hb1⟩ := allocs2 hW
      clear hW
      have A_113 := Lib.hid (A_1.out.ext hx)
      have B_113 := Lib.hid (B_2.out.ext hx)
      have C_113 := Lib.hid (C_3.out.ext hx)
      have X_113 := Lib.hid (X_4.out.ext hx)
      clear A_1 B_2 C_3 X_4
      have wi_114 := Lib.hid hb0
      have n_115 := Lib.hid hb1
      clear hx hb0 hb1
      refine (shown_any _).mono ?_
      rintro e w116 ⟨rfl, hx⟩
      have A_117 := Lib.hid (A_113.out.ext hx)
      have B_117 := Lib.hid (B_113.out.ext hx)
      have C_117 := Lib.hid (C_113.out.ext hx)
      have X_117 := Lib.hid (X_113.out.ext hx)
      have wi_117 := Lib.hid (wi_114.out.ext hx)
      have n_117 := Lib.hid (n_115.out.ext hx)
      clear A_113 B_113 C_113 X_113 wi_114 n_115
      clear hx
      have qwi0 : w116.cell? ⟨w.heap.size, 0, none⟩ = some (.bool f1) := wi_117.out.at 0 _ rfl
      have qwi1 : w116.cell? ⟨w.heap.size, 1, none⟩ = some (.slice A1 l1.length c1) := wi_117.out.at 1 _ rfl
      have qwi2 : w116.cell? ⟨w.heap.size, 2, none⟩ = some (.int .i64 key) := wi_117.out.at 2 _ rfl
      have qwi3 : w116.cell? ⟨w.heap.size, 3, none⟩ = some (.slice A2 l2.length c2) := wi_117.out.at 3 _ rfl
      have qwi4 : w116.cell? ⟨w.heap.size, 4, none⟩ = some (.int .i64 at_) := wi_117.out.at 4 _ rfl
      have qwi5 : w116.cell? ⟨w.heap.size, 5, none⟩ = some (.int .i64 gone) := wi_117.out.at 5 _ rfl
      have qwi6 : w116.cell? ⟨w.heap.size, 6, none⟩ = some (.slice A3 l3.length c3) := wi_117.out.at 6 _ rfl
      have zwi := wi_117.out.lt
      have qn0 : w116.cell? ⟨w.heap.size + 1, 0, none⟩ = some (.bool f1) := n_117.out.at 0 _ rfl
      have qn1 : w116.cell? ⟨w.heap.size + 1, 1, none⟩ = some (.slice A1 l1.length c1) := n_117.out.at 1 _ rfl
      have zn := n_117.out.lt
      go_wp2_with (go_at_call 15; refine stop_here ?_)
      refine stop_on ?_
      clear qwi0 qwi1 qwi2 qwi3 qwi4 qwi5 qwi6 zwi qn0 qn1 zn
      refine (ref04Right_is f1 A1 l1 _ c1 _ rfl A_117.out Hr.out).mono ?_
      rintro e w118 ⟨rfl, hx⟩
      have A_119 := Lib.hid (A_117.out.ext hx)
      have B_119 := Lib.hid (B_117.out.ext hx)
      have C_119 := Lib.hid (C_117.out.ext hx)
      have X_119 := Lib.hid (X_117.out.ext hx)
      have wi_119 := Lib.hid (wi_117.out.ext hx)
      have n_119 := Lib.hid (n_117.out.ext hx)
      clear A_117 B_117 C_117 X_117 wi_117 n_117
      clear hx
      have zwi := wi_119.out.lt
      have qn0 : w118.cell? ⟨w.heap.size + 1, 0, none⟩ = some (.bool f1) := n_119.out.at 0 _ rfl
      have qn1 : w118.cell? ⟨w.heap.size + 1, 1, none⟩ = some (.slice A1 l1.length c1) := n_119.out.at 1 _ rfl
      have zn := n_119.out.lt
      go_wp2_with (go_at_call 19; refine stop_here ?_)
      refine stop_on ?_
      clear zwi qn0 qn1 zn
      refine (nodeAt_any f1 A1 l1 _ c1 key _ rfl Hr.out A_119.out).mono ?_
      rintro e w120 ⟨rfl, hx⟩
      have A_121 := Lib.hid (A_119.out.ext hx)
      have B_121 := Lib.hid (B_119.out.ext hx)
      have C_121 := Lib.hid (C_119.out.ext hx)
      have X_121 := Lib.hid (X_119.out.ext hx)
      have wi_121 := Lib.hid (wi_119.out.ext hx)
      have n_121 := Lib.hid (n_119.out.ext hx)
      clear A_119 B_119 C_119 X_119 wi_119 n_119
      clear hx
      have zwi := wi_121.out.lt
      have qn0 : w120.cell? ⟨w.heap.size + 1, 0, none⟩ = some (.bool f1) := n_121.out.at 0 _ rfl
      have qn1 : w120.cell? ⟨w.heap.size + 1, 1, none⟩ = some (.slice A1 l1.length c1) := n_121.out.at 1 _ rfl
      have zn := n_121.out.lt
      go_wp2_with (go_at_call 20; refine stop_here ?_)
      refine stop_on ?_
      clear zwi qn0 qn1 zn
      refine (ref04At_any f1 A1 l1 _ c1 key _ rfl Hr.out A_121.out).mono ?_
      rintro e w122 ⟨rfl, hx⟩
      have A_123 := Lib.hid (A_121.out.ext hx)
      have B_123 := Lib.hid (B_121.out.ext hx)
      have C_123 := Lib.hid (C_121.out.ext hx)
      have X_123 := Lib.hid (X_121.out.ext hx)
      have wi_123 := Lib.hid (wi_121.out.ext hx)
      have n_123 := Lib.hid (n_121.out.ext hx)
      clear A_121 B_121 C_121 X_121 wi_121 n_121
      clear hx
      have zwi := wi_123.out.lt
      have qn0 : w122.cell? ⟨w.heap.size + 1, 0, none⟩ = some (.bool f1) := n_123.out.at 0 _ rfl
      have qn1 : w122.cell? ⟨w.heap.size + 1, 1, none⟩ = some (.slice A1 l1.length c1) := n_123.out.at 1 _ rfl
      have zn := n_123.out.lt
      go_wp2_with (go_at_call 22; refine stop_here ?_)
      refine stop_on ?_
      clear zwi qn0 qn1 zn
      refine (nodeSplit_any A2 l2 _ c2 _ rfl (by omega) B_123.out).mono ?_
      rintro e w124 ⟨P, pc, rfl, h1, hx⟩
      have A_125 := Lib.hid (A_123.out.ext hx)
      have B_125 := Lib.hid (B_123.out.ext hx)
      have C_125 := Lib.hid (C_123.out.ext hx)
      have X_125 := Lib.hid (X_123.out.ext hx)
      have wi_125 := Lib.hid (wi_123.out.ext hx)
      have n_125 := Lib.hid (n_123.out.ext hx)
      clear A_123 B_123 C_123 X_123 wi_123 n_123
      have P_126 := Lib.hid h1
      clear hx h1
      have zwi := wi_125.out.lt
      have qn0 : w124.cell? ⟨w.heap.size + 1, 0, none⟩ = some (.bool f1) := n_125.out.at 0 _ rfl
      have qn1 : w124.cell? ⟨w.heap.size + 1, 1, none⟩ = some (.slice A1 l1.length c1) := n_125.out.at 1 _ rfl
      have zn := n_125.out.lt
      go_wp2_with (go_at_call 23; refine stop_here ?_)
      refine stop_on ?_
      clear zwi qn0 qn1 zn
      refine (ref04Split_rows A2 l2 _ c2 _ rfl (by omega) B_125.out).mono ?_
      rintro e w127 ⟨Q, qc, rfl, h1, hx⟩
      have A_128 := Lib.hid (A_125.out.ext hx)
      have B_128 := Lib.hid (B_125.out.ext hx)
      have C_128 := Lib.hid (C_125.out.ext hx)
      have X_128 := Lib.hid (X_125.out.ext hx)
      have wi_128 := Lib.hid (wi_125.out.ext hx)
      have n_128 := Lib.hid (n_125.out.ext hx)
      have P_128 := Lib.hid (P_126.out.ext hx)
      clear A_125 B_125 C_125 X_125 wi_125 n_125 P_126
      have Q_129 := Lib.hid h1
      clear hx h1
      have zwi := wi_128.out.lt
      have qn0 : w127.cell? ⟨w.heap.size + 1, 0, none⟩ = some (.bool f1) := n_128.out.at 0 _ rfl
      have qn1 : w127.cell? ⟨w.heap.size + 1, 1, none⟩ = some (.slice A1 l1.length c1) := n_128.out.at 1 _ rfl
      have zn := n_128.out.lt
      go_wp2_with (go_at_call 21; refine stop_here ?_)
      refine stop_on ?_
      clear zwi qn0 qn1 zn
      refine (ref04Rows_same P Q (splitS l2) _ pc qc _ HLS.out P_128.out Q_129.out).mono ?_
      rintro e w130 ⟨rfl, hx⟩
      have A_131 := Lib.hid (A_128.out.ext hx)
      have B_131 := Lib.hid (B_128.out.ext hx)
      have C_131 := Lib.hid (C_128.out.ext hx)
      have X_131 := Lib.hid (X_128.out.ext hx)
      have wi_131 := Lib.hid (wi_128.out.ext hx)
      have n_131 := Lib.hid (n_128.out.ext hx)
      have P_131 := Lib.hid (P_128.out.ext hx)
      have Q_131 := Lib.hid (Q_129.out.ext hx)
      clear A_128 B_128 C_128 X_128 wi_128 n_128 P_128 Q_129
      clear hx
      have zwi := wi_131.out.lt
      have qn0 : w130.cell? ⟨w.heap.size + 1, 0, none⟩ = some (.bool f1) := n_131.out.at 0 _ rfl
      have qn1 : w130.cell? ⟨w.heap.size + 1, 1, none⟩ = some (.slice A1 l1.length c1) := n_131.out.at 1 _ rfl
      have zn := n_131.out.lt
      go_wp2
      go_ret
      exact ⟨rfl, X_131.out⟩
    rcases Decidable.em (at_ ≤ (l2.length : Int)) with k131 | k131
    rotate_left
    · go_enter Try.func4, Try.ntmps4
      go_wp2_with (go_at_call 10; refine stop_here ?_)
      refine stop_on ?_
      generalize hW : (World.alloc (World.alloc w _) _) = W133
      obtain ⟨hx, hb0, hb1⟩ := allocs2 hW
      clear hW
      have A_134 := Lib.hid (A_1.out.ext hx)
      have B_134 := Lib.hid (B_2.out.ext hx)
      have C_134 := Lib.hid (C_3.out.ext hx)
      have X_134 := Lib.hid (X_4.out.ext hx)
      clear A_1 B_2 C_3 X_4
      have wi_135 := Lib.hid hb0
      have n_136 := Lib.hid hb1
      clear hx hb0 hb1
      refine (shown_any _).mono ?_
      rintro e w137 ⟨rfl, hx⟩
      have A_138 := Lib.hid (A_134.out.ext hx)
      have B_138 := Lib.hid (B_134.out.ext hx)
      have C_138 := Lib.hid (C_134.out.ext hx)
      have X_138 := Lib.hid (X_134.out.ext hx)
      have wi_138 := Lib.hid (wi_135.out.ext hx)
      have n_138 := Lib.hid (n_136.out.ext hx)
      clear A_134 B_134 C_134 X_134 wi_135 n_136
      clear hx
      have qwi0 : w137.cell? ⟨w.heap.size, 0, none⟩ = some (.bool f1) := wi_138.out.at 0 _ rfl
      have qwi1 : w137.cell? ⟨w.heap.size, 1, none⟩ = some (.slice A1 l1.length c1) := wi_138.out.at 1 _ rfl
      have qwi2 : w137.cell? ⟨w.heap.size, 2, none⟩ = some (.int .i64 key) := wi_138.out.at 2 _ rfl
      have qwi3 : w137.cell? ⟨w.heap.size, 3, none⟩ = some (.slice A2 l2.length c2) := wi_138.out.at 3 _ rfl
      have qwi4 : w137.cell? ⟨w.heap.size, 4, none⟩ = some (.int .i64 at_) := wi_138.out.at 4 _ rfl
      have qwi5 : w137.cell? ⟨w.heap.size, 5, none⟩ = some (.int .i64 gone) := wi_138.out.at 5 _ rfl
      have qwi6 : w137.cell? ⟨w.heap.size, 6, none⟩ = some (.slice A3 l3.length c3) := wi_138.out.at 6 _ rfl
      have zwi := wi_138.out.lt
      have qn0 : w137.cell? ⟨w.heap.size + 1, 0, none⟩ = some (.bool f1) := n_138.out.at 0 _ rfl
      have qn1 : w137.cell? ⟨w.heap.size + 1, 1, none⟩ = some (.slice A1 l1.length c1) := n_138.out.at 1 _ rfl
      have zn := n_138.out.lt
      go_wp2_with (go_at_call 15; refine stop_here ?_)
      refine stop_on ?_
      clear qwi0 qwi1 qwi2 qwi3 qwi4 qwi5 qwi6 zwi qn0 qn1 zn
      refine (ref04Right_is f1 A1 l1 _ c1 _ rfl A_138.out Hr.out).mono ?_
      rintro e w139 ⟨rfl, hx⟩
      have A_140 := Lib.hid (A_138.out.ext hx)
      have B_140 := Lib.hid (B_138.out.ext hx)
      have C_140 := Lib.hid (C_138.out.ext hx)
      have X_140 := Lib.hid (X_138.out.ext hx)
      have wi_140 := Lib.hid (wi_138.out.ext hx)
      have n_140 := Lib.hid (n_138.out.ext hx)
      clear A_138 B_138 C_138 X_138 wi_138 n_138
      clear hx
      have zwi := wi_140.out.lt
      have qn0 : w139.cell? ⟨w.heap.size + 1, 0, none⟩ = some (.bool f1) := n_140.out.at 0 _ rfl
      have qn1 : w139.cell? ⟨w.heap.size + 1, 1, none⟩ = some (.slice A1 l1.length c1) := n_140.out.at 1 _ rfl
      have zn := n_140.out.lt
      go_wp2_with (go_at_call 19; refine stop_here ?_)
      refine stop_on ?_
      clear zwi qn0 qn1 zn
      refine (nodeAt_any f1 A1 l1 _ c1 key _ rfl Hr.out A_140.out).mono ?_
      rintro e w141 ⟨rfl, hx⟩
      have A_142 := Lib.hid (A_140.out.ext hx)
      have B_142 := Lib.hid (B_140.out.ext hx)
      have C_142 := Lib.hid (C_140.out.ext hx)
      have X_142 := Lib.hid (X_140.out.ext hx)
      have wi_142 := Lib.hid (wi_140.out.ext hx)
      have n_142 := Lib.hid (n_140.out.ext hx)
      clear A_140 B_140 C_140 X_140 wi_140 n_140
      clear hx
      have zwi := wi_142.out.lt
      have qn0 : w141.cell? ⟨w.heap.size + 1, 0, none⟩ = some (.bool f1) := n_142.out.at 0 _ rfl
      have qn1 : w141.cell? ⟨w.heap.size + 1, 1, none⟩ = some (.slice A1 l1.length c1) := n_142.out.at 1 _ rfl
      have zn := n_142.out.lt
      go_wp2_with (go_at_call 20; refine stop_here ?_)
      refine stop_on ?_
      clear zwi qn0 qn1 zn
      refine (ref04At_any f1 A1 l1 _ c1 key _ rfl Hr.out A_142.out).mono ?_
      rintro e w143 ⟨rfl, hx⟩
      have A_144 := Lib.hid (A_142.out.ext hx)
      have B_144 := Lib.hid (B_142.out.ext hx)
      have C_144 := Lib.hid (C_142.out.ext hx)
      have X_144 := Lib.hid (X_142.out.ext hx)
      have wi_144 := Lib.hid (wi_142.out.ext hx)
      have n_144 := Lib.hid (n_142.out.ext hx)
      clear A_142 B_142 C_142 X_142 wi_142 n_142
      clear hx
      have zwi := wi_144.out.lt
      have qn0 : w143.cell? ⟨w.heap.size + 1, 0, none⟩ = some (.bool f1) := n_144.out.at 0 _ rfl
      have qn1 : w143.cell? ⟨w.heap.size + 1, 1, none⟩ = some (.slice A1 l1.length c1) := n_144.out.at 1 _ rfl
      have zn := n_144.out.lt
      go_wp2_with (go_at_call 22; refine stop_here ?_)
      refine stop_on ?_
      clear zwi qn0 qn1 zn
      refine (nodeSplit_any A2 l2 _ c2 _ rfl (by omega) B_144.out).mono ?_
      rintro e w145 ⟨P, pc, rfl, h1, hx⟩
      have A_146 := Lib.hid (A_144.out.ext hx)
      have B_146 := Lib.hid (B_144.out.ext hx)
      have C_146 := Lib.hid (C_144.out.ext hx)
      have X_146 := Lib.hid (X_144.out.ext hx)
      have wi_146 := Lib.hid (wi_144.out.ext hx)
      have n_146 := Lib.hid (n_144.out.ext hx)
      clear A_144 B_144 C_144 X_144 wi_144 n_144
      have P_147 := Lib.hid h1
      clear hx h1
      have zwi := wi_146.out.lt
      have qn0 : w145.cell? ⟨w.heap.size + 1, 0, none⟩ = some (.bool f1) := n_146.out.at 0 _ rfl
      have qn1 : w145.cell? ⟨w.heap.size + 1, 1, none⟩ = some (.slice A1 l1.length c1) := n_146.out.at 1 _ rfl
      have zn := n_146.out.lt
      go_wp2_with (go_at_call 23; refine stop_here ?_)
      refine stop_on ?_
      clear zwi qn0 qn1 zn
      refine (ref04Split_rows A2 l2 _ c2 _ rfl (by omega) B_146.out).mono ?_
      rintro e w148 ⟨Q, qc, rfl, h1, hx⟩
      have A_149 := Lib.hid (A_146.out.ext hx)
      have B_149 := Lib.hid (B_146.out.ext hx)
      have C_149 := Lib.hid (C_146.out.ext hx)
      have X_149 := Lib.hid (X_146.out.ext hx)
      have wi_149 := Lib.hid (wi_146.out.ext hx)
      have n_149 := Lib.hid (n_146.out.ext hx)
      have P_149 := Lib.hid (P_147.out.ext hx)
      clear A_146 B_146 C_146 X_146 wi_146 n_146 P_147
      have Q_150 := Lib.hid h1
      clear hx h1
      have zwi := wi_149.out.lt
      have qn0 : w148.cell? ⟨w.heap.size + 1, 0, none⟩ = some (.bool f1) := n_149.out.at 0 _ rfl
      have qn1 : w148.cell? ⟨w.heap.size + 1, 1, none⟩ = some (.slice A1 l1.length c1) := n_149.out.at 1 _ rfl
      have zn := n_149.out.lt
      go_wp2_with (go_at_call 21; refine stop_here ?_)
      refine stop_on ?_
      clear zwi qn0 qn1 zn
      refine (ref04Rows_same P Q (splitS l2) _ pc qc _ HLS.out P_149.out Q_150.out).mono ?_
      rintro e w151 ⟨rfl, hx⟩
      have A_152 := Lib.hid (A_149.out.ext hx)
      have B_152 := Lib.hid (B_149.out.ext hx)
      have C_152 := Lib.hid (C_149.out.ext hx)
      have X_152 := Lib.hid (X_149.out.ext hx)
      have wi_152 := Lib.hid (wi_149.out.ext hx)
      have n_152 := Lib.hid (n_149.out.ext hx)
      have P_152 := Lib.hid (P_149.out.ext hx)
      have Q_152 := Lib.hid (Q_150.out.ext hx)
      clear A_149 B_149 C_149 X_149 wi_149 n_149 P_149 Q_150
      clear hx
      have zwi := wi_152.out.lt
      have qn0 : w151.cell? ⟨w.heap.size + 1, 0, none⟩ = some (.bool f1) := n_152.out.at 0 _ rfl
      have qn1 : w151.cell? ⟨w.heap.size + 1, 1, none⟩ = some (.slice A1 l1.length c1) := n_152.out.at 1 _ rfl
      have zn := n_152.out.lt
      go_wp2
      go_ret
      exact ⟨rfl, X_152.out⟩
    rcases Decidable.em (0 ≤ gone) with k152 | k152
    rotate_left
    · go_enter Try.func4, Try.ntmps4
      go_wp2_with (go_at_call 10; refine stop_here ?_)
      refine stop_on ?_
      generalize hW : (World.alloc (World.alloc w _) _) = W154
      obtain ⟨hx, hb0, hb1⟩ := allocs2 hW
      clear hW
      have A_155 := Lib.hid (A_1.out.ext hx)
      have B_155 := Lib.hid (B_2.out.ext hx)
      have C_155 := Lib.hid (C_3.out.ext hx)
      have X_155 := Lib.hid (X_4.out.ext hx)
      clear A_1 B_2 C_3 X_4
      have wi_156 := Lib.hid hb0
      have n_157 := Lib.hid hb1
      clear hx hb0 hb1
      refine (shown_any _).mono ?_
      rintro e w158 ⟨rfl, hx⟩
      have A_159 := Lib.hid (A_155.out.ext hx)
      have B_159 := Lib.hid (B_155.out.ext hx)
      have C_159 := Lib.hid (C_155.out.ext hx)
      have X_159 := Lib.hid (X_155.out.ext hx)
      have wi_159 := Lib.hid (wi_156.out.ext hx)
      have n_159 := Lib.hid (n_157.out.ext hx)
      clear A_155 B_155 C_155 X_155 wi_156 n_157
      clear hx
      have qwi0 : w158.cell? ⟨w.heap.size, 0, none⟩ = some (.bool f1) := wi_159.out.at 0 _ rfl
      have qwi1 : w158.cell? ⟨w.heap.size, 1, none⟩ = some (.slice A1 l1.length c1) := wi_159.out.at 1 _ rfl
      have qwi2 : w158.cell? ⟨w.heap.size, 2, none⟩ = some (.int .i64 key) := wi_159.out.at 2 _ rfl
      have qwi3 : w158.cell? ⟨w.heap.size, 3, none⟩ = some (.slice A2 l2.length c2) := wi_159.out.at 3 _ rfl
      have qwi4 : w158.cell? ⟨w.heap.size, 4, none⟩ = some (.int .i64 at_) := wi_159.out.at 4 _ rfl
      have qwi5 : w158.cell? ⟨w.heap.size, 5, none⟩ = some (.int .i64 gone) := wi_159.out.at 5 _ rfl
      have qwi6 : w158.cell? ⟨w.heap.size, 6, none⟩ = some (.slice A3 l3.length c3) := wi_159.out.at 6 _ rfl
      have zwi := wi_159.out.lt
      have qn0 : w158.cell? ⟨w.heap.size + 1, 0, none⟩ = some (.bool f1) := n_159.out.at 0 _ rfl
      have qn1 : w158.cell? ⟨w.heap.size + 1, 1, none⟩ = some (.slice A1 l1.length c1) := n_159.out.at 1 _ rfl
      have zn := n_159.out.lt
      go_wp2_with (go_at_call 15; refine stop_here ?_)
      refine stop_on ?_
      clear qwi0 qwi1 qwi2 qwi3 qwi4 qwi5 qwi6 zwi qn0 qn1 zn
      refine (ref04Right_is f1 A1 l1 _ c1 _ rfl A_159.out Hr.out).mono ?_
      rintro e w160 ⟨rfl, hx⟩
      have A_161 := Lib.hid (A_159.out.ext hx)
      have B_161 := Lib.hid (B_159.out.ext hx)
      have C_161 := Lib.hid (C_159.out.ext hx)
      have X_161 := Lib.hid (X_159.out.ext hx)
      have wi_161 := Lib.hid (wi_159.out.ext hx)
      have n_161 := Lib.hid (n_159.out.ext hx)
      clear A_159 B_159 C_159 X_159 wi_159 n_159
      clear hx
      have zwi := wi_161.out.lt
      have qn0 : w160.cell? ⟨w.heap.size + 1, 0, none⟩ = some (.bool f1) := n_161.out.at 0 _ rfl
      have qn1 : w160.cell? ⟨w.heap.size + 1, 1, none⟩ = some (.slice A1 l1.length c1) := n_161.out.at 1 _ rfl
      have zn := n_161.out.lt
      go_wp2_with (go_at_call 19; refine stop_here ?_)
      refine stop_on ?_
      clear zwi qn0 qn1 zn
      refine (nodeAt_any f1 A1 l1 _ c1 key _ rfl Hr.out A_161.out).mono ?_
      rintro e w162 ⟨rfl, hx⟩
      have A_163 := Lib.hid (A_161.out.ext hx)
      have B_163 := Lib.hid (B_161.out.ext hx)
      have C_163 := Lib.hid (C_161.out.ext hx)
      have X_163 := Lib.hid (X_161.out.ext hx)
      have wi_163 := Lib.hid (wi_161.out.ext hx)
      have n_163 := Lib.hid (n_161.out.ext hx)
      clear A_161 B_161 C_161 X_161 wi_161 n_161
      clear hx
      have zwi := wi_163.out.lt
      have qn0 : w162.cell? ⟨w.heap.size + 1, 0, none⟩ = some (.bool f1) := n_163.out.at 0 _ rfl
      have qn1 : w162.cell? ⟨w.heap.size + 1, 1, none⟩ = some (.slice A1 l1.length c1) := n_163.out.at 1 _ rfl
      have zn := n_163.out.lt
      go_wp2_with (go_at_call 20; refine stop_here ?_)
      refine stop_on ?_
      clear zwi qn0 qn1 zn
      refine (ref04At_any f1 A1 l1 _ c1 key _ rfl Hr.out A_163.out).mono ?_
      rintro e w164 ⟨rfl, hx⟩
      have A_165 := Lib.hid (A_163.out.ext hx)
      have B_165 := Lib.hid (B_163.out.ext hx)
      have C_165 := Lib.hid (C_163.out.ext hx)
      have X_165 := Lib.hid (X_163.out.ext hx)
      have wi_165 := Lib.hid (wi_163.out.ext hx)
      have n_165 := Lib.hid (n_163.out.ext hx)
      clear A_163 B_163 C_163 X_163 wi_163 n_163
      clear hx
      have zwi := wi_165.out.lt
      have qn0 : w164.cell? ⟨w.heap.size + 1, 0, none⟩ = some (.bool f1) := n_165.out.at 0 _ rfl
      have qn1 : w164.cell? ⟨w.heap.size + 1, 1, none⟩ = some (.slice A1 l1.length c1) := n_165.out.at 1 _ rfl
      have zn := n_165.out.lt
      go_wp2_with (go_at_call 22; refine stop_here ?_)
      refine stop_on ?_
      clear zwi qn0 qn1 zn
      refine (nodeSplit_any A2 l2 _ c2 _ rfl (by omega) B_165.out).mono ?_
      rintro e w166 ⟨P, pc, rfl, h1, hx⟩
      have A_167 := Lib.hid (A_165.out.ext hx)
      have B_167 := Lib.hid (B_165.out.ext hx)
      have C_167 := Lib.hid (C_165.out.ext hx)
      have X_167 := Lib.hid (X_165.out.ext hx)
      have wi_167 := Lib.hid (wi_165.out.ext hx)
      have n_167 := Lib.hid (n_165.out.ext hx)
      clear A_165 B_165 C_165 X_165 wi_165 n_165
      have P_168 := Lib.hid h1
      clear hx h1
      have zwi := wi_167.out.lt
      have qn0 : w166.cell? ⟨w.heap.size + 1, 0, none⟩ = some (.bool f1) := n_167.out.at 0 _ rfl
      have qn1 : w166.cell? ⟨w.heap.size + 1, 1, none⟩ = some (.slice A1 l1.length c1) := n_167.out.at 1 _ rfl
      have zn := n_167.out.lt
      go_wp2_with (go_at_call 23; refine stop_here ?_)
      refine stop_on ?_
      clear zwi qn0 qn1 zn
      refine (ref04Split_rows A2 l2 _ c2 _ rfl (by omega) B_167.out).mono ?_
      rintro e w169 ⟨Q, qc, rfl, h1, hx⟩
      have A_170 := Lib.hid (A_167.out.ext hx)
      have B_170 := Lib.hid (B_167.out.ext hx)
      have C_170 := Lib.hid (C_167.out.ext hx)
      have X_170 := Lib.hid (X_167.out.ext hx)
      have wi_170 := Lib.hid (wi_167.out.ext hx)
      have n_170 := Lib.hid (n_167.out.ext hx)
      have P_170 := Lib.hid (P_168.out.ext hx)
      clear A_167 B_167 C_167 X_167 wi_167 n_167 P_168
      have Q_171 := Lib.hid h1
      clear hx h1
      have zwi := wi_170.out.lt
      have qn0 : w169.cell? ⟨w.heap.size + 1, 0, none⟩ = some (.bool f1) := n_170.out.at 0 _ rfl
      have qn1 : w169.cell? ⟨w.heap.size + 1, 1, none⟩ = some (.slice A1 l1.length c1) := n_170.out.at 1 _ rfl
      have zn := n_170.out.lt
      go_wp2_with (go_at_call 21; refine stop_here ?_)
      refine stop_on ?_
      clear zwi qn0 qn1 zn
      refine (ref04Rows_same P Q (splitS l2) _ pc qc _ HLS.out P_170.out Q_171.out).mono ?_
      rintro e w172 ⟨rfl, hx⟩
      have A_173 := Lib.hid (A_170.out.ext hx)
      have B_173 := Lib.hid (B_170.out.ext hx)
      have C_173 := Lib.hid (C_170.out.ext hx)
      have X_173 := Lib.hid (X_170.out.ext hx)
      have wi_173 := Lib.hid (wi_170.out.ext hx)
      have n_173 := Lib.hid (n_170.out.ext hx)
      have P_173 := Lib.hid (P_170.out.ext hx)
      have Q_173 := Lib.hid (Q_171.out.ext hx)
      clear A_170 B_170 C_170 X_170 wi_170 n_170 P_170 Q_171
      clear hx
      have zwi := wi_173.out.lt
      have qn0 : w172.cell? ⟨w.heap.size + 1, 0, none⟩ = some (.bool f1) := n_173.out.at 0 _ rfl
      have qn1 : w172.cell? ⟨w.heap.size + 1, 1, none⟩ = some (.slice A1 l1.length c1) := n_173.out.at 1 _ rfl
      have zn := n_173.out.lt
      go_wp2
      go_ret
      exact ⟨rfl, X_173.out⟩
    rcases Decidable.em (gone ≤ (l2.length : Int) - at_) with k173 | k173
    rotate_left
    · go_enter Try.func4, Try.ntmps4
      go_wp2_with (go_at_call 10; refine stop_here ?_)
      refine stop_on ?_
      generalize hW : (World.alloc (World.alloc w _) _) = W175
      obtain ⟨hx, hb0, hb1⟩ := allocs2 hW
      clear hW
      have A_176 := Lib.hid (A_1.out.ext hx)
      have B_176 := Lib.hid (B_2.out.ext hx)
      have C_176 := Lib.hid (C_3.out.ext hx)
      have X_176 := Lib.hid (X_4.out.ext hx)
      clear A_1 B_2 C_3 X_4
      have wi_177 := Lib.hid hb0
      have n_178 := Lib.hid hb1
      clear hx hb0 hb1
      refine (shown_any _).mono ?_
      rintro e w179 ⟨rfl, hx⟩
      have A_180 := Lib.hid (A_176.out.ext hx)
      have B_180 := Lib.hid (B_176.out.ext hx)
      have C_180 := Lib.hid (C_176.out.ext hx)
      have X_180 := Lib.hid (X_176.out.ext hx)
      have wi_180 := Lib.hid (wi_177.out.ext hx)
      have n_180 := Lib.hid (n_178.out.ext hx)
      clear A_176 B_176 C_176 X_176 wi_177 n_178
      clear hx
      have qwi0 : w179.cell? ⟨w.heap.size, 0, none⟩ = some (.bool f1) := wi_180.out.at 0 _ rfl
      have qwi1 : w179.cell? ⟨w.heap.size, 1, none⟩ = some (.slice A1 l1.length c1) := wi_180.out.at 1 _ rfl
      have qwi2 : w179.cell? ⟨w.heap.size, 2, none⟩ = some (.int .i64 key) := wi_180.out.at 2 _ rfl
      have qwi3 : w179.cell? ⟨w.heap.size, 3, none⟩ = some (.slice A2 l2.length c2) := wi_180.out.at 3 _ rfl
      have qwi4 : w179.cell? ⟨w.heap.size, 4, none⟩ = some (.int .i64 at_) := wi_180.out.at 4 _ rfl
      have qwi5 : w179.cell? ⟨w.heap.size, 5, none⟩ = some (.int .i64 gone) := wi_180.out.at 5 _ rfl
      have qwi6 : w179.cell? ⟨w.heap.size, 6, none⟩ = some (.slice A3 l3.length c3) := wi_180.out.at 6 _ rfl
      have zwi := wi_180.out.lt
      have qn0 : w179.cell? ⟨w.heap.size + 1, 0, none⟩ = some (.bool f1) := n_180.out.at 0 _ rfl
      have qn1 : w179.cell? ⟨w.heap.size + 1, 1, none⟩ = some (.slice A1 l1.length c1) := n_180.out.at 1 _ rfl
      have zn := n_180.out.lt
      go_wp2_with (go_at_call 15; refine stop_here ?_)
      refine stop_on ?_
      clear qwi0 qwi1 qwi2 qwi3 qwi4 qwi5 qwi6 zwi qn0 qn1 zn
      refine (ref04Right_is f1 A1 l1 _ c1 _ rfl A_180.out Hr.out).mono ?_
      rintro e w181 ⟨rfl, hx⟩
      have A_182 := Lib.hid (A_180.out.ext hx)
      have B_182 := Lib.hid (B_180.out.ext hx)
      have C_182 := Lib.hid (C_180.out.ext hx)
      have X_182 := Lib.hid (X_180.out.ext hx)
      have wi_182 := Lib.hid (wi_180.out.ext hx)
      have n_182 := Lib.hid (n_180.out.ext hx)
      clear A_180 B_180 C_180 X_180 wi_180 n_180
      clear hx
      have zwi := wi_182.out.lt
      have qn0 : w181.cell? ⟨w.heap.size + 1, 0, none⟩ = some (.bool f1) := n_182.out.at 0 _ rfl
      have qn1 : w181.cell? ⟨w.heap.size + 1, 1, none⟩ = some (.slice A1 l1.length c1) := n_182.out.at 1 _ rfl
      have zn := n_182.out.lt
      go_wp2_with (go_at_call 19; refine stop_here ?_)
      refine stop_on ?_
      clear zwi qn0 qn1 zn
      refine (nodeAt_any f1 A1 l1 _ c1 key _ rfl Hr.out A_182.out).mono ?_
      rintro e w183 ⟨rfl, hx⟩
      have A_184 := Lib.hid (A_182.out.ext hx)
      have B_184 := Lib.hid (B_182.out.ext hx)
      have C_184 := Lib.hid (C_182.out.ext hx)
      have X_184 := Lib.hid (X_182.out.ext hx)
      have wi_184 := Lib.hid (wi_182.out.ext hx)
      have n_184 := Lib.hid (n_182.out.ext hx)
      clear A_182 B_182 C_182 X_182 wi_182 n_182
      clear hx
      have zwi := wi_184.out.lt
      have qn0 : w183.cell? ⟨w.heap.size + 1, 0, none⟩ = some (.bool f1) := n_184.out.at 0 _ rfl
      have qn1 : w183.cell? ⟨w.heap.size + 1, 1, none⟩ = some (.slice A1 l1.length c1) := n_184.out.at 1 _ rfl
      have zn := n_184.out.lt
      go_wp2_with (go_at_call 20; refine stop_here ?_)
      refine stop_on ?_
      clear zwi qn0 qn1 zn
      refine (ref04At_any f1 A1 l1 _ c1 key _ rfl Hr.out A_184.out).mono ?_
      rintro e w185 ⟨rfl, hx⟩
      have A_186 := Lib.hid (A_184.out.ext hx)
      have B_186 := Lib.hid (B_184.out.ext hx)
      have C_186 := Lib.hid (C_184.out.ext hx)
      have X_186 := Lib.hid (X_184.out.ext hx)
      have wi_186 := Lib.hid (wi_184.out.ext hx)
      have n_186 := Lib.hid (n_184.out.ext hx)
      clear A_184 B_184 C_184 X_184 wi_184 n_184
      clear hx
      have zwi := wi_186.out.lt
      have qn0 : w185.cell? ⟨w.heap.size + 1, 0, none⟩ = some (.bool f1) := n_186.out.at 0 _ rfl
      have qn1 : w185.cell? ⟨w.heap.size + 1, 1, none⟩ = some (.slice A1 l1.length c1) := n_186.out.at 1 _ rfl
      have zn := n_186.out.lt
      go_wp2_with (go_at_call 22; refine stop_here ?_)
      refine stop_on ?_
      clear zwi qn0 qn1 zn
      refine (nodeSplit_any A2 l2 _ c2 _ rfl (by omega) B_186.out).mono ?_
      rintro e w187 ⟨P, pc, rfl, h1, hx⟩
      have A_188 := Lib.hid (A_186.out.ext hx)
      have B_188 := Lib.hid (B_186.out.ext hx)
      have C_188 := Lib.hid (C_186.out.ext hx)
      have X_188 := Lib.hid (X_186.out.ext hx)
      have wi_188 := Lib.hid (wi_186.out.ext hx)
      have n_188 := Lib.hid (n_186.out.ext hx)
      clear A_186 B_186 C_186 X_186 wi_186 n_186
      have P_189 := Lib.hid h1
      clear hx h1
      have zwi := wi_188.out.lt
      have qn0 : w187.cell? ⟨w.heap.size + 1, 0, none⟩ = some (.bool f1) := n_188.out.at 0 _ rfl
      have qn1 : w187.cell? ⟨w.heap.size + 1, 1, none⟩ = some (.slice A1 l1.length c1) := n_188.out.at 1 _ rfl
      have zn := n_188.out.lt
      go_wp2_with (go_at_call 23; refine stop_here ?_)
      refine stop_on ?_
      clear zwi qn0 qn1 zn
      refine (ref04Split_rows A2 l2 _ c2 _ rfl (by omega) B_188.out).mono ?_
      rintro e w190 ⟨Q, qc, rfl, h1, hx⟩
      have A_191 := Lib.hid (A_188.out.ext hx)
      have B_191 := Lib.hid (B_188.out.ext hx)
      have C_191 := Lib.hid (C_188.out.ext hx)
      have X_191 := Lib.hid (X_188.out.ext hx)
      have wi_191 := Lib.hid (wi_188.out.ext hx)
      have n_191 := Lib.hid (n_188.out.ext hx)
      have P_191 := Lib.hid (P_189.out.ext hx)
      clear A_188 B_188 C_188 X_188 wi_188 n_188 P_189
      have Q_192 := Lib.hid h1
      clear hx h1
      have zwi := wi_191.out.lt
      have qn0 : w190.cell? ⟨w.heap.size + 1, 0, none⟩ = some (.bool f1) := n_191.out.at 0 _ rfl
      have qn1 : w190.cell? ⟨w.heap.size + 1, 1, none⟩ = some (.slice A1 l1.length c1) := n_191.out.at 1 _ rfl
      have zn := n_191.out.lt
      go_wp2_with (go_at_call 21; refine stop_here ?_)
      refine stop_on ?_
      clear zwi qn0 qn1 zn
      refine (ref04Rows_same P Q (splitS l2) _ pc qc _ HLS.out P_191.out Q_192.out).mono ?_
      rintro e w193 ⟨rfl, hx⟩
      have A_194 := Lib.hid (A_191.out.ext hx)
      have B_194 := Lib.hid (B_191.out.ext hx)
      have C_194 := Lib.hid (C_191.out.ext hx)
      have X_194 := Lib.hid (X_191.out.ext hx)
      have wi_194 := Lib.hid (wi_191.out.ext hx)
      have n_194 := Lib.hid (n_191.out.ext hx)
      have P_194 := Lib.hid (P_191.out.ext hx)
      have Q_194 := Lib.hid (Q_192.out.ext hx)
      clear A_191 B_191 C_191 X_191 wi_191 n_191 P_191 Q_192
      clear hx
      have zwi := wi_194.out.lt
      have qn0 : w193.cell? ⟨w.heap.size + 1, 0, none⟩ = some (.bool f1) := n_194.out.at 0 _ rfl
      have qn1 : w193.cell? ⟨w.heap.size + 1, 1, none⟩ = some (.slice A1 l1.length c1) := n_194.out.at 1 _ rfl
      have zn := n_194.out.lt
      go_wp2
      go_ret
      exact ⟨rfl, X_194.out⟩
    obtain ⟨a, rfl⟩ := Int.eq_ofNat_of_zero_le (show 0 ≤ at_ by omega)
    obtain ⟨g, rfl⟩ := Int.eq_ofNat_of_zero_le (show 0 ≤ gone by omega)
    have hag1 : a ≤ l2.length := by omega
    have hag2 : a + g ≤ l2.length := by omega
    have HWL := Lib.hid (withS_len (l := l2) (more := l3) (a := a) (g := g) rfl rfl hag2)
    go_enter Try.func4, Try.ntmps4
    go_wp2_with (go_at_call 10; refine stop_here ?_)
    refine stop_on ?_
    generalize hW : (World.alloc (World.alloc w _) _) = W195
    obtain ⟨hx, hb0, hb1⟩ := allocs2 hW
    clear hW
    have A_196 := Lib.hid (A_1.out.ext hx)
    have B_196 := Lib.hid (B_2.out.ext hx)
    have C_196 := Lib.hid (C_3.out.ext hx)
    have X_196 := Lib.hid (X_4.out.ext hx)
    clear A_1 B_2 C_3 X_4
    have wi_197 := Lib.hid hb0
    have n_198 := Lib.hid hb1
    clear hx hb0 hb1
    refine (shown_any _).mono ?_
    rintro e w199 ⟨rfl, hx⟩
    have A_200 := Lib.hid (A_196.out.ext hx)
    have B_200 := Lib.hid (B_196.out.ext hx)
    have C_200 := Lib.hid (C_196.out.ext hx)
    have X_200 := Lib.hid (X_196.out.ext hx)
    have wi_200 := Lib.hid (wi_197.out.ext hx)
    have n_200 := Lib.hid (n_198.out.ext hx)
    clear A_196 B_196 C_196 X_196 wi_197 n_198
    clear hx
    have qwi0 : w199.cell? ⟨w.heap.size, 0, none⟩ = some (.bool f1) := wi_200.out.at 0 _ rfl
    have qwi1 : w199.cell? ⟨w.heap.size, 1, none⟩ = some (.slice A1 l1.length c1) := wi_200.out.at 1 _ rfl
    have qwi2 : w199.cell? ⟨w.heap.size, 2, none⟩ = some (.int .i64 key) := wi_200.out.at 2 _ rfl
    have qwi3 : w199.cell? ⟨w.heap.size, 3, none⟩ = some (.slice A2 l2.length c2) := wi_200.out.at 3 _ rfl
    have qwi4 : w199.cell? ⟨w.heap.size, 4, none⟩ = some (.int .i64 (a : Nat)) := wi_200.out.at 4 _ rfl
    have qwi5 : w199.cell? ⟨w.heap.size, 5, none⟩ = some (.int .i64 (g : Nat)) := wi_200.out.at 5 _ rfl
    have qwi6 : w199.cell? ⟨w.heap.size, 6, none⟩ = some (.slice A3 l3.length c3) := wi_200.out.at 6 _ rfl
    have zwi := wi_200.out.lt
    have qn0 : w199.cell? ⟨w.heap.size + 1, 0, none⟩ = some (.bool f1) := n_200.out.at 0 _ rfl
    have qn1 : w199.cell? ⟨w.heap.size + 1, 1, none⟩ = some (.slice A1 l1.length c1) := n_200.out.at 1 _ rfl
    have zn := n_200.out.lt
    go_wp2_with (go_at_call 15; refine stop_here ?_)
    refine stop_on ?_
    clear qwi0 qwi1 qwi2 qwi3 qwi4 qwi5 qwi6 zwi qn0 qn1 zn
    refine (ref04Right_is f1 A1 l1 _ c1 _ rfl A_200.out Hr.out).mono ?_
    rintro e w201 ⟨rfl, hx⟩
    have A_202 := Lib.hid (A_200.out.ext hx)
    have B_202 := Lib.hid (B_200.out.ext hx)
    have C_202 := Lib.hid (C_200.out.ext hx)
    have X_202 := Lib.hid (X_200.out.ext hx)
    have wi_202 := Lib.hid (wi_200.out.ext hx)
    have n_202 := Lib.hid (n_200.out.ext hx)
    clear A_200 B_200 C_200 X_200 wi_200 n_200
    clear hx
    have zwi := wi_202.out.lt
    have qn0 : w201.cell? ⟨w.heap.size + 1, 0, none⟩ = some (.bool f1) := n_202.out.at 0 _ rfl
    have qn1 : w201.cell? ⟨w.heap.size + 1, 1, none⟩ = some (.slice A1 l1.length c1) := n_202.out.at 1 _ rfl
    have zn := n_202.out.lt
    go_wp2_with (go_at_call 19; refine stop_here ?_)
    refine stop_on ?_
    clear zwi qn0 qn1 zn
    refine (nodeAt_any f1 A1 l1 _ c1 key _ rfl Hr.out A_202.out).mono ?_
    rintro e w203 ⟨rfl, hx⟩
    have A_204 := Lib.hid (A_202.out.ext hx)
    have B_204 := Lib.hid (B_202.out.ext hx)
    have C_204 := Lib.hid (C_202.out.ext hx)
    have X_204 := Lib.hid (X_202.out.ext hx)
    have wi_204 := Lib.hid (wi_202.out.ext hx)
    have n_204 := Lib.hid (n_202.out.ext hx)
    clear A_202 B_202 C_202 X_202 wi_202 n_202
    clear hx
    have zwi := wi_204.out.lt
    have qn0 : w203.cell? ⟨w.heap.size + 1, 0, none⟩ = some (.bool f1) := n_204.out.at 0 _ rfl
    have qn1 : w203.cell? ⟨w.heap.size + 1, 1, none⟩ = some (.slice A1 l1.length c1) := n_204.out.at 1 _ rfl
    have zn := n_204.out.lt
    go_wp2_with (go_at_call 20; refine stop_here ?_)
    refine stop_on ?_
    clear zwi qn0 qn1 zn
    refine (ref04At_any f1 A1 l1 _ c1 key _ rfl Hr.out A_204.out).mono ?_
    rintro e w205 ⟨rfl, hx⟩
    have A_206 := Lib.hid (A_204.out.ext hx)
    have B_206 := Lib.hid (B_204.out.ext hx)
    have C_206 := Lib.hid (C_204.out.ext hx)
    have X_206 := Lib.hid (X_204.out.ext hx)
    have wi_206 := Lib.hid (wi_204.out.ext hx)
    have n_206 := Lib.hid (n_204.out.ext hx)
    clear A_204 B_204 C_204 X_204 wi_204 n_204
    clear hx
    have zwi := wi_206.out.lt
    have qn0 : w205.cell? ⟨w.heap.size + 1, 0, none⟩ = some (.bool f1) := n_206.out.at 0 _ rfl
    have qn1 : w205.cell? ⟨w.heap.size + 1, 1, none⟩ = some (.slice A1 l1.length c1) := n_206.out.at 1 _ rfl
    have zn := n_206.out.lt
    go_wp2_with (go_at_call 22; refine stop_here ?_)
    refine stop_on ?_
    clear zwi qn0 qn1 zn
    refine (nodeSplit_any A2 l2 _ c2 _ rfl (by omega) B_206.out).mono ?_
    rintro e w207 ⟨P, pc, rfl, h1, hx⟩
    have A_208 := Lib.hid (A_206.out.ext hx)
    have B_208 := Lib.hid (B_206.out.ext hx)
    have C_208 := Lib.hid (C_206.out.ext hx)
    have X_208 := Lib.hid (X_206.out.ext hx)
    have wi_208 := Lib.hid (wi_206.out.ext hx)
    have n_208 := Lib.hid (n_206.out.ext hx)
    clear A_206 B_206 C_206 X_206 wi_206 n_206
    have P_209 := Lib.hid h1
    clear hx h1
    have zwi := wi_208.out.lt
    have qn0 : w207.cell? ⟨w.heap.size + 1, 0, none⟩ = some (.bool f1) := n_208.out.at 0 _ rfl
    have qn1 : w207.cell? ⟨w.heap.size + 1, 1, none⟩ = some (.slice A1 l1.length c1) := n_208.out.at 1 _ rfl
    have zn := n_208.out.lt
    go_wp2_with (go_at_call 23; refine stop_here ?_)
    refine stop_on ?_
    clear zwi qn0 qn1 zn
    refine (ref04Split_rows A2 l2 _ c2 _ rfl (by omega) B_208.out).mono ?_
    rintro e w210 ⟨Q, qc, rfl, h1, hx⟩
    have A_211 := Lib.hid (A_208.out.ext hx)
    have B_211 := Lib.hid (B_208.out.ext hx)
    have C_211 := Lib.hid (C_208.out.ext hx)
    have X_211 := Lib.hid (X_208.out.ext hx)
    have wi_211 := Lib.hid (wi_208.out.ext hx)
    have n_211 := Lib.hid (n_208.out.ext hx)
    have P_211 := Lib.hid (P_209.out.ext hx)
    clear A_208 B_208 C_208 X_208 wi_208 n_208 P_209
    have Q_212 := Lib.hid h1
    clear hx h1
    have zwi := wi_211.out.lt
    have qn0 : w210.cell? ⟨w.heap.size + 1, 0, none⟩ = some (.bool f1) := n_211.out.at 0 _ rfl
    have qn1 : w210.cell? ⟨w.heap.size + 1, 1, none⟩ = some (.slice A1 l1.length c1) := n_211.out.at 1 _ rfl
    have zn := n_211.out.lt
    go_wp2_with (go_at_call 21; refine stop_here ?_)
    refine stop_on ?_
    clear zwi qn0 qn1 zn
    refine (ref04Rows_same P Q (splitS l2) _ pc qc _ HLS.out P_211.out Q_212.out).mono ?_
    rintro e w213 ⟨rfl, hx⟩
    have A_214 := Lib.hid (A_211.out.ext hx)
    have B_214 := Lib.hid (B_211.out.ext hx)
    have C_214 := Lib.hid (C_211.out.ext hx)
    have X_214 := Lib.hid (X_211.out.ext hx)
    have wi_214 := Lib.hid (wi_211.out.ext hx)
    have n_214 := Lib.hid (n_211.out.ext hx)
    have P_214 := Lib.hid (P_211.out.ext hx)
    have Q_214 := Lib.hid (Q_212.out.ext hx)
    clear A_211 B_211 C_211 X_211 wi_211 n_211 P_211 Q_212
    clear hx
    have zwi := wi_214.out.lt
    have qn0 : w213.cell? ⟨w.heap.size + 1, 0, none⟩ = some (.bool f1) := n_214.out.at 0 _ rfl
    have qn1 : w213.cell? ⟨w.heap.size + 1, 1, none⟩ = some (.slice A1 l1.length c1) := n_214.out.at 1 _ rfl
    have zn := n_214.out.lt
    go_wp2_with (go_at_call 25; refine stop_here ?_)
    refine stop_on ?_
    clear zwi qn0 qn1 zn
    refine (nodeWith_any A2 A3 l2 l3 _ _ c2 c3 a g _ rfl rfl hag1 hag2 (by omega) (by omega) B_214.out C_214.out).mono ?_
    rintro e w215 ⟨U, uc, rfl, h1, hx⟩
    have A_216 := Lib.hid (A_214.out.ext hx)
    have B_216 := Lib.hid (B_214.out.ext hx)
    have C_216 := Lib.hid (C_214.out.ext hx)
    have X_216 := Lib.hid (X_214.out.ext hx)
    have wi_216 := Lib.hid (wi_214.out.ext hx)
    have n_216 := Lib.hid (n_214.out.ext hx)
    have P_216 := Lib.hid (P_214.out.ext hx)
    have Q_216 := Lib.hid (Q_214.out.ext hx)
    clear A_214 B_214 C_214 X_214 wi_214 n_214 P_214 Q_214
    have U_217 := Lib.hid h1
    clear hx h1
    have zwi := wi_216.out.lt
    have qn0 : w215.cell? ⟨w.heap.size + 1, 0, none⟩ = some (.bool f1) := n_216.out.at 0 _ rfl
    have qn1 : w215.cell? ⟨w.heap.size + 1, 1, none⟩ = some (.slice A1 l1.length c1) := n_216.out.at 1 _ rfl
    have zn := n_216.out.lt
    go_wp2_with (go_at_call 26; refine stop_here ?_)
    refine stop_on ?_
    clear zwi qn0 qn1 zn
    refine (ref04With_any A2 A3 l2 l3 _ _ c2 c3 a g _ rfl rfl hag1 hag2 (by omega) (by omega) B_216.out C_216.out).mono ?_
    rintro e w218 ⟨V, vc, rfl, h1, hx⟩
    have A_219 := Lib.hid (A_216.out.ext hx)
    have B_219 := Lib.hid (B_216.out.ext hx)
    have C_219 := Lib.hid (C_216.out.ext hx)
    have X_219 := Lib.hid (X_216.out.ext hx)
    have wi_219 := Lib.hid (wi_216.out.ext hx)
    have n_219 := Lib.hid (n_216.out.ext hx)
    have P_219 := Lib.hid (P_216.out.ext hx)
    have Q_219 := Lib.hid (Q_216.out.ext hx)
    have U_219 := Lib.hid (U_217.out.ext hx)
    clear A_216 B_216 C_216 X_216 wi_216 n_216 P_216 Q_216 U_217
    have V_220 := Lib.hid h1
    clear hx h1
    have zwi := wi_219.out.lt
    have qn0 : w218.cell? ⟨w.heap.size + 1, 0, none⟩ = some (.bool f1) := n_219.out.at 0 _ rfl
    have qn1 : w218.cell? ⟨w.heap.size + 1, 1, none⟩ = some (.slice A1 l1.length c1) := n_219.out.at 1 _ rfl
    have zn := n_219.out.lt
    go_wp2_with (go_at_call 24; refine stop_here ?_)
    refine stop_on ?_
    clear zwi qn0 qn1 zn
    refine (ref04Items_same U V (withS l2 a g l3) _ uc vc _ HWL.out U_219.out V_220.out).mono ?_
    rintro e w221 ⟨rfl, hx⟩
    have A_222 := Lib.hid (A_219.out.ext hx)
    have B_222 := Lib.hid (B_219.out.ext hx)
    have C_222 := Lib.hid (C_219.out.ext hx)
    have X_222 := Lib.hid (X_219.out.ext hx)
    have wi_222 := Lib.hid (wi_219.out.ext hx)
    have n_222 := Lib.hid (n_219.out.ext hx)
    have P_222 := Lib.hid (P_219.out.ext hx)
    have Q_222 := Lib.hid (Q_219.out.ext hx)
    have U_222 := Lib.hid (U_219.out.ext hx)
    have V_222 := Lib.hid (V_220.out.ext hx)
    clear A_219 B_219 C_219 X_219 wi_219 n_219 P_219 Q_219 U_219 V_220
    clear hx
    have zwi := wi_222.out.lt
    have qn0 : w221.cell? ⟨w.heap.size + 1, 0, none⟩ = some (.bool f1) := n_222.out.at 0 _ rfl
    have qn1 : w221.cell? ⟨w.heap.size + 1, 1, none⟩ = some (.slice A1 l1.length c1) := n_222.out.at 1 _ rfl
    have zn := n_222.out.lt
    go_wp2
    go_ret
    exact ⟨rfl, X_222.out⟩
end Go.Proofs.Ytpcchbcibcfldaa

