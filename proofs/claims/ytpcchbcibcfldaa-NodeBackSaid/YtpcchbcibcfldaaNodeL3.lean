/- The walk of NodeBack. -/
import Derived.Test.YtpcchbcibcfldaaNodeM
namespace Go.Proofs.Ytpcchbcibcfldaa
open Go.RowKit
attribute [local go_sem ↓] Go.wp_at_zero Go.wp_at_succ

set_option maxRecDepth 100000 in
set_option maxHeartbeats 8000000 in
theorem back_any (f1 f2 : Bool) (A1 A2 : Option Addr) (l1 l2 : List It) (c1 c2 : Nat) (t : ByteArray) (w : World) (ht : t.size ≤ maxLen) (hA : Sl w A1 l1.length c1 (ivs l1)) (hB : Sl w A2 l2.length c2 (ivs l2)) :
    Calls Try.prog 5 #[.agg #[.bool f1, .slice A1 l1.length c1], .agg #[.bool f2, .slice A2 l2.length c2], .string t] w fun e w' => e = .returned (.bool true) ∧ Ext w w' := by
  have A_1 := Lib.hid (hA)
  have B_2 := Lib.hid (hB)
  have X_3 := Lib.hid (Ext.refl w)
  clear hA hB
  rcases Decidable.em ((l1.length : Int) ≤ 20) with h3 | h3
  rotate_left
  · go_enter Try.func5, Try.ntmps5
    go_wp2_with (go_at_call 10; refine stop_here ?_)
    refine stop_on ?_
    generalize hW : (World.alloc (World.alloc w _) _) = W5
    obtain ⟨hx, hb0, hb1⟩ := allocs2 hW
    clear hW
    have A_6 := Lib.hid (A_1.out.ext hx)
    have B_6 := Lib.hid (B_2.out.ext hx)
    have X_6 := Lib.hid (X_3.out.ext hx)
    clear A_1 B_2 X_3
    have a_7 := Lib.hid hb0
    have b_8 := Lib.hid hb1
    clear hx hb0 hb1
    refine (shown_any _).mono ?_
    rintro e w9 ⟨rfl, hx⟩
    have A_10 := Lib.hid (A_6.out.ext hx)
    have B_10 := Lib.hid (B_6.out.ext hx)
    have X_10 := Lib.hid (X_6.out.ext hx)
    have a_10 := Lib.hid (a_7.out.ext hx)
    have b_10 := Lib.hid (b_8.out.ext hx)
    clear A_6 B_6 X_6 a_7 b_8
    clear hx
    have qa0 : w9.cell? ⟨w.heap.size, 0, none⟩ = some (.bool f1) := a_10.out.at 0 _ rfl
    have qa1 : w9.cell? ⟨w.heap.size, 1, none⟩ = some (.slice A1 l1.length c1) := a_10.out.at 1 _ rfl
    have za := a_10.out.lt
    have qb0 : w9.cell? ⟨w.heap.size + 1, 0, none⟩ = some (.bool f2) := b_10.out.at 0 _ rfl
    have qb1 : w9.cell? ⟨w.heap.size + 1, 1, none⟩ = some (.slice A2 l2.length c2) := b_10.out.at 1 _ rfl
    have zb := b_10.out.lt
    go_wp2
    go_ret
    exact ⟨rfl, X_10.out⟩
  rcases Decidable.em ((l2.length : Int) ≤ 20) with h10 | h10
  rotate_left
  · go_enter Try.func5, Try.ntmps5
    go_wp2_with (go_at_call 10; refine stop_here ?_)
    refine stop_on ?_
    generalize hW : (World.alloc (World.alloc w _) _) = W12
    obtain ⟨hx, hb0, hb1⟩ := allocs2 hW
    clear hW
    have A_13 := Lib.hid (A_1.out.ext hx)
    have B_13 := Lib.hid (B_2.out.ext hx)
    have X_13 := Lib.hid (X_3.out.ext hx)
    clear A_1 B_2 X_3
    have a_14 := Lib.hid hb0
    have b_15 := Lib.hid hb1
    clear hx hb0 hb1
    refine (shown_any _).mono ?_
    rintro e w16 ⟨rfl, hx⟩
    have A_17 := Lib.hid (A_13.out.ext hx)
    have B_17 := Lib.hid (B_13.out.ext hx)
    have X_17 := Lib.hid (X_13.out.ext hx)
    have a_17 := Lib.hid (a_14.out.ext hx)
    have b_17 := Lib.hid (b_15.out.ext hx)
    clear A_13 B_13 X_13 a_14 b_15
    clear hx
    have qa0 : w16.cell? ⟨w.heap.size, 0, none⟩ = some (.bool f1) := a_17.out.at 0 _ rfl
    have qa1 : w16.cell? ⟨w.heap.size, 1, none⟩ = some (.slice A1 l1.length c1) := a_17.out.at 1 _ rfl
    have za := a_17.out.lt
    have qb0 : w16.cell? ⟨w.heap.size + 1, 0, none⟩ = some (.bool f2) := b_17.out.at 0 _ rfl
    have qb1 : w16.cell? ⟨w.heap.size + 1, 1, none⟩ = some (.slice A2 l2.length c2) := b_17.out.at 1 _ rfl
    have zb := b_17.out.lt
    go_wp2
    go_ret
    exact ⟨rfl, X_17.out⟩
  rcases Decidable.em ((t.size : Int) ≤ 200) with h17 | h17
  rotate_left
  · go_enter Try.func5, Try.ntmps5
    go_wp2_with (go_at_call 10; refine stop_here ?_)
    refine stop_on ?_
    generalize hW : (World.alloc (World.alloc w _) _) = W19
    obtain ⟨hx, hb0, hb1⟩ := allocs2 hW
    clear hW
    have A_20 := Lib.hid (A_1.out.ext hx)
    have B_20 := Lib.hid (B_2.out.ext hx)
    have X_20 := Lib.hid (X_3.out.ext hx)
    clear A_1 B_2 X_3
    have a_21 := Lib.hid hb0
    have b_22 := Lib.hid hb1
    clear hx hb0 hb1
    refine (shown_any _).mono ?_
    rintro e w23 ⟨rfl, hx⟩
    have A_24 := Lib.hid (A_20.out.ext hx)
    have B_24 := Lib.hid (B_20.out.ext hx)
    have X_24 := Lib.hid (X_20.out.ext hx)
    have a_24 := Lib.hid (a_21.out.ext hx)
    have b_24 := Lib.hid (b_22.out.ext hx)
    clear A_20 B_20 X_20 a_21 b_22
    clear hx
    have qa0 : w23.cell? ⟨w.heap.size, 0, none⟩ = some (.bool f1) := a_24.out.at 0 _ rfl
    have qa1 : w23.cell? ⟨w.heap.size, 1, none⟩ = some (.slice A1 l1.length c1) := a_24.out.at 1 _ rfl
    have za := a_24.out.lt
    have qb0 : w23.cell? ⟨w.heap.size + 1, 0, none⟩ = some (.bool f2) := b_24.out.at 0 _ rfl
    have qb1 : w23.cell? ⟨w.heap.size + 1, 1, none⟩ = some (.slice A2 l2.length c2) := b_24.out.at 1 _ rfl
    have zb := b_24.out.lt
    go_wp2
    go_ret
    exact ⟨rfl, X_24.out⟩
  have Ht := Lib.hid ht
  clear ht
  cases hp : ndP t with
  | none =>
    obtain ⟨hp1, hp2, hp3⟩ := ndP_no hp
    have Hp1 := Lib.hid hp1
    have Hp2 := Lib.hid hp2
    have Hp3 := Lib.hid hp3
    clear hp hp1 hp2 hp3
    cases hr1 : ndR l1
    · have Hr1 := Lib.hid hr1
      clear hr1
      go_enter Try.func5, Try.ntmps5
      go_wp2_with (go_at_call 10; refine stop_here ?_)
      refine stop_on ?_
      generalize hW : (World.alloc (World.alloc w _) _) = W25
      obtain ⟨hx, hb0, hb1⟩ := allocs2 hW
      clear hW
      have A_26 := Lib.hid (A_1.out.ext hx)
      have B_26 := Lib.hid (B_2.out.ext hx)
      have X_26 := Lib.hid (X_3.out.ext hx)
      clear A_1 B_2 X_3
      have a_27 := Lib.hid hb0
      have b_28 := Lib.hid hb1
      clear hx hb0 hb1
      refine (shown_any _).mono ?_
      rintro e w29 ⟨rfl, hx⟩
      have A_30 := Lib.hid (A_26.out.ext hx)
      have B_30 := Lib.hid (B_26.out.ext hx)
      have X_30 := Lib.hid (X_26.out.ext hx)
      have a_30 := Lib.hid (a_27.out.ext hx)
      have b_30 := Lib.hid (b_28.out.ext hx)
      clear A_26 B_26 X_26 a_27 b_28
      clear hx
      have qa0 : w29.cell? ⟨w.heap.size, 0, none⟩ = some (.bool f1) := a_30.out.at 0 _ rfl
      have qa1 : w29.cell? ⟨w.heap.size, 1, none⟩ = some (.slice A1 l1.length c1) := a_30.out.at 1 _ rfl
      have za := a_30.out.lt
      have qb0 : w29.cell? ⟨w.heap.size + 1, 0, none⟩ = some (.bool f2) := b_30.out.at 0 _ rfl
      have qb1 : w29.cell? ⟨w.heap.size + 1, 1, none⟩ = some (.slice A2 l2.length c2) := b_30.out.at 1 _ rfl
      have zb := b_30.out.lt
      go_wp2_with (go_at_call 13; refine stop_here ?_)
      refine stop_on ?_
      clear qa0 qa1 za qb0 qb1 zb
      refine (nodeParse_is t _ Ht.out Hp1.out Hp2.out (m := 0) rfl Hp3.out).mono ?_
      rintro e w31 ⟨P, pc, rfl, h1, hx⟩
      have A_32 := Lib.hid (A_30.out.ext hx)
      have B_32 := Lib.hid (B_30.out.ext hx)
      have X_32 := Lib.hid (X_30.out.ext hx)
      have a_32 := Lib.hid (a_30.out.ext hx)
      have b_32 := Lib.hid (b_30.out.ext hx)
      clear A_30 B_30 X_30 a_30 b_30
      have P_33 := Lib.hid h1
      clear hx h1
      have qa0 : w31.cell? ⟨w.heap.size, 0, none⟩ = some (.bool f1) := a_32.out.at 0 _ rfl
      have qa1 : w31.cell? ⟨w.heap.size, 1, none⟩ = some (.slice A1 l1.length c1) := a_32.out.at 1 _ rfl
      have za := a_32.out.lt
      have qb0 : w31.cell? ⟨w.heap.size + 1, 0, none⟩ = some (.bool f2) := b_32.out.at 0 _ rfl
      have qb1 : w31.cell? ⟨w.heap.size + 1, 1, none⟩ = some (.slice A2 l2.length c2) := b_32.out.at 1 _ rfl
      have zb := b_32.out.lt
      go_wp2_with (go_at_call 11; refine stop_here ?_)
      refine stop_on ?_
      clear qa0 qa1 za qb0 qb1 zb
      generalize hW : (World.alloc w31 _) = W34
      obtain ⟨hx, hb0⟩ := allocs1 hW
      clear hW
      have A_35 := Lib.hid (A_32.out.ext hx)
      have B_35 := Lib.hid (B_32.out.ext hx)
      have X_35 := Lib.hid (X_32.out.ext hx)
      have a_35 := Lib.hid (a_32.out.ext hx)
      have b_35 := Lib.hid (b_32.out.ext hx)
      have P_35 := Lib.hid (P_33.out.ext hx)
      clear A_32 B_32 X_32 a_32 b_32 P_33
      have p_36 := Lib.hid hb0
      clear hx hb0
      refine (nodePrint_is false P [] 0 pc _ rfl P_35.out (x := ⟨#[]⟩) (e := 1) (by decide) (by decide)).mono ?_
      rintro e w37 ⟨rfl, hx⟩
      have A_38 := Lib.hid (A_35.out.ext hx)
      have B_38 := Lib.hid (B_35.out.ext hx)
      have X_38 := Lib.hid (X_35.out.ext hx)
      have a_38 := Lib.hid (a_35.out.ext hx)
      have b_38 := Lib.hid (b_35.out.ext hx)
      have P_38 := Lib.hid (P_35.out.ext hx)
      have p_38 := Lib.hid (p_36.out.ext hx)
      clear A_35 B_35 X_35 a_35 b_35 P_35 p_36
      clear hx
      have qa0 : w37.cell? ⟨w.heap.size, 0, none⟩ = some (.bool f1) := a_38.out.at 0 _ rfl
      have qa1 : w37.cell? ⟨w.heap.size, 1, none⟩ = some (.slice A1 l1.length c1) := a_38.out.at 1 _ rfl
      have za := a_38.out.lt
      have qb0 : w37.cell? ⟨w.heap.size + 1, 0, none⟩ = some (.bool f2) := b_38.out.at 0 _ rfl
      have qb1 : w37.cell? ⟨w.heap.size + 1, 1, none⟩ = some (.slice A2 l2.length c2) := b_38.out.at 1 _ rfl
      have zb := b_38.out.lt
      have qp0 : w37.cell? ⟨w31.heap.size, 0, none⟩ = some (.bool false) := p_38.out.at 0 _ rfl
      have qp1 : w37.cell? ⟨w31.heap.size, 1, none⟩ = some (.slice P 0 pc) := p_38.out.at 1 _ rfl
      have zp := p_38.out.lt
      go_wp2_with (go_at_call 15; refine stop_here ?_)
      refine stop_on ?_
      clear qa0 qa1 za qb0 qb1 zb qp0 qp1 zp
      refine (ref04Right_is f1 A1 l1 _ c1 _ rfl A_38.out Hr1.out).mono ?_
      rintro e w39 ⟨rfl, hx⟩
      have A_40 := Lib.hid (A_38.out.ext hx)
      have B_40 := Lib.hid (B_38.out.ext hx)
      have X_40 := Lib.hid (X_38.out.ext hx)
      have a_40 := Lib.hid (a_38.out.ext hx)
      have b_40 := Lib.hid (b_38.out.ext hx)
      have P_40 := Lib.hid (P_38.out.ext hx)
      have p_40 := Lib.hid (p_38.out.ext hx)
      clear A_38 B_38 X_38 a_38 b_38 P_38 p_38
      clear hx
      have qa0 : w39.cell? ⟨w.heap.size, 0, none⟩ = some (.bool f1) := a_40.out.at 0 _ rfl
      have qa1 : w39.cell? ⟨w.heap.size, 1, none⟩ = some (.slice A1 l1.length c1) := a_40.out.at 1 _ rfl
      have za := a_40.out.lt
      have qb0 : w39.cell? ⟨w.heap.size + 1, 0, none⟩ = some (.bool f2) := b_40.out.at 0 _ rfl
      have qb1 : w39.cell? ⟨w.heap.size + 1, 1, none⟩ = some (.slice A2 l2.length c2) := b_40.out.at 1 _ rfl
      have zb := b_40.out.lt
      have qp0 : w39.cell? ⟨w31.heap.size, 0, none⟩ = some (.bool false) := p_40.out.at 0 _ rfl
      have qp1 : w39.cell? ⟨w31.heap.size, 1, none⟩ = some (.slice P 0 pc) := p_40.out.at 1 _ rfl
      have zp := p_40.out.lt
      go_wp2
      go_ret
      exact ⟨rfl, X_40.out⟩
    cases hr2 : ndR l2
    · have Hr1 := Lib.hid hr1
      have Hr2 := Lib.hid hr2
      clear hr1 hr2
      go_enter Try.func5, Try.ntmps5
      go_wp2_with (go_at_call 10; refine stop_here ?_)
      refine stop_on ?_
      generalize hW : (World.alloc (World.alloc w _) _) = W41
      obtain ⟨hx, hb0, hb1⟩ := allocs2 hW
      clear hW
      have A_42 := Lib.hid (A_1.out.ext hx)
      have B_42 := Lib.hid (B_2.out.ext hx)
      have X_42 := Lib.hid (X_3.out.ext hx)
      clear A_1 B_2 X_3
      have a_43 := Lib.hid hb0
      have b_44 := Lib.hid hb1
      clear hx hb0 hb1
      refine (shown_any _).mono ?_
      rintro e w45 ⟨rfl, hx⟩
      have A_46 := Lib.hid (A_42.out.ext hx)
      have B_46 := Lib.hid (B_42.out.ext hx)
      have X_46 := Lib.hid (X_42.out.ext hx)
      have a_46 := Lib.hid (a_43.out.ext hx)
      have b_46 := Lib.hid (b_44.out.ext hx)
      clear A_42 B_42 X_42 a_43 b_44
      clear hx
      have qa0 : w45.cell? ⟨w.heap.size, 0, none⟩ = some (.bool f1) := a_46.out.at 0 _ rfl
      have qa1 : w45.cell? ⟨w.heap.size, 1, none⟩ = some (.slice A1 l1.length c1) := a_46.out.at 1 _ rfl
      have za := a_46.out.lt
      have qb0 : w45.cell? ⟨w.heap.size + 1, 0, none⟩ = some (.bool f2) := b_46.out.at 0 _ rfl
      have qb1 : w45.cell? ⟨w.heap.size + 1, 1, none⟩ = some (.slice A2 l2.length c2) := b_46.out.at 1 _ rfl
      have zb := b_46.out.lt
      go_wp2_with (go_at_call 13; refine stop_here ?_)
      refine stop_on ?_
      clear qa0 qa1 za qb0 qb1 zb
      refine (nodeParse_is t _ Ht.out Hp1.out Hp2.out (m := 0) rfl Hp3.out).mono ?_
      rintro e w47 ⟨P, pc, rfl, h1, hx⟩
      have A_48 := Lib.hid (A_46.out.ext hx)
      have B_48 := Lib.hid (B_46.out.ext hx)
      have X_48 := Lib.hid (X_46.out.ext hx)
      have a_48 := Lib.hid (a_46.out.ext hx)
      have b_48 := Lib.hid (b_46.out.ext hx)
      clear A_46 B_46 X_46 a_46 b_46
      have P_49 := Lib.hid h1
      clear hx h1
      have qa0 : w47.cell? ⟨w.heap.size, 0, none⟩ = some (.bool f1) := a_48.out.at 0 _ rfl
      have qa1 : w47.cell? ⟨w.heap.size, 1, none⟩ = some (.slice A1 l1.length c1) := a_48.out.at 1 _ rfl
      have za := a_48.out.lt
      have qb0 : w47.cell? ⟨w.heap.size + 1, 0, none⟩ = some (.bool f2) := b_48.out.at 0 _ rfl
      have qb1 : w47.cell? ⟨w.heap.size + 1, 1, none⟩ = some (.slice A2 l2.length c2) := b_48.out.at 1 _ rfl
      have zb := b_48.out.lt
      go_wp2_with (go_at_call 11; refine stop_here ?_)
      refine stop_on ?_
      clear qa0 qa1 za qb0 qb1 zb
      generalize hW : (World.alloc w47 _) = W50
      obtain ⟨hx, hb0⟩ := allocs1 hW
      clear hW
      have A_51 := Lib.hid (A_48.out.ext hx)
      have B_51 := Lib.hid (B_48.out.ext hx)
      have X_51 := Lib.hid (X_48.out.ext hx)
      have a_51 := Lib.hid (a_48.out.ext hx)
      have b_51 := Lib.hid (b_48.out.ext hx)
      have P_51 := Lib.hid (P_49.out.ext hx)
      clear A_48 B_48 X_48 a_48 b_48 P_49
      have p_52 := Lib.hid hb0
      clear hx hb0
      refine (nodePrint_is false P [] 0 pc _ rfl P_51.out (x := ⟨#[]⟩) (e := 1) (by decide) (by decide)).mono ?_
      rintro e w53 ⟨rfl, hx⟩
      have A_54 := Lib.hid (A_51.out.ext hx)
      have B_54 := Lib.hid (B_51.out.ext hx)
      have X_54 := Lib.hid (X_51.out.ext hx)
      have a_54 := Lib.hid (a_51.out.ext hx)
      have b_54 := Lib.hid (b_51.out.ext hx)
      have P_54 := Lib.hid (P_51.out.ext hx)
      have p_54 := Lib.hid (p_52.out.ext hx)
      clear A_51 B_51 X_51 a_51 b_51 P_51 p_52
      clear hx
      have qa0 : w53.cell? ⟨w.heap.size, 0, none⟩ = some (.bool f1) := a_54.out.at 0 _ rfl
      have qa1 : w53.cell? ⟨w.heap.size, 1, none⟩ = some (.slice A1 l1.length c1) := a_54.out.at 1 _ rfl
      have za := a_54.out.lt
      have qb0 : w53.cell? ⟨w.heap.size + 1, 0, none⟩ = some (.bool f2) := b_54.out.at 0 _ rfl
      have qb1 : w53.cell? ⟨w.heap.size + 1, 1, none⟩ = some (.slice A2 l2.length c2) := b_54.out.at 1 _ rfl
      have zb := b_54.out.lt
      have qp0 : w53.cell? ⟨w47.heap.size, 0, none⟩ = some (.bool false) := p_54.out.at 0 _ rfl
      have qp1 : w53.cell? ⟨w47.heap.size, 1, none⟩ = some (.slice P 0 pc) := p_54.out.at 1 _ rfl
      have zp := p_54.out.lt
      go_wp2_with (go_at_call 15; refine stop_here ?_)
      refine stop_on ?_
      clear qa0 qa1 za qb0 qb1 zb qp0 qp1 zp
      refine (ref04Right_is f1 A1 l1 _ c1 _ rfl A_54.out Hr1.out).mono ?_
      rintro e w55 ⟨rfl, hx⟩
      have A_56 := Lib.hid (A_54.out.ext hx)
      have B_56 := Lib.hid (B_54.out.ext hx)
      have X_56 := Lib.hid (X_54.out.ext hx)
      have a_56 := Lib.hid (a_54.out.ext hx)
      have b_56 := Lib.hid (b_54.out.ext hx)
      have P_56 := Lib.hid (P_54.out.ext hx)
      have p_56 := Lib.hid (p_54.out.ext hx)
      clear A_54 B_54 X_54 a_54 b_54 P_54 p_54
      clear hx
      have qa0 : w55.cell? ⟨w.heap.size, 0, none⟩ = some (.bool f1) := a_56.out.at 0 _ rfl
      have qa1 : w55.cell? ⟨w.heap.size, 1, none⟩ = some (.slice A1 l1.length c1) := a_56.out.at 1 _ rfl
      have za := a_56.out.lt
      have qb0 : w55.cell? ⟨w.heap.size + 1, 0, none⟩ = some (.bool f2) := b_56.out.at 0 _ rfl
      have qb1 : w55.cell? ⟨w.heap.size + 1, 1, none⟩ = some (.slice A2 l2.length c2) := b_56.out.at 1 _ rfl
      have zb := b_56.out.lt
      have qp0 : w55.cell? ⟨w47.heap.size, 0, none⟩ = some (.bool false) := p_56.out.at 0 _ rfl
      have qp1 : w55.cell? ⟨w47.heap.size, 1, none⟩ = some (.slice P 0 pc) := p_56.out.at 1 _ rfl
      have zp := p_56.out.lt
      go_wp2_with (go_at_call 15; refine stop_here ?_)
      refine stop_on ?_
      clear qa0 qa1 za qb0 qb1 zb qp0 qp1 zp
      refine (ref04Right_is f2 A2 l2 _ c2 _ rfl B_56.out Hr2.out).mono ?_
      rintro e w57 ⟨rfl, hx⟩
      have A_58 := Lib.hid (A_56.out.ext hx)
      have B_58 := Lib.hid (B_56.out.ext hx)
      have X_58 := Lib.hid (X_56.out.ext hx)
      have a_58 := Lib.hid (a_56.out.ext hx)
      have b_58 := Lib.hid (b_56.out.ext hx)
      have P_58 := Lib.hid (P_56.out.ext hx)
      have p_58 := Lib.hid (p_56.out.ext hx)
      clear A_56 B_56 X_56 a_56 b_56 P_56 p_56
      clear hx
      have qa0 : w57.cell? ⟨w.heap.size, 0, none⟩ = some (.bool f1) := a_58.out.at 0 _ rfl
      have qa1 : w57.cell? ⟨w.heap.size, 1, none⟩ = some (.slice A1 l1.length c1) := a_58.out.at 1 _ rfl
      have za := a_58.out.lt
      have qb0 : w57.cell? ⟨w.heap.size + 1, 0, none⟩ = some (.bool f2) := b_58.out.at 0 _ rfl
      have qb1 : w57.cell? ⟨w.heap.size + 1, 1, none⟩ = some (.slice A2 l2.length c2) := b_58.out.at 1 _ rfl
      have zb := b_58.out.lt
      have qp0 : w57.cell? ⟨w47.heap.size, 0, none⟩ = some (.bool false) := p_58.out.at 0 _ rfl
      have qp1 : w57.cell? ⟨w47.heap.size, 1, none⟩ = some (.slice P 0 pc) := p_58.out.at 1 _ rfl
      have zp := p_58.out.lt
      go_wp2
      go_ret
      exact ⟨rfl, X_58.out⟩
    have hxy := block_same (f := f1) (g := f2) hr1 hr2
    obtain ⟨hx1, hx2, hx3⟩ := ndP_yes (ndP_print f1 l1 hr1)
    have hsz := ndB_size f1 l1 hr1
    have He1 := Lib.hid (show ndE l1 = 0 from by unfold ndE; rw [hr1]; rfl)
    have He2 := Lib.hid (show ndE l2 = 0 from by unfold ndE; rw [hr2]; rfl)
    obtain ⟨x, hx⟩ : ∃ x, ndB f1 l1 = x := ⟨_, rfl⟩
    obtain ⟨y, hy⟩ : ∃ x, ndB f2 l2 = x := ⟨_, rfl⟩
    obtain ⟨sr, hsr⟩ : ∃ x, sameN f1 l1 f2 l2 = x := ⟨_, rfl⟩
    rw [hx] at hxy hx1 hx2 hx3 hsz
    rw [hy, hsr] at hxy
    have Hx := Lib.hid hx
    have Hy := Lib.hid hy
    have Hsr := Lib.hid hsr
    have Hx1 := Lib.hid hx1
    have Hx2 := Lib.hid hx2
    have Hx3 := Lib.hid hx3
    have Hxs := Lib.hid (show x.size ≤ maxLen from by rw [hsz]; unfold maxLen; omega)
    have hsz1 : (x.size : Int) = 40 := by omega
    have Hr1 := Lib.hid hr1
    have Hr2 := Lib.hid hr2
    clear hx hy hsr hx1 hx2 hx3 hsz hr1 hr2
    cases sr
    · go_enter Try.func5, Try.ntmps5
      go_wp2_with (go_at_call 10; refine stop_here ?_)
      refine stop_on ?_
      generalize hW : (World.alloc (World.alloc w _) _) = W59
      obtain ⟨hx, hb0, hb1⟩ := allocs2 hW
      clear hW
      have A_60 := Lib.hid (A_1.out.ext hx)
      have B_60 := Lib.hid (B_2.out.ext hx)
      have X_60 := Lib.hid (X_3.out.ext hx)
      clear A_1 B_2 X_3
      have a_61 := Lib.hid hb0
      have b_62 := Lib.hid hb1
      clear hx hb0 hb1
      refine (shown_any _).mono ?_
      rintro e w63 ⟨rfl, hx⟩
      have A_64 := Lib.hid (A_60.out.ext hx)
      have B_64 := Lib.hid (B_60.out.ext hx)
      have X_64 := Lib.hid (X_60.out.ext hx)
      have a_64 := Lib.hid (a_61.out.ext hx)
      have b_64 := Lib.hid (b_62.out.ext hx)
      clear A_60 B_60 X_60 a_61 b_62
      clear hx
      have qa0 : w63.cell? ⟨w.heap.size, 0, none⟩ = some (.bool f1) := a_64.out.at 0 _ rfl
      have qa1 : w63.cell? ⟨w.heap.size, 1, none⟩ = some (.slice A1 l1.length c1) := a_64.out.at 1 _ rfl
      have za := a_64.out.lt
      have qb0 : w63.cell? ⟨w.heap.size + 1, 0, none⟩ = some (.bool f2) := b_64.out.at 0 _ rfl
      have qb1 : w63.cell? ⟨w.heap.size + 1, 1, none⟩ = some (.slice A2 l2.length c2) := b_64.out.at 1 _ rfl
      have zb := b_64.out.lt
      go_wp2_with (go_at_call 13; refine stop_here ?_)
      refine stop_on ?_
      clear qa0 qa1 za qb0 qb1 zb
      refine (nodeParse_is t _ Ht.out Hp1.out Hp2.out (m := 0) rfl Hp3.out).mono ?_
      rintro e w65 ⟨P, pc, rfl, h1, hx⟩
      have A_66 := Lib.hid (A_64.out.ext hx)
      have B_66 := Lib.hid (B_64.out.ext hx)
      have X_66 := Lib.hid (X_64.out.ext hx)
      have a_66 := Lib.hid (a_64.out.ext hx)
      have b_66 := Lib.hid (b_64.out.ext hx)
      clear A_64 B_64 X_64 a_64 b_64
      have P_67 := Lib.hid h1
      clear hx h1
      have qa0 : w65.cell? ⟨w.heap.size, 0, none⟩ = some (.bool f1) := a_66.out.at 0 _ rfl
      have qa1 : w65.cell? ⟨w.heap.size, 1, none⟩ = some (.slice A1 l1.length c1) := a_66.out.at 1 _ rfl
      have za := a_66.out.lt
      have qb0 : w65.cell? ⟨w.heap.size + 1, 0, none⟩ = some (.bool f2) := b_66.out.at 0 _ rfl
      have qb1 : w65.cell? ⟨w.heap.size + 1, 1, none⟩ = some (.slice A2 l2.length c2) := b_66.out.at 1 _ rfl
      have zb := b_66.out.lt
      go_wp2_with (go_at_call 11; refine stop_here ?_)
      refine stop_on ?_
      clear qa0 qa1 za qb0 qb1 zb
      generalize hW : (World.alloc w65 _) = W68
      obtain ⟨hx, hb0⟩ := allocs1 hW
      clear hW
      have A_69 := Lib.hid (A_66.out.ext hx)
      have B_69 := Lib.hid (B_66.out.ext hx)
      have X_69 := Lib.hid (X_66.out.ext hx)
      have a_69 := Lib.hid (a_66.out.ext hx)
      have b_69 := Lib.hid (b_66.out.ext hx)
      have P_69 := Lib.hid (P_67.out.ext hx)
      clear A_66 B_66 X_66 a_66 b_66 P_67
      have p_70 := Lib.hid hb0
      clear hx hb0
      refine (nodePrint_is false P [] 0 pc _ rfl P_69.out (x := ⟨#[]⟩) (e := 1) (by decide) (by decide)).mono ?_
      rintro e w71 ⟨rfl, hx⟩
      have A_72 := Lib.hid (A_69.out.ext hx)
      have B_72 := Lib.hid (B_69.out.ext hx)
      have X_72 := Lib.hid (X_69.out.ext hx)
      have a_72 := Lib.hid (a_69.out.ext hx)
      have b_72 := Lib.hid (b_69.out.ext hx)
      have P_72 := Lib.hid (P_69.out.ext hx)
      have p_72 := Lib.hid (p_70.out.ext hx)
      clear A_69 B_69 X_69 a_69 b_69 P_69 p_70
      clear hx
      have qa0 : w71.cell? ⟨w.heap.size, 0, none⟩ = some (.bool f1) := a_72.out.at 0 _ rfl
      have qa1 : w71.cell? ⟨w.heap.size, 1, none⟩ = some (.slice A1 l1.length c1) := a_72.out.at 1 _ rfl
      have za := a_72.out.lt
      have qb0 : w71.cell? ⟨w.heap.size + 1, 0, none⟩ = some (.bool f2) := b_72.out.at 0 _ rfl
      have qb1 : w71.cell? ⟨w.heap.size + 1, 1, none⟩ = some (.slice A2 l2.length c2) := b_72.out.at 1 _ rfl
      have zb := b_72.out.lt
      have qp0 : w71.cell? ⟨w65.heap.size, 0, none⟩ = some (.bool false) := p_72.out.at 0 _ rfl
      have qp1 : w71.cell? ⟨w65.heap.size, 1, none⟩ = some (.slice P 0 pc) := p_72.out.at 1 _ rfl
      have zp := p_72.out.lt
      go_wp2_with (go_at_call 15; refine stop_here ?_)
      refine stop_on ?_
      clear qa0 qa1 za qb0 qb1 zb qp0 qp1 zp
      refine (ref04Right_is f1 A1 l1 _ c1 _ rfl A_72.out Hr1.out).mono ?_
      rintro e w73 ⟨rfl, hx⟩
      have A_74 := Lib.hid (A_72.out.ext hx)
      have B_74 := Lib.hid (B_72.out.ext hx)
      have X_74 := Lib.hid (X_72.out.ext hx)
      have a_74 := Lib.hid (a_72.out.ext hx)
      have b_74 := Lib.hid (b_72.out.ext hx)
      have P_74 := Lib.hid (P_72.out.ext hx)
      have p_74 := Lib.hid (p_72.out.ext hx)
      clear A_72 B_72 X_72 a_72 b_72 P_72 p_72
      clear hx
      have qa0 : w73.cell? ⟨w.heap.size, 0, none⟩ = some (.bool f1) := a_74.out.at 0 _ rfl
      have qa1 : w73.cell? ⟨w.heap.size, 1, none⟩ = some (.slice A1 l1.length c1) := a_74.out.at 1 _ rfl
      have za := a_74.out.lt
      have qb0 : w73.cell? ⟨w.heap.size + 1, 0, none⟩ = some (.bool f2) := b_74.out.at 0 _ rfl
      have qb1 : w73.cell? ⟨w.heap.size + 1, 1, none⟩ = some (.slice A2 l2.length c2) := b_74.out.at 1 _ rfl
      have zb := b_74.out.lt
      have qp0 : w73.cell? ⟨w65.heap.size, 0, none⟩ = some (.bool false) := p_74.out.at 0 _ rfl
      have qp1 : w73.cell? ⟨w65.heap.size, 1, none⟩ = some (.slice P 0 pc) := p_74.out.at 1 _ rfl
      have zp := p_74.out.lt
      go_wp2_with (go_at_call 15; refine stop_here ?_)
      refine stop_on ?_
      clear qa0 qa1 za qb0 qb1 zb qp0 qp1 zp
      refine (ref04Right_is f2 A2 l2 _ c2 _ rfl B_74.out Hr2.out).mono ?_
      rintro e w75 ⟨rfl, hx⟩
      have A_76 := Lib.hid (A_74.out.ext hx)
      have B_76 := Lib.hid (B_74.out.ext hx)
      have X_76 := Lib.hid (X_74.out.ext hx)
      have a_76 := Lib.hid (a_74.out.ext hx)
      have b_76 := Lib.hid (b_74.out.ext hx)
      have P_76 := Lib.hid (P_74.out.ext hx)
      have p_76 := Lib.hid (p_74.out.ext hx)
      clear A_74 B_74 X_74 a_74 b_74 P_74 p_74
      clear hx
      have qa0 : w75.cell? ⟨w.heap.size, 0, none⟩ = some (.bool f1) := a_76.out.at 0 _ rfl
      have qa1 : w75.cell? ⟨w.heap.size, 1, none⟩ = some (.slice A1 l1.length c1) := a_76.out.at 1 _ rfl
      have za := a_76.out.lt
      have qb0 : w75.cell? ⟨w.heap.size + 1, 0, none⟩ = some (.bool f2) := b_76.out.at 0 _ rfl
      have qb1 : w75.cell? ⟨w.heap.size + 1, 1, none⟩ = some (.slice A2 l2.length c2) := b_76.out.at 1 _ rfl
      have zb := b_76.out.lt
      have qp0 : w75.cell? ⟨w65.heap.size, 0, none⟩ = some (.bool false) := p_76.out.at 0 _ rfl
      have qp1 : w75.cell? ⟨w65.heap.size, 1, none⟩ = some (.slice P 0 pc) := p_76.out.at 1 _ rfl
      have zp := p_76.out.lt
      go_wp2_with (go_at_call 11; refine stop_here ?_)
      refine stop_on ?_
      clear qa0 qa1 za qb0 qb1 zb qp0 qp1 zp
      refine (nodePrint_is f1 A1 l1 _ c1 _ rfl A_76.out Hx.out He1.out).mono ?_
      rintro e w77 ⟨rfl, hx⟩
      have A_78 := Lib.hid (A_76.out.ext hx)
      have B_78 := Lib.hid (B_76.out.ext hx)
      have X_78 := Lib.hid (X_76.out.ext hx)
      have a_78 := Lib.hid (a_76.out.ext hx)
      have b_78 := Lib.hid (b_76.out.ext hx)
      have P_78 := Lib.hid (P_76.out.ext hx)
      have p_78 := Lib.hid (p_76.out.ext hx)
      clear A_76 B_76 X_76 a_76 b_76 P_76 p_76
      clear hx
      have qa0 : w77.cell? ⟨w.heap.size, 0, none⟩ = some (.bool f1) := a_78.out.at 0 _ rfl
      have qa1 : w77.cell? ⟨w.heap.size, 1, none⟩ = some (.slice A1 l1.length c1) := a_78.out.at 1 _ rfl
      have za := a_78.out.lt
      have qb0 : w77.cell? ⟨w.heap.size + 1, 0, none⟩ = some (.bool f2) := b_78.out.at 0 _ rfl
      have qb1 : w77.cell? ⟨w.heap.size + 1, 1, none⟩ = some (.slice A2 l2.length c2) := b_78.out.at 1 _ rfl
      have zb := b_78.out.lt
      have qp0 : w77.cell? ⟨w65.heap.size, 0, none⟩ = some (.bool false) := p_78.out.at 0 _ rfl
      have qp1 : w77.cell? ⟨w65.heap.size, 1, none⟩ = some (.slice P 0 pc) := p_78.out.at 1 _ rfl
      have zp := p_78.out.lt
      go_wp2_with (go_at_call 11; refine stop_here ?_)
      refine stop_on ?_
      clear qa0 qa1 za qb0 qb1 zb qp0 qp1 zp
      refine (nodePrint_is f2 A2 l2 _ c2 _ rfl B_78.out Hy.out He2.out).mono ?_
      rintro e w79 ⟨rfl, hx⟩
      have A_80 := Lib.hid (A_78.out.ext hx)
      have B_80 := Lib.hid (B_78.out.ext hx)
      have X_80 := Lib.hid (X_78.out.ext hx)
      have a_80 := Lib.hid (a_78.out.ext hx)
      have b_80 := Lib.hid (b_78.out.ext hx)
      have P_80 := Lib.hid (P_78.out.ext hx)
      have p_80 := Lib.hid (p_78.out.ext hx)
      clear A_78 B_78 X_78 a_78 b_78 P_78 p_78
      clear hx
      have qa0 : w79.cell? ⟨w.heap.size, 0, none⟩ = some (.bool f1) := a_80.out.at 0 _ rfl
      have qa1 : w79.cell? ⟨w.heap.size, 1, none⟩ = some (.slice A1 l1.length c1) := a_80.out.at 1 _ rfl
      have za := a_80.out.lt
      have qb0 : w79.cell? ⟨w.heap.size + 1, 0, none⟩ = some (.bool f2) := b_80.out.at 0 _ rfl
      have qb1 : w79.cell? ⟨w.heap.size + 1, 1, none⟩ = some (.slice A2 l2.length c2) := b_80.out.at 1 _ rfl
      have zb := b_80.out.lt
      have qp0 : w79.cell? ⟨w65.heap.size, 0, none⟩ = some (.bool false) := p_80.out.at 0 _ rfl
      have qp1 : w79.cell? ⟨w65.heap.size, 1, none⟩ = some (.slice P 0 pc) := p_80.out.at 1 _ rfl
      have zp := p_80.out.lt
      go_wp2_with (go_at_call 13; refine stop_here ?_)
      refine stop_on ?_
      clear qa0 qa1 za qb0 qb1 zb qp0 qp1 zp
      refine (nodeParse_is x _ Hxs.out Hx1.out Hx2.out (m := l1.length) rfl Hx3.out).mono ?_
      rintro e w81 ⟨Q, qc, rfl, h1, hx⟩
      have A_82 := Lib.hid (A_80.out.ext hx)
      have B_82 := Lib.hid (B_80.out.ext hx)
      have X_82 := Lib.hid (X_80.out.ext hx)
      have a_82 := Lib.hid (a_80.out.ext hx)
      have b_82 := Lib.hid (b_80.out.ext hx)
      have P_82 := Lib.hid (P_80.out.ext hx)
      have p_82 := Lib.hid (p_80.out.ext hx)
      clear A_80 B_80 X_80 a_80 b_80 P_80 p_80
      have Q_83 := Lib.hid h1
      clear hx h1
      have qa0 : w81.cell? ⟨w.heap.size, 0, none⟩ = some (.bool f1) := a_82.out.at 0 _ rfl
      have qa1 : w81.cell? ⟨w.heap.size, 1, none⟩ = some (.slice A1 l1.length c1) := a_82.out.at 1 _ rfl
      have za := a_82.out.lt
      have qb0 : w81.cell? ⟨w.heap.size + 1, 0, none⟩ = some (.bool f2) := b_82.out.at 0 _ rfl
      have qb1 : w81.cell? ⟨w.heap.size + 1, 1, none⟩ = some (.slice A2 l2.length c2) := b_82.out.at 1 _ rfl
      have zb := b_82.out.lt
      have qp0 : w81.cell? ⟨w65.heap.size, 0, none⟩ = some (.bool false) := p_82.out.at 0 _ rfl
      have qp1 : w81.cell? ⟨w65.heap.size, 1, none⟩ = some (.slice P 0 pc) := p_82.out.at 1 _ rfl
      have zp := p_82.out.lt
      go_wp2_with (go_at_call 17; refine stop_here ?_)
      refine stop_on ?_
      clear qa0 qa1 za qb0 qb1 zb qp0 qp1 zp
      generalize hW : (World.alloc w81 _) = W84
      obtain ⟨hx, hb0⟩ := allocs1 hW
      clear hW
      have A_85 := Lib.hid (A_82.out.ext hx)
      have B_85 := Lib.hid (B_82.out.ext hx)
      have X_85 := Lib.hid (X_82.out.ext hx)
      have a_85 := Lib.hid (a_82.out.ext hx)
      have b_85 := Lib.hid (b_82.out.ext hx)
      have P_85 := Lib.hid (P_82.out.ext hx)
      have p_85 := Lib.hid (p_82.out.ext hx)
      have Q_85 := Lib.hid (Q_83.out.ext hx)
      clear A_82 B_82 X_82 a_82 b_82 P_82 p_82 Q_83
      have q_86 := Lib.hid hb0
      clear hx hb0
      refine (ref04Same_is f1 f1 Q A1 l1 l1 _ _ qc c1 _ rfl rfl Q_85.out A_85.out (same_self f1 l1)).mono ?_
      rintro e w87 ⟨rfl, hx⟩
      have A_88 := Lib.hid (A_85.out.ext hx)
      have B_88 := Lib.hid (B_85.out.ext hx)
      have X_88 := Lib.hid (X_85.out.ext hx)
      have a_88 := Lib.hid (a_85.out.ext hx)
      have b_88 := Lib.hid (b_85.out.ext hx)
      have P_88 := Lib.hid (P_85.out.ext hx)
      have p_88 := Lib.hid (p_85.out.ext hx)
      have Q_88 := Lib.hid (Q_85.out.ext hx)
      have q_88 := Lib.hid (q_86.out.ext hx)
      clear A_85 B_85 X_85 a_85 b_85 P_85 p_85 Q_85 q_86
      clear hx
      have qa0 : w87.cell? ⟨w.heap.size, 0, none⟩ = some (.bool f1) := a_88.out.at 0 _ rfl
      have qa1 : w87.cell? ⟨w.heap.size, 1, none⟩ = some (.slice A1 l1.length c1) := a_88.out.at 1 _ rfl
      have za := a_88.out.lt
      have qb0 : w87.cell? ⟨w.heap.size + 1, 0, none⟩ = some (.bool f2) := b_88.out.at 0 _ rfl
      have qb1 : w87.cell? ⟨w.heap.size + 1, 1, none⟩ = some (.slice A2 l2.length c2) := b_88.out.at 1 _ rfl
      have zb := b_88.out.lt
      have qp0 : w87.cell? ⟨w65.heap.size, 0, none⟩ = some (.bool false) := p_88.out.at 0 _ rfl
      have qp1 : w87.cell? ⟨w65.heap.size, 1, none⟩ = some (.slice P 0 pc) := p_88.out.at 1 _ rfl
      have zp := p_88.out.lt
      have qq0 : w87.cell? ⟨w81.heap.size, 0, none⟩ = some (.bool f1) := q_88.out.at 0 _ rfl
      have qq1 : w87.cell? ⟨w81.heap.size, 1, none⟩ = some (.slice Q l1.length qc) := q_88.out.at 1 _ rfl
      have zq := q_88.out.lt
      go_wp2_with (go_at_call 17; refine stop_here ?_)
      refine stop_on ?_
      clear qa0 qa1 za qb0 qb1 zb qp0 qp1 zp qq0 qq1 zq
      refine (ref04Same_is f1 f2 A1 A2 l1 l2 _ _ c1 c2 _ rfl rfl A_88.out B_88.out Hsr.out).mono ?_
      rintro e w89 ⟨rfl, hx⟩
      have A_90 := Lib.hid (A_88.out.ext hx)
      have B_90 := Lib.hid (B_88.out.ext hx)
      have X_90 := Lib.hid (X_88.out.ext hx)
      have a_90 := Lib.hid (a_88.out.ext hx)
      have b_90 := Lib.hid (b_88.out.ext hx)
      have P_90 := Lib.hid (P_88.out.ext hx)
      have p_90 := Lib.hid (p_88.out.ext hx)
      have Q_90 := Lib.hid (Q_88.out.ext hx)
      have q_90 := Lib.hid (q_88.out.ext hx)
      clear A_88 B_88 X_88 a_88 b_88 P_88 p_88 Q_88 q_88
      clear hx
      have qa0 : w89.cell? ⟨w.heap.size, 0, none⟩ = some (.bool f1) := a_90.out.at 0 _ rfl
      have qa1 : w89.cell? ⟨w.heap.size, 1, none⟩ = some (.slice A1 l1.length c1) := a_90.out.at 1 _ rfl
      have za := a_90.out.lt
      have qb0 : w89.cell? ⟨w.heap.size + 1, 0, none⟩ = some (.bool f2) := b_90.out.at 0 _ rfl
      have qb1 : w89.cell? ⟨w.heap.size + 1, 1, none⟩ = some (.slice A2 l2.length c2) := b_90.out.at 1 _ rfl
      have zb := b_90.out.lt
      have qp0 : w89.cell? ⟨w65.heap.size, 0, none⟩ = some (.bool false) := p_90.out.at 0 _ rfl
      have qp1 : w89.cell? ⟨w65.heap.size, 1, none⟩ = some (.slice P 0 pc) := p_90.out.at 1 _ rfl
      have zp := p_90.out.lt
      have qq0 : w89.cell? ⟨w81.heap.size, 0, none⟩ = some (.bool f1) := q_90.out.at 0 _ rfl
      have qq1 : w89.cell? ⟨w81.heap.size, 1, none⟩ = some (.slice Q l1.length qc) := q_90.out.at 1 _ rfl
      have zq := q_90.out.lt
      go_wp2
      go_ret
      exact ⟨rfl, X_90.out⟩
    · go_enter Try.func5, Try.ntmps5
      go_wp2_with (go_at_call 10; refine stop_here ?_)
      refine stop_on ?_
      generalize hW : (World.alloc (World.alloc w _) _) = W91
      obtain ⟨hx, hb0, hb1⟩ := allocs2 hW
      clear hW
      have A_92 := Lib.hid (A_1.out.ext hx)
      have B_92 := Lib.hid (B_2.out.ext hx)
      have X_92 := Lib.hid (X_3.out.ext hx)
      clear A_1 B_2 X_3
      have a_93 := Lib.hid hb0
      have b_94 := Lib.hid hb1
      clear hx hb0 hb1
      refine (shown_any _).mono ?_
      rintro e w95 ⟨rfl, hx⟩
      have A_96 := Lib.hid (A_92.out.ext hx)
      have B_96 := Lib.hid (B_92.out.ext hx)
      have X_96 := Lib.hid (X_92.out.ext hx)
      have a_96 := Lib.hid (a_93.out.ext hx)
      have b_96 := Lib.hid (b_94.out.ext hx)
      clear A_92 B_92 X_92 a_93 b_94
      clear hx
      have qa0 : w95.cell? ⟨w.heap.size, 0, none⟩ = some (.bool f1) := a_96.out.at 0 _ rfl
      have qa1 : w95.cell? ⟨w.heap.size, 1, none⟩ = some (.slice A1 l1.length c1) := a_96.out.at 1 _ rfl
      have za := a_96.out.lt
      have qb0 : w95.cell? ⟨w.heap.size + 1, 0, none⟩ = some (.bool f2) := b_96.out.at 0 _ rfl
      have qb1 : w95.cell? ⟨w.heap.size + 1, 1, none⟩ = some (.slice A2 l2.length c2) := b_96.out.at 1 _ rfl
      have zb := b_96.out.lt
      go_wp2_with (go_at_call 13; refine stop_here ?_)
      refine stop_on ?_
      clear qa0 qa1 za qb0 qb1 zb
      refine (nodeParse_is t _ Ht.out Hp1.out Hp2.out (m := 0) rfl Hp3.out).mono ?_
      rintro e w97 ⟨P, pc, rfl, h1, hx⟩
      have A_98 := Lib.hid (A_96.out.ext hx)
      have B_98 := Lib.hid (B_96.out.ext hx)
      have X_98 := Lib.hid (X_96.out.ext hx)
      have a_98 := Lib.hid (a_96.out.ext hx)
      have b_98 := Lib.hid (b_96.out.ext hx)
      clear A_96 B_96 X_96 a_96 b_96
      have P_99 := Lib.hid h1
      clear hx h1
      have qa0 : w97.cell? ⟨w.heap.size, 0, none⟩ = some (.bool f1) := a_98.out.at 0 _ rfl
      have qa1 : w97.cell? ⟨w.heap.size, 1, none⟩ = some (.slice A1 l1.length c1) := a_98.out.at 1 _ rfl
      have za := a_98.out.lt
      have qb0 : w97.cell? ⟨w.heap.size + 1, 0, none⟩ = some (.bool f2) := b_98.out.at 0 _ rfl
      have qb1 : w97.cell? ⟨w.heap.size + 1, 1, none⟩ = some (.slice A2 l2.length c2) := b_98.out.at 1 _ rfl
      have zb := b_98.out.lt
      go_wp2_with (go_at_call 11; refine stop_here ?_)
      refine stop_on ?_
      clear qa0 qa1 za qb0 qb1 zb
      generalize hW : (World.alloc w97 _) = W100
      obtain ⟨hx, hb0⟩ := allocs1 hW
      clear hW
      have A_101 := Lib.hid (A_98.out.ext hx)
      have B_101 := Lib.hid (B_98.out.ext hx)
      have X_101 := Lib.hid (X_98.out.ext hx)
      have a_101 := Lib.hid (a_98.out.ext hx)
      have b_101 := Lib.hid (b_98.out.ext hx)
      have P_101 := Lib.hid (P_99.out.ext hx)
      clear A_98 B_98 X_98 a_98 b_98 P_99
      have p_102 := Lib.hid hb0
      clear hx hb0
      refine (nodePrint_is false P [] 0 pc _ rfl P_101.out (x := ⟨#[]⟩) (e := 1) (by decide) (by decide)).mono ?_
      rintro e w103 ⟨rfl, hx⟩
      have A_104 := Lib.hid (A_101.out.ext hx)
      have B_104 := Lib.hid (B_101.out.ext hx)
      have X_104 := Lib.hid (X_101.out.ext hx)
      have a_104 := Lib.hid (a_101.out.ext hx)
      have b_104 := Lib.hid (b_101.out.ext hx)
      have P_104 := Lib.hid (P_101.out.ext hx)
      have p_104 := Lib.hid (p_102.out.ext hx)
      clear A_101 B_101 X_101 a_101 b_101 P_101 p_102
      clear hx
      have qa0 : w103.cell? ⟨w.heap.size, 0, none⟩ = some (.bool f1) := a_104.out.at 0 _ rfl
      have qa1 : w103.cell? ⟨w.heap.size, 1, none⟩ = some (.slice A1 l1.length c1) := a_104.out.at 1 _ rfl
      have za := a_104.out.lt
      have qb0 : w103.cell? ⟨w.heap.size + 1, 0, none⟩ = some (.bool f2) := b_104.out.at 0 _ rfl
      have qb1 : w103.cell? ⟨w.heap.size + 1, 1, none⟩ = some (.slice A2 l2.length c2) := b_104.out.at 1 _ rfl
      have zb := b_104.out.lt
      have qp0 : w103.cell? ⟨w97.heap.size, 0, none⟩ = some (.bool false) := p_104.out.at 0 _ rfl
      have qp1 : w103.cell? ⟨w97.heap.size, 1, none⟩ = some (.slice P 0 pc) := p_104.out.at 1 _ rfl
      have zp := p_104.out.lt
      go_wp2_with (go_at_call 15; refine stop_here ?_)
      refine stop_on ?_
      clear qa0 qa1 za qb0 qb1 zb qp0 qp1 zp
      refine (ref04Right_is f1 A1 l1 _ c1 _ rfl A_104.out Hr1.out).mono ?_
      rintro e w105 ⟨rfl, hx⟩
      have A_106 := Lib.hid (A_104.out.ext hx)
      have B_106 := Lib.hid (B_104.out.ext hx)
      have X_106 := Lib.hid (X_104.out.ext hx)
      have a_106 := Lib.hid (a_104.out.ext hx)
      have b_106 := Lib.hid (b_104.out.ext hx)
      have P_106 := Lib.hid (P_104.out.ext hx)
      have p_106 := Lib.hid (p_104.out.ext hx)
      clear A_104 B_104 X_104 a_104 b_104 P_104 p_104
      clear hx
      have qa0 : w105.cell? ⟨w.heap.size, 0, none⟩ = some (.bool f1) := a_106.out.at 0 _ rfl
      have qa1 : w105.cell? ⟨w.heap.size, 1, none⟩ = some (.slice A1 l1.length c1) := a_106.out.at 1 _ rfl
      have za := a_106.out.lt
      have qb0 : w105.cell? ⟨w.heap.size + 1, 0, none⟩ = some (.bool f2) := b_106.out.at 0 _ rfl
      have qb1 : w105.cell? ⟨w.heap.size + 1, 1, none⟩ = some (.slice A2 l2.length c2) := b_106.out.at 1 _ rfl
      have zb := b_106.out.lt
      have qp0 : w105.cell? ⟨w97.heap.size, 0, none⟩ = some (.bool false) := p_106.out.at 0 _ rfl
      have qp1 : w105.cell? ⟨w97.heap.size, 1, none⟩ = some (.slice P 0 pc) := p_106.out.at 1 _ rfl
      have zp := p_106.out.lt
      go_wp2_with (go_at_call 15; refine stop_here ?_)
      refine stop_on ?_
      clear qa0 qa1 za qb0 qb1 zb qp0 qp1 zp
      refine (ref04Right_is f2 A2 l2 _ c2 _ rfl B_106.out Hr2.out).mono ?_
      rintro e w107 ⟨rfl, hx⟩
      have A_108 := Lib.hid (A_106.out.ext hx)
      have B_108 := Lib.hid (B_106.out.ext hx)
      have X_108 := Lib.hid (X_106.out.ext hx)
      have a_108 := Lib.hid (a_106.out.ext hx)
      have b_108 := Lib.hid (b_106.out.ext hx)
      have P_108 := Lib.hid (P_106.out.ext hx)
      have p_108 := Lib.hid (p_106.out.ext hx)
      clear A_106 B_106 X_106 a_106 b_106 P_106 p_106
      clear hx
      have qa0 : w107.cell? ⟨w.heap.size, 0, none⟩ = some (.bool f1) := a_108.out.at 0 _ rfl
      have qa1 : w107.cell? ⟨w.heap.size, 1, none⟩ = some (.slice A1 l1.length c1) := a_108.out.at 1 _ rfl
      have za := a_108.out.lt
      have qb0 : w107.cell? ⟨w.heap.size + 1, 0, none⟩ = some (.bool f2) := b_108.out.at 0 _ rfl
      have qb1 : w107.cell? ⟨w.heap.size + 1, 1, none⟩ = some (.slice A2 l2.length c2) := b_108.out.at 1 _ rfl
      have zb := b_108.out.lt
      have qp0 : w107.cell? ⟨w97.heap.size, 0, none⟩ = some (.bool false) := p_108.out.at 0 _ rfl
      have qp1 : w107.cell? ⟨w97.heap.size, 1, none⟩ = some (.slice P 0 pc) := p_108.out.at 1 _ rfl
      have zp := p_108.out.lt
      go_wp2_with (go_at_call 11; refine stop_here ?_)
      refine stop_on ?_
      clear qa0 qa1 za qb0 qb1 zb qp0 qp1 zp
      refine (nodePrint_is f1 A1 l1 _ c1 _ rfl A_108.out Hx.out He1.out).mono ?_
      rintro e w109 ⟨rfl, hx⟩
      have A_110 := Lib.hid (A_108.out.ext hx)
      have B_110 := Lib.hid (B_108.out.ext hx)
      have X_110 := Lib.hid (X_108.out.ext hx)
      have a_110 := Lib.hid (a_108.out.ext hx)
      have b_110 := Lib.hid (b_108.out.ext hx)
      have P_110 := Lib.hid (P_108.out.ext hx)
      have p_110 := Lib.hid (p_108.out.ext hx)
      clear A_108 B_108 X_108 a_108 b_108 P_108 p_108
      clear hx
      have qa0 : w109.cell? ⟨w.heap.size, 0, none⟩ = some (.bool f1) := a_110.out.at 0 _ rfl
      have qa1 : w109.cell? ⟨w.heap.size, 1, none⟩ = some (.slice A1 l1.length c1) := a_110.out.at 1 _ rfl
      have za := a_110.out.lt
      have qb0 : w109.cell? ⟨w.heap.size + 1, 0, none⟩ = some (.bool f2) := b_110.out.at 0 _ rfl
      have qb1 : w109.cell? ⟨w.heap.size + 1, 1, none⟩ = some (.slice A2 l2.length c2) := b_110.out.at 1 _ rfl
      have zb := b_110.out.lt
      have qp0 : w109.cell? ⟨w97.heap.size, 0, none⟩ = some (.bool false) := p_110.out.at 0 _ rfl
      have qp1 : w109.cell? ⟨w97.heap.size, 1, none⟩ = some (.slice P 0 pc) := p_110.out.at 1 _ rfl
      have zp := p_110.out.lt
      go_wp2_with (go_at_call 11; refine stop_here ?_)
      refine stop_on ?_
      clear qa0 qa1 za qb0 qb1 zb qp0 qp1 zp
      refine (nodePrint_is f2 A2 l2 _ c2 _ rfl B_110.out Hy.out He2.out).mono ?_
      rintro e w111 ⟨rfl, hx⟩
      have A_112 := Lib.hid (A_110.out.ext hx)
      have B_112 := Lib.hid (B_110.out.ext hx)
      have X_112 := Lib.hid (X_110.out.ext hx)
      have a_112 := Lib.hid (a_110.out.ext hx)
      have b_112 := Lib.hid (b_110.out.ext hx)
      have P_112 := Lib.hid (P_110.out.ext hx)
      have p_112 := Lib.hid (p_110.out.ext hx)
      clear A_110 B_110 X_110 a_110 b_110 P_110 p_110
      clear hx
      have qa0 : w111.cell? ⟨w.heap.size, 0, none⟩ = some (.bool f1) := a_112.out.at 0 _ rfl
      have qa1 : w111.cell? ⟨w.heap.size, 1, none⟩ = some (.slice A1 l1.length c1) := a_112.out.at 1 _ rfl
      have za := a_112.out.lt
      have qb0 : w111.cell? ⟨w.heap.size + 1, 0, none⟩ = some (.bool f2) := b_112.out.at 0 _ rfl
      have qb1 : w111.cell? ⟨w.heap.size + 1, 1, none⟩ = some (.slice A2 l2.length c2) := b_112.out.at 1 _ rfl
      have zb := b_112.out.lt
      have qp0 : w111.cell? ⟨w97.heap.size, 0, none⟩ = some (.bool false) := p_112.out.at 0 _ rfl
      have qp1 : w111.cell? ⟨w97.heap.size, 1, none⟩ = some (.slice P 0 pc) := p_112.out.at 1 _ rfl
      have zp := p_112.out.lt
      go_wp2_with (go_at_call 13; refine stop_here ?_)
      refine stop_on ?_
      clear qa0 qa1 za qb0 qb1 zb qp0 qp1 zp
      refine (nodeParse_is x _ Hxs.out Hx1.out Hx2.out (m := l1.length) rfl Hx3.out).mono ?_
      rintro e w113 ⟨Q, qc, rfl, h1, hx⟩
      have A_114 := Lib.hid (A_112.out.ext hx)
      have B_114 := Lib.hid (B_112.out.ext hx)
      have X_114 := Lib.hid (X_112.out.ext hx)
      have a_114 := Lib.hid (a_112.out.ext hx)
      have b_114 := Lib.hid (b_112.out.ext hx)
      have P_114 := Lib.hid (P_112.out.ext hx)
      have p_114 := Lib.hid (p_112.out.ext hx)
      clear A_112 B_112 X_112 a_112 b_112 P_112 p_112
      have Q_115 := Lib.hid h1
      clear hx h1
      have qa0 : w113.cell? ⟨w.heap.size, 0, none⟩ = some (.bool f1) := a_114.out.at 0 _ rfl
      have qa1 : w113.cell? ⟨w.heap.size, 1, none⟩ = some (.slice A1 l1.length c1) := a_114.out.at 1 _ rfl
      have za := a_114.out.lt
      have qb0 : w113.cell? ⟨w.heap.size + 1, 0, none⟩ = some (.bool f2) := b_114.out.at 0 _ rfl
      have qb1 : w113.cell? ⟨w.heap.size + 1, 1, none⟩ = some (.slice A2 l2.length c2) := b_114.out.at 1 _ rfl
      have zb := b_114.out.lt
      have qp0 : w113.cell? ⟨w97.heap.size, 0, none⟩ = some (.bool false) := p_114.out.at 0 _ rfl
      have qp1 : w113.cell? ⟨w97.heap.size, 1, none⟩ = some (.slice P 0 pc) := p_114.out.at 1 _ rfl
      have zp := p_114.out.lt
      go_wp2_with (go_at_call 17; refine stop_here ?_)
      refine stop_on ?_
      clear qa0 qa1 za qb0 qb1 zb qp0 qp1 zp
      generalize hW : (World.alloc w113 _) = W116
      obtain ⟨hx, hb0⟩ := allocs1 hW
      clear hW
      have A_117 := Lib.hid (A_114.out.ext hx)
      have B_117 := Lib.hid (B_114.out.ext hx)
      have X_117 := Lib.hid (X_114.out.ext hx)
      have a_117 := Lib.hid (a_114.out.ext hx)
      have b_117 := Lib.hid (b_114.out.ext hx)
      have P_117 := Lib.hid (P_114.out.ext hx)
      have p_117 := Lib.hid (p_114.out.ext hx)
      have Q_117 := Lib.hid (Q_115.out.ext hx)
      clear A_114 B_114 X_114 a_114 b_114 P_114 p_114 Q_115
      have q_118 := Lib.hid hb0
      clear hx hb0
      refine (ref04Same_is f1 f1 Q A1 l1 l1 _ _ qc c1 _ rfl rfl Q_117.out A_117.out (same_self f1 l1)).mono ?_
      rintro e w119 ⟨rfl, hx⟩
      have A_120 := Lib.hid (A_117.out.ext hx)
      have B_120 := Lib.hid (B_117.out.ext hx)
      have X_120 := Lib.hid (X_117.out.ext hx)
      have a_120 := Lib.hid (a_117.out.ext hx)
      have b_120 := Lib.hid (b_117.out.ext hx)
      have P_120 := Lib.hid (P_117.out.ext hx)
      have p_120 := Lib.hid (p_117.out.ext hx)
      have Q_120 := Lib.hid (Q_117.out.ext hx)
      have q_120 := Lib.hid (q_118.out.ext hx)
      clear A_117 B_117 X_117 a_117 b_117 P_117 p_117 Q_117 q_118
      clear hx
      have qa0 : w119.cell? ⟨w.heap.size, 0, none⟩ = some (.bool f1) := a_120.out.at 0 _ rfl
      have qa1 : w119.cell? ⟨w.heap.size, 1, none⟩ = some (.slice A1 l1.length c1) := a_120.out.at 1 _ rfl
      have za := a_120.out.lt
      have qb0 : w119.cell? ⟨w.heap.size + 1, 0, none⟩ = some (.bool f2) := b_120.out.at 0 _ rfl
      have qb1 : w119.cell? ⟨w.heap.size + 1, 1, none⟩ = some (.slice A2 l2.length c2) := b_120.out.at 1 _ rfl
      have zb := b_120.out.lt
      have qp0 : w119.cell? ⟨w97.heap.size, 0, none⟩ = some (.bool false) := p_120.out.at 0 _ rfl
      have qp1 : w119.cell? ⟨w97.heap.size, 1, none⟩ = some (.slice P 0 pc) := p_120.out.at 1 _ rfl
      have zp := p_120.out.lt
      have qq0 : w119.cell? ⟨w113.heap.size, 0, none⟩ = some (.bool f1) := q_120.out.at 0 _ rfl
      have qq1 : w119.cell? ⟨w113.heap.size, 1, none⟩ = some (.slice Q l1.length qc) := q_120.out.at 1 _ rfl
      have zq := q_120.out.lt
      go_wp2_with (go_at_call 17; refine stop_here ?_)
      refine stop_on ?_
      clear qa0 qa1 za qb0 qb1 zb qp0 qp1 zp qq0 qq1 zq
      refine (ref04Same_is f1 f2 A1 A2 l1 l2 _ _ c1 c2 _ rfl rfl A_120.out B_120.out Hsr.out).mono ?_
      rintro e w121 ⟨rfl, hx⟩
      have A_122 := Lib.hid (A_120.out.ext hx)
      have B_122 := Lib.hid (B_120.out.ext hx)
      have X_122 := Lib.hid (X_120.out.ext hx)
      have a_122 := Lib.hid (a_120.out.ext hx)
      have b_122 := Lib.hid (b_120.out.ext hx)
      have P_122 := Lib.hid (P_120.out.ext hx)
      have p_122 := Lib.hid (p_120.out.ext hx)
      have Q_122 := Lib.hid (Q_120.out.ext hx)
      have q_122 := Lib.hid (q_120.out.ext hx)
      clear A_120 B_120 X_120 a_120 b_120 P_120 p_120 Q_120 q_120
      clear hx
      have qa0 : w121.cell? ⟨w.heap.size, 0, none⟩ = some (.bool f1) := a_122.out.at 0 _ rfl
      have qa1 : w121.cell? ⟨w.heap.size, 1, none⟩ = some (.slice A1 l1.length c1) := a_122.out.at 1 _ rfl
      have za := a_122.out.lt
      have qb0 : w121.cell? ⟨w.heap.size + 1, 0, none⟩ = some (.bool f2) := b_122.out.at 0 _ rfl
      have qb1 : w121.cell? ⟨w.heap.size + 1, 1, none⟩ = some (.slice A2 l2.length c2) := b_122.out.at 1 _ rfl
      have zb := b_122.out.lt
      have qp0 : w121.cell? ⟨w97.heap.size, 0, none⟩ = some (.bool false) := p_122.out.at 0 _ rfl
      have qp1 : w121.cell? ⟨w97.heap.size, 1, none⟩ = some (.slice P 0 pc) := p_122.out.at 1 _ rfl
      have zp := p_122.out.lt
      have qq0 : w121.cell? ⟨w113.heap.size, 0, none⟩ = some (.bool f1) := q_122.out.at 0 _ rfl
      have qq1 : w121.cell? ⟨w113.heap.size, 1, none⟩ = some (.slice Q l1.length qc) := q_122.out.at 1 _ rfl
      have zq := q_122.out.lt
      go_wp2
      go_ret
      exact ⟨rfl, X_122.out⟩
  | some q =>
    obtain ⟨pf, pl⟩ := q
    obtain ⟨hp1, hp2, hp3⟩ := ndP_yes hp
    obtain ⟨hpr, hpt⟩ := ndP_some hp
    obtain ⟨m, hm⟩ : ∃ x, x = pl.length := ⟨_, rfl⟩
    have Hpe := Lib.hid (show ndE pl = 0 from by unfold ndE; rw [hpr]; rfl)
    have Hp1 := Lib.hid hp1
    have Hp2 := Lib.hid hp2
    have Hp3 := Lib.hid hp3
    have Hpr := Lib.hid hpr
    have Hpt := Lib.hid hpt
    have Hm := Lib.hid hm
    clear hp hp1 hp2 hp3 hpr hpt hm
    cases hr1 : ndR l1
    · have Hr1 := Lib.hid hr1
      clear hr1
      go_enter Try.func5, Try.ntmps5
      go_wp2_with (go_at_call 10; refine stop_here ?_)
      refine stop_on ?_
      generalize hW : (World.alloc (World.alloc w _) _) = W123
      obtain ⟨hx, hb0, hb1⟩ := allocs2 hW
      clear hW
      have A_124 := Lib.hid (A_1.out.ext hx)
      have B_124 := Lib.hid (B_2.out.ext hx)
      have X_124 := Lib.hid (X_3.out.ext hx)
      clear A_1 B_2 X_3
      have a_125 := Lib.hid hb0
      have b_126 := Lib.hid hb1
      clear hx hb0 hb1
      refine (shown_any _).mono ?_
      rintro e w127 ⟨rfl, hx⟩
      have A_128 := Lib.hid (A_124.out.ext hx)
      have B_128 := Lib.hid (B_124.out.ext hx)
      have X_128 := Lib.hid (X_124.out.ext hx)
      have a_128 := Lib.hid (a_125.out.ext hx)
      have b_128 := Lib.hid (b_126.out.ext hx)
      clear A_124 B_124 X_124 a_125 b_126
      clear hx
      have qa0 : w127.cell? ⟨w.heap.size, 0, none⟩ = some (.bool f1) := a_128.out.at 0 _ rfl
      have qa1 : w127.cell? ⟨w.heap.size, 1, none⟩ = some (.slice A1 l1.length c1) := a_128.out.at 1 _ rfl
      have za := a_128.out.lt
      have qb0 : w127.cell? ⟨w.heap.size + 1, 0, none⟩ = some (.bool f2) := b_128.out.at 0 _ rfl
      have qb1 : w127.cell? ⟨w.heap.size + 1, 1, none⟩ = some (.slice A2 l2.length c2) := b_128.out.at 1 _ rfl
      have zb := b_128.out.lt
      go_wp2_with (go_at_call 13; refine stop_here ?_)
      refine stop_on ?_
      clear qa0 qa1 za qb0 qb1 zb
      refine (nodeParse_is t _ Ht.out Hp1.out Hp2.out Hm.out Hp3.out).mono ?_
      rintro e w129 ⟨P, pc, rfl, h1, hx⟩
      have A_130 := Lib.hid (A_128.out.ext hx)
      have B_130 := Lib.hid (B_128.out.ext hx)
      have X_130 := Lib.hid (X_128.out.ext hx)
      have a_130 := Lib.hid (a_128.out.ext hx)
      have b_130 := Lib.hid (b_128.out.ext hx)
      clear A_128 B_128 X_128 a_128 b_128
      have P_131 := Lib.hid h1
      clear hx h1
      have qa0 : w129.cell? ⟨w.heap.size, 0, none⟩ = some (.bool f1) := a_130.out.at 0 _ rfl
      have qa1 : w129.cell? ⟨w.heap.size, 1, none⟩ = some (.slice A1 l1.length c1) := a_130.out.at 1 _ rfl
      have za := a_130.out.lt
      have qb0 : w129.cell? ⟨w.heap.size + 1, 0, none⟩ = some (.bool f2) := b_130.out.at 0 _ rfl
      have qb1 : w129.cell? ⟨w.heap.size + 1, 1, none⟩ = some (.slice A2 l2.length c2) := b_130.out.at 1 _ rfl
      have zb := b_130.out.lt
      go_wp2_with (go_at_call 11; refine stop_here ?_)
      refine stop_on ?_
      clear qa0 qa1 za qb0 qb1 zb
      generalize hW : (World.alloc w129 _) = W132
      obtain ⟨hx, hb0⟩ := allocs1 hW
      clear hW
      have A_133 := Lib.hid (A_130.out.ext hx)
      have B_133 := Lib.hid (B_130.out.ext hx)
      have X_133 := Lib.hid (X_130.out.ext hx)
      have a_133 := Lib.hid (a_130.out.ext hx)
      have b_133 := Lib.hid (b_130.out.ext hx)
      have P_133 := Lib.hid (P_131.out.ext hx)
      clear A_130 B_130 X_130 a_130 b_130 P_131
      have p_134 := Lib.hid hb0
      clear hx hb0
      refine (nodePrint_is pf P pl m pc _ Hm.out P_133.out Hpt.out Hpe.out).mono ?_
      rintro e w135 ⟨rfl, hx⟩
      have A_136 := Lib.hid (A_133.out.ext hx)
      have B_136 := Lib.hid (B_133.out.ext hx)
      have X_136 := Lib.hid (X_133.out.ext hx)
      have a_136 := Lib.hid (a_133.out.ext hx)
      have b_136 := Lib.hid (b_133.out.ext hx)
      have P_136 := Lib.hid (P_133.out.ext hx)
      have p_136 := Lib.hid (p_134.out.ext hx)
      clear A_133 B_133 X_133 a_133 b_133 P_133 p_134
      clear hx
      have qa0 : w135.cell? ⟨w.heap.size, 0, none⟩ = some (.bool f1) := a_136.out.at 0 _ rfl
      have qa1 : w135.cell? ⟨w.heap.size, 1, none⟩ = some (.slice A1 l1.length c1) := a_136.out.at 1 _ rfl
      have za := a_136.out.lt
      have qb0 : w135.cell? ⟨w.heap.size + 1, 0, none⟩ = some (.bool f2) := b_136.out.at 0 _ rfl
      have qb1 : w135.cell? ⟨w.heap.size + 1, 1, none⟩ = some (.slice A2 l2.length c2) := b_136.out.at 1 _ rfl
      have zb := b_136.out.lt
      have qp0 : w135.cell? ⟨w129.heap.size, 0, none⟩ = some (.bool pf) := p_136.out.at 0 _ rfl
      have qp1 : w135.cell? ⟨w129.heap.size, 1, none⟩ = some (.slice P m pc) := p_136.out.at 1 _ rfl
      have zp := p_136.out.lt
      go_wp2_with (go_at_call 15; refine stop_here ?_)
      refine stop_on ?_
      clear qa0 qa1 za qb0 qb1 zb qp0 qp1 zp
      refine (ref04Right_is pf P pl m pc _ Hm.out P_136.out Hpr.out).mono ?_
      rintro e w137 ⟨rfl, hx⟩
      have A_138 := Lib.hid (A_136.out.ext hx)
      have B_138 := Lib.hid (B_136.out.ext hx)
      have X_138 := Lib.hid (X_136.out.ext hx)
      have a_138 := Lib.hid (a_136.out.ext hx)
      have b_138 := Lib.hid (b_136.out.ext hx)
      have P_138 := Lib.hid (P_136.out.ext hx)
      have p_138 := Lib.hid (p_136.out.ext hx)
      clear A_136 B_136 X_136 a_136 b_136 P_136 p_136
      clear hx
      have qa0 : w137.cell? ⟨w.heap.size, 0, none⟩ = some (.bool f1) := a_138.out.at 0 _ rfl
      have qa1 : w137.cell? ⟨w.heap.size, 1, none⟩ = some (.slice A1 l1.length c1) := a_138.out.at 1 _ rfl
      have za := a_138.out.lt
      have qb0 : w137.cell? ⟨w.heap.size + 1, 0, none⟩ = some (.bool f2) := b_138.out.at 0 _ rfl
      have qb1 : w137.cell? ⟨w.heap.size + 1, 1, none⟩ = some (.slice A2 l2.length c2) := b_138.out.at 1 _ rfl
      have zb := b_138.out.lt
      have qp0 : w137.cell? ⟨w129.heap.size, 0, none⟩ = some (.bool pf) := p_138.out.at 0 _ rfl
      have qp1 : w137.cell? ⟨w129.heap.size, 1, none⟩ = some (.slice P m pc) := p_138.out.at 1 _ rfl
      have zp := p_138.out.lt
      go_wp2_with (go_at_call 15; refine stop_here ?_)
      refine stop_on ?_
      clear qa0 qa1 za qb0 qb1 zb qp0 qp1 zp
      refine (ref04Right_is f1 A1 l1 _ c1 _ rfl A_138.out Hr1.out).mono ?_
      rintro e w139 ⟨rfl, hx⟩
      have A_140 := Lib.hid (A_138.out.ext hx)
      have B_140 := Lib.hid (B_138.out.ext hx)
      have X_140 := Lib.hid (X_138.out.ext hx)
      have a_140 := Lib.hid (a_138.out.ext hx)
      have b_140 := Lib.hid (b_138.out.ext hx)
      have P_140 := Lib.hid (P_138.out.ext hx)
      have p_140 := Lib.hid (p_138.out.ext hx)
      clear A_138 B_138 X_138 a_138 b_138 P_138 p_138
      clear hx
      have qa0 : w139.cell? ⟨w.heap.size, 0, none⟩ = some (.bool f1) := a_140.out.at 0 _ rfl
      have qa1 : w139.cell? ⟨w.heap.size, 1, none⟩ = some (.slice A1 l1.length c1) := a_140.out.at 1 _ rfl
      have za := a_140.out.lt
      have qb0 : w139.cell? ⟨w.heap.size + 1, 0, none⟩ = some (.bool f2) := b_140.out.at 0 _ rfl
      have qb1 : w139.cell? ⟨w.heap.size + 1, 1, none⟩ = some (.slice A2 l2.length c2) := b_140.out.at 1 _ rfl
      have zb := b_140.out.lt
      have qp0 : w139.cell? ⟨w129.heap.size, 0, none⟩ = some (.bool pf) := p_140.out.at 0 _ rfl
      have qp1 : w139.cell? ⟨w129.heap.size, 1, none⟩ = some (.slice P m pc) := p_140.out.at 1 _ rfl
      have zp := p_140.out.lt
      go_wp2
      go_ret
      exact ⟨rfl, X_140.out⟩
    cases hr2 : ndR l2
    · have Hr1 := Lib.hid hr1
      have Hr2 := Lib.hid hr2
      clear hr1 hr2
      go_enter Try.func5, Try.ntmps5
      go_wp2_with (go_at_call 10; refine stop_here ?_)
      refine stop_on ?_
      generalize hW : (World.alloc (World.alloc w _) _) = W141
      obtain ⟨hx, hb0, hb1⟩ := allocs2 hW
      clear hW
      have A_142 := Lib.hid (A_1.out.ext hx)
      have B_142 := Lib.hid (B_2.out.ext hx)
      have X_142 := Lib.hid (X_3.out.ext hx)
      clear A_1 B_2 X_3
      have a_143 := Lib.hid hb0
      have b_144 := Lib.hid hb1
      clear hx hb0 hb1
      refine (shown_any _).mono ?_
      rintro e w145 ⟨rfl, hx⟩
      have A_146 := Lib.hid (A_142.out.ext hx)
      have B_146 := Lib.hid (B_142.out.ext hx)
      have X_146 := Lib.hid (X_142.out.ext hx)
      have a_146 := Lib.hid (a_143.out.ext hx)
      have b_146 := Lib.hid (b_144.out.ext hx)
      clear A_142 B_142 X_142 a_143 b_144
      clear hx
      have qa0 : w145.cell? ⟨w.heap.size, 0, none⟩ = some (.bool f1) := a_146.out.at 0 _ rfl
      have qa1 : w145.cell? ⟨w.heap.size, 1, none⟩ = some (.slice A1 l1.length c1) := a_146.out.at 1 _ rfl
      have za := a_146.out.lt
      have qb0 : w145.cell? ⟨w.heap.size + 1, 0, none⟩ = some (.bool f2) := b_146.out.at 0 _ rfl
      have qb1 : w145.cell? ⟨w.heap.size + 1, 1, none⟩ = some (.slice A2 l2.length c2) := b_146.out.at 1 _ rfl
      have zb := b_146.out.lt
      go_wp2_with (go_at_call 13; refine stop_here ?_)
      refine stop_on ?_
      clear qa0 qa1 za qb0 qb1 zb
      refine (nodeParse_is t _ Ht.out Hp1.out Hp2.out Hm.out Hp3.out).mono ?_
      rintro e w147 ⟨P, pc, rfl, h1, hx⟩
      have A_148 := Lib.hid (A_146.out.ext hx)
      have B_148 := Lib.hid (B_146.out.ext hx)
      have X_148 := Lib.hid (X_146.out.ext hx)
      have a_148 := Lib.hid (a_146.out.ext hx)
      have b_148 := Lib.hid (b_146.out.ext hx)
      clear A_146 B_146 X_146 a_146 b_146
      have P_149 := Lib.hid h1
      clear hx h1
      have qa0 : w147.cell? ⟨w.heap.size, 0, none⟩ = some (.bool f1) := a_148.out.at 0 _ rfl
      have qa1 : w147.cell? ⟨w.heap.size, 1, none⟩ = some (.slice A1 l1.length c1) := a_148.out.at 1 _ rfl
      have za := a_148.out.lt
      have qb0 : w147.cell? ⟨w.heap.size + 1, 0, none⟩ = some (.bool f2) := b_148.out.at 0 _ rfl
      have qb1 : w147.cell? ⟨w.heap.size + 1, 1, none⟩ = some (.slice A2 l2.length c2) := b_148.out.at 1 _ rfl
      have zb := b_148.out.lt
      go_wp2_with (go_at_call 11; refine stop_here ?_)
      refine stop_on ?_
      clear qa0 qa1 za qb0 qb1 zb
      generalize hW : (World.alloc w147 _) = W150
      obtain ⟨hx, hb0⟩ := allocs1 hW
      clear hW
      have A_151 := Lib.hid (A_148.out.ext hx)
      have B_151 := Lib.hid (B_148.out.ext hx)
      have X_151 := Lib.hid (X_148.out.ext hx)
      have a_151 := Lib.hid (a_148.out.ext hx)
      have b_151 := Lib.hid (b_148.out.ext hx)
      have P_151 := Lib.hid (P_149.out.ext hx)
      clear A_148 B_148 X_148 a_148 b_148 P_149
      have p_152 := Lib.hid hb0
      clear hx hb0
      refine (nodePrint_is pf P pl m pc _ Hm.out P_151.out Hpt.out Hpe.out).mono ?_
      rintro e w153 ⟨rfl, hx⟩
      have A_154 := Lib.hid (A_151.out.ext hx)
      have B_154 := Lib.hid (B_151.out.ext hx)
      have X_154 := Lib.hid (X_151.out.ext hx)
      have a_154 := Lib.hid (a_151.out.ext hx)
      have b_154 := Lib.hid (b_151.out.ext hx)
      have P_154 := Lib.hid (P_151.out.ext hx)
      have p_154 := Lib.hid (p_152.out.ext hx)
      clear A_151 B_151 X_151 a_151 b_151 P_151 p_152
      clear hx
      have qa0 : w153.cell? ⟨w.heap.size, 0, none⟩ = some (.bool f1) := a_154.out.at 0 _ rfl
      have qa1 : w153.cell? ⟨w.heap.size, 1, none⟩ = some (.slice A1 l1.length c1) := a_154.out.at 1 _ rfl
      have za := a_154.out.lt
      have qb0 : w153.cell? ⟨w.heap.size + 1, 0, none⟩ = some (.bool f2) := b_154.out.at 0 _ rfl
      have qb1 : w153.cell? ⟨w.heap.size + 1, 1, none⟩ = some (.slice A2 l2.length c2) := b_154.out.at 1 _ rfl
      have zb := b_154.out.lt
      have qp0 : w153.cell? ⟨w147.heap.size, 0, none⟩ = some (.bool pf) := p_154.out.at 0 _ rfl
      have qp1 : w153.cell? ⟨w147.heap.size, 1, none⟩ = some (.slice P m pc) := p_154.out.at 1 _ rfl
      have zp := p_154.out.lt
      go_wp2_with (go_at_call 15; refine stop_here ?_)
      refine stop_on ?_
      clear qa0 qa1 za qb0 qb1 zb qp0 qp1 zp
      refine (ref04Right_is pf P pl m pc _ Hm.out P_154.out Hpr.out).mono ?_
      rintro e w155 ⟨rfl, hx⟩
      have A_156 := Lib.hid (A_154.out.ext hx)
      have B_156 := Lib.hid (B_154.out.ext hx)
      have X_156 := Lib.hid (X_154.out.ext hx)
      have a_156 := Lib.hid (a_154.out.ext hx)
      have b_156 := Lib.hid (b_154.out.ext hx)
      have P_156 := Lib.hid (P_154.out.ext hx)
      have p_156 := Lib.hid (p_154.out.ext hx)
      clear A_154 B_154 X_154 a_154 b_154 P_154 p_154
      clear hx
      have qa0 : w155.cell? ⟨w.heap.size, 0, none⟩ = some (.bool f1) := a_156.out.at 0 _ rfl
      have qa1 : w155.cell? ⟨w.heap.size, 1, none⟩ = some (.slice A1 l1.length c1) := a_156.out.at 1 _ rfl
      have za := a_156.out.lt
      have qb0 : w155.cell? ⟨w.heap.size + 1, 0, none⟩ = some (.bool f2) := b_156.out.at 0 _ rfl
      have qb1 : w155.cell? ⟨w.heap.size + 1, 1, none⟩ = some (.slice A2 l2.length c2) := b_156.out.at 1 _ rfl
      have zb := b_156.out.lt
      have qp0 : w155.cell? ⟨w147.heap.size, 0, none⟩ = some (.bool pf) := p_156.out.at 0 _ rfl
      have qp1 : w155.cell? ⟨w147.heap.size, 1, none⟩ = some (.slice P m pc) := p_156.out.at 1 _ rfl
      have zp := p_156.out.lt
      go_wp2_with (go_at_call 15; refine stop_here ?_)
      refine stop_on ?_
      clear qa0 qa1 za qb0 qb1 zb qp0 qp1 zp
      refine (ref04Right_is f1 A1 l1 _ c1 _ rfl A_156.out Hr1.out).mono ?_
      rintro e w157 ⟨rfl, hx⟩
      have A_158 := Lib.hid (A_156.out.ext hx)
      have B_158 := Lib.hid (B_156.out.ext hx)
      have X_158 := Lib.hid (X_156.out.ext hx)
      have a_158 := Lib.hid (a_156.out.ext hx)
      have b_158 := Lib.hid (b_156.out.ext hx)
      have P_158 := Lib.hid (P_156.out.ext hx)
      have p_158 := Lib.hid (p_156.out.ext hx)
      clear A_156 B_156 X_156 a_156 b_156 P_156 p_156
      clear hx
      have qa0 : w157.cell? ⟨w.heap.size, 0, none⟩ = some (.bool f1) := a_158.out.at 0 _ rfl
      have qa1 : w157.cell? ⟨w.heap.size, 1, none⟩ = some (.slice A1 l1.length c1) := a_158.out.at 1 _ rfl
      have za := a_158.out.lt
      have qb0 : w157.cell? ⟨w.heap.size + 1, 0, none⟩ = some (.bool f2) := b_158.out.at 0 _ rfl
      have qb1 : w157.cell? ⟨w.heap.size + 1, 1, none⟩ = some (.slice A2 l2.length c2) := b_158.out.at 1 _ rfl
      have zb := b_158.out.lt
      have qp0 : w157.cell? ⟨w147.heap.size, 0, none⟩ = some (.bool pf) := p_158.out.at 0 _ rfl
      have qp1 : w157.cell? ⟨w147.heap.size, 1, none⟩ = some (.slice P m pc) := p_158.out.at 1 _ rfl
      have zp := p_158.out.lt
      go_wp2_with (go_at_call 15; refine stop_here ?_)
      refine stop_on ?_
      clear qa0 qa1 za qb0 qb1 zb qp0 qp1 zp
      refine (ref04Right_is f2 A2 l2 _ c2 _ rfl B_158.out Hr2.out).mono ?_
      rintro e w159 ⟨rfl, hx⟩
      have A_160 := Lib.hid (A_158.out.ext hx)
      have B_160 := Lib.hid (B_158.out.ext hx)
      have X_160 := Lib.hid (X_158.out.ext hx)
      have a_160 := Lib.hid (a_158.out.ext hx)
      have b_160 := Lib.hid (b_158.out.ext hx)
      have P_160 := Lib.hid (P_158.out.ext hx)
      have p_160 := Lib.hid (p_158.out.ext hx)
      clear A_158 B_158 X_158 a_158 b_158 P_158 p_158
      clear hx
      have qa0 : w159.cell? ⟨w.heap.size, 0, none⟩ = some (.bool f1) := a_160.out.at 0 _ rfl
      have qa1 : w159.cell? ⟨w.heap.size, 1, none⟩ = some (.slice A1 l1.length c1) := a_160.out.at 1 _ rfl
      have za := a_160.out.lt
      have qb0 : w159.cell? ⟨w.heap.size + 1, 0, none⟩ = some (.bool f2) := b_160.out.at 0 _ rfl
      have qb1 : w159.cell? ⟨w.heap.size + 1, 1, none⟩ = some (.slice A2 l2.length c2) := b_160.out.at 1 _ rfl
      have zb := b_160.out.lt
      have qp0 : w159.cell? ⟨w147.heap.size, 0, none⟩ = some (.bool pf) := p_160.out.at 0 _ rfl
      have qp1 : w159.cell? ⟨w147.heap.size, 1, none⟩ = some (.slice P m pc) := p_160.out.at 1 _ rfl
      have zp := p_160.out.lt
      go_wp2
      go_ret
      exact ⟨rfl, X_160.out⟩
    have hxy := block_same (f := f1) (g := f2) hr1 hr2
    obtain ⟨hx1, hx2, hx3⟩ := ndP_yes (ndP_print f1 l1 hr1)
    have hsz := ndB_size f1 l1 hr1
    have He1 := Lib.hid (show ndE l1 = 0 from by unfold ndE; rw [hr1]; rfl)
    have He2 := Lib.hid (show ndE l2 = 0 from by unfold ndE; rw [hr2]; rfl)
    obtain ⟨x, hx⟩ : ∃ x, ndB f1 l1 = x := ⟨_, rfl⟩
    obtain ⟨y, hy⟩ : ∃ x, ndB f2 l2 = x := ⟨_, rfl⟩
    obtain ⟨sr, hsr⟩ : ∃ x, sameN f1 l1 f2 l2 = x := ⟨_, rfl⟩
    rw [hx] at hxy hx1 hx2 hx3 hsz
    rw [hy, hsr] at hxy
    have Hx := Lib.hid hx
    have Hy := Lib.hid hy
    have Hsr := Lib.hid hsr
    have Hx1 := Lib.hid hx1
    have Hx2 := Lib.hid hx2
    have Hx3 := Lib.hid hx3
    have Hxs := Lib.hid (show x.size ≤ maxLen from by rw [hsz]; unfold maxLen; omega)
    have hsz1 : (x.size : Int) = 40 := by omega
    have Hr1 := Lib.hid hr1
    have Hr2 := Lib.hid hr2
    clear hx hy hsr hx1 hx2 hx3 hsz hr1 hr2
    cases sr
    · go_enter Try.func5, Try.ntmps5
      go_wp2_with (go_at_call 10; refine stop_here ?_)
      refine stop_on ?_
      generalize hW : (World.alloc (World.alloc w _) _) = W161
      obtain ⟨hx, hb0, hb1⟩ := allocs2 hW
      clear hW
      have A_162 := Lib.hid (A_1.out.ext hx)
      have B_162 := Lib.hid (B_2.out.ext hx)
      have X_162 := Lib.hid (X_3.out.ext hx)
      clear A_1 B_2 X_3
      have a_163 := Lib.hid hb0
      have b_164 := Lib.hid hb1
      clear hx hb0 hb1
      refine (shown_any _).mono ?_
      rintro e w165 ⟨rfl, hx⟩
      have A_166 := Lib.hid (A_162.out.ext hx)
      have B_166 := Lib.hid (B_162.out.ext hx)
      have X_166 := Lib.hid (X_162.out.ext hx)
      have a_166 := Lib.hid (a_163.out.ext hx)
      have b_166 := Lib.hid (b_164.out.ext hx)
      clear A_162 B_162 X_162 a_163 b_164
      clear hx
      have qa0 : w165.cell? ⟨w.heap.size, 0, none⟩ = some (.bool f1) := a_166.out.at 0 _ rfl
      have qa1 : w165.cell? ⟨w.heap.size, 1, none⟩ = some (.slice A1 l1.length c1) := a_166.out.at 1 _ rfl
      have za := a_166.out.lt
      have qb0 : w165.cell? ⟨w.heap.size + 1, 0, none⟩ = some (.bool f2) := b_166.out.at 0 _ rfl
      have qb1 : w165.cell? ⟨w.heap.size + 1, 1, none⟩ = some (.slice A2 l2.length c2) := b_166.out.at 1 _ rfl
      have zb := b_166.out.lt
      go_wp2_with (go_at_call 13; refine stop_here ?_)
      refine stop_on ?_
      clear qa0 qa1 za qb0 qb1 zb
      refine (nodeParse_is t _ Ht.out Hp1.out Hp2.out Hm.out Hp3.out).mono ?_
      rintro e w167 ⟨P, pc, rfl, h1, hx⟩
      have A_168 := Lib.hid (A_166.out.ext hx)
      have B_168 := Lib.hid (B_166.out.ext hx)
      have X_168 := Lib.hid (X_166.out.ext hx)
      have a_168 := Lib.hid (a_166.out.ext hx)
      have b_168 := Lib.hid (b_166.out.ext hx)
      clear A_166 B_166 X_166 a_166 b_166
      have P_169 := Lib.hid h1
      clear hx h1
      have qa0 : w167.cell? ⟨w.heap.size, 0, none⟩ = some (.bool f1) := a_168.out.at 0 _ rfl
      have qa1 : w167.cell? ⟨w.heap.size, 1, none⟩ = some (.slice A1 l1.length c1) := a_168.out.at 1 _ rfl
      have za := a_168.out.lt
      have qb0 : w167.cell? ⟨w.heap.size + 1, 0, none⟩ = some (.bool f2) := b_168.out.at 0 _ rfl
      have qb1 : w167.cell? ⟨w.heap.size + 1, 1, none⟩ = some (.slice A2 l2.length c2) := b_168.out.at 1 _ rfl
      have zb := b_168.out.lt
      go_wp2_with (go_at_call 11; refine stop_here ?_)
      refine stop_on ?_
      clear qa0 qa1 za qb0 qb1 zb
      generalize hW : (World.alloc w167 _) = W170
      obtain ⟨hx, hb0⟩ := allocs1 hW
      clear hW
      have A_171 := Lib.hid (A_168.out.ext hx)
      have B_171 := Lib.hid (B_168.out.ext hx)
      have X_171 := Lib.hid (X_168.out.ext hx)
      have a_171 := Lib.hid (a_168.out.ext hx)
      have b_171 := Lib.hid (b_168.out.ext hx)
      have P_171 := Lib.hid (P_169.out.ext hx)
      clear A_168 B_168 X_168 a_168 b_168 P_169
      have p_172 := Lib.hid hb0
      clear hx hb0
      refine (nodePrint_is pf P pl m pc _ Hm.out P_171.out Hpt.out Hpe.out).mono ?_
      rintro e w173 ⟨rfl, hx⟩
      have A_174 := Lib.hid (A_171.out.ext hx)
      have B_174 := Lib.hid (B_171.out.ext hx)
      have X_174 := Lib.hid (X_171.out.ext hx)
      have a_174 := Lib.hid (a_171.out.ext hx)
      have b_174 := Lib.hid (b_171.out.ext hx)
      have P_174 := Lib.hid (P_171.out.ext hx)
      have p_174 := Lib.hid (p_172.out.ext hx)
      clear A_171 B_171 X_171 a_171 b_171 P_171 p_172
      clear hx
      have qa0 : w173.cell? ⟨w.heap.size, 0, none⟩ = some (.bool f1) := a_174.out.at 0 _ rfl
      have qa1 : w173.cell? ⟨w.heap.size, 1, none⟩ = some (.slice A1 l1.length c1) := a_174.out.at 1 _ rfl
      have za := a_174.out.lt
      have qb0 : w173.cell? ⟨w.heap.size + 1, 0, none⟩ = some (.bool f2) := b_174.out.at 0 _ rfl
      have qb1 : w173.cell? ⟨w.heap.size + 1, 1, none⟩ = some (.slice A2 l2.length c2) := b_174.out.at 1 _ rfl
      have zb := b_174.out.lt
      have qp0 : w173.cell? ⟨w167.heap.size, 0, none⟩ = some (.bool pf) := p_174.out.at 0 _ rfl
      have qp1 : w173.cell? ⟨w167.heap.size, 1, none⟩ = some (.slice P m pc) := p_174.out.at 1 _ rfl
      have zp := p_174.out.lt
      go_wp2_with (go_at_call 15; refine stop_here ?_)
      refine stop_on ?_
      clear qa0 qa1 za qb0 qb1 zb qp0 qp1 zp
      refine (ref04Right_is pf P pl m pc _ Hm.out P_174.out Hpr.out).mono ?_
      rintro e w175 ⟨rfl, hx⟩
      have A_176 := Lib.hid (A_174.out.ext hx)
      have B_176 := Lib.hid (B_174.out.ext hx)
      have X_176 := Lib.hid (X_174.out.ext hx)
      have a_176 := Lib.hid (a_174.out.ext hx)
      have b_176 := Lib.hid (b_174.out.ext hx)
      have P_176 := Lib.hid (P_174.out.ext hx)
      have p_176 := Lib.hid (p_174.out.ext hx)
      clear A_174 B_174 X_174 a_174 b_174 P_174 p_174
      clear hx
      have qa0 : w175.cell? ⟨w.heap.size, 0, none⟩ = some (.bool f1) := a_176.out.at 0 _ rfl
      have qa1 : w175.cell? ⟨w.heap.size, 1, none⟩ = some (.slice A1 l1.length c1) := a_176.out.at 1 _ rfl
      have za := a_176.out.lt
      have qb0 : w175.cell? ⟨w.heap.size + 1, 0, none⟩ = some (.bool f2) := b_176.out.at 0 _ rfl
      have qb1 : w175.cell? ⟨w.heap.size + 1, 1, none⟩ = some (.slice A2 l2.length c2) := b_176.out.at 1 _ rfl
      have zb := b_176.out.lt
      have qp0 : w175.cell? ⟨w167.heap.size, 0, none⟩ = some (.bool pf) := p_176.out.at 0 _ rfl
      have qp1 : w175.cell? ⟨w167.heap.size, 1, none⟩ = some (.slice P m pc) := p_176.out.at 1 _ rfl
      have zp := p_176.out.lt
      go_wp2_with (go_at_call 15; refine stop_here ?_)
      refine stop_on ?_
      clear qa0 qa1 za qb0 qb1 zb qp0 qp1 zp
      refine (ref04Right_is f1 A1 l1 _ c1 _ rfl A_176.out Hr1.out).mono ?_
      rintro e w177 ⟨rfl, hx⟩
      have A_178 := Lib.hid (A_176.out.ext hx)
      have B_178 := Lib.hid (B_176.out.ext hx)
      have X_178 := Lib.hid (X_176.out.ext hx)
      have a_178 := Lib.hid (a_176.out.ext hx)
      have b_178 := Lib.hid (b_176.out.ext hx)
      have P_178 := Lib.hid (P_176.out.ext hx)
      have p_178 := Lib.hid (p_176.out.ext hx)
      clear A_176 B_176 X_176 a_176 b_176 P_176 p_176
      clear hx
      have qa0 : w177.cell? ⟨w.heap.size, 0, none⟩ = some (.bool f1) := a_178.out.at 0 _ rfl
      have qa1 : w177.cell? ⟨w.heap.size, 1, none⟩ = some (.slice A1 l1.length c1) := a_178.out.at 1 _ rfl
      have za := a_178.out.lt
      have qb0 : w177.cell? ⟨w.heap.size + 1, 0, none⟩ = some (.bool f2) := b_178.out.at 0 _ rfl
      have qb1 : w177.cell? ⟨w.heap.size + 1, 1, none⟩ = some (.slice A2 l2.length c2) := b_178.out.at 1 _ rfl
      have zb := b_178.out.lt
      have qp0 : w177.cell? ⟨w167.heap.size, 0, none⟩ = some (.bool pf) := p_178.out.at 0 _ rfl
      have qp1 : w177.cell? ⟨w167.heap.size, 1, none⟩ = some (.slice P m pc) := p_178.out.at 1 _ rfl
      have zp := p_178.out.lt
      go_wp2_with (go_at_call 15; refine stop_here ?_)
      refine stop_on ?_
      clear qa0 qa1 za qb0 qb1 zb qp0 qp1 zp
      refine (ref04Right_is f2 A2 l2 _ c2 _ rfl B_178.out Hr2.out).mono ?_
      rintro e w179 ⟨rfl, hx⟩
      have A_180 := Lib.hid (A_178.out.ext hx)
      have B_180 := Lib.hid (B_178.out.ext hx)
      have X_180 := Lib.hid (X_178.out.ext hx)
      have a_180 := Lib.hid (a_178.out.ext hx)
      have b_180 := Lib.hid (b_178.out.ext hx)
      have P_180 := Lib.hid (P_178.out.ext hx)
      have p_180 := Lib.hid (p_178.out.ext hx)
      clear A_178 B_178 X_178 a_178 b_178 P_178 p_178
      clear hx
      have qa0 : w179.cell? ⟨w.heap.size, 0, none⟩ = some (.bool f1) := a_180.out.at 0 _ rfl
      have qa1 : w179.cell? ⟨w.heap.size, 1, none⟩ = some (.slice A1 l1.length c1) := a_180.out.at 1 _ rfl
      have za := a_180.out.lt
      have qb0 : w179.cell? ⟨w.heap.size + 1, 0, none⟩ = some (.bool f2) := b_180.out.at 0 _ rfl
      have qb1 : w179.cell? ⟨w.heap.size + 1, 1, none⟩ = some (.slice A2 l2.length c2) := b_180.out.at 1 _ rfl
      have zb := b_180.out.lt
      have qp0 : w179.cell? ⟨w167.heap.size, 0, none⟩ = some (.bool pf) := p_180.out.at 0 _ rfl
      have qp1 : w179.cell? ⟨w167.heap.size, 1, none⟩ = some (.slice P m pc) := p_180.out.at 1 _ rfl
      have zp := p_180.out.lt
      go_wp2_with (go_at_call 11; refine stop_here ?_)
      refine stop_on ?_
      clear qa0 qa1 za qb0 qb1 zb qp0 qp1 zp
      refine (nodePrint_is f1 A1 l1 _ c1 _ rfl A_180.out Hx.out He1.out).mono ?_
      rintro e w181 ⟨rfl, hx⟩
      have A_182 := Lib.hid (A_180.out.ext hx)
      have B_182 := Lib.hid (B_180.out.ext hx)
      have X_182 := Lib.hid (X_180.out.ext hx)
      have a_182 := Lib.hid (a_180.out.ext hx)
      have b_182 := Lib.hid (b_180.out.ext hx)
      have P_182 := Lib.hid (P_180.out.ext hx)
      have p_182 := Lib.hid (p_180.out.ext hx)
      clear A_180 B_180 X_180 a_180 b_180 P_180 p_180
      clear hx
      have qa0 : w181.cell? ⟨w.heap.size, 0, none⟩ = some (.bool f1) := a_182.out.at 0 _ rfl
      have qa1 : w181.cell? ⟨w.heap.size, 1, none⟩ = some (.slice A1 l1.length c1) := a_182.out.at 1 _ rfl
      have za := a_182.out.lt
      have qb0 : w181.cell? ⟨w.heap.size + 1, 0, none⟩ = some (.bool f2) := b_182.out.at 0 _ rfl
      have qb1 : w181.cell? ⟨w.heap.size + 1, 1, none⟩ = some (.slice A2 l2.length c2) := b_182.out.at 1 _ rfl
      have zb := b_182.out.lt
      have qp0 : w181.cell? ⟨w167.heap.size, 0, none⟩ = some (.bool pf) := p_182.out.at 0 _ rfl
      have qp1 : w181.cell? ⟨w167.heap.size, 1, none⟩ = some (.slice P m pc) := p_182.out.at 1 _ rfl
      have zp := p_182.out.lt
      go_wp2_with (go_at_call 11; refine stop_here ?_)
      refine stop_on ?_
      clear qa0 qa1 za qb0 qb1 zb qp0 qp1 zp
      refine (nodePrint_is f2 A2 l2 _ c2 _ rfl B_182.out Hy.out He2.out).mono ?_
      rintro e w183 ⟨rfl, hx⟩
      have A_184 := Lib.hid (A_182.out.ext hx)
      have B_184 := Lib.hid (B_182.out.ext hx)
      have X_184 := Lib.hid (X_182.out.ext hx)
      have a_184 := Lib.hid (a_182.out.ext hx)
      have b_184 := Lib.hid (b_182.out.ext hx)
      have P_184 := Lib.hid (P_182.out.ext hx)
      have p_184 := Lib.hid (p_182.out.ext hx)
      clear A_182 B_182 X_182 a_182 b_182 P_182 p_182
      clear hx
      have qa0 : w183.cell? ⟨w.heap.size, 0, none⟩ = some (.bool f1) := a_184.out.at 0 _ rfl
      have qa1 : w183.cell? ⟨w.heap.size, 1, none⟩ = some (.slice A1 l1.length c1) := a_184.out.at 1 _ rfl
      have za := a_184.out.lt
      have qb0 : w183.cell? ⟨w.heap.size + 1, 0, none⟩ = some (.bool f2) := b_184.out.at 0 _ rfl
      have qb1 : w183.cell? ⟨w.heap.size + 1, 1, none⟩ = some (.slice A2 l2.length c2) := b_184.out.at 1 _ rfl
      have zb := b_184.out.lt
      have qp0 : w183.cell? ⟨w167.heap.size, 0, none⟩ = some (.bool pf) := p_184.out.at 0 _ rfl
      have qp1 : w183.cell? ⟨w167.heap.size, 1, none⟩ = some (.slice P m pc) := p_184.out.at 1 _ rfl
      have zp := p_184.out.lt
      go_wp2_with (go_at_call 13; refine stop_here ?_)
      refine stop_on ?_
      clear qa0 qa1 za qb0 qb1 zb qp0 qp1 zp
      refine (nodeParse_is x _ Hxs.out Hx1.out Hx2.out (m := l1.length) rfl Hx3.out).mono ?_
      rintro e w185 ⟨Q, qc, rfl, h1, hx⟩
      have A_186 := Lib.hid (A_184.out.ext hx)
      have B_186 := Lib.hid (B_184.out.ext hx)
      have X_186 := Lib.hid (X_184.out.ext hx)
      have a_186 := Lib.hid (a_184.out.ext hx)
      have b_186 := Lib.hid (b_184.out.ext hx)
      have P_186 := Lib.hid (P_184.out.ext hx)
      have p_186 := Lib.hid (p_184.out.ext hx)
      clear A_184 B_184 X_184 a_184 b_184 P_184 p_184
      have Q_187 := Lib.hid h1
      clear hx h1
      have qa0 : w185.cell? ⟨w.heap.size, 0, none⟩ = some (.bool f1) := a_186.out.at 0 _ rfl
      have qa1 : w185.cell? ⟨w.heap.size, 1, none⟩ = some (.slice A1 l1.length c1) := a_186.out.at 1 _ rfl
      have za := a_186.out.lt
      have qb0 : w185.cell? ⟨w.heap.size + 1, 0, none⟩ = some (.bool f2) := b_186.out.at 0 _ rfl
      have qb1 : w185.cell? ⟨w.heap.size + 1, 1, none⟩ = some (.slice A2 l2.length c2) := b_186.out.at 1 _ rfl
      have zb := b_186.out.lt
      have qp0 : w185.cell? ⟨w167.heap.size, 0, none⟩ = some (.bool pf) := p_186.out.at 0 _ rfl
      have qp1 : w185.cell? ⟨w167.heap.size, 1, none⟩ = some (.slice P m pc) := p_186.out.at 1 _ rfl
      have zp := p_186.out.lt
      go_wp2_with (go_at_call 17; refine stop_here ?_)
      refine stop_on ?_
      clear qa0 qa1 za qb0 qb1 zb qp0 qp1 zp
      generalize hW : (World.alloc w185 _) = W188
      obtain ⟨hx, hb0⟩ := allocs1 hW
      clear hW
      have A_189 := Lib.hid (A_186.out.ext hx)
      have B_189 := Lib.hid (B_186.out.ext hx)
      have X_189 := Lib.hid (X_186.out.ext hx)
      have a_189 := Lib.hid (a_186.out.ext hx)
      have b_189 := Lib.hid (b_186.out.ext hx)
      have P_189 := Lib.hid (P_186.out.ext hx)
      have p_189 := Lib.hid (p_186.out.ext hx)
      have Q_189 := Lib.hid (Q_187.out.ext hx)
      clear A_186 B_186 X_186 a_186 b_186 P_186 p_186 Q_187
      have q_190 := Lib.hid hb0
      clear hx hb0
      refine (ref04Same_is f1 f1 Q A1 l1 l1 _ _ qc c1 _ rfl rfl Q_189.out A_189.out (same_self f1 l1)).mono ?_
      rintro e w191 ⟨rfl, hx⟩
      have A_192 := Lib.hid (A_189.out.ext hx)
      have B_192 := Lib.hid (B_189.out.ext hx)
      have X_192 := Lib.hid (X_189.out.ext hx)
      have a_192 := Lib.hid (a_189.out.ext hx)
      have b_192 := Lib.hid (b_189.out.ext hx)
      have P_192 := Lib.hid (P_189.out.ext hx)
      have p_192 := Lib.hid (p_189.out.ext hx)
      have Q_192 := Lib.hid (Q_189.out.ext hx)
      have q_192 := Lib.hid (q_190.out.ext hx)
      clear A_189 B_189 X_189 a_189 b_189 P_189 p_189 Q_189 q_190
      clear hx
      have qa0 : w191.cell? ⟨w.heap.size, 0, none⟩ = some (.bool f1) := a_192.out.at 0 _ rfl
      have qa1 : w191.cell? ⟨w.heap.size, 1, none⟩ = some (.slice A1 l1.length c1) := a_192.out.at 1 _ rfl
      have za := a_192.out.lt
      have qb0 : w191.cell? ⟨w.heap.size + 1, 0, none⟩ = some (.bool f2) := b_192.out.at 0 _ rfl
      have qb1 : w191.cell? ⟨w.heap.size + 1, 1, none⟩ = some (.slice A2 l2.length c2) := b_192.out.at 1 _ rfl
      have zb := b_192.out.lt
      have qp0 : w191.cell? ⟨w167.heap.size, 0, none⟩ = some (.bool pf) := p_192.out.at 0 _ rfl
      have qp1 : w191.cell? ⟨w167.heap.size, 1, none⟩ = some (.slice P m pc) := p_192.out.at 1 _ rfl
      have zp := p_192.out.lt
      have qq0 : w191.cell? ⟨w185.heap.size, 0, none⟩ = some (.bool f1) := q_192.out.at 0 _ rfl
      have qq1 : w191.cell? ⟨w185.heap.size, 1, none⟩ = some (.slice Q l1.length qc) := q_192.out.at 1 _ rfl
      have zq := q_192.out.lt
      go_wp2_with (go_at_call 17; refine stop_here ?_)
      refine stop_on ?_
      clear qa0 qa1 za qb0 qb1 zb qp0 qp1 zp qq0 qq1 zq
      refine (ref04Same_is f1 f2 A1 A2 l1 l2 _ _ c1 c2 _ rfl rfl A_192.out B_192.out Hsr.out).mono ?_
      rintro e w193 ⟨rfl, hx⟩
      have A_194 := Lib.hid (A_192.out.ext hx)
      have B_194 := Lib.hid (B_192.out.ext hx)
      have X_194 := Lib.hid (X_192.out.ext hx)
      have a_194 := Lib.hid (a_192.out.ext hx)
      have b_194 := Lib.hid (b_192.out.ext hx)
      have P_194 := Lib.hid (P_192.out.ext hx)
      have p_194 := Lib.hid (p_192.out.ext hx)
      have Q_194 := Lib.hid (Q_192.out.ext hx)
      have q_194 := Lib.hid (q_192.out.ext hx)
      clear A_192 B_192 X_192 a_192 b_192 P_192 p_192 Q_192 q_192
      clear hx
      have qa0 : w193.cell? ⟨w.heap.size, 0, none⟩ = some (.bool f1) := a_194.out.at 0 _ rfl
      have qa1 : w193.cell? ⟨w.heap.size, 1, none⟩ = some (.slice A1 l1.length c1) := a_194.out.at 1 _ rfl
      have za := a_194.out.lt
      have qb0 : w193.cell? ⟨w.heap.size + 1, 0, none⟩ = some (.bool f2) := b_194.out.at 0 _ rfl
      have qb1 : w193.cell? ⟨w.heap.size + 1, 1, none⟩ = some (.slice A2 l2.length c2) := b_194.out.at 1 _ rfl
      have zb := b_194.out.lt
      have qp0 : w193.cell? ⟨w167.heap.size, 0, none⟩ = some (.bool pf) := p_194.out.at 0 _ rfl
      have qp1 : w193.cell? ⟨w167.heap.size, 1, none⟩ = some (.slice P m pc) := p_194.out.at 1 _ rfl
      have zp := p_194.out.lt
      have qq0 : w193.cell? ⟨w185.heap.size, 0, none⟩ = some (.bool f1) := q_194.out.at 0 _ rfl
      have qq1 : w193.cell? ⟨w185.heap.size, 1, none⟩ = some (.slice Q l1.length qc) := q_194.out.at 1 _ rfl
      have zq := q_194.out.lt
      go_wp2
      go_ret
      exact ⟨rfl, X_194.out⟩
    · go_enter Try.func5, Try.ntmps5
      go_wp2_with (go_at_call 10; refine stop_here ?_)
      refine stop_on ?_
      generalize hW : (World.alloc (World.alloc w _) _) = W195
      obtain ⟨hx, hb0, hb1⟩ := allocs2 hW
      clear hW
      have A_196 := Lib.hid (A_1.out.ext hx)
      have B_196 := Lib.hid (B_2.out.ext hx)
      have X_196 := Lib.hid (X_3.out.ext hx)
      clear A_1 B_2 X_3
      have a_197 := Lib.hid hb0
      have b_198 := Lib.hid hb1
      clear hx hb0 hb1
      refine (shown_any _).mono ?_
      rintro e w199 ⟨rfl, hx⟩
      have A_200 := Lib.hid (A_196.out.ext hx)
      have B_200 := Lib.hid (B_196.out.ext hx)
      have X_200 := Lib.hid (X_196.out.ext hx)
      have a_200 := Lib.hid (a_197.out.ext hx)
      have b_200 := Lib.hid (b_198.out.ext hx)
      clear A_196 B_196 X_196 a_197 b_198
      clear hx
      have qa0 : w199.cell? ⟨w.heap.size, 0, none⟩ = some (.bool f1) := a_200.out.at 0 _ rfl
      have qa1 : w199.cell? ⟨w.heap.size, 1, none⟩ = some (.slice A1 l1.length c1) := a_200.out.at 1 _ rfl
      have za := a_200.out.lt
      have qb0 : w199.cell? ⟨w.heap.size + 1, 0, none⟩ = some (.bool f2) := b_200.out.at 0 _ rfl
      have qb1 : w199.cell? ⟨w.heap.size + 1, 1, none⟩ = some (.slice A2 l2.length c2) := b_200.out.at 1 _ rfl
      have zb := b_200.out.lt
      go_wp2_with (go_at_call 13; refine stop_here ?_)
      refine stop_on ?_
      clear qa0 qa1 za qb0 qb1 zb
      refine (nodeParse_is t _ Ht.out Hp1.out Hp2.out Hm.out Hp3.out).mono ?_
      rintro e w201 ⟨P, pc, rfl, h1, hx⟩
      have A_202 := Lib.hid (A_200.out.ext hx)
      have B_202 := Lib.hid (B_200.out.ext hx)
      have X_202 := Lib.hid (X_200.out.ext hx)
      have a_202 := Lib.hid (a_200.out.ext hx)
      have b_202 := Lib.hid (b_200.out.ext hx)
      clear A_200 B_200 X_200 a_200 b_200
      have P_203 := Lib.hid h1
      clear hx h1
      have qa0 : w201.cell? ⟨w.heap.size, 0, none⟩ = some (.bool f1) := a_202.out.at 0 _ rfl
      have qa1 : w201.cell? ⟨w.heap.size, 1, none⟩ = some (.slice A1 l1.length c1) := a_202.out.at 1 _ rfl
      have za := a_202.out.lt
      have qb0 : w201.cell? ⟨w.heap.size + 1, 0, none⟩ = some (.bool f2) := b_202.out.at 0 _ rfl
      have qb1 : w201.cell? ⟨w.heap.size + 1, 1, none⟩ = some (.slice A2 l2.length c2) := b_202.out.at 1 _ rfl
      have zb := b_202.out.lt
      go_wp2_with (go_at_call 11; refine stop_here ?_)
      refine stop_on ?_
      clear qa0 qa1 za qb0 qb1 zb
      generalize hW : (World.alloc w201 _) = W204
      obtain ⟨hx, hb0⟩ := allocs1 hW
      clear hW
      have A_205 := Lib.hid (A_202.out.ext hx)
      have B_205 := Lib.hid (B_202.out.ext hx)
      have X_205 := Lib.hid (X_202.out.ext hx)
      have a_205 := Lib.hid (a_202.out.ext hx)
      have b_205 := Lib.hid (b_202.out.ext hx)
      have P_205 := Lib.hid (P_203.out.ext hx)
      clear A_202 B_202 X_202 a_202 b_202 P_203
      have p_206 := Lib.hid hb0
      clear hx hb0
      refine (nodePrint_is pf P pl m pc _ Hm.out P_205.out Hpt.out Hpe.out).mono ?_
      rintro e w207 ⟨rfl, hx⟩
      have A_208 := Lib.hid (A_205.out.ext hx)
      have B_208 := Lib.hid (B_205.out.ext hx)
      have X_208 := Lib.hid (X_205.out.ext hx)
      have a_208 := Lib.hid (a_205.out.ext hx)
      have b_208 := Lib.hid (b_205.out.ext hx)
      have P_208 := Lib.hid (P_205.out.ext hx)
      have p_208 := Lib.hid (p_206.out.ext hx)
      clear A_205 B_205 X_205 a_205 b_205 P_205 p_206
      clear hx
      have qa0 : w207.cell? ⟨w.heap.size, 0, none⟩ = some (.bool f1) := a_208.out.at 0 _ rfl
      have qa1 : w207.cell? ⟨w.heap.size, 1, none⟩ = some (.slice A1 l1.length c1) := a_208.out.at 1 _ rfl
      have za := a_208.out.lt
      have qb0 : w207.cell? ⟨w.heap.size + 1, 0, none⟩ = some (.bool f2) := b_208.out.at 0 _ rfl
      have qb1 : w207.cell? ⟨w.heap.size + 1, 1, none⟩ = some (.slice A2 l2.length c2) := b_208.out.at 1 _ rfl
      have zb := b_208.out.lt
      have qp0 : w207.cell? ⟨w201.heap.size, 0, none⟩ = some (.bool pf) := p_208.out.at 0 _ rfl
      have qp1 : w207.cell? ⟨w201.heap.size, 1, none⟩ = some (.slice P m pc) := p_208.out.at 1 _ rfl
      have zp := p_208.out.lt
      go_wp2_with (go_at_call 15; refine stop_here ?_)
      refine stop_on ?_
      clear qa0 qa1 za qb0 qb1 zb qp0 qp1 zp
      refine (ref04Right_is pf P pl m pc _ Hm.out P_208.out Hpr.out).mono ?_
      rintro e w209 ⟨rfl, hx⟩
      have A_210 := Lib.hid (A_208.out.ext hx)
      have B_210 := Lib.hid (B_208.out.ext hx)
      have X_210 := Lib.hid (X_208.out.ext hx)
      have a_210 := Lib.hid (a_208.out.ext hx)
      have b_210 := Lib.hid (b_208.out.ext hx)
      have P_210 := Lib.hid (P_208.out.ext hx)
      have p_210 := Lib.hid (p_208.out.ext hx)
      clear A_208 B_208 X_208 a_208 b_208 P_208 p_208
      clear hx
      have qa0 : w209.cell? ⟨w.heap.size, 0, none⟩ = some (.bool f1) := a_210.out.at 0 _ rfl
      have qa1 : w209.cell? ⟨w.heap.size, 1, none⟩ = some (.slice A1 l1.length c1) := a_210.out.at 1 _ rfl
      have za := a_210.out.lt
      have qb0 : w209.cell? ⟨w.heap.size + 1, 0, none⟩ = some (.bool f2) := b_210.out.at 0 _ rfl
      have qb1 : w209.cell? ⟨w.heap.size + 1, 1, none⟩ = some (.slice A2 l2.length c2) := b_210.out.at 1 _ rfl
      have zb := b_210.out.lt
      have qp0 : w209.cell? ⟨w201.heap.size, 0, none⟩ = some (.bool pf) := p_210.out.at 0 _ rfl
      have qp1 : w209.cell? ⟨w201.heap.size, 1, none⟩ = some (.slice P m pc) := p_210.out.at 1 _ rfl
      have zp := p_210.out.lt
      go_wp2_with (go_at_call 15; refine stop_here ?_)
      refine stop_on ?_
      clear qa0 qa1 za qb0 qb1 zb qp0 qp1 zp
      refine (ref04Right_is f1 A1 l1 _ c1 _ rfl A_210.out Hr1.out).mono ?_
      rintro e w211 ⟨rfl, hx⟩
      have A_212 := Lib.hid (A_210.out.ext hx)
      have B_212 := Lib.hid (B_210.out.ext hx)
      have X_212 := Lib.hid (X_210.out.ext hx)
      have a_212 := Lib.hid (a_210.out.ext hx)
      have b_212 := Lib.hid (b_210.out.ext hx)
      have P_212 := Lib.hid (P_210.out.ext hx)
      have p_212 := Lib.hid (p_210.out.ext hx)
      clear A_210 B_210 X_210 a_210 b_210 P_210 p_210
      clear hx
      have qa0 : w211.cell? ⟨w.heap.size, 0, none⟩ = some (.bool f1) := a_212.out.at 0 _ rfl
      have qa1 : w211.cell? ⟨w.heap.size, 1, none⟩ = some (.slice A1 l1.length c1) := a_212.out.at 1 _ rfl
      have za := a_212.out.lt
      have qb0 : w211.cell? ⟨w.heap.size + 1, 0, none⟩ = some (.bool f2) := b_212.out.at 0 _ rfl
      have qb1 : w211.cell? ⟨w.heap.size + 1, 1, none⟩ = some (.slice A2 l2.length c2) := b_212.out.at 1 _ rfl
      have zb := b_212.out.lt
      have qp0 : w211.cell? ⟨w201.heap.size, 0, none⟩ = some (.bool pf) := p_212.out.at 0 _ rfl
      have qp1 : w211.cell? ⟨w201.heap.size, 1, none⟩ = some (.slice P m pc) := p_212.out.at 1 _ rfl
      have zp := p_212.out.lt
      go_wp2_with (go_at_call 15; refine stop_here ?_)
      refine stop_on ?_
      clear qa0 qa1 za qb0 qb1 zb qp0 qp1 zp
      refine (ref04Right_is f2 A2 l2 _ c2 _ rfl B_212.out Hr2.out).mono ?_
      rintro e w213 ⟨rfl, hx⟩
      have A_214 := Lib.hid (A_212.out.ext hx)
      have B_214 := Lib.hid (B_212.out.ext hx)
      have X_214 := Lib.hid (X_212.out.ext hx)
      have a_214 := Lib.hid (a_212.out.ext hx)
      have b_214 := Lib.hid (b_212.out.ext hx)
      have P_214 := Lib.hid (P_212.out.ext hx)
      have p_214 := Lib.hid (p_212.out.ext hx)
      clear A_212 B_212 X_212 a_212 b_212 P_212 p_212
      clear hx
      have qa0 : w213.cell? ⟨w.heap.size, 0, none⟩ = some (.bool f1) := a_214.out.at 0 _ rfl
      have qa1 : w213.cell? ⟨w.heap.size, 1, none⟩ = some (.slice A1 l1.length c1) := a_214.out.at 1 _ rfl
      have za := a_214.out.lt
      have qb0 : w213.cell? ⟨w.heap.size + 1, 0, none⟩ = some (.bool f2) := b_214.out.at 0 _ rfl
      have qb1 : w213.cell? ⟨w.heap.size + 1, 1, none⟩ = some (.slice A2 l2.length c2) := b_214.out.at 1 _ rfl
      have zb := b_214.out.lt
      have qp0 : w213.cell? ⟨w201.heap.size, 0, none⟩ = some (.bool pf) := p_214.out.at 0 _ rfl
      have qp1 : w213.cell? ⟨w201.heap.size, 1, none⟩ = some (.slice P m pc) := p_214.out.at 1 _ rfl
      have zp := p_214.out.lt
      go_wp2_with (go_at_call 11; refine stop_here ?_)
      refine stop_on ?_
      clear qa0 qa1 za qb0 qb1 zb qp0 qp1 zp
      refine (nodePrint_is f1 A1 l1 _ c1 _ rfl A_214.out Hx.out He1.out).mono ?_
      rintro e w215 ⟨rfl, hx⟩
      have A_216 := Lib.hid (A_214.out.ext hx)
      have B_216 := Lib.hid (B_214.out.ext hx)
      have X_216 := Lib.hid (X_214.out.ext hx)
      have a_216 := Lib.hid (a_214.out.ext hx)
      have b_216 := Lib.hid (b_214.out.ext hx)
      have P_216 := Lib.hid (P_214.out.ext hx)
      have p_216 := Lib.hid (p_214.out.ext hx)
      clear A_214 B_214 X_214 a_214 b_214 P_214 p_214
      clear hx
      have qa0 : w215.cell? ⟨w.heap.size, 0, none⟩ = some (.bool f1) := a_216.out.at 0 _ rfl
      have qa1 : w215.cell? ⟨w.heap.size, 1, none⟩ = some (.slice A1 l1.length c1) := a_216.out.at 1 _ rfl
      have za := a_216.out.lt
      have qb0 : w215.cell? ⟨w.heap.size + 1, 0, none⟩ = some (.bool f2) := b_216.out.at 0 _ rfl
      have qb1 : w215.cell? ⟨w.heap.size + 1, 1, none⟩ = some (.slice A2 l2.length c2) := b_216.out.at 1 _ rfl
      have zb := b_216.out.lt
      have qp0 : w215.cell? ⟨w201.heap.size, 0, none⟩ = some (.bool pf) := p_216.out.at 0 _ rfl
      have qp1 : w215.cell? ⟨w201.heap.size, 1, none⟩ = some (.slice P m pc) := p_216.out.at 1 _ rfl
      have zp := p_216.out.lt
      go_wp2_with (go_at_call 11; refine stop_here ?_)
      refine stop_on ?_
      clear qa0 qa1 za qb0 qb1 zb qp0 qp1 zp
      refine (nodePrint_is f2 A2 l2 _ c2 _ rfl B_216.out Hy.out He2.out).mono ?_
      rintro e w217 ⟨rfl, hx⟩
      have A_218 := Lib.hid (A_216.out.ext hx)
      have B_218 := Lib.hid (B_216.out.ext hx)
      have X_218 := Lib.hid (X_216.out.ext hx)
      have a_218 := Lib.hid (a_216.out.ext hx)
      have b_218 := Lib.hid (b_216.out.ext hx)
      have P_218 := Lib.hid (P_216.out.ext hx)
      have p_218 := Lib.hid (p_216.out.ext hx)
      clear A_216 B_216 X_216 a_216 b_216 P_216 p_216
      clear hx
      have qa0 : w217.cell? ⟨w.heap.size, 0, none⟩ = some (.bool f1) := a_218.out.at 0 _ rfl
      have qa1 : w217.cell? ⟨w.heap.size, 1, none⟩ = some (.slice A1 l1.length c1) := a_218.out.at 1 _ rfl
      have za := a_218.out.lt
      have qb0 : w217.cell? ⟨w.heap.size + 1, 0, none⟩ = some (.bool f2) := b_218.out.at 0 _ rfl
      have qb1 : w217.cell? ⟨w.heap.size + 1, 1, none⟩ = some (.slice A2 l2.length c2) := b_218.out.at 1 _ rfl
      have zb := b_218.out.lt
      have qp0 : w217.cell? ⟨w201.heap.size, 0, none⟩ = some (.bool pf) := p_218.out.at 0 _ rfl
      have qp1 : w217.cell? ⟨w201.heap.size, 1, none⟩ = some (.slice P m pc) := p_218.out.at 1 _ rfl
      have zp := p_218.out.lt
      go_wp2_with (go_at_call 13; refine stop_here ?_)
      refine stop_on ?_
      clear qa0 qa1 za qb0 qb1 zb qp0 qp1 zp
      refine (nodeParse_is x _ Hxs.out Hx1.out Hx2.out (m := l1.length) rfl Hx3.out).mono ?_
      rintro e w219 ⟨Q, qc, rfl, h1, hx⟩
      have A_220 := Lib.hid (A_218.out.ext hx)
      have B_220 := Lib.hid (B_218.out.ext hx)
      have X_220 := Lib.hid (X_218.out.ext hx)
      have a_220 := Lib.hid (a_218.out.ext hx)
      have b_220 := Lib.hid (b_218.out.ext hx)
      have P_220 := Lib.hid (P_218.out.ext hx)
      have p_220 := Lib.hid (p_218.out.ext hx)
      clear A_218 B_218 X_218 a_218 b_218 P_218 p_218
      have Q_221 := Lib.hid h1
      clear hx h1
      have qa0 : w219.cell? ⟨w.heap.size, 0, none⟩ = some (.bool f1) := a_220.out.at 0 _ rfl
      have qa1 : w219.cell? ⟨w.heap.size, 1, none⟩ = some (.slice A1 l1.length c1) := a_220.out.at 1 _ rfl
      have za := a_220.out.lt
      have qb0 : w219.cell? ⟨w.heap.size + 1, 0, none⟩ = some (.bool f2) := b_220.out.at 0 _ rfl
      have qb1 : w219.cell? ⟨w.heap.size + 1, 1, none⟩ = some (.slice A2 l2.length c2) := b_220.out.at 1 _ rfl
      have zb := b_220.out.lt
      have qp0 : w219.cell? ⟨w201.heap.size, 0, none⟩ = some (.bool pf) := p_220.out.at 0 _ rfl
      have qp1 : w219.cell? ⟨w201.heap.size, 1, none⟩ = some (.slice P m pc) := p_220.out.at 1 _ rfl
      have zp := p_220.out.lt
      go_wp2_with (go_at_call 17; refine stop_here ?_)
      refine stop_on ?_
      clear qa0 qa1 za qb0 qb1 zb qp0 qp1 zp
      generalize hW : (World.alloc w219 _) = W222
      obtain ⟨hx, hb0⟩ := allocs1 hW
      clear hW
      have A_223 := Lib.hid (A_220.out.ext hx)
      have B_223 := Lib.hid (B_220.out.ext hx)
      have X_223 := Lib.hid (X_220.out.ext hx)
      have a_223 := Lib.hid (a_220.out.ext hx)
      have b_223 := Lib.hid (b_220.out.ext hx)
      have P_223 := Lib.hid (P_220.out.ext hx)
      have p_223 := Lib.hid (p_220.out.ext hx)
      have Q_223 := Lib.hid (Q_221.out.ext hx)
      clear A_220 B_220 X_220 a_220 b_220 P_220 p_220 Q_221
      have q_224 := Lib.hid hb0
      clear hx hb0
      refine (ref04Same_is f1 f1 Q A1 l1 l1 _ _ qc c1 _ rfl rfl Q_223.out A_223.out (same_self f1 l1)).mono ?_
      rintro e w225 ⟨rfl, hx⟩
      have A_226 := Lib.hid (A_223.out.ext hx)
      have B_226 := Lib.hid (B_223.out.ext hx)
      have X_226 := Lib.hid (X_223.out.ext hx)
      have a_226 := Lib.hid (a_223.out.ext hx)
      have b_226 := Lib.hid (b_223.out.ext hx)
      have P_226 := Lib.hid (P_223.out.ext hx)
      have p_226 := Lib.hid (p_223.out.ext hx)
      have Q_226 := Lib.hid (Q_223.out.ext hx)
      have q_226 := Lib.hid (q_224.out.ext hx)
      clear A_223 B_223 X_223 a_223 b_223 P_223 p_223 Q_223 q_224
      clear hx
      have qa0 : w225.cell? ⟨w.heap.size, 0, none⟩ = some (.bool f1) := a_226.out.at 0 _ rfl
      have qa1 : w225.cell? ⟨w.heap.size, 1, none⟩ = some (.slice A1 l1.length c1) := a_226.out.at 1 _ rfl
      have za := a_226.out.lt
      have qb0 : w225.cell? ⟨w.heap.size + 1, 0, none⟩ = some (.bool f2) := b_226.out.at 0 _ rfl
      have qb1 : w225.cell? ⟨w.heap.size + 1, 1, none⟩ = some (.slice A2 l2.length c2) := b_226.out.at 1 _ rfl
      have zb := b_226.out.lt
      have qp0 : w225.cell? ⟨w201.heap.size, 0, none⟩ = some (.bool pf) := p_226.out.at 0 _ rfl
      have qp1 : w225.cell? ⟨w201.heap.size, 1, none⟩ = some (.slice P m pc) := p_226.out.at 1 _ rfl
      have zp := p_226.out.lt
      have qq0 : w225.cell? ⟨w219.heap.size, 0, none⟩ = some (.bool f1) := q_226.out.at 0 _ rfl
      have qq1 : w225.cell? ⟨w219.heap.size, 1, none⟩ = some (.slice Q l1.length qc) := q_226.out.at 1 _ rfl
      have zq := q_226.out.lt
      go_wp2_with (go_at_call 17; refine stop_here ?_)
      refine stop_on ?_
      clear qa0 qa1 za qb0 qb1 zb qp0 qp1 zp qq0 qq1 zq
      refine (ref04Same_is f1 f2 A1 A2 l1 l2 _ _ c1 c2 _ rfl rfl A_226.out B_226.out Hsr.out).mono ?_
      rintro e w227 ⟨rfl, hx⟩
      have A_228 := Lib.hid (A_226.out.ext hx)
      have B_228 := Lib.hid (B_226.out.ext hx)
      have X_228 := Lib.hid (X_226.out.ext hx)
      have a_228 := Lib.hid (a_226.out.ext hx)
      have b_228 := Lib.hid (b_226.out.ext hx)
      have P_228 := Lib.hid (P_226.out.ext hx)
      have p_228 := Lib.hid (p_226.out.ext hx)
      have Q_228 := Lib.hid (Q_226.out.ext hx)
      have q_228 := Lib.hid (q_226.out.ext hx)
      clear A_226 B_226 X_226 a_226 b_226 P_226 p_226 Q_226 q_226
      clear hx
      have qa0 : w227.cell? ⟨w.heap.size, 0, none⟩ = some (.bool f1) := a_228.out.at 0 _ rfl
      have qa1 : w227.cell? ⟨w.heap.size, 1, none⟩ = some (.slice A1 l1.length c1) := a_228.out.at 1 _ rfl
      have za := a_228.out.lt
      have qb0 : w227.cell? ⟨w.heap.size + 1, 0, none⟩ = some (.bool f2) := b_228.out.at 0 _ rfl
      have qb1 : w227.cell? ⟨w.heap.size + 1, 1, none⟩ = some (.slice A2 l2.length c2) := b_228.out.at 1 _ rfl
      have zb := b_228.out.lt
      have qp0 : w227.cell? ⟨w201.heap.size, 0, none⟩ = some (.bool pf) := p_228.out.at 0 _ rfl
      have qp1 : w227.cell? ⟨w201.heap.size, 1, none⟩ = some (.slice P m pc) := p_228.out.at 1 _ rfl
      have zp := p_228.out.lt
      have qq0 : w227.cell? ⟨w219.heap.size, 0, none⟩ = some (.bool f1) := q_228.out.at 0 _ rfl
      have qq1 : w227.cell? ⟨w219.heap.size, 1, none⟩ = some (.slice Q l1.length qc) := q_228.out.at 1 _ rfl
      have zq := q_228.out.lt
      go_wp2
      go_ret
      exact ⟨rfl, X_228.out⟩
end Go.Proofs.Ytpcchbcibcfldaa

