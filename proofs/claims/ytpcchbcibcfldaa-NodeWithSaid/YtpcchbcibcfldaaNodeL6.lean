/- The walk of NodeWith. -/
import Derived.Test.YtpcchbcibcfldaaNodeM
namespace Go.Proofs.Ytpcchbcibcfldaa
open Go.RowKit
attribute [local go_sem ↓] Go.wp_at_zero Go.wp_at_succ

set_option maxRecDepth 100000 in
set_option maxHeartbeats 2000000 in
theorem with_any (A1 A2 : Option Addr) (l1 l2 : List It) (c1 c2 : Nat) (at_ gone : Int) (w : World) (hA : Sl w A1 l1.length c1 (ivs l1)) (hB : Sl w A2 l2.length c2 (ivs l2)) (h0 : 0 ≤ at_) (h1 : at_ < 256) (h2 : 0 ≤ gone) (h3 : gone < 256) :
    Calls Try.prog 8 #[.agg #[.slice A1 l1.length c1, .int .u8 at_, .int .u8 gone, .slice A2 l2.length c2]] w fun e w' => e = .returned (.bool true) ∧ Ext w w' := by
  have A_1 := Lib.hid (hA)
  have B_2 := Lib.hid (hB)
  have X_3 := Lib.hid (Ext.refl w)
  have hnc := hA.2.1
  clear hA hB
  rcases Decidable.em ((l1.length : Int) ≤ 20) with h13 | h13
  rotate_left
  · go_enter Try.func8, Try.ntmps8
    go_wp2_with (go_at_call 10; refine stop_here ?_)
    refine stop_on ?_
    generalize hW : (World.alloc w _) = W5
    obtain ⟨hx, hb0⟩ := allocs1 hW
    clear hW
    have A_6 := Lib.hid (A_1.out.ext hx)
    have B_6 := Lib.hid (B_2.out.ext hx)
    have X_6 := Lib.hid (X_3.out.ext hx)
    clear A_1 B_2 X_3
    have wi_7 := Lib.hid hb0
    clear hx hb0
    refine (shown_any _).mono ?_
    rintro e w8 ⟨rfl, hx⟩
    have A_9 := Lib.hid (A_6.out.ext hx)
    have B_9 := Lib.hid (B_6.out.ext hx)
    have X_9 := Lib.hid (X_6.out.ext hx)
    have wi_9 := Lib.hid (wi_7.out.ext hx)
    clear A_6 B_6 X_6 wi_7
    clear hx
    have qwi0 : w8.cell? ⟨w.heap.size, 0, none⟩ = some (.slice A1 l1.length c1) := wi_9.out.at 0 _ rfl
    have qwi1 : w8.cell? ⟨w.heap.size, 1, none⟩ = some (.int .u8 at_) := wi_9.out.at 1 _ rfl
    have qwi2 : w8.cell? ⟨w.heap.size, 2, none⟩ = some (.int .u8 gone) := wi_9.out.at 2 _ rfl
    have qwi3 : w8.cell? ⟨w.heap.size, 3, none⟩ = some (.slice A2 l2.length c2) := wi_9.out.at 3 _ rfl
    have zwi := wi_9.out.lt
    go_wp2
    go_ret
    exact ⟨rfl, X_9.out⟩
  rcases Decidable.em ((l2.length : Int) ≤ 20) with h19 | h19
  rotate_left
  · go_enter Try.func8, Try.ntmps8
    go_wp2_with (go_at_call 10; refine stop_here ?_)
    refine stop_on ?_
    generalize hW : (World.alloc w _) = W11
    obtain ⟨hx, hb0⟩ := allocs1 hW
    clear hW
    have A_12 := Lib.hid (A_1.out.ext hx)
    have B_12 := Lib.hid (B_2.out.ext hx)
    have X_12 := Lib.hid (X_3.out.ext hx)
    clear A_1 B_2 X_3
    have wi_13 := Lib.hid hb0
    clear hx hb0
    refine (shown_any _).mono ?_
    rintro e w14 ⟨rfl, hx⟩
    have A_15 := Lib.hid (A_12.out.ext hx)
    have B_15 := Lib.hid (B_12.out.ext hx)
    have X_15 := Lib.hid (X_12.out.ext hx)
    have wi_15 := Lib.hid (wi_13.out.ext hx)
    clear A_12 B_12 X_12 wi_13
    clear hx
    have qwi0 : w14.cell? ⟨w.heap.size, 0, none⟩ = some (.slice A1 l1.length c1) := wi_15.out.at 0 _ rfl
    have qwi1 : w14.cell? ⟨w.heap.size, 1, none⟩ = some (.int .u8 at_) := wi_15.out.at 1 _ rfl
    have qwi2 : w14.cell? ⟨w.heap.size, 2, none⟩ = some (.int .u8 gone) := wi_15.out.at 2 _ rfl
    have qwi3 : w14.cell? ⟨w.heap.size, 3, none⟩ = some (.slice A2 l2.length c2) := wi_15.out.at 3 _ rfl
    have zwi := wi_15.out.lt
    go_wp2
    go_ret
    exact ⟨rfl, X_15.out⟩
  obtain ⟨k, hk⟩ : ∃ k : Nat, at_ % ((l1.length : Int) + 1) = (k : Int) := Int.eq_ofNat_of_zero_le (Int.emod_nonneg _ (by omega))
  have hkn : k ≤ l1.length := by have := Int.emod_lt_of_pos at_ (show (0 : Int) < (l1.length : Int) + 1 by omega); omega
  obtain ⟨g, hg⟩ : ∃ g : Nat, gone % ((l1.length : Int) - (k : Int) + 1) = (g : Int) := Int.eq_ofNat_of_zero_le (Int.emod_nonneg _ (by omega))
  have hgn : k + g ≤ l1.length := by have := Int.emod_lt_of_pos gone (show (0 : Int) < (l1.length : Int) - (k : Int) + 1 by omega); omega
  have z1 : (((l1.length : Int) + 1) == 0) = false := by
    have : ¬ ((l1.length : Int) + 1 = 0) := by omega
    simpa using this
  have z2 : (((l1.length : Int) - at_ % ((l1.length : Int) + 1) + 1) == 0) = false := by
    rw [hk]
    have : ¬ ((l1.length : Int) - (k : Int) + 1 = 0) := by omega
    simpa using this
  have m0 : 0 ≤ at_ % ((l1.length : Int) + 1) := by omega
  have m1 : at_ % ((l1.length : Int) + 1) ≤ (l1.length : Int) := by omega
  have Hk := Lib.hid hk
  have Hg := Lib.hid hg
  clear hk hg
  obtain ⟨p, hp⟩ : ∃ p, k + l2.length + (l1.length - (k + g)) = p := ⟨_, rfl⟩
  have ep : ((p : Int) != (l1.length : Int) - (g : Int) + (l2.length : Int)) = false := by
    have : (p : Int) = (l1.length : Int) - (g : Int) + (l2.length : Int) := by omega
    simpa using this
  have hpl : p = (withS l1 k g l2).length := by rw [← hp]; exact withS_len rfl rfl hgn
  have w0 : withS l1 k 0 [] = l1 := by unfold withS; simp
  have e0 : k + 0 + (l1.length - (k + 0)) = l1.length := by omega
  have hkp : k + l2.length ≤ p := by omega
  have hp2 : p ≤ 40 := by omega
  have Hp := Lib.hid hp
  have Hpl := Lib.hid hpl
  have Hw0 := Lib.hid w0
  have He0 := Lib.hid e0
  clear hp hpl w0 e0
  obtain ⟨S1, hI1⟩ : ∃ X, (if c1 = k then A1 else A1.map (fun x => x.add (k * 2))) = X := ⟨_, rfl⟩
  obtain ⟨S4, hI4⟩ : ∃ X, (if c1 = k + g then A1 else A1.map (fun x => x.add ((k + g) * 2))) = X := ⟨_, rfl⟩
  have HL := Lib.hid (And.intro (with_head (more := l2) (g := g) hkn) (And.intro (with_mid (more := l2) (g := g) hkn) (And.intro (with_tail (more := l2) (g := g) hkn) (with_back (more := l2) (g := g) hkn))))
  go_enter Try.func8, Try.ntmps8
  go_wp2_with (go_at_call 10; refine stop_here ?_)
  refine stop_on ?_
  generalize hW : (World.alloc w _) = W16
  obtain ⟨hx, hb0⟩ := allocs1 hW
  clear hW
  have A_17 := Lib.hid (A_1.out.ext hx)
  have B_17 := Lib.hid (B_2.out.ext hx)
  have X_17 := Lib.hid (X_3.out.ext hx)
  clear A_1 B_2 X_3
  have wi_18 := Lib.hid hb0
  clear hx hb0
  refine (shown_any _).mono ?_
  rintro e w19 ⟨rfl, hx⟩
  have A_20 := Lib.hid (A_17.out.ext hx)
  have B_20 := Lib.hid (B_17.out.ext hx)
  have X_20 := Lib.hid (X_17.out.ext hx)
  have wi_20 := Lib.hid (wi_18.out.ext hx)
  clear A_17 B_17 X_17 wi_18
  clear hx
  have qwi0 : w19.cell? ⟨w.heap.size, 0, none⟩ = some (.slice A1 l1.length c1) := wi_20.out.at 0 _ rfl
  have qwi1 : w19.cell? ⟨w.heap.size, 1, none⟩ = some (.int .u8 at_) := wi_20.out.at 1 _ rfl
  have qwi2 : w19.cell? ⟨w.heap.size, 2, none⟩ = some (.int .u8 gone) := wi_20.out.at 2 _ rfl
  have qwi3 : w19.cell? ⟨w.heap.size, 3, none⟩ = some (.slice A2 l2.length c2) := wi_20.out.at 3 _ rfl
  have zwi := wi_20.out.lt
  go_wp2_with (go_at_call 25; refine stop_here ?_)
  refine stop_on ?_
  clear qwi0 qwi1 qwi2 qwi3 zwi
  simp only [Hk.out, Hg.out]
  clear z1 z2 m0 m1
  have hc := nodeWith_any A1 A2 l1 l2 _ _ c1 c2 k g _ rfl rfl hkn hgn (by omega) (by omega) A_20.out B_20.out
  rw [Hp.out] at hc
  refine hc.mono ?_
  clear hc
  rintro e wa ⟨U, uc, rfl, h1, hx⟩
  have A_21 := Lib.hid (A_20.out.ext hx)
  have B_21 := Lib.hid (B_20.out.ext hx)
  have X_21 := Lib.hid (X_20.out.ext hx)
  have wi_21 := Lib.hid (wi_20.out.ext hx)
  clear A_20 B_20 X_20 wi_20
  have U_22 := Lib.hid (h1)
  have huc := h1.2.1
  clear hx h1
  obtain ⟨S2, hI2⟩ : ∃ X, (if uc = k then U else U.map (fun x => x.add (k * 2))) = X := ⟨_, rfl⟩
  obtain ⟨S3, hI3⟩ : ∃ X, (if uc = k + l2.length then U else U.map (fun x => x.add ((k + l2.length) * 2))) = X := ⟨_, rfl⟩
  obtain ⟨W, hW⟩ : ∃ X, withS l1 k g l2 = X := ⟨_, rfl⟩
  rw [hW] at HL Hpl U_22
  clear hW
  have p1 := (A_21.out).items rfl k (k + g) (by omega) hgn
  rw [hI1, show k + g - k = g by omega] at p1
  have p2 := (U_22.out).items Hpl.out k (k + l2.length) (by omega) hkp
  rw [hI2, show k + l2.length - k = l2.length by omega, HL.out.2.1] at p2
  have p3 := (U_22.out).post Hpl.out (k + l2.length) hkp
  rw [hI3, HL.out.2.2.1] at p3
  have p4 := (A_21.out).post rfl (k + g) hgn
  rw [hI4] at p4
  have p5 := (U_22.out).pre Hpl.out k (by omega)
  rw [HL.out.1] at p5
  have p6 := (A_21.out).pre rfl k hkn
  have P1_23 := Lib.hid (p1)
  have P2_24 := Lib.hid (p2)
  have P3_25 := Lib.hid (p3)
  have P4_26 := Lib.hid (p4)
  have P5_27 := Lib.hid (p5)
  have P6_28 := Lib.hid (p6)
  clear p1 p2 p3 p4 p5 p6
  have He1 := Lib.hid (show k + g + (p - (k + l2.length)) = l1.length by have := Hp.out; omega)
  go_wp2_with (go_at_call 25; refine stop_here ?_)
  refine stop_on ?_
  have hc := nodeWith_any A1 none l1 [] _ 0 c1 0 k 0 _ rfl rfl hkn (by omega) (by omega) (by omega) A_21.out (Sl.nil _)
  rw [He0.out, Hw0.out] at hc
  refine hc.mono ?_
  clear hc
  rintro e w29 ⟨V, vc, rfl, h1, hx⟩
  have A_30 := Lib.hid (A_21.out.ext hx)
  have B_30 := Lib.hid (B_21.out.ext hx)
  have X_30 := Lib.hid (X_21.out.ext hx)
  have wi_30 := Lib.hid (wi_21.out.ext hx)
  have U_30 := Lib.hid (U_22.out.ext hx)
  have P1_30 := Lib.hid (P1_23.out.ext hx)
  have P2_30 := Lib.hid (P2_24.out.ext hx)
  have P3_30 := Lib.hid (P3_25.out.ext hx)
  have P4_30 := Lib.hid (P4_26.out.ext hx)
  have P5_30 := Lib.hid (P5_27.out.ext hx)
  have P6_30 := Lib.hid (P6_28.out.ext hx)
  clear A_21 B_21 X_21 wi_21 U_22 P1_23 P2_24 P3_25 P4_26 P5_27 P6_28
  have V_31 := Lib.hid h1
  clear hx h1
  have zwi := wi_30.out.lt
  go_wp2_with (go_at_call 24; refine stop_here ?_)
  refine stop_on ?_
  clear zwi
  refine (ref04Items_same V A1 l1 _ vc c1 _ rfl V_31.out A_30.out).mono ?_
  rintro e w32 ⟨rfl, hx⟩
  have A_33 := Lib.hid (A_30.out.ext hx)
  have B_33 := Lib.hid (B_30.out.ext hx)
  have X_33 := Lib.hid (X_30.out.ext hx)
  have wi_33 := Lib.hid (wi_30.out.ext hx)
  have U_33 := Lib.hid (U_30.out.ext hx)
  have P1_33 := Lib.hid (P1_30.out.ext hx)
  have P2_33 := Lib.hid (P2_30.out.ext hx)
  have P3_33 := Lib.hid (P3_30.out.ext hx)
  have P4_33 := Lib.hid (P4_30.out.ext hx)
  have P5_33 := Lib.hid (P5_30.out.ext hx)
  have P6_33 := Lib.hid (P6_30.out.ext hx)
  have V_33 := Lib.hid (V_31.out.ext hx)
  clear A_30 B_30 X_30 wi_30 U_30 P1_30 P2_30 P3_30 P4_30 P5_30 P6_30 V_31
  clear hx
  have zwi := wi_33.out.lt
  go_wp2_with (go_at_call 25; refine stop_here ?_)
  refine stop_on ?_
  clear zwi
  have hc := nodeWith_any U S1 W ((l1.drop k).take g) p g uc (c1 - k) k l2.length _ Hpl.out (by rw [List.length_take, List.length_drop]; omega) (by omega) hkp (by omega) (by omega) U_33.out P1_33.out
  rw [He1.out, HL.out.2.2.2] at hc
  refine hc.mono ?_
  clear hc
  rintro e w34 ⟨T, tc, rfl, h1, hx⟩
  have A_35 := Lib.hid (A_33.out.ext hx)
  have B_35 := Lib.hid (B_33.out.ext hx)
  have X_35 := Lib.hid (X_33.out.ext hx)
  have wi_35 := Lib.hid (wi_33.out.ext hx)
  have U_35 := Lib.hid (U_33.out.ext hx)
  have P1_35 := Lib.hid (P1_33.out.ext hx)
  have P2_35 := Lib.hid (P2_33.out.ext hx)
  have P3_35 := Lib.hid (P3_33.out.ext hx)
  have P4_35 := Lib.hid (P4_33.out.ext hx)
  have P5_35 := Lib.hid (P5_33.out.ext hx)
  have P6_35 := Lib.hid (P6_33.out.ext hx)
  have V_35 := Lib.hid (V_33.out.ext hx)
  clear A_33 B_33 X_33 wi_33 U_33 P1_33 P2_33 P3_33 P4_33 P5_33 P6_33 V_33
  have T_36 := Lib.hid h1
  clear hx h1
  have zwi := wi_35.out.lt
  have a1 : (k : Int) ≤ (uc : Int) := by omega
  have a2 : (k : Int) ≤ (c1 : Int) := by omega
  have a3 : (k : Int) + (l2.length : Int) ≤ (uc : Int) := by omega
  have a4 : (k : Int) ≤ (k : Int) + (l2.length : Int) := by omega
  have a5 : (k : Int) + (l2.length : Int) ≤ (p : Int) := by omega
  have a6 : (k : Int) + (g : Int) ≤ (l1.length : Int) := by omega
  have wr1 : IntKind.i64.wrap ((k : Int) + (l2.length : Int)) = (k : Int) + (l2.length : Int) := by rw [IntKind.wrap_i64]; omega
  have wr2 : IntKind.i64.wrap ((k : Int) + (g : Int)) = (k : Int) + (g : Int) := by rw [IntKind.wrap_i64]; omega
  have tn1 : ((k : Int) + (l2.length : Int)).toNat = k + l2.length := by omega
  have tn2 : ((k : Int) + (g : Int)).toNat = k + g := by omega
  have tn3 : k + l2.length - k = l2.length := by omega
  have a7 : (0 : Int) ≤ (k : Int) := by omega
  have a8 : (0 : Int) ≤ (k : Int) + (l2.length : Int) := by omega
  have a9 : (0 : Int) ≤ (k : Int) + (g : Int) := by omega
  go_wp2_with fail
  have HK37 := Lib.hid (fun w' (hx : Ext w34 w') => (show True from ⟨⟩))
  have G37_0 := Lib.hid (fun w' (hx : Ext w34 w') => ref04Items_same T A1 l1 _ tc c1 w' rfl (T_36.out.ext hx) (A_35.out.ext hx))
  have G37_1 := Lib.hid (fun w' (hx : Ext w34 w') => ref04Items_two U A1 (l1.take k) k k uc c1 w' (by rw [List.length_take]; omega) (by rw [List.length_take]; omega) (P5_35.out.ext hx) (P6_35.out.ext hx))
  have G37_2 := Lib.hid (fun w' (hx : Ext w34 w') => ref04Items_two S2 A2 l2 _ _ (uc - k) c2 w' rfl rfl (P2_35.out.ext hx) (B_35.out.ext hx))
  have G37_3 := Lib.hid (fun w' (hx : Ext w34 w') => ref04Items_two S3 S4 (l1.drop (k + g)) _ _ (uc - (k + l2.length)) (c1 - (k + g)) w' (by rw [List.length_drop]; have := Hp.out; omega) (by rw [List.length_drop]) (P3_35.out.ext hx) (P4_35.out.ext hx))
  clear zwi
  go_region_held3 (fun w' => True)
    (first | exact HK37.out _ E37_3.out | exact HK37.out _ E37_2.out | exact HK37.out _ E37_1.out | exact HK37.out _ E37_0.out | exact HK37.out _ (Ext.refl w34).drew | exact HK37.out _ (Ext.refl w34))
    (first
      | ((go_at_call 24
          with_reducible refine (G37_3.out _ E37_2.out).mono ?_
          rintro e v37_3 ⟨rfl, hx⟩
          have E37_3 := Lib.hid (E37_2.out.trans hx)
          clear hx))
      | ((go_at_call 24
          with_reducible refine (G37_2.out _ E37_1.out).mono ?_
          rintro e v37_2 ⟨rfl, hx⟩
          have E37_2 := Lib.hid (E37_1.out.trans hx)
          clear hx))
      | ((go_at_call 24
          with_reducible refine (G37_1.out _ E37_0.out).mono ?_
          rintro e v37_1 ⟨rfl, hx⟩
          have E37_1 := Lib.hid (E37_0.out.trans hx)
          clear hx))
      | ((go_at_call 24
          with_reducible refine (G37_0.out _ ?_).mono ?_
          (first | exact Ext.refl _ | exact (Ext.refl _).drew)
          rintro e v37_0 ⟨rfl, hx⟩
          have E37_0 := Lib.hid (show Ext w34 v37_0 from by first | exact hx | exact (Ext.refl w34).drew.trans hx)
          clear hx)))
  go_wp2
  go_ret
  exact ⟨rfl, X_35.out.trans E37_3.out⟩
end Go.Proofs.Ytpcchbcibcfldaa

