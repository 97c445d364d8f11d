/- The example of layer 6 . -/
import Derived.Test.YticppegploniaaaTdB2
namespace Go.Proofs.Yticppegploniaaa
open Go.RowKit
attribute [local go_sem ↓] Go.wp_at_zero Go.wp_at_succ
theorem todoSame_any (A B : Option Addr) (a b : List Tk) (n m c d : Nat) (w : World) (hn : n = a.length) (hm : m = b.length) (hA : Sl w A n c (a.map cxv)) (hB : Sl w B m d (b.map cxv)) :
    Calls Try.prog 7 #[.slice A n c, .slice B m d] w fun e w' => e = .returned (.bool (sameT a b)) ∧ ∃ q, w' = w.drewN q := by
  have HE := Lib.hid (slEqual_any A B a b n m c d w hn hm hA hB)
  clear hn hm hA hB
  go_enter Try.func7, Try.ntmps7
  go_wp2_with (go_at_call 13; refine HE.out.mono ?_; rintro e w1 ⟨rfl, q, rfl⟩)
  go_ret
  exact ⟨rfl, q, rfl⟩
def psX : List (Nat × Nat) := [(3, 2), (3, 3)]
theorem tasksX : tasksT psX = [ofT 3 2, ofT 3 3] := rfl
theorem fN_2 : fN 2 = 4611686018427387904 := by decide +kernel
theorem fN_3 : fN 3 = 4613937818241073152 := by decide +kernel
theorem whole_2_5 : WholeC (fN 2) 5 true := ⟨2, by decide +kernel, by decide +kernel, by decide +kernel, by decide +kernel⟩
theorem whole_3_5 : WholeC (fN 3) 5 true := ⟨3, by decide +kernel, by decide +kernel, by decide +kernel, by decide +kernel⟩
theorem whole_3_3 : WholeC (fN 3) (4 - 1) true := ⟨3, by decide +kernel, by decide +kernel, by decide +kernel, by decide +kernel⟩
theorem whole_3_1999 : WholeC (fN 3) (2000 - 1) true := ⟨3, by decide +kernel, by decide +kernel, by decide +kernel, by decide +kernel⟩
theorem whole_3_2 : WholeC (fN 3) (3 - 1) false := ⟨3, by decide +kernel, by decide +kernel, by decide +kernel, by decide +kernel⟩
theorem eachX {Q : Tk → Prop} (h1 : Q (ofT 3 2)) (h2 : Q (ofT 3 3)) : ∀ k (hk : k < [ofT 3 2, ofT 3 3].length), Q [ofT 3 2, ofT 3 3][k]
  | 0, _ => h1
  | 1, _ => h2
  | k + 2, hk => absurd hk (show ¬ (k + 2 < 2) by omega)
theorem printX : printT [ofT 3 2, ofT 3 3] = [2, 0, 3, 0, 2, 3, 0, 3] := by
  have h1 : tkB (ofT 3 2) = [3, 0, 2] := by unfold tkB ofT; simp only [plN_is (i := 3) (by omega) (isWh_fN 3), plN_is (i := 2) (by omega) (isWh_fN 2)]; rfl
  have h2 : tkB (ofT 3 3) = [3, 0, 3] := by unfold tkB ofT; simp only [plN_is (i := 3) (by omega) (isWh_fN 3)]; rfl
  unfold printT
  simp only [List.flatMap_cons, List.flatMap_nil, h1, h2]
  rfl
theorem partsX : partsT [2, 0, 3, 0, 2, 3, 0, 3] psX := ⟨by decide, fun
  | 0, _ => ⟨show takeS [2, 0, 3, 0, 2, 3, 0, 3] (2 + 3 * (0 : Nat)) 2 = some 3 by decide, show takeS [2, 0, 3, 0, 2, 3, 0, 3] (2 + 3 * (0 : Nat) + 2) 1 = some 2 by decide⟩
  | 1, _ => ⟨show takeS [2, 0, 3, 0, 2, 3, 0, 3] (2 + 3 * (1 : Nat)) 2 = some 3 by decide, show takeS [2, 0, 3, 0, 2, 3, 0, 3] (2 + 3 * (1 : Nat) + 2) 1 = some 3 by decide⟩
  | k + 2, hk => absurd hk (show ¬ (k + 2 < 2) by omega)⟩
theorem sameX : sameT [ofT 3 2, ofT 3 3] [ofT 3 2, ofT 3 3] = true := by
  unfold sameT sameT sameT sameK ofT
  rw [feq_two (a := 3) (b := 3) (by omega) (by omega) (isWh_fN 3) (isWh_fN 3), feq_two (a := 2) (b := 2) (by omega) (by omega) (isWh_fN 2) (isWh_fN 2)]
  rfl
theorem rightX (n : Int) (b : Bool) (S : Option Addr) (d : Nat) (w : World) (hn : (n = 4 ∧ b = true) ∨ (n = 3 ∧ b = false) ∨ (n = 2000 ∧ b = true)) (hS : Sl w S 2 d ([ofT 3 2, ofT 3 3].map cxv)) :
    Calls Try.prog 12 #[.slice S 2 d, .int .i64 n] w fun e w' => e = .returned (.bool b) ∧ Ext w w' := by
  have hy : ∀ k (hk : k < [ofT 3 2, ofT 3 3].length), WholeC [ofT 3 2, ofT 3 3][k].2 5 true := eachX (Q := fun t => WholeC t.2 5 true) whole_2_5 whole_3_5
  rcases hn with ⟨rfl, rfl⟩ | ⟨rfl, rfl⟩ | ⟨rfl, rfl⟩
  · exact todoRight_c 4 true S _ 2 d w (by omega) (by omega) (by simp) rfl (by omega) hS (eachX (Q := fun t => WholeC t.1 (4 - 1) true) whole_3_3 whole_3_3) hy
  · exact todoRight_c 3 false S _ 2 d w (by omega) (by omega) (by simp) rfl (by omega) hS (eachX (Q := fun t => WholeC t.1 (3 - 1) false) whole_3_2 whole_3_2) hy
  · exact todoRight_c 2000 true S _ 2 d w (by omega) (by omega) (by simp) rfl (by omega) hS (eachX (Q := fun t => WholeC t.1 (2000 - 1) true) whole_3_1999 whole_3_1999) hy
set_option maxRecDepth 100000 in
set_option maxHeartbeats 1600000 in
theorem shown_any (w : World) : Calls Try.prog 4 #[] w fun e w' => e = .returned (.bool true) ∧ Ext w w' := by
  obtain ⟨W, hW⟩ : ∃ W, w.alloc (.cells #[.complex .f64 (fN 3) (fN 2), .complex .f64 (fN 3) (fN 3)] 24) = W := ⟨_, rfl⟩
  have HX := Lib.hid (show Ext w W from hW ▸ Ext.alloc (Ext.refl _) _)
  have HL := Lib.hid (fun w' (hx : Ext W w') => (show Sl w' (some ⟨w.heap.size, 0, none⟩) 2 2 ([ofT 3 2, ofT 3 3].map cxv) from (hW ▸ sl_lit w 24 2 ([ofT 3 2, ofT 3 3].map cxv) (by unfold maxLen; omega) : Sl W _ 2 2 _).ext hx))
  have HPR := Lib.hid (todoPrint_c (some ⟨w.heap.size, 0, none⟩) [ofT 3 2, ofT 3 3] 2 2 W (eachX (Q := wkT) ⟨3, 2, by omega, by omega, isWh_fN 3, isWh_fN 2⟩ ⟨3, 3, by omega, by omega, isWh_fN 3, isWh_fN 3⟩) rfl (by omega) (HL.out W (Ext.refl _)) (rightX 2000 true _ 2 W (.inr (.inr ⟨rfl, rfl⟩)) (HL.out W (Ext.refl _))))
  rw [printX] at HPR
  have HPR := Lib.hid (HPR.out.mono (show ∀ e w', _ → (∃ S d, e = .returned (.slice S 8 d) ∧ Sl w' S 8 d (([2, 0, 3, 0, 2, 3, 0, 3] : List UInt8).map bv) ∧ Ext W w') from by rintro e w' ⟨S, n, d, rfl, rfl, h1, h2⟩; exact ⟨S, d, rfl, h1, h2⟩))
  have HPA := Lib.hid (fun A c w' (hS : Sl w' A 8 c (([2, 0, 3, 0, 2, 3, 0, 3] : List UInt8).map bv)) => todoParse_c A _ psX 8 c 2 4 w' rfl (by omega) rfl hS partsX (fun S d w2 h => rightX 4 true S d w2 (.inl ⟨rfl, rfl⟩) h))
  have HSM := Lib.hid (fun A d w' (hx : Ext W w') (hS : Sl w' A 2 d ([ofT 3 2, ofT 3 3].map cxv)) => (show Calls Try.prog 7 #[.slice (some ⟨w.heap.size, 0, none⟩) 2 2, .slice A 2 d] w' fun e w2 => e = .returned (.bool true) ∧ ∃ q, w2 = w'.drewN q from by
    have h := todoSame_any (some ⟨w.heap.size, 0, none⟩) A [ofT 3 2, ofT 3 3] [ofT 3 2, ofT 3 3] 2 2 2 d w' rfl rfl (HL.out w' hx) hS
    rw [sameX] at h; exact h))
  have HR4 := Lib.hid (fun w' (hx : Ext W w') => rightX 4 true _ 2 w' (.inl ⟨rfl, rfl⟩) (HL.out w' hx))
  have HR3 := Lib.hid (fun w' (hx : Ext W w') => rightX 3 false _ 2 w' (.inr (.inl ⟨rfl, rfl⟩)) (HL.out w' hx))
  have HPL := Lib.hid (fun w => (show Calls Try.prog 8 #[.complex .f64 (fN 3) (fN 2)] w fun e w' => e = .returned (.int .i64 3) ∧ w = w' from todoPlace_any (ofT 3 2) 3 w (by omega) (isWh_fN 3)))
  have HD2 := Lib.hid (fun w => (show Calls Try.prog 9 #[.complex .f64 (fN 3) (fN 2)] w fun e w' => e = .returned (.int .i64 2) ∧ w = w' from todoDone_any (ofT 3 2) 2 w (by omega) (isWh_fN 2)))
  have HD3 := Lib.hid (fun w => (show Calls Try.prog 9 #[.complex .f64 (fN 3) (fN 3)] w fun e w' => e = .returned (.int .i64 3) ∧ w = w' from todoDone_any (ofT 3 3) 3 w (by omega) (isWh_fN 3)))
  have HC := Lib.hid (fun w' (hx : Ext W w') => (show w'.cell? ⟨w.heap.size, 1, none⟩ = some (.complex .f64 (fN 3) (fN 3)) from Cells.at_ (HL.out w' hx).cells _ rfl 1 _ rfl))
  have hself : (FloatKind.f64.format.order (fN 3) 4613937818241073152 == some .eq) = true := by decide +kernel
  subst hW
  clear HL
  go_enter Try.func4, Try.ntmps4
  go_wp2_with (first
    | (go_at_call 5; refine (todoOf_any 3 2 _).mono ?_; rintro e w1 ⟨rfl, rfl⟩)
    | (go_at_call 6; refine (todoOn_is 3 2 _ (by omega) (by omega)).mono ?_; rintro e w2 ⟨rfl, rfl⟩)
    | (go_at_call 10; refine HPR.out.mono ?_; rintro e w3 ⟨S, d, rfl, hS, hx⟩; have HS := Lib.hid hS; have X3 := Lib.hid hx; clear hS hx)
    | (go_at_call 11; refine (HPA.out _ _ _ HS.out).mono ?_; rintro e w4 ⟨T, c, rfl, hS, hx⟩; have HT := Lib.hid hS; have X4 := Lib.hid (X3.out.trans hx); have hc := HC.out _ (X3.out.trans hx); clear hS hx)
    | (go_at_call 8; refine (HPL.out _).mono ?_; rintro e w5 ⟨rfl, rfl⟩)
    | (go_at_call 9; (first | (with_reducible refine (HD2.out _).mono ?_) | (with_reducible refine (HD3.out _).mono ?_)); rintro e w5 ⟨rfl, rfl⟩)
    | (go_at_call 7; refine (HSM.out _ _ _ X4.out HT.out).mono ?_; rintro e w6 ⟨rfl, q, rfl⟩; have X6 := Lib.hid (X4.out.drewN q))
    | (go_at_call 12; (first | (with_reducible refine (HR4.out _ X6.out).mono ?_; rintro e w7 ⟨rfl, hx⟩; have X7 := Lib.hid (X6.out.trans hx); clear hx) | (with_reducible refine (HR3.out _ X7.out).mono ?_; rintro e w8 ⟨rfl, hx⟩; have X8 := Lib.hid (X7.out.trans hx); clear hx))))
  go_ret
  exact ⟨rfl, HX.out.trans X8.out⟩
end Go.Proofs.Yticppegploniaaa
