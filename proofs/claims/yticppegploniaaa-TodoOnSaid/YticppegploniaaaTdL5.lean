/- The walk of TodoOn. -/
import Derived.Test.YticppegploniaaaTdN
import Derived.Deep.AppendLies
import Derived.Deep.RegionHeld3
import Derived.Deep.DeepCutAuto
import Derived.Deep.DrawnRows
import Derived.RegionTactic
namespace Go.Proofs.Yticppegploniaaa
open Go.RowKit
attribute [local go_sem ↓] Go.wp_at_zero Go.wp_at_succ

theorem sameT_one {p k : Nat} (hp : p < 2600) (hk : k < 2600) : sameT [ofT p k] [ofT p k] = true := by
  unfold sameT sameT sameK ofT
  rw [feq_two hp hp (isWh_fN p) (isWh_fN p), feq_two hk hk (isWh_fN k) (isWh_fN k)]
  simp
theorem feq_self {p : Nat} (hp : p < 2600) : feq (fN p) (fN p) = true := by rw [feq_two hp hp (isWh_fN p) (isWh_fN p)]; simp
set_option maxRecDepth 100000 in
set_option maxHeartbeats 3200000 in
theorem on_any (P K N : Nat) (w : World) (hP : P < 65536) (hK : K < 256) (hN : N < 256) :
    Calls Try.prog 3 #[.int .u16 P, .int .u8 K, .int .u8 N] w fun e w' => e = .returned (.bool true) ∧ Ext w w' := by
  have HSH := Lib.hid (shown_any w)
  obtain ⟨p, hpe⟩ : ∃ p, P % 2000 = p := ⟨_, rfl⟩
  have hp : p < 2000 := by omega
  have hmod : (P : Int).tmod 2000 = (p : Int) := by rw [Int.tmod_eq_emod_of_nonneg (by omega)]; omega
  clear hpe
  have HOF := Lib.hid (fun (k : Nat) (w : World) => todoOf_any p k w)
  go_enter Try.func3, Try.ntmps3
  go_wp2_with (first | (go_at_call 4; refine HSH.out.mono ?_; rintro e w1 ⟨rfl, hx⟩; have HX := Lib.hid hx; clear hx) | (go_at_call 5; refine (HOF.out _ _).mono ?_; rintro e w2 ⟨rfl, rfl⟩))
  go_loopw [9, 10] (fun t i wr => ∃ j : Nat, j ≤ N ∧ i = .int .i64 j ∧ t = .complex .f64 (fN p) (fN (K + j)) ∧ Ext w wr) (fun _ i _ => N - (intOf i).toNat)
  case atStart => exact ⟨0, Nat.zero_le _, rfl, by rw [Nat.add_zero], HX.out⟩
  case round =>
    obtain ⟨j, hj, rfl, rfl, hx⟩ := hrel
    have HX2 := Lib.hid hx
    clear hx
    rcases Nat.lt_or_ge j N with hlt | hlt
    · have hji : (j : Int) < (N : Int) := by omega
      have HO := Lib.hid (fun w => todoOn_is p (K + j) w (by omega) (by omega))
      go_wp2_with (go_at_call 6; refine (HO.out _).mono ?_; rintro e w2 ⟨rfl, rfl⟩)
      go_roundw
      case rel => exact ⟨j + 1, by omega, by go_num, by rw [Nat.add_assoc], HX2.out⟩
      case measure => simp [intOf]; omega
    · obtain rfl : N = j := by omega
      obtain ⟨M, hM⟩ : ∃ M, K + N = M := ⟨_, rfl⟩
      have hMb : M < 512 := by omega
      have hsum : ((K : Int) + (N : Int)) = (M : Int) := by omega
      rw [hM]
      clear hM hj hlt
      have HS := Lib.hid (fun (A B : Option Addr) (w : World) (hA : Sl w A 1 1 [.complex .f64 (fN p) (fN M)]) (hB : Sl w B 1 1 [.complex .f64 (fN p) (fN M)]) => (sameT_one (p := p) (k := M) (by omega) (by omega)) ▸ todoSame_any A B [ofT p M] [ofT p M] 1 1 1 1 w rfl rfl hA hB)
      have HPL := Lib.hid (fun w => todoPlace_any (fN p, fN M) p w (by omega) (isWh_fN p))
      have HDN := Lib.hid (fun w => todoDone_any (fN p, fN M) M w (by omega) (isWh_fN _))
      have hself : (FloatKind.f64.format.order (fN p) (floatOfInt .f64 (p : Int)) == some .eq) = true := feq_self (by omega)
      go_wp2_with (first | (go_at_call 5; refine (HOF.out _ _).mono ?_; rintro e w2 ⟨rfl, rfl⟩) | (go_at_call 7; refine stop_here ?_))
      refine stop_on ?_
      have HXA := Lib.hid (show Ext wr (wr.alloc (Obj.cells #[.complex FloatKind.f64 (fN p) (fN M)] 24)) from Ext.alloc (Ext.refl _) _)
      have HXB := Lib.hid (show Ext (wr.alloc (Obj.cells #[.complex FloatKind.f64 (fN p) (fN M)] 24)) ((wr.alloc (Obj.cells #[.complex FloatKind.f64 (fN p) (fN M)] 24)).alloc (Obj.cells #[.complex FloatKind.f64 (fN p) (fN M)] 24)) from Ext.alloc (Ext.refl _) _)
      refine (HS.out _ _ _ ((sl_lit wr 24 1 [.complex .f64 (fN p) (fN M)] (by unfold maxLen; omega)).ext HXB.out) (sl_lit' (by rw [World.size_alloc]) 24 1 [.complex .f64 (fN p) (fN M)] (by unfold maxLen; omega))).mono ?_
      rintro e w3 ⟨rfl, q, rfl⟩
      have HX3 := Lib.hid (((HX2.out.trans HXA.out).trans HXB.out).drewN q)
      go_wp2_with (first | (go_at_call 8; refine (HPL.out _).mono ?_; rintro e w2 ⟨rfl, rfl⟩) | (go_at_call 9; refine (HDN.out _).mono ?_; rintro e w2 ⟨rfl, rfl⟩))
      go_ret
      exact ⟨rfl, HX3.out⟩
end Go.Proofs.Yticppegploniaaa
