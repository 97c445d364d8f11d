/- Walks of Of and Text of the reference of layer 17. -/
import Derived.Test.YtpdeagndandnjaaDoorNmP
import Derived.Test.YtpdeagndandnjaaDoorRows
import Derived.Deep.QuietTactic
import Derived.BigQuiet
namespace Go.Proofs.YtpdeagndandnjaaDoor
set_option maxRecDepth 20000
open Go.RowKit

abbrev tx (s : ByteArray) : Bs := s.data.toList
theorem tx_len (s : ByteArray) : (tx s).length = s.size := by unfold tx; rw [Array.length_toList]; rfl
theorem tx_get {s : ByteArray} {k : Nat} (_h : k < s.size) (h2 : k < (tx s).length) : (tx s)[k] = s[k] := by unfold tx; rw [Array.getElem_toList]; rfl
theorem tx_take {s : ByteArray} {k : Nat} (h : k < s.size) : (tx s).take (k + 1) = (tx s).take k ++ [s[k]] := by
  rw [List.take_succ_eq_append_getElem (by rw [tx_len]; exact h), tx_get h]
theorem tx_all (s : ByteArray) : (tx s).take s.size = tx s := by rw [← tx_len, List.take_length]
theorem tx_mem {s : ByteArray} {k : Nat} (h : k < s.size) : s[k] ∈ tx s := by
  rw [← tx_get h (by rw [tx_len]; exact h)]; exact List.getElem_mem _
theorem of_bad {l : Bs} (h : ofOk l = false) : ofN l = 0 ∧ ofE l = 1 := by unfold ofN ofE; rw [h]; exact ⟨rfl, rfl⟩
theorem of_good {l : Bs} (h : ofOk l = true) : ofN l = numL l ∧ ofE l = 0 := by unfold ofN ofE; rw [h]; exact ⟨rfl, rfl⟩
theorem of_len {l : Bs} (h : l.length < 1 ∨ 4 < l.length) : ofOk l = false := by
  cases hk : ofOk l with
  | false => rfl
  | true => have := (ofOk_iff.1 hk).1; omega
theorem of_let {l : Bs} {b : UInt8} (hb : b ∈ l) (h : letB b = false) : ofOk l = false := by
  cases hk : ofOk l with
  | false => rfl
  | true => have := (ofOk_iff.1 hk).2 b hb; rw [h] at this; cases this
theorem numL_small {l : Bs} (h4 : l.length ≤ 4) (h : l.all letB = true) : numL l < 531441 := by
  obtain ⟨_, h1⟩ := num_range l.length l rfl (fun b hb => List.all_eq_true.1 h b hb)
  have h2 : 27 ^ l.length ≤ 27 ^ 4 := Nat.pow_le_pow_right (by omega) h4
  omega
set_option maxHeartbeats 800000 in
theorem ref17Of_any (s : ByteArray) (w : World) :
    Calls Tryd.prog 11 #[.string s] w fun e w' => e = .returned (.tuple #[.int .i64 (ofN (tx s) : Nat), .int .i64 (ofE (tx s) : Nat)]) ∧ w = w' := by
  by_cases h1 : s.size < 1
  · obtain ⟨e1, e2⟩ := of_bad (of_len (l := tx s) (by rw [tx_len]; omega))
    rw [e1, e2]
    go_enter Tryd.func11, Tryd.ntmps11
    go_wp2_with fail
    go_ret2
    exact ⟨rfl, rfl⟩
  · by_cases h4 : 4 < s.size
    · obtain ⟨e1, e2⟩ := of_bad (of_len (l := tx s) (by rw [tx_len]; omega))
      rw [e1, e2]
      have d1 : decide ((s.size : Int) < 1) = false := decide_eq_false (by omega)
      have d2 : decide ((4 : Int) < s.size) = true := decide_eq_true (by omega)
      have d3 : decide (4 < s.size) = true := decide_eq_true (by omega)
      go_enter Tryd.func11, Tryd.ntmps11
      go_wp2_with fail
      go_ret2
      exact ⟨rfl, rfl⟩
    · have d1 : decide ((s.size : Int) < 1) = false := decide_eq_false (by omega)
      have d2 : decide ((4 : Int) < s.size) = false := decide_eq_false (by omega)
      have d3 : decide (4 < s.size) = false := decide_eq_false (by omega)
      go_enter Tryd.func11, Tryd.ntmps11
      go_wp2_with fail
      go_loop [4, 5] (fun n i => ∃ k : Nat, k ≤ s.size ∧ i = .int .i64 k ∧ n = .int .i64 (numL ((tx s).take k) : Nat) ∧ ((tx s).take k).all letB = true) (fun _ i => s.size - (intOf i).toNat)
      case atStart => exact ⟨0, Nat.zero_le _, rfl, rfl, rfl⟩
      case round =>
        obtain ⟨k, hk, rfl, rfl, hb⟩ := hrel
        have HB := Lib.hid hb
        clear hb
        rcases Nat.lt_or_ge k s.size with hlt | hlt
        · have hki : (k : Int) < (s.size : Int) := by omega
          have hsm := numL_small (l := (tx s).take k) (by rw [List.length_take, tx_len]; omega) HB.out
          have HT := Lib.hid (tx_take hlt)
          have HM := Lib.hid (tx_mem hlt)
          have HNS := Lib.hid (numL_snoc ((tx s).take k) s[k])
          have HL := Lib.hid (show letB s[k] = (decide (97 ≤ s[k].toNat) && decide (s[k].toNat ≤ 122)) from rfl)
          by_cases hA : s[k].toNat < 97
          · have HE := Lib.hid (of_bad (of_let HM.out (by rw [HL.out, decide_eq_false (by omega)]; rfl)))
            have c1 : decide ((s[k].toNat : Int) < 97) = true := decide_eq_true (by omega)
            have c2 : decide (s[k].toNat < 97) = true := decide_eq_true (by omega)
            go_wp2_with fail
            go_ret2
            exact ⟨by rw [HE.out.1, HE.out.2]; rfl, rfl⟩
          · have c1 : decide ((s[k].toNat : Int) < 97) = false := decide_eq_false (by omega)
            have c2 : decide (s[k].toNat < 97) = false := decide_eq_false (by omega)
            by_cases hZ : 122 < s[k].toNat
            · have HE := Lib.hid (of_bad (of_let HM.out (by rw [HL.out, decide_eq_true (show 97 ≤ s[k].toNat by omega), decide_eq_false (by omega)]; rfl)))
              have c3 : decide ((122 : Int) < (s[k].toNat : Int)) = true := decide_eq_true (by omega)
              have c4 : decide (122 < s[k].toNat) = true := decide_eq_true (by omega)
              go_wp2_with fail
              go_ret2
              exact ⟨by rw [HE.out.1, HE.out.2]; rfl, rfl⟩
            · have c3 : decide ((122 : Int) < (s[k].toNat : Int)) = false := decide_eq_false (by omega)
              have c4 : decide (122 < s[k].toNat) = false := decide_eq_false (by omega)
              have HLT := Lib.hid (show letB s[k] = true from by rw [HL.out, decide_eq_true (by omega), decide_eq_true (by omega)]; rfl)
              have HNX := Lib.hid (show numL ((tx s).take (k + 1)) = 27 * numL ((tx s).take k) + (s[k].toNat - 96) from by rw [HT.out, HNS.out])
              have HAX := Lib.hid (show ((tx s).take (k + 1)).all letB = true from by rw [HT.out, List.all_append, HB.out]; simp [HLT.out])
              clear HNS
              generalize numL ((tx s).take k) = N at *
              have hb1 : 97 ≤ s[k].toNat := by omega
              have hb2 : s[k].toNat ≤ 122 := by omega
              go_wp2_with fail
              go_round
              case rel => exact ⟨k + 1, by omega, by go_num, by rw [HNX.out]; go_num, HAX.out⟩
              case measure => simp [intOf]; omega
        · obtain rfl : k = s.size := by omega
          have HOK := Lib.hid (of_good (l := tx s) (ofOk_iff.2 ⟨by rw [tx_len]; omega, fun b hb => List.all_eq_true.1 HB.out b (by rw [tx_all]; exact hb)⟩))
          go_wp2_with fail
          go_ret2
          exact ⟨by rw [HOK.out.1, HOK.out.2, tx_all]; rfl, rfl⟩
end Go.Proofs.YtpdeagndandnjaaDoor
