/- Of of package name as it landed: a range over a string, rune by rune. -/
import Derived.Test.YtpdeagndandnjaaDoorNmE
import Derived.Laws.RangeAny
namespace Go.Proofs.YtpdeagndandnjaaDoor
set_option maxRecDepth 20000
open Go.RowKit

theorem figure_any (r : Int) (w : World) (h1 : 97 ≤ r) (h2 : r ≤ 122) :
    Calls Tryd.prog 21 #[.int .i32 r] w fun e w' => e = .returned (.int .i64 (r - 96)) ∧ w = w' := by
  have e1 : IntKind.i32.wrap (r - 97) = r - 97 := by rw [IntKind.wrap_i32]; omega
  have e2 : IntKind.i64.wrap (r - 97) = r - 97 := by rw [IntKind.wrap_i64]; omega
  have e3 : IntKind.i64.wrap (r - 97 + 1) = r - 96 := by rw [IntKind.wrap_i64]; omega
  go_enter Tryd.func21, Tryd.ntmps21
  go_wp2_with fail
  go_ret
  exact ⟨by first | rfl | (congr 2; omega), rfl⟩
theorem iter_ext (w : World) (s : ByteArray) (pos : Nat) : Ext w (w.iter s pos) := (Ext.refl w).alloc (.stringIter s pos)
set_option maxHeartbeats 1600000 in
theorem nameOf_any (s : ByteArray) (w : World) :
    Calls Tryd.prog 10 #[.string s] w fun e w' => e = .returned (.tuple #[.int .i64 (ofN (tx s) : Nat), .int .i64 (ofE (tx s) : Nat)]) ∧ Ext w w' := by
  by_cases h1 : s.size < 1
  · obtain ⟨e1, e2⟩ := of_bad (of_len (l := tx s) (by rw [tx_len]; omega))
    rw [e1, e2]
    have d0 : decide ((s.size : Int) < 1) = true := decide_eq_true (by omega)
    have d1 : decide (s.size < 1) = true := decide_eq_true h1
    go_enter Tryd.func10, Tryd.ntmps10
    go_wp2_with fail
    go_ret2
    exact ⟨rfl, Ext.refl w⟩
  · by_cases h4 : 4 < s.size
    · obtain ⟨e1, e2⟩ := of_bad (of_len (l := tx s) (by rw [tx_len]; omega))
      rw [e1, e2]
      have d1 : decide ((s.size : Int) < 1) = false := decide_eq_false (by omega)
      have d2 : decide ((4 : Int) < s.size) = true := decide_eq_true (by omega)
      have d3 : decide (4 < s.size) = true := decide_eq_true (by omega)
      go_enter Tryd.func10, Tryd.ntmps10
      go_wp2_with fail
      go_ret2
      exact ⟨rfl, Ext.refl w⟩
    · have d1 : decide ((s.size : Int) < 1) = false := decide_eq_false (by omega)
      have d2 : decide ((4 : Int) < s.size) = false := decide_eq_false (by omega)
      have d3 : decide (4 < s.size) = false := decide_eq_false (by omega)
      go_enter Tryd.func10, Tryd.ntmps10
      go_wp2_with fail
      go_loopw [4] (fun n wr => ∃ k : Nat, k ≤ s.size ∧ wr = w.iter s k ∧ n = .int .i64 (numL ((tx s).take k) : Nat) ∧ ((tx s).take k).all letB = true) (fun _ wr => s.size - wr.iterPos w.heap.size)
      case atStart => exact ⟨0, Nat.zero_le _, rfl, rfl, rfl⟩
      case round =>
        obtain ⟨k, hk, rfl, rfl, hb⟩ := hrel
        have HB := Lib.hid hb
        clear hb
        rcases Nat.lt_or_ge k s.size with hlt | hlt
        · have hsm := numL_small (l := (tx s).take k) (by rw [List.length_take, tx_len]; omega) HB.out
          have HT := Lib.hid (tx_take hlt)
          have HM := Lib.hid (tx_mem hlt)
          have HNS := Lib.hid (numL_snoc ((tx s).take k) s[k])
          have HL := Lib.hid (show letB s[k] = (decide (97 ≤ s[k].toNat) && decide (s[k].toNat ≤ 122)) from rfl)
          by_cases hhi : 128 ≤ s[k].toNat
          · have HE := Lib.hid (of_bad (of_let HM.out (by rw [HL.out, decide_eq_false (show ¬ s[k].toNat ≤ 122 by omega)]; simp)))
            obtain ⟨g1, _⟩ := decode_high s k hlt hhi
            have hnx : ∀ ty, (Instr.next (.pointer (some ⟨w.heap.size, 0, none⟩)) true ty).run Tryd.prog (w.iter s k) = _ := fun ty => run_next_any w s k ty hlt
            generalize Utf8.decode s k = D at *
            obtain ⟨R, K⟩ := D
            simp only at g1 hnx
            have c1 : decide ((R : Int) < 97) = false := decide_eq_false (by omega)
            have c2 : decide (R < 97) = false := decide_eq_false (by omega)
            have c3 : decide ((122 : Int) < (R : Int)) = true := decide_eq_true (by omega)
            have c4 : decide (122 < R) = true := decide_eq_true (by omega)
            go_wp2_with fail
            go_ret2
            exact ⟨by rw [HE.out.1, HE.out.2]; rfl, iter_ext w s _⟩
          · have hnx : ∀ ty, (Instr.next (.pointer (some ⟨w.heap.size, 0, none⟩)) true ty).run Tryd.prog (w.iter s k) = _ := fun ty => run_next_ascii w s k ty hlt (by omega)
            by_cases hA : s[k].toNat < 97
            · have HE := Lib.hid (of_bad (of_let HM.out (by rw [HL.out, decide_eq_false (by omega)]; rfl)))
              have c1 : decide ((s[k].toNat : Int) < 97) = true := decide_eq_true (by omega)
              have c2 : decide (s[k].toNat < 97) = true := decide_eq_true (by omega)
              go_wp2_with fail
              go_ret2
              exact ⟨by rw [HE.out.1, HE.out.2]; rfl, iter_ext w s _⟩
            · have c1 : decide ((s[k].toNat : Int) < 97) = false := decide_eq_false (by omega)
              have c2 : decide (s[k].toNat < 97) = false := decide_eq_false (by omega)
              by_cases hZ : 122 < s[k].toNat
              · have HE := Lib.hid (of_bad (of_let HM.out (by rw [HL.out, decide_eq_true (show 97 ≤ s[k].toNat by omega), decide_eq_false (by omega)]; rfl)))
                have c3 : decide ((122 : Int) < (s[k].toNat : Int)) = true := decide_eq_true (by omega)
                have c4 : decide (122 < s[k].toNat) = true := decide_eq_true (by omega)
                go_wp2_with fail
                go_ret2
                exact ⟨by rw [HE.out.1, HE.out.2]; rfl, iter_ext w s _⟩
              · have c3 : decide ((122 : Int) < (s[k].toNat : Int)) = false := decide_eq_false (by omega)
                have c4 : decide (122 < s[k].toNat) = false := decide_eq_false (by omega)
                have HLT := Lib.hid (show letB s[k] = true from by rw [HL.out, decide_eq_true (by omega), decide_eq_true (by omega)]; rfl)
                have HNX := Lib.hid (show numL ((tx s).take (k + 1)) = 27 * numL ((tx s).take k) + (s[k].toNat - 96) from by rw [HT.out, HNS.out])
                have HAX := Lib.hid (show ((tx s).take (k + 1)).all letB = true from by rw [HT.out, List.all_append, HB.out]; simp [HLT.out])
                clear HNS
                generalize numL ((tx s).take k) = N at *
                have hb1 : 97 ≤ s[k].toNat := by omega
                have hb2 : s[k].toNat ≤ 122 := by omega
                have HF := Lib.hid (fun w' => figure_any (s[k].toNat : Int) w' (by omega) (by omega))
                go_wp2_with (go_at_call 21; refine (HF.out _).mono ?_; rintro e w2 ⟨rfl, rfl⟩)
                go_roundw
                case rel => exact ⟨k + 1, by omega, rfl, by rw [HNX.out]; go_num, HAX.out⟩
                case measure => simp; omega
        · obtain rfl : k = s.size := by omega
          have hnx : ∀ ty, (Instr.next (.pointer (some ⟨w.heap.size, 0, none⟩)) true ty).run Tryd.prog (w.iter s s.size) = _ := fun ty => run_next_end w s s.size ty (Nat.lt_irrefl _)
          have HOK := Lib.hid (of_good (l := tx s) (ofOk_iff.2 ⟨by rw [tx_len]; omega, fun b hb => List.all_eq_true.1 HB.out b (by rw [tx_all]; exact hb)⟩))
          go_wp2_with fail
          go_ret2
          exact ⟨by rw [HOK.out.1, HOK.out.2, tx_all]; rfl, iter_ext w s _⟩
end Go.Proofs.YtpdeagndandnjaaDoor
