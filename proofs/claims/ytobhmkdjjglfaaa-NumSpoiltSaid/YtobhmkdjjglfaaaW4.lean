/- Walk of Row. -/
import Derived.Test.YtobhmkdjjglfaaaW3
import Derived.Deep.QuietTactic
import Derived.BigQuiet
namespace Go.Proofs.Ytobhmkdjjglfaaa
open Go.RowKit

theorem rowB_false (a b : List UInt8) (h : a ≠ b) : rowB a b = false := by unfold rowB; simpa using h
theorem rowB_true (a b : List UInt8) (h : a = b) : rowB a b = true := by unfold rowB; simpa using h
theorem ret_bool {a b : Bool} (h : a = b) : Ending.returned (.bool a) = .returned (.bool b) := by rw [h]
theorem Cells.drewN {w : World} {A : Option Addr} {xs : List Value} (h : Cells w A xs) (n : Nat) : Cells (w.drewN n) A xs := h

set_option maxHeartbeats 1000000 in
theorem row_any (A B : Option Addr) (a b : List UInt8) (c d : Nat) (w : World) (hl : a.length ≤ maxLen) (hl2 : b.length ≤ maxLen) (hA : Cells w A (a.map bv)) (hB : Cells w B (b.map bv)) :
    Calls Try.prog 12 #[.slice A a.length c, .slice B b.length d] w fun e w' => e = .returned (.bool (rowB a b)) ∧ ∃ n, w' = w.drewN n := by
  unfold maxLen at hl hl2
  by_cases hn : a.length = b.length
  · have hn2 : ((a.length : Int) != (b.length : Int)) = false := by simp [hn]
    have HN := Lib.hid hn; clear hn
    go_enter Try.func12, Try.ntmps12
    go_wp2
    go_loopw [5] (fun i wr => ∃ k q : Nat, k ≤ a.length ∧ i = .int .i64 k ∧ wr = w.drewN q ∧ a.take k = b.take k) (fun i _ => a.length - (intOf i).toNat)
    case atStart => exact ⟨0, 0, Nat.zero_le _, rfl, rfl, rfl⟩
    case round =>
      obtain ⟨k, q, hk, rfl, rfl, hab⟩ := hrel
      have HAB := Lib.hid hab; clear hab
      by_cases hlt : k < a.length
      · have hlt2 : k < b.length := by have := HN.out; omega
        obtain ⟨ba, offa, rfl, _, hca⟩ := hA.byte hlt
        obtain ⟨bb, offb, rfl, _, hcb⟩ := hB.byte hlt2
        have hcka := hca k hlt
        have hckb := hcb k hlt2
        have i1 : (k : Int) < (a.length : Int) := by omega
        have i2 : (k : Int) < (b.length : Int) := by omega
        by_cases he : a[k] = b[k]
        · have hne : ((a[k].toNat : Int) != (b[k].toNat : Int)) = false := by simp [he]
          have HE := Lib.hid he; clear he
          go_wp2
          go_quiet (fail)
          go_wp2
          go_roundw
          case rel => exact ⟨k + 1, q + nq, by omega, by go_num, rfl, take_succ_eq a b k hlt hlt2 HAB.out HE.out⟩
          case measure => simp [intOf]; omega
        · have hne : ((a[k].toNat : Int) != (b[k].toNat : Int)) = true := by
            simp; intro h; exact he (UInt8.toNat_inj.1 (by omega))
          go_wp2
          go_quiet (fail)
          go_wp2
          go_ret
          exact ⟨ret_bool (rowB_false a b (fun h => he (by subst h; rfl))).symm, q + nq, by rw [World.drewN_drewN]⟩
      · obtain rfl : k = a.length := by omega
        go_wp2
        go_ret
        exact ⟨ret_bool (rowB_true a b (by have h := HAB.out; rw [List.take_length] at h; rw [h, HN.out, List.take_length])).symm, _, rfl⟩
  · have hn2 : ((a.length : Int) != (b.length : Int)) = true := by simp; omega
    go_enter Try.func12, Try.ntmps12
    go_wp2
    go_ret
    exact ⟨ret_bool (rowB_false a b (fun h => hn (by rw [h]))).symm, 0, rfl⟩
end Go.Proofs.Ytobhmkdjjglfaaa
