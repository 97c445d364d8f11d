/- Walks of Need, Ints, Right and May of the reference of layer 7. -/
import Derived.Test.YthlencnlgnbpaaaTreeW5
namespace Go.Proofs.Ythlencnlgnbpaaa
open Go.RowKit
attribute [local go_sem ↓] Go.wp_at_zero Go.wp_at_succ

set_option maxHeartbeats 400000 in
theorem ref07Need_any (x : Int) (w : World) (h0 : 0 ≤ x) (h1 : x ≤ 100000) :
    Calls Try.prog 14 #[.int .i64 x] w fun e w' => e = .returned (.int .i64 (2 * x + 1)) ∧ w = w' := by
  go_enter Try.func14, Try.ntmps14
  go_wp2
  go_ret
  exact ⟨rfl, rfl⟩
def sameZ (a b : List Int) : Bool := decide (a = b)
set_option maxHeartbeats 1600000 in
theorem ref07Ints_any (A B : Option Addr) (a b : List Int) (n m c d : Nat) (w : World) (hn : n = a.length) (hm : m = b.length) (hA : Sl w A n c (a.map iv)) (hB : Sl w B m d (b.map iv)) :
    Calls Try.prog 17 #[.slice A n c, .slice B m d] w fun e w' => e = .returned (.bool (sameZ a b)) ∧ ∃ q, w' = w.drewN q := by
  have hl := hA.len
  unfold maxLen at hl
  have HA := Lib.hid hA.cells
  have HB := Lib.hid hB.cells
  have HNA := Lib.hid hn
  have HNB := Lib.hid hm
  clear hA hB hn hm
  by_cases hnm : n = m
  rotate_left
  · have e2 : ((n : Int) != (m : Int)) = true := bne_iff_ne.2 (by omega)
    have HE := Lib.hid (show sameZ a b = false from decide_eq_false (by
      intro h
      apply hnm
      rw [HNA.out, HNB.out, h]))
    clear hnm
    go_enter Try.func17, Try.ntmps17
    go_wp2
    go_ret
    exact ⟨ret_bool HE.out.symm, 0, rfl⟩
  subst hnm
  have e2 : ((n : Int) != (n : Int)) = false := by simp
  go_enter Try.func17, Try.ntmps17
  go_wp2
  go_loopw [5] (fun i wr => ∃ k q : Nat, k ≤ n ∧ i = .int .i64 k ∧ wr = w.drewN q ∧ a.take k = b.take k) (fun i _ => n - (intOf i).toNat)
  case atStart => exact ⟨0, 0, Nat.zero_le _, rfl, rfl, by simp⟩
  case round =>
    obtain ⟨k, q, hk, rfl, rfl, hb⟩ := hrel
    have HBB := Lib.hid hb
    clear hb
    rcases Nat.lt_or_ge k n with hlt | hlt
    · have hka : k < a.length := by rw [← HNA.out]; exact hlt
      have hkb : k < b.length := by rw [← HNB.out]; exact hlt
      obtain ⟨ba, oa, rfl, _, hca⟩ := HA.out.num hka
      obtain ⟨bb, ob, rfl, _, hcb⟩ := HB.out.num hkb
      have hcka := hca k hka
      have hckb := hcb k hkb
      have hki : (k : Int) < (n : Int) := by omega
      have HY := Lib.hid (fun (h : a[k] ≠ b[k]) => (show sameZ a b = false from decide_eq_false (ne_at k hka hkb h)))
      have HN := Lib.hid (fun (h : a[k] = b[k]) => eq_step k hka hkb HBB.out h)
      clear hca hcb HBB
      generalize a[k] = x at *
      generalize b[k] = y at *
      by_cases he : x = y
      · have HE := Lib.hid (HN.out he)
        subst he
        have d0 : (x != x) = false := by simp
        clear HY HN
        go_wp2
        go_quiet (fail)
        go_wp2
        go_roundw
        case rel => exact ⟨k + 1, q + nq, by omega, by go_num, rfl, HE.out⟩
        case measure => simp [intOf]; omega
      · have HE := Lib.hid (HY.out he)
        have d0 : (x != y) = true := bne_iff_ne.2 he
        clear HY HN he
        go_wp2
        go_quiet (fail)
        go_wp2
        go_ret
        exact ⟨ret_bool HE.out.symm, q + nq, by rw [World.drewN_drewN]⟩
    · obtain rfl : n = k := by omega
      have HE := Lib.hid (show sameZ a b = true from decide_eq_true (by have h := HBB.out; rwa [HNA.out, List.take_length, ← HNA.out, HNB.out, List.take_length] at h))
      clear hlt
      go_wp2
      go_ret
      exact ⟨ret_bool HE.out.symm, q, rfl⟩
end Go.Proofs.Ythlencnlgnbpaaa
