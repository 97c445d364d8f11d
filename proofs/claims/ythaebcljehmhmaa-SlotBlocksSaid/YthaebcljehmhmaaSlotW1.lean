/- The reference's contracts for layer 3. -/
import Derived.Test.YthaebcljehmhmaaNumN
import Derived.Test.YthaebcljehmhmaaSlotP
namespace Go.Proofs.Ythaebcljehmhmaa
open Go.RowKit

theorem supR_no {x : Sup} (h : ¬ ((1 ≤ x.g ∧ x.g ≤ 2147483647) ∧ (0 ≤ x.z ∧ x.z ≤ 2147483647) ∧ (0 ≤ x.s ∧ x.s ≤ 4294967295))) : supR x = false := by
  rcases Bool.eq_false_or_eq_true (supR x) with e | e
  · exact absurd ((supR_iff x).1 e) h
  · exact e
set_option maxRecDepth 100000 in
set_option maxHeartbeats 2000000 in
theorem ref03Right_any (g z s : Int) (w : World) : Calls Try.prog 18 #[.agg #[.int .i64 g, .int .i64 z, .int .i64 s]] w fun e w' => e = .returned (.bool (supR ⟨g, z, s⟩)) ∧ Ext w w' := by
  have HX := Lib.hid ((Ext.refl w).alloc (.cells #[.int .i64 g, .int .i64 z, .int .i64 s] 23))
  rcases Decidable.em (1 ≤ g) with h1 | h1
  rotate_left
  · go_enter Try.func18, Try.ntmps18
    go_wp2
    go_ret
    exact ⟨ret_bool (by first | exact (supR_no (by simp only; omega)).symm | (rw [supR_no (by simp only; omega)]; simp; omega)), HX.out⟩
  rcases Decidable.em (g ≤ 2147483647) with h2 | h2
  rotate_left
  · go_enter Try.func18, Try.ntmps18
    go_wp2
    go_ret
    exact ⟨ret_bool (by first | exact (supR_no (by simp only; omega)).symm | (rw [supR_no (by simp only; omega)]; simp; omega)), HX.out⟩
  rcases Decidable.em (0 ≤ z) with h3 | h3
  rotate_left
  · go_enter Try.func18, Try.ntmps18
    go_wp2
    go_ret
    exact ⟨ret_bool (by first | exact (supR_no (by simp only; omega)).symm | (rw [supR_no (by simp only; omega)]; simp; omega)), HX.out⟩
  rcases Decidable.em (z ≤ 2147483647) with h4 | h4
  rotate_left
  · go_enter Try.func18, Try.ntmps18
    go_wp2
    go_ret
    exact ⟨ret_bool (by first | exact (supR_no (by simp only; omega)).symm | (rw [supR_no (by simp only; omega)]; simp; omega)), HX.out⟩
  rcases Decidable.em (0 ≤ s) with h5 | h5
  rotate_left
  · go_enter Try.func18, Try.ntmps18
    go_wp2
    go_ret
    exact ⟨ret_bool (by first | exact (supR_no (by simp only; omega)).symm | (rw [supR_no (by simp only; omega)]; simp; omega)), HX.out⟩
  rcases Decidable.em (s ≤ 4294967295) with h6 | h6
  rotate_left
  · go_enter Try.func18, Try.ntmps18
    go_wp2
    go_ret
    exact ⟨ret_bool (by first | exact (supR_no (by simp only; omega)).symm | (rw [supR_no (by simp only; omega)]; simp; omega)), HX.out⟩
  go_enter Try.func18, Try.ntmps18
  go_wp2
  go_ret
  exact ⟨ret_bool (by rw [(supR_iff _).2 (by simp only; omega)]; try (simp; omega)), HX.out⟩
end Go.Proofs.Ythaebcljehmhmaa

