/- Walks of numbers and Right of package slot. -/
import Derived.Test.YthaebcljehmhmaaSlotW1
namespace Go.Proofs.Ythaebcljehmhmaa
open Go.RowKit

theorem Bx.read3 {w : World} {k : Nat} {a b c : Value} (h : Bx w k #[a, b, c]) : w.cell? ⟨k, 0, none⟩ = some a ∧ w.cell? ⟨k, 1, none⟩ = some b ∧ w.cell? ⟨k, 2, none⟩ = some c :=
  ⟨h.at 0 _ rfl, h.at 1 _ rfl, h.at 2 _ rfl⟩
theorem Bx.drewN {w : World} {k : Nat} {cs : Array Value} (h : Bx w k cs) (n : Nat) : Bx (w.drewN n) k cs := h

set_option maxHeartbeats 1000000 in
theorem slotNumbers_any (g z s : Int) (w : World) :
    Calls Try.prog 19 #[.agg #[.int .i64 g, .int .i64 z, .int .i64 s]] w fun e w' => e = .returned (.agg #[.int .i64 g, .int .i64 z, .int .i64 s]) ∧ Ext w w' := by
  go_enter Try.func19, Try.ntmps19
  go_wp2
  generalize hW : (World.alloc (World.alloc w _) _) = W
  obtain ⟨hx, hb0, hb1⟩ := allocs2 hW
  obtain ⟨r0, r1, r2⟩ := hb1.read3
  refine bodyPost_ret (v := .agg #[.int .i64 g, .int .i64 z, .int .i64 s]) (by simp [results, Try.results19, go_sem, r0, r1, r2]) rfl ⟨rfl, hx⟩

def supK (g z s : Int) (k : Nat) : Prop := (1 ≤ k → 1 ≤ g ∧ g ≤ 2147483647) ∧ (2 ≤ k → 0 ≤ z ∧ z ≤ 2147483647) ∧ (3 ≤ k → 0 ≤ s ∧ s ≤ 4294967295)
set_option maxHeartbeats 2000000 in
theorem slotRight_any (g z s : Int) (w : World) :
    Calls Try.prog 17 #[.agg #[.int .i64 g, .int .i64 z, .int .i64 s]] w fun e w' => e = .returned (.bool (supR ⟨g, z, s⟩)) ∧ Ext w w' := by
  go_enter Try.func17, Try.ntmps17
  go_wp2_with (go_at_call 19; refine (slotNumbers_any _ _ _ _).mono ?_; rintro e w1 ⟨rfl, hx⟩; have HX := Lib.hid hx; clear hx)
  generalize hW : (World.alloc (World.alloc (World.alloc w1 _) _) _) = W
  obtain ⟨hx, hb0, hb1, hb2⟩ := allocs3 hW
  have HX2 := Lib.hid (show Ext w W from ((Ext.refl w).alloc _).trans (HX.out.trans hx))
  obtain ⟨a0, a1, a2⟩ := hb0.read3
  obtain ⟨b0, b1, b2⟩ := hb1.read3
  obtain ⟨c0, c1, c2⟩ := hb2.read3
  have z0 := hb0.lt
  have z1 := hb1.lt
  have z2 := hb2.lt
  clear hb0 hb1 hb2 hx hW HX
  go_loopw [11] (fun i wr => ∃ k q : Nat, k ≤ 3 ∧ i = .int .i64 k ∧ wr = W.drewN q ∧ supK g z s k) (fun i _ => 3 - (intOf i).toNat)
  case atStart => exact ⟨0, 0, by omega, rfl, rfl, by unfold supK; omega⟩
  case round =>
    obtain ⟨k, q, hk, rfl, rfl, hs⟩ := hrel
    have HS := Lib.hid hs
    clear hs
    have hk3 : k = 0 ∨ k = 1 ∨ k = 2 ∨ k = 3 := by omega
    rcases hk3 with rfl | rfl | rfl | rfl
    · by_cases h1 : g < 1
      · go_wp2
        go_quiet (fail)
        go_wp2
        go_ret
        exact ⟨ret_bool (supR_no (by simp only; omega)).symm, (HX2.out.drewN _).drewN _⟩
      · by_cases h2 : 2147483647 < g
        · go_wp2
          go_quiet (fail)
          go_wp2
          go_ret
          exact ⟨ret_bool (supR_no (by simp only; omega)).symm, (HX2.out.drewN _).drewN _⟩
        · go_wp2
          go_quiet (fail)
          go_wp2
          go_roundw
          case rel => exact ⟨1, q + nq, by omega, by go_num, rfl, by have := HS.out; unfold supK at *; omega⟩
          case measure => simp [intOf]
    · by_cases h1 : z < 0
      · go_wp2
        go_quiet (fail)
        go_wp2
        go_ret
        exact ⟨ret_bool (supR_no (by simp only; omega)).symm, (HX2.out.drewN _).drewN _⟩
      · by_cases h2 : 2147483647 < z
        · go_wp2
          go_quiet (fail)
          go_wp2
          go_ret
          exact ⟨ret_bool (supR_no (by simp only; omega)).symm, (HX2.out.drewN _).drewN _⟩
        · go_wp2
          go_quiet (fail)
          go_wp2
          go_roundw
          case rel => exact ⟨2, q + nq, by omega, by go_num, rfl, by have := HS.out; unfold supK at *; omega⟩
          case measure => simp [intOf]
    · by_cases h1 : s < 0
      · go_wp2
        go_quiet (fail)
        go_wp2
        go_ret
        exact ⟨ret_bool (supR_no (by simp only; omega)).symm, (HX2.out.drewN _).drewN _⟩
      · by_cases h2 : 4294967295 < s
        · go_wp2
          go_quiet (fail)
          go_wp2
          go_ret
          exact ⟨ret_bool (supR_no (by simp only; omega)).symm, (HX2.out.drewN _).drewN _⟩
        · go_wp2
          go_quiet (fail)
          go_wp2
          go_roundw
          case rel => exact ⟨3, q + nq, by omega, by go_num, rfl, by have := HS.out; unfold supK at *; omega⟩
          case measure => simp [intOf]
    · go_wp2
      go_ret
      exact ⟨ret_bool ((supR_iff _).2 (by have := HS.out; unfold supK at this; simp only; omega)).symm, HX2.out.drewN _⟩
end Go.Proofs.Ythaebcljehmhmaa
