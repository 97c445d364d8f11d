/- Walks of the small functions of package num and of the reference: isWidth, limit, xor, fold. -/
import Derived.Test.YtpcchbcibcfldaaRows
import Derived.Test.YtpcchbcibcfldaaNumP0
import Derived.WalkKit
import Derived.WalkSpells
import Derived.WalkLawsBesides
import Derived.Lib.Hide
namespace Go.Proofs.Ytpcchbcibcfldaa
open Go.RowKit

def isW (w : Int) : Bool := decide (1 ≤ w) && decide (w ≤ 4)

set_option maxHeartbeats 400000 in
theorem numIsWidth_any (n : Int) (w : World) :
    Calls Try.prog 43 #[.int .i64 n] w fun e w' => e = .returned (.bool (isW n)) ∧ w = w' := by
  unfold isW
  by_cases h1 : 1 ≤ n <;> by_cases h2 : n ≤ 4
  all_goals
    go_enter Try.func43, Try.ntmps43
    go_wp2
    go_ret
    exact ⟨by simp [*], rfl⟩

def lim : Nat → Int
  | 0 => 1
  | n+1 => lim n * 256
theorem lim_pow (n : Nat) : lim n = 256 ^ n := by
  induction n with
  | zero => rfl
  | succ n ih => rw [lim, ih, Int.pow_succ]
theorem lim_bd (n : Nat) (h : n ≤ 4) : 1 ≤ lim n ∧ lim n ≤ 4294967296 := by
  match n, h with
  | 0, _ => decide
  | 1, _ => decide
  | 2, _ => decide
  | 3, _ => decide
  | 4, _ => decide

set_option maxHeartbeats 400000 in
theorem ref01Limit_any (n : Nat) (hn : n ≤ 4) (w : World) :
    Calls Try.prog 45 #[.int .i64 n] w fun e w' => e = .returned (.int .i64 (lim n)) ∧ w = w' := by
  go_enter Try.func45, Try.ntmps45
  go_wp2
  go_loop [3, 4] (fun m i => ∃ k : Nat, k ≤ n ∧ i = .int .i64 k ∧ m = .int .i64 (lim k)) (fun _ i => n - (intOf i).toNat)
  case atStart => exact ⟨0, Nat.zero_le _, rfl, rfl⟩
  case round =>
    obtain ⟨k, hk, rfl, rfl⟩ := hrel
    have b1 := (lim_bd k (by omega)).1
    have b2 := (lim_bd k (by omega)).2
    by_cases hlt : k < n
    · have b3 : lim k * 256 ≤ 4294967296 := (lim_bd (k+1) (by omega)).2
      go_wp2
      go_round
      case rel => exact ⟨k + 1, by omega, by go_num, rfl⟩
      case measure => simp [intOf]; omega
    · obtain rfl : k = n := by omega
      go_wp2
      go_ret
      exact ⟨rfl, rfl⟩

set_option maxHeartbeats 400000 in
theorem ref01Xor_any (a b : Nat) (ha : a < 4294967296) (hb : b < 4294967296) (w : World) :
    Calls Try.prog 52 #[.int .i64 a, .int .i64 b] w fun e w' => e = .returned (.int .i64 ((a ^^^ b : Nat) : Int)) ∧ w = w' := by
  have hx : a ^^^ b < 2 ^ 32 := Nat.xor_lt_two_pow ha hb
  have e : wrap64 (bits BinOp.xor IntKind.u32 ↑a ↑b) = ((a ^^^ b : Nat) : Int) := by
    rw [u32_xor_nat a b ha hb]; unfold wrap64; omega
  have H := Lib.hid e; clear e
  go_enter Try.func52, Try.ntmps52
  go_wp2
  go_ret
  exact ⟨ret_int H.out, rfl⟩

theorem foldS_odd (c : Nat) (h : c < 4294967296) (ho : c % 2 = 1) : bits BinOp.xor IntKind.u32 ((c : Int) / 2) 3988292384 = (foldS c : Nat) ∧ (bits BinOp.and IntKind.u32 (↑c) 1 == 1) = true := by
  unfold foldS
  rw [if_pos ho]
  refine ⟨u32_xor_nat (c/2) 3988292384 (by omega) (by omega), ?_⟩
  have := u32_and_nat c 1 h (by omega)
  rw [nat_mask1, ho] at this
  rw [show ((1 : Int)) = ((1 : Nat) : Int) from rfl, this]; rfl
theorem foldS_even (c : Nat) (h : c < 4294967296) (ho : ¬ c % 2 = 1) : (c : Int) / 2 = (foldS c : Nat) ∧ (bits BinOp.and IntKind.u32 (↑c) 1 == 1) = false := by
  unfold foldS
  rw [if_neg ho]
  refine ⟨by omega, ?_⟩
  have := u32_and_nat c 1 h (by omega)
  rw [nat_mask1, show c % 2 = 0 by omega] at this
  rw [show ((1 : Int)) = ((1 : Nat) : Int) from rfl, this]; rfl

set_option maxHeartbeats 400000 in
theorem numFold_any (c : Nat) (hc : c < 4294967296) (w : World) :
    Calls Try.prog 51 #[.int .u32 c] w fun e w' => e = .returned (.int .u32 (foldN 8 c : Nat)) ∧ w = w' := by
  go_enter Try.func51, Try.ntmps51
  go_wp2
  refine wp_scope_jumps 0 (fun a' w' => w' = w ∧ ∃ (k m : Nat) (u4 u5 u6 u7 u8 u9 u10 u11 u12 u13 u14 u15 u16 : Value), a' = { tmps := #[.int .u32 m, undef, .int .u32 0, .int .i64 k, u4, u5, u6, u7, u8, u9, u10, u11, u12, u13, u14, u15, u16, undef], defers := [] } ∧ 1 ≤ k ∧ k ≤ 8 ∧ m < 4294967296 ∧ foldN k m = foldN 8 c) (fun a' _ => (intOf (a'.tmps.getD 3 undef)).toNat) rfl ?_ ?_
  · go_wp2
    go_step3
    have hl := foldS_lt c hc
    by_cases ho : c % 2 = 1
    · obtain ⟨e1, t⟩ := foldS_odd c hc ho
      have H := Lib.hid e1; clear e1
      go_wp2
      go_step3
      rw [H.out]
      exact ⟨rfl, rfl, 7, foldS c, _, _, _, _, _, _, _, _, _, _, _, _, _, rfl, by omega, by omega, hl, rfl⟩
    · obtain ⟨e1, t⟩ := foldS_even c hc ho
      have H := Lib.hid e1; clear e1
      go_wp2
      go_step3
      rw [H.out]
      exact ⟨rfl, rfl, 7, foldS c, _, _, _, _, _, _, _, _, _, _, _, _, _, rfl, by omega, by omega, hl, rfl⟩
  · rintro a' w' ⟨rfl, k, m, u4, u5, u6, u7, u8, u9, u10, u11, u12, u13, u14, u15, u16, rfl, hk1, hk8, hm, he⟩
    obtain ⟨j, rfl⟩ : ∃ j, k = j + 1 := ⟨k - 1, by omega⟩
    have hl := foldS_lt m hm
    have he' : foldN j (foldS m) = foldN 8 c := he
    have HE := Lib.hid he'; clear he he'
    have fin : ∀ (h0 : ¬ 0 < j) (x : Int), x = (foldS m : Nat) → Ending.returned (Value.int .u32 x) = .returned (.int .u32 (foldN 8 c : Nat)) := by
      intro h0 x hx
      obtain rfl : j = 0 := by omega
      have e := HE.out
      rw [hx, ← e]; rfl
    have FIN := Lib.hid fin; clear fin
    by_cases ho : m % 2 = 1
    · obtain ⟨e1, t⟩ := foldS_odd m hm ho
      have H := Lib.hid e1; clear e1
      by_cases hj : 0 < j
      · go_wp2
        go_step3
        rw [H.out]
        exact ⟨rfl, ⟨rfl, j, foldS m, _, _, _, _, _, _, _, _, _, _, _, _, _, rfl, by omega, by omega, hl, HE.out⟩, by simp [intOf]⟩
      · have hj0 : (j : Int) ≤ 0 := by omega
        go_wp2
        simp only [Exit.jump]
        go_ret
        exact ⟨FIN.out hj _ H.out, rfl⟩
    · obtain ⟨e1, t⟩ := foldS_even m hm ho
      have H := Lib.hid e1; clear e1
      by_cases hj : 0 < j
      · go_wp2
        go_step3
        rw [H.out]
        exact ⟨rfl, ⟨rfl, j, foldS m, _, _, _, _, _, _, _, _, _, _, _, _, _, rfl, by omega, by omega, hl, HE.out⟩, by simp [intOf]⟩
      · have hj0 : (j : Int) ≤ 0 := by omega
        go_wp2
        simp only [Exit.jump]
        go_ret
        exact ⟨FIN.out hj _ H.out, rfl⟩

end Go.Proofs.Ytpcchbcibcfldaa
