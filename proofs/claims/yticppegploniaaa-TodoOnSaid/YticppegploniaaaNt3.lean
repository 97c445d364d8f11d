/- Walks of Take. -/
import Derived.Test.YticppegploniaaaNt1
namespace Go.Proofs.Yticppegploniaaa
open Go.RowKit

theorem take_drop_succ (l : List UInt8) (a k : Nat) (h : a + k < l.length) : (l.drop a).take (k + 1) = (l.drop a).take k ++ [l[a + k]] := by
  rw [List.take_succ_eq_append_getElem (by simp; omega), List.getElem_drop]
theorem leNat_take_succ (l : List UInt8) (a k : Nat) (h : a + k < l.length) : leNat ((l.drop a).take (k + 1)) = leNat ((l.drop a).take k) + 256 ^ k * (l[a + k]).toNat := by
  rw [take_drop_succ l a k h, leNat_snoc, List.length_take, List.length_drop, Nat.min_eq_left (by omega)]
theorem leNat_take_lt (l : List UInt8) (a k : Nat) : leNat ((l.drop a).take k) < 256 ^ k :=
  Nat.lt_of_lt_of_le (leNat_lt _) (Nat.pow_le_pow_right (by omega) (by simp; omega))

theorem i64_or (a b : Nat) (ha : a < 9223372036854775808) (hb : b < 9223372036854775808) : bits .or .i64 (a : Int) (b : Int) = ((a ||| b : Nat) : Int) := by
  have hx : a ||| b < 2 ^ 63 := Nat.or_lt_two_pow (by omega) (by omega)
  have e : ∀ n : Nat, n < 9223372036854775808 → (BitVec.ofInt 64 (n : Int)).toNat = n := fun n hn => by
    rw [BitVec.ofInt_natCast, BitVec.toNat_ofNat]; exact Nat.mod_eq_of_lt (by omega)
  show IntKind.i64.wrap ((BitVec.ofInt 64 (a : Int) ||| BitVec.ofInt 64 (b : Int)).toNat : Int) = _
  rw [BitVec.toNat_or, e a ha, e b hb, IntKind.wrap_i64]
  omega
theorem or_byte (x k u : Nat) (hk : k < 4) (hx : x < 256 ^ k) (hu : u < 256) : bits BinOp.or .i64 (x : Int) (wrap64 ((u : Int) * 2 ^ (8 * k))) = ((x + 256 ^ k * u : Nat) : Int) := by
  have hp : (256 : Nat) ^ k = 2 ^ (8 * k) := by rw [show (256 : Nat) = 2 ^ 8 from rfl, ← Nat.pow_mul]
  have hle : (256 : Nat) ^ k ≤ 256 ^ 3 := Nat.pow_le_pow_right (by omega) (by omega)
  have hmul : 256 ^ k * u ≤ 256 ^ 3 * 255 := Nat.mul_le_mul hle (by omega)
  have e : ((u : Int) * 2 ^ (8 * k)) = ((256 ^ k * u : Nat) : Int) := by
    rw [hp, Int.natCast_mul, Int.natCast_pow, Int.mul_comm]; rfl
  have e2 : wrap64 ((256 ^ k * u : Nat) : Int) = ((256 ^ k * u : Nat) : Int) := by unfold wrap64; omega
  rw [e, e2, i64_or _ _ (by omega) (by omega)]
  congr 1
  rw [Nat.or_comm, nat_join (8 * k) _ _ (by rw [← hp]; exact Nat.mul_mod_right _ _) (by rw [← hp]; exact hx)]
  omega

theorem takeV_some {l : List UInt8} {a m : Nat} {z : Int} (h1 : 1 ≤ m) (h2 : m ≤ 4) (h3 : a + m ≤ l.length) :
    takeV l a m z = .tuple #[.int .i64 (leNat ((l.drop a).take m) : Nat), .int .i64 ((a : Int) + m), .int .i64 0] := by
  unfold takeV takeS; rw [if_pos (by omega)]; rfl
theorem takeV_none {l : List UInt8} {a m z : Int} (h : ¬ (1 ≤ m ∧ m ≤ 4 ∧ 0 ≤ a ∧ a + m ≤ l.length)) :
    takeV l a m z = .tuple #[.int .i64 0, .int .i64 0, .int .i64 z] := by
  unfold takeV takeS; rw [if_neg h]

set_option maxHeartbeats 1000000 in
theorem numTake_any (A : Option Addr) (l : List UInt8) (c : Nat) (at_ w_ : Int) (w : World) (hl : l.length ≤ maxLen) (hA : Cells w A (l.map bv)) (h1 : -9223372036854775808 ≤ at_) (h2 : at_ ≤ 9223372036854775807) :
    Calls Try.prog 20 #[.slice A l.length c, .int .i64 at_, .int .i64 w_] w fun e w' => e = .returned (takeV l at_ w_ 2) ∧ w = w' := by
  unfold maxLen at hl
  by_cases hw : 1 ≤ w_ ∧ w_ ≤ 4
  · have t1 : isW w_ = true := by unfold isW; simp; omega
    by_cases hb : 0 ≤ at_ ∧ at_ + w_ ≤ l.length
    · obtain ⟨m, rfl⟩ := Int.eq_ofNat_of_zero_le (show 0 ≤ w_ by omega)
      obtain ⟨a, rfl⟩ := Int.eq_ofNat_of_zero_le hb.1
      obtain ⟨hw1, hw2⟩ := hw
      obtain ⟨_, hb⟩ := hb
      have HF := Lib.hid (takeV_some (l := l) (a := a) (m := m) (z := 2) (by omega) (by omega) (by omega))
      go_enter Try.func20, Try.ntmps20
      go_wp2_with (go_at_call 19; refine (numIsWidth_any _ _).mono ?_; rintro e w' ⟨rfl, rfl⟩)
      go_loop [9, 27] (fun n i => ∃ k : Nat, k ≤ m ∧ i = .int .i64 k ∧ n = .int .i64 (leNat ((l.drop a).take k) : Nat)) (fun _ i => m - (intOf i).toNat)
      case atStart => exact ⟨0, Nat.zero_le _, rfl, rfl⟩
      case round =>
        obtain ⟨k, hk, rfl, rfl⟩ := hrel
        by_cases hlt : k < m
        · obtain ⟨b, off, rfl, _, hc⟩ := hA.byte (k := a + k) (by omega)
          have hck := hc (a + k) (by omega)
          have hb8 := l[a+k].toNat_lt
          have HO := Lib.hid (or_byte (leNat ((l.drop a).take k)) k l[a+k].toNat (by omega) (leNat_take_lt l a k) l[a+k].toNat_lt)
          have HS := Lib.hid (leNat_take_succ l a k (by omega))
          go_wp2
          go_round
          case rel => exact ⟨k + 1, by omega, by go_num, by rw [HO.out, HS.out]⟩
          case measure => simp [intOf]; omega
        · obtain rfl : k = m := by omega
          go_wp2
          go_ret3
          exact ⟨congrArg Ending.returned HF.out.symm, rfl⟩
    · have HF := Lib.hid (takeV_none (l := l) (a := at_) (m := w_) (z := 2) (by omega))
      by_cases ha : 0 ≤ at_
      · go_enter Try.func20, Try.ntmps20
        go_wp2_with (go_at_call 19; refine (numIsWidth_any _ _).mono ?_; rintro e w' ⟨rfl, rfl⟩)
        go_ret3
        exact ⟨congrArg Ending.returned HF.out.symm, rfl⟩
      · go_enter Try.func20, Try.ntmps20
        go_wp2_with (go_at_call 19; refine (numIsWidth_any _ _).mono ?_; rintro e w' ⟨rfl, rfl⟩)
        go_ret3
        exact ⟨congrArg Ending.returned HF.out.symm, rfl⟩
  · have t1 : isW w_ = false := by unfold isW; simp; omega
    have HF := Lib.hid (takeV_none (l := l) (a := at_) (m := w_) (z := 2) (by omega))
    go_enter Try.func20, Try.ntmps20
    go_wp2_with (go_at_call 19; refine (numIsWidth_any _ _).mono ?_; rintro e w' ⟨rfl, rfl⟩)
    go_ret3
    exact ⟨congrArg Ending.returned HF.out.symm, rfl⟩

theorem leNat_from (l : List UInt8) (a m i : Nat) (h : a + m ≤ l.length) (hi : i < m) :
    leNat ((l.drop (a + i)).take (m - i)) = leNat ((l.drop (a + (i + 1))).take (m - (i + 1))) * 256 + l[a + i].toNat := by
  rw [List.drop_eq_getElem_cons (by omega : a + i < l.length), show m - i = (m - (i + 1)) + 1 by omega, List.take_succ_cons, leNat]
  rw [show a + (i + 1) = a + i + 1 by omega]; omega

/-- Are two lists of bytes one? -/
def rowB (a b : List UInt8) : Bool := a == b
theorem take_succ_eq (a b : List UInt8) (k : Nat) (ha : k < a.length) (hb : k < b.length) (h : a.take k = b.take k) (he : a[k] = b[k]) : a.take (k + 1) = b.take (k + 1) := by
  rw [List.take_succ_eq_append_getElem ha, List.take_succ_eq_append_getElem hb, h, he]

end Go.Proofs.Yticppegploniaaa
