/- Walks of Take, Sum and Row. -/
import Derived.Test.YtpcchbcibcfldaaNumW1
namespace Go.Proofs.Ytpcchbcibcfldaa
open Go.RowKit

theorem bits_xor_byte (c : Nat) (u : UInt8) (h : c < 4294967296) : bits BinOp.xor IntKind.u32 (c : Int) ((u.toNat : Int) % 4294967296) = ((c ^^^ u.toNat : Nat) : Int) := by
  have := u.toNat_lt
  rw [show ((u.toNat : Int) % 4294967296) = (u.toNat : Int) by omega]
  exact u32_xor_nat c u.toNat h (by omega)
theorem bits_ones (c : Nat) (h : c < 4294967296) : wrap64 (bits BinOp.xor IntKind.u32 (c : Int) 4294967295) = ((c ^^^ 4294967295 : Nat) : Int) := by
  have := u32_xor_nat c 4294967295 h (by omega)
  rw [show (4294967295 : Int) = ((4294967295 : Nat) : Int) from rfl, this]
  have := xor_lt32 (b := 4294967295) h (by omega)
  unfold wrap64; omega

set_option maxHeartbeats 400000 in
theorem numSum_any (A : Option Addr) (l : List UInt8) (c : Nat) (w : World) (hl : l.length ≤ maxLen) (hA : Cells w A (l.map bv)) :
    Calls Try.prog 44 #[.slice A l.length c] w fun e w' => e = .returned (.int .i64 (crc l : Nat)) ∧ w = w' := by
  unfold maxLen at hl
  go_enter Try.func44, Try.ntmps44
  go_wp2
  go_loop [3, 7] (fun m i => ∃ k : Nat, k ≤ l.length ∧ i = .int .i64 k ∧ m = .int .u32 (reg 4294967295 (l.take k) : Nat)) (fun _ i => l.length - (intOf i).toNat)
  case atStart => exact ⟨0, Nat.zero_le _, rfl, rfl⟩
  case round =>
    obtain ⟨k, hk, rfl, rfl⟩ := hrel
    have b1 := reg_lt (l.take k) 4294967295 (by omega)
    by_cases hlt : k < l.length
    · have HR := Lib.hid (reg_take l k hlt 4294967295)
      obtain ⟨b, off, rfl, _, hc⟩ := hA.byte hlt
      have hck := hc k hlt
      go_wp2_with (go_at_call 51; rw [bits_xor_byte _ _ b1]; refine (numFold_any _ (xor_lt32 b1 (by have := l[k].toNat_lt; omega)) _).mono ?_; rintro e w' ⟨rfl, rfl⟩)
      go_round
      case rel => exact ⟨k + 1, by omega, by go_num, by rw [HR.out]; rfl⟩
      case measure => simp [intOf]; omega
    · obtain rfl : k = l.length := by omega
      rw [List.take_length]
      rw [List.take_length] at b1
      have HB := Lib.hid (bits_ones _ b1)
      go_wp2
      go_ret
      exact ⟨ret_int HB.out, rfl⟩

theorem xor_int (a b : Int) (w : World) (h1 : 0 ≤ a) (h2 : a < 4294967296) (h3 : 0 ≤ b) (h4 : b < 4294967296) :
    Calls Try.prog 52 #[.int .i64 a, .int .i64 b] w fun e w' => e = .returned (.int .i64 ((a.toNat ^^^ b.toNat : Nat) : Int)) ∧ w = w' := by
  obtain ⟨a, rfl⟩ := Int.eq_ofNat_of_zero_le h1
  obtain ⟨b, rfl⟩ := Int.eq_ofNat_of_zero_le h3
  exact ref01Xor_any a b (by omega) (by omega) w

set_option maxHeartbeats 1000000 in
theorem ref01Sum_any (A : Option Addr) (l : List UInt8) (c : Nat) (w : World) (hl : l.length ≤ maxLen) (hA : Cells w A (l.map bv)) :
    Calls Try.prog 46 #[.slice A l.length c] w fun e w' => e = .returned (.int .i64 (crc l : Nat)) ∧ w = w' := by
  unfold maxLen at hl
  go_enter Try.func46, Try.ntmps46
  go_wp2
  go_loop [3, 4] (fun m i => ∃ k : Nat, k ≤ l.length ∧ i = .int .i64 k ∧ m = .int .i64 (reg 4294967295 (l.take k) : Nat)) (fun _ i => l.length - (intOf i).toNat)
  case atStart => exact ⟨0, Nat.zero_le _, rfl, rfl⟩
  case round =>
    obtain ⟨k, hk, rfl, rfl⟩ := hrel
    have b1 := reg_lt (l.take k) 4294967295 (by omega)
    by_cases hlt : k < l.length
    · have HR := Lib.hid (reg_take l k hlt 4294967295)
      obtain ⟨b, off, rfl, _, hc⟩ := hA.byte hlt
      have hck := hc k hlt
      have hb8 := l[k].toNat_lt
      go_wp2_with (go_at_call 52; refine (xor_int _ _ _ (by omega) (by omega) (by omega) (by omega)).mono ?_; rintro e w' ⟨rfl, rfl⟩)
      have bx : reg 4294967295 (List.take k l) ^^^ l[k].toNat < 4294967296 := xor_lt32 b1 (by omega)
      go_loop [3, 5] (fun m i => ∃ q : Nat, q ≤ 8 ∧ i = .int .i64 q ∧ m = .int .i64 (foldN q (reg 4294967295 (l.take k) ^^^ l[k].toNat) : Nat)) (fun _ i => 8 - (intOf i).toNat)
      case atStart => exact ⟨0, Nat.zero_le _, rfl, rfl⟩
      case round =>
        obtain ⟨q, hq, rfl, rfl⟩ := hrel
        have b2 := foldN_lt q _ bx
        by_cases hq8 : q < 8
        · have HF := Lib.hid (foldN_succ q (reg 4294967295 (List.take k l) ^^^ l[k].toNat))
          generalize foldN q (reg 4294967295 (List.take k l) ^^^ l[k].toNat) = z at *
          by_cases ho : z % 2 = 1
          · have ho' : (((z : Int) % 2) == 1) = true := by simp; omega
            go_wp2_with (go_at_call 52; refine (xor_int _ _ _ (by omega) (by omega) (by omega) (by omega)).mono ?_; rintro e w' ⟨rfl, rfl⟩)
            go_round
            case rel => exact ⟨q + 1, by omega, by go_num, by rw [HF.out]; unfold foldS; rw [if_pos ho]; rfl⟩
            case measure => simp [intOf]; omega
          · have ho' : (((z : Int) % 2) == 1) = false := by simp; omega
            go_wp2
            go_round
            case rel => exact ⟨q + 1, by omega, by go_num, by rw [HF.out]; unfold foldS; rw [if_neg ho]; rfl⟩
            case measure => simp [intOf]; omega
        · obtain rfl : q = 8 := by omega
          go_wp2
          go_round
          case rel => exact ⟨k + 1, by omega, by go_num, by rw [HR.out]; rfl⟩
          case measure => simp [intOf]; omega
    · obtain rfl : k = l.length := by omega
      rw [List.take_length]
      rw [List.take_length] at b1
      go_wp2_with (go_at_call 52; refine (xor_int _ _ _ (by omega) (by omega) (by omega) (by omega)).mono ?_; rintro e w' ⟨rfl, rfl⟩)
      go_ret
      exact ⟨rfl, rfl⟩

/-- The three results of Take, with the word for a fault. -/
def takeV (l : List UInt8) (at_ w : Int) (none_ : Int) : Value := match takeS l at_ w with
  | some n => .tuple #[.int .i64 (n : Int), .int .i64 (at_ + w), .int .i64 0]
  | none => .tuple #[.int .i64 0, .int .i64 0, .int .i64 none_]

end Go.Proofs.Ytpcchbcibcfldaa
