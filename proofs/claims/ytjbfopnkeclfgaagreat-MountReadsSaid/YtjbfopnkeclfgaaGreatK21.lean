/- Whole numbers below 2 ^ 53 among floats of 64 bits: how they are read, compared, and made whole; no program in sight. -/
import Derived.Test.YtjbfopnkeclfgaaGreatK16
namespace Go.Proofs.YtjbfopnkeclfgaaGreat
set_option maxRecDepth 20000
open Go.RowKit

theorem shl_pos {m : Nat} (hm : m ≠ 0) (e : Nat) : m <<< e ≠ 0 := by
  rw [Nat.shiftLeft_eq]; exact Nat.mul_ne_zero hm (by have : 0 < 2 ^ e := Nat.pow_pos (by omega); omega)
theorem log2_shift {m e : Nat} (hm : m ≠ 0) : (m <<< e).log2 = m.log2 + e := by
  rw [Nat.log2_eq_iff (shl_pos hm e), Nat.shiftLeft_eq, Nat.pow_add, show m.log2 + e + 1 = (m.log2 + 1) + e by omega, Nat.pow_add]
  have hp : 0 < 2 ^ e := Nat.pow_pos (by omega)
  have h2 := (Nat.log2_eq_iff hm).1 rfl
  exact ⟨Nat.mul_le_mul_right _ h2.1, Nat.mul_lt_mul_of_pos_right h2.2 hp⟩
theorem cut_none (m : Nat) : Ieee.Toward.cut .even false m 0 = m := by
  unfold Ieee.Toward.cut
  rw [Nat.min_eq_left (Nat.zero_le _)]
  simp only [Nat.shiftLeft_zero, Nat.div_one, Nat.mod_one]
  simp
theorem cut_zero (m e : Nat) (h : e ≤ (m <<< e).log2 + 2) : Ieee.Toward.cut .zero false (m <<< e) e = m := by
  unfold Ieee.Toward.cut
  rw [Nat.min_eq_left h]
  have h1 : (1 : Nat) <<< e = 2 ^ e := by rw [Nat.shiftLeft_eq, Nat.one_mul]
  have hp : 0 < 2 ^ e := Nat.pow_pos (by omega)
  simp [h1, Nat.shiftLeft_eq, Nat.mul_div_cancel _ hp]
/-- The bits of a whole number's float. -/
theorem fN_bits {n : Nat} (h0 : n ≠ 0) (h : n < 2 ^ 53) : fN n = (n.log2 + 1022) * 2 ^ 52 + n <<< (52 - n.log2) := by
  have hl : (FloatKind.f64.format).leastPlace = -1074 := by decide
  have hb : (FloatKind.f64.format).binade = 2 ^ 52 := by decide
  have hi : (FloatKind.f64.format).infRung = 2047 * 2 ^ 52 := by decide
  have hf : (FloatKind.f64.format).fractionBits = 52 := rfl
  have hlog : n.log2 ≤ 52 := by have := (Nat.log2_lt h0).2 h; omega
  show FloatKind.f64.format.write (.number (decide ((n : Int) < 0)) (n : Int).natAbs 0) = _
  rw [decide_eq_false (by omega), Int.natAbs_natCast]
  unfold Ieee.Format.write Ieee.Format.nearest
  simp only [if_neg h0, hl, hb, hf, hi]
  have hlast : max (0 + (n.log2 : Int) - ((52 : Nat) : Int)) (-1074) = (n.log2 : Int) - 52 := by omega
  rw [hlast, show (0 - ((n.log2 : Int) - 52)).toNat = 52 - n.log2 by omega, show ((n.log2 : Int) - 52 - 0).toNat = 0 by omega, cut_none, show ((n.log2 : Int) - 52 - -1074).toNat = n.log2 + 1022 by omega]
  unfold Ieee.Format.word
  have hlt : n <<< (52 - n.log2) < 2 ^ 53 := by
    have h1 := log2_shift (e := 52 - n.log2) h0
    have h2 := (Nat.log2_lt (shl_pos h0 (52 - n.log2))).1 (show (n <<< (52 - n.log2)).log2 < 53 by omega)
    exact h2
  rw [Nat.min_eq_left (by omega)]
  rfl
theorem fN_read {n : Nat} (h0 : n ≠ 0) (h : n < 2 ^ 53) : FloatKind.f64.format.read (fN n) = .number false (n <<< (52 - n.log2)) ((n.log2 : Int) - 52) := by
  have hl : (FloatKind.f64.format).leastPlace = -1074 := by decide
  have hb : (FloatKind.f64.format).binade = 2 ^ 52 := by decide
  have hw : (FloatKind.f64.format).signWeight = 2 ^ 63 := by decide
  have hi : (FloatKind.f64.format).infRung = 2047 * 2 ^ 52 := by decide
  have hlog : n.log2 ≤ 52 := by have := (Nat.log2_lt h0).2 h; omega
  have h1 := log2_shift (e := 52 - n.log2) h0
  have h2 := (Nat.log2_lt (shl_pos h0 (52 - n.log2))).1 (show (n <<< (52 - n.log2)).log2 < 53 by omega)
  have h3 := (Nat.le_log2 (shl_pos h0 (52 - n.log2))).1 (show 52 ≤ (n <<< (52 - n.log2)).log2 by omega)
  rw [fN_bits h0 h]
  generalize n <<< (52 - n.log2) = x at *
  unfold Ieee.Format.read
  have e1 : ((n.log2 + 1022) * 2 ^ 52 + x) % 2 ^ 63 = (n.log2 + 1022) * 2 ^ 52 + x := Nat.mod_eq_of_lt (by omega)
  have e2 : (((n.log2 + 1022) * 2 ^ 52 + x) / 2 ^ 63 % 2 == 1) = false := by rw [beq_eq_false_iff_ne]; omega
  simp only [hl, hb, hw, hi, e1, e2]
  rw [if_neg (by omega), if_pos (by omega)]
  have e3 : 2 ^ 52 + ((n.log2 + 1022) * 2 ^ 52 + x) % 2 ^ 52 = x := by omega
  have e4 : ((n.log2 + 1022) * 2 ^ 52 + x) / 2 ^ 52 = n.log2 + 1023 := by omega
  rw [e3, e4]
  congr 1
  omega
/-- A whole number's float, as a number in units of 2 ^ -1074. -/
theorem fN_val {n : Nat} (h : n < 2 ^ 53) : ∃ (m : Nat) (e : Int), FloatKind.f64.format.read (fN n) = .number false m e ∧ -1074 ≤ e ∧ e ≤ 0 ∧ m * 2 ^ (e + 1074).toNat = n * 2 ^ 1074 := by
  by_cases h0 : n = 0
  · subst h0
    exact ⟨0, -1074, by decide +kernel, by omega, by omega, by simp only [Nat.zero_mul]⟩
  · have hlog : n.log2 ≤ 52 := by have := (Nat.log2_lt h0).2 h; omega
    refine ⟨_, _, fN_read h0 h, by omega, by omega, ?_⟩
    rw [Nat.shiftLeft_eq, Nat.mul_assoc, ← Nat.pow_add, show 52 - n.log2 + ((n.log2 : Int) - 52 + 1074).toNat = 1074 by omega]
theorem cmp_mul {a b n m K T : Nat} (hK : 0 < K) (hT : 0 < T) (ha : a * K = n * T) (hb : b * K = m * T) : compare (a : Int) (b : Int) = compare (n : Int) (m : Int) := by
  rw [show compare (a : Int) (b : Int) = compareOfLessAndEq (a : Int) (b : Int) from rfl, show compare (n : Int) (m : Int) = compareOfLessAndEq (n : Int) (m : Int) from rfl]
  unfold compareOfLessAndEq
  have h1 : (a : Int) < (b : Int) ↔ (n : Int) < (m : Int) := by
    rw [Int.ofNat_lt, Int.ofNat_lt]
    constructor
    · intro h
      have : n * T < m * T := by rw [← ha, ← hb]; exact Nat.mul_lt_mul_of_pos_right h hK
      exact Nat.lt_of_mul_lt_mul_right this
    · intro h
      have : a * K < b * K := by rw [ha, hb]; exact Nat.mul_lt_mul_of_pos_right h hT
      exact Nat.lt_of_mul_lt_mul_right this
  have h2 : (a : Int) = (b : Int) ↔ (n : Int) = (m : Int) := by
    rw [Int.ofNat_inj, Int.ofNat_inj]
    constructor
    · intro h
      exact Nat.eq_of_mul_eq_mul_right hT (by rw [← ha, ← hb, h])
    · intro h
      exact Nat.eq_of_mul_eq_mul_right hK (by rw [ha, hb, h])
  by_cases c1 : (n : Int) < (m : Int)
  · rw [if_pos (h1.2 c1), if_pos c1]
  · rw [if_neg (fun h => c1 (h1.1 h)), if_neg c1]
    by_cases c2 : (n : Int) = (m : Int)
    · rw [if_pos (h2.2 c2), if_pos c2]
    · rw [if_neg (fun h => c2 (h2.1 h)), if_neg c2]
/-- Whole numbers compare as their floats do. -/
theorem fN_order {n m : Nat} (hn : n < 2 ^ 53) (hm : m < 2 ^ 53) : FloatKind.f64.format.order (fN n) (fN m) = some (compare (n : Int) (m : Int)) := by
  obtain ⟨a, i, h1, h2, h3, h4⟩ := fN_val hn
  obtain ⟨b, j, k1, k2, k3, k4⟩ := fN_val hm
  unfold Ieee.Format.order
  rw [h1, k1]
  simp only [Ieee.Datum.order, Ieee.signed, Bool.false_eq_true, if_false, Option.some.injEq]
  refine cmp_mul (K := 2 ^ (min i j + 1074).toNat) (T := 2 ^ 1074) (Nat.pow_pos (by omega)) (Nat.pow_pos (by omega)) ?_ ?_
  · rw [Nat.shiftLeft_eq, Nat.mul_assoc, ← Nat.pow_add, show (i - min i j).toNat + (min i j + 1074).toNat = (i + 1074).toNat by omega]; exact h4
  · rw [Nat.shiftLeft_eq, Nat.mul_assoc, ← Nat.pow_add, show (j - min i j).toNat + (min i j + 1074).toNat = (j + 1074).toNat by omega]; exact k4
theorem fN_below {n : Nat} (hn : n < 2 ^ 53) : FloatKind.f64.format.order (fN n) (floatOfInt .f64 (-1)) = some .gt := by
  obtain ⟨a, i, h1, h2, h3, h4⟩ := fN_val hn
  have hr : FloatKind.f64.format.read (floatOfInt .f64 (-1)) = .number true (2 ^ 52) (-52) := by decide +kernel
  unfold Ieee.Format.order
  rw [h1, hr]
  simp only [Ieee.Datum.order, Ieee.signed, Bool.false_eq_true, if_false, if_true, Option.some.injEq]
  have hp : (0 : Int) < ((2 ^ 52 <<< ((-52 : Int) - min i (-52)).toNat : Nat) : Int) := by
    have := Nat.pos_of_ne_zero (shl_pos (show (2 ^ 52 : Nat) ≠ 0 by omega) ((-52 : Int) - min i (-52)).toNat)
    omega
  generalize ((2 ^ 52 <<< ((-52 : Int) - min i (-52)).toNat : Nat) : Int) = y at *
  generalize a <<< (i - min i (-52)).toNat = x at *
  show compareOfLessAndEq (x : Int) (-y) = .gt
  unfold compareOfLessAndEq
  rw [if_neg (by omega), if_neg (by omega)]
/-- A whole number's float, made whole, is it. -/
theorem fN_toInt {n : Nat} (hn : n < 2 ^ 53) : floatToIntVal .f64 (fN n) .i64 = some (n : Int) := by
  by_cases h0 : n = 0
  · subst h0; decide +kernel
  · have hlog : n.log2 ≤ 52 := by have := (Nat.log2_lt h0).2 hn; omega
    have hr := fN_read h0 hn
    unfold floatToIntVal
    rw [show FloatKind.f64.decode (fN n) = FloatKind.f64.format.read (fN n) from rfl, hr]
    unfold Ieee.Datum.toInt Ieee.Datum.integral
    simp only
    rw [show ((n.log2 : Int) - 52).toNat = 0 by omega, Nat.shiftLeft_zero, show (-((n.log2 : Int) - 52)).toNat = 52 - n.log2 by omega, cut_zero n (52 - n.log2) (by rw [log2_shift h0]; omega)]
    unfold Ieee.signed
    simp only [Bool.false_eq_true, if_false, Nat.shiftLeft_zero]
    have h1 : IntKind.i64.min = -9223372036854775808 := by decide
    have h2 : IntKind.i64.max = 9223372036854775807 := by decide
    rw [if_pos (by rw [h1, h2]; omega)]
end Go.Proofs.YtjbfopnkeclfgaaGreat
