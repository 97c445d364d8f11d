/- Whole numbers among floats of 64 bits, and which floats are the same as they; no program in sight. -/
import Derived.Test.YtjbfopnkeclfgaaGreatK02
import Derived.Laws.FloatArith
import Derived.Laws.ComplexArith
import Derived.Laws.Cover3
namespace Go.Proofs.YtjbfopnkeclfgaaGreat
set_option maxRecDepth 20000
open Go.RowKit

/-- A number's float. -/
def fN (n : Nat) : Nat := floatOfInt .f64 (n : Int)
def feq (x y : Nat) : Bool := FloatKind.f64.format.order x y == some .eq
/-- A finite float's number, in units of 2 ^ -1074. -/
def fV (x : Nat) : Option Int :=
  match FloatKind.f64.format.read x with
  | .number s m e => some (Ieee.signed s m (e + 1074).toNat)
  | _ => none
theorem signed_add (s : Bool) (m u v : Nat) : Ieee.signed s m (u + v) = Ieee.signed s m u * ((2 ^ v : Nat) : Int) := by
  unfold Ieee.signed
  cases s <;> simp [Nat.shiftLeft_eq, Nat.pow_add, Int.mul_assoc, Int.neg_mul]
theorem cmp_eq_iff (a b : Int) : (compare a b = .eq) ↔ a = b := by
  rw [show compare a b = compareOfLessAndEq a b from rfl]
  unfold compareOfLessAndEq
  constructor
  · intro h
    split at h
    · cases h
    · split at h
      · assumption
      · cases h
  · rintro rfl
    simp
theorem read_place {x : Nat} {s : Bool} {m : Nat} {e : Int} (h : FloatKind.f64.format.read x = .number s m e) : -1074 ≤ e := by
  have hl : (FloatKind.f64.format).leastPlace = -1074 := by decide
  unfold Ieee.Format.read at h
  simp only at h
  split at h
  · cases h; omega
  · split at h
    · cases h; omega
    · split at h <;> cases h
theorem order_num {x y : Nat} {a b : Int} (hx : fV x = some a) (hy : fV y = some b) : feq x y = decide (a = b) := by
  unfold fV at hx hy
  unfold feq Ieee.Format.order
  split at hx
  · rename_i s m i h1
    split at hy
    · rename_i t n j h2
      have hi := read_place h1
      have hj := read_place h2
      rw [h1, h2]
      simp only [Ieee.Datum.order]
      have e1 : (i + 1074).toNat = (i - min i j).toNat + (min i j + 1074).toNat := by omega
      have e2 : (j + 1074).toNat = (j - min i j).toNat + (min i j + 1074).toNat := by omega
      rw [e1, signed_add] at hx
      rw [e2, signed_add] at hy
      cases hx
      cases hy
      have hp : ((2 ^ (min i j + 1074).toNat : Nat) : Int) ≠ 0 := by
        have : 0 < 2 ^ (min i j + 1074).toNat := Nat.pow_pos (by omega)
        omega
      rw [Bool.eq_iff_iff]
      simp only [beq_iff_eq, Option.some.injEq, decide_eq_true_eq]
      rw [cmp_eq_iff]
      exact ⟨fun h => by rw [h], fun h => Int.eq_of_mul_eq_mul_right hp h⟩
    · cases hy
  · cases hx
theorem order_none {x y : Nat} {b : Int} (hx : fV x = none) (hy : fV y = some b) : feq x y = false := by
  unfold fV at hx hy
  unfold feq Ieee.Format.order
  split at hy
  · rename_i t n j h2
    rw [h2]
    split at hx
    · cases hx
    · rename_i h9
      cases hd : FloatKind.f64.format.read x with
      | number s m e => exact absurd hd (h9 s m e)
      | infinity s => cases s <;> rfl
      | nan s f => rfl
  · cases hy
/-- What is reckoned for each number, one by one. -/
def chkN (n : Nat) : Bool := fV (fN n) == some ((n : Int) * 2 ^ 1074) && (floatToIntVal .f64 (fN n) .i64 == some (n : Int)) && (floatBits .add .f64 (fN n) (fN 1) == some (fN (n + 1))) && decide (fN n < 2 ^ 64)
def chkAll : Nat → Bool
  | 0 => true
  | n + 1 => chkN n && chkAll n
theorem chk_all : chkAll 2600 = true := by decide +kernel
theorem chk_of : ∀ (m n : Nat), n < m → chkAll m = true → chkN n = true
  | 0, n, h, _ => by omega
  | m + 1, n, h, hc => by
    unfold chkAll at hc
    rw [Bool.and_eq_true] at hc
    rcases Nat.lt_or_ge n m with h' | h'
    · exact chk_of m n h' hc.2
    · obtain rfl : n = m := by omega
      exact hc.1
theorem fN_all {n : Nat} (h : n < 2600) : fV (fN n) = some ((n : Int) * 2 ^ 1074) ∧ floatToIntVal .f64 (fN n) .i64 = some (n : Int) ∧ floatBits .add .f64 (fN n) (fN 1) = some (fN (n + 1)) ∧ fN n < 2 ^ 64 := by
  have h1 := chk_of 2600 n h chk_all
  unfold chkN at h1
  simp only [Bool.and_eq_true, beq_iff_eq, decide_eq_true_eq] at h1
  exact ⟨h1.1.1.1, h1.1.1.2, h1.1.2, h1.2⟩

/-- The number of a rung, in units of 2 ^ -1074. -/
def rv (r : Nat) : Nat := if r < 2 ^ 52 then r else (2 ^ 52 + r % 2 ^ 52) * 2 ^ (r / 2 ^ 52 - 1)
theorem rv_range {r : Nat} (h : 2 ^ 52 ≤ r) : 2 ^ (r / 2 ^ 52 + 51) ≤ rv r ∧ rv r < 2 ^ (r / 2 ^ 52 + 52) := by
  unfold rv
  rw [if_neg (by omega)]
  have hq : 1 ≤ r / 2 ^ 52 := by omega
  obtain ⟨q, hq'⟩ : ∃ q, r / 2 ^ 52 = q + 1 := ⟨r / 2 ^ 52 - 1, by omega⟩
  rw [hq']
  have ht : r % 2 ^ 52 < 2 ^ 52 := Nat.mod_lt _ (by omega)
  generalize r % 2 ^ 52 = t at *
  have hp : 0 < 2 ^ q := Nat.pow_pos (by omega)
  rw [show q + 1 + 51 = 52 + q by omega, show q + 1 + 52 = 53 + q by omega, Nat.pow_add 2 52 q, Nat.pow_add 2 53 q, show q + 1 - 1 = q by omega]
  exact ⟨Nat.mul_le_mul_right _ (by omega), Nat.mul_lt_mul_of_pos_right (by omega) hp⟩
theorem pow_lt_of {a b : Nat} (h : 2 ^ a < 2 ^ b) : a < b := (Nat.pow_lt_pow_iff_right (by omega)).1 h
theorem rv_inj {r t : Nat} (h : rv r = rv t) : r = t := by
  rcases Nat.lt_or_ge r (2 ^ 52) with hr | hr <;> rcases Nat.lt_or_ge t (2 ^ 52) with ht | ht
  · unfold rv at h
    rw [if_pos hr, if_pos ht] at h
    exact h
  · exfalso
    have h1 := rv_range ht
    have h2 : rv r = r := by unfold rv; rw [if_pos hr]
    have h3 : (2 : Nat) ^ 52 ≤ 2 ^ (t / 2 ^ 52 + 51) := Nat.pow_le_pow_right (by omega) (by omega)
    omega
  · exfalso
    have h1 := rv_range hr
    have h2 : rv t = t := by unfold rv; rw [if_pos ht]
    have h3 : (2 : Nat) ^ 52 ≤ 2 ^ (r / 2 ^ 52 + 51) := Nat.pow_le_pow_right (by omega) (by omega)
    omega
  · have h1 := rv_range hr
    have h2 := rv_range ht
    have h3 : r / 2 ^ 52 + 51 < t / 2 ^ 52 + 52 := pow_lt_of (Nat.lt_of_le_of_lt h1.1 (by rw [h]; exact h2.2))
    have h4 : t / 2 ^ 52 + 51 < r / 2 ^ 52 + 52 := pow_lt_of (Nat.lt_of_le_of_lt h2.1 (by rw [← h]; exact h1.2))
    have hq : r / 2 ^ 52 = t / 2 ^ 52 := by omega
    unfold rv at h
    rw [if_neg (by omega), if_neg (by omega), hq] at h
    have h5 := Nat.eq_of_mul_eq_mul_right (Nat.pow_pos (by omega)) h
    have e1 := Nat.div_add_mod r (2 ^ 52)
    have e2 := Nat.div_add_mod t (2 ^ 52)
    rw [hq] at e1
    omega
theorem fV_rung {x : Nat} {a : Int} (h : fV x = some a) : a = if x / 2 ^ 63 % 2 = 1 then -(rv (x % 2 ^ 63) : Int) else (rv (x % 2 ^ 63) : Int) := by
  have hl : (FloatKind.f64.format).leastPlace = -1074 := by decide
  have hb : (FloatKind.f64.format).binade = 2 ^ 52 := by decide
  have hw : (FloatKind.f64.format).signWeight = 2 ^ 63 := by decide
  unfold fV at h
  split at h
  · rename_i s m e h1
    cases h
    unfold Ieee.Format.read at h1
    simp only [hl, hb, hw] at h1
    unfold rv
    split at h1
    · rename_i hr
      cases h1
      rw [if_pos hr]
      unfold Ieee.signed
      simp
    · rename_i hr
      split at h1
      · cases h1
        rw [if_neg hr]
        unfold Ieee.signed
        have e9 : ((-1074 : Int) + ((x % 2 ^ 63 / 2 ^ 52 - 1 : Nat) : Int) + 1074).toNat = x % 2 ^ 63 / 2 ^ 52 - 1 := by omega
        rw [e9]
        simp only [Nat.shiftLeft_eq, beq_iff_eq]
      · split at h1 <;> cases h1
  · cases h
/-- A float that is a whole number. -/
def isWh (x n : Nat) : Prop := x = fN n ∨ (n = 0 ∧ x = 2 ^ 63)
theorem fN_zero : fN 0 = 0 := by decide +kernel
theorem isWh_of {x n : Nat} (hx : x < 2 ^ 64) (hn : n < 2600) (h : fV x = some ((n : Int) * 2 ^ 1074)) : isWh x n := by
  have hf := fN_all hn
  have h1 := fV_rung h
  have h2 := fV_rung hf.1
  have hfl := hf.2.2.2
  have hx2 : x / 2 ^ 63 % 2 = x / 2 ^ 63 := Nat.mod_eq_of_lt (by omega)
  have hf2 : fN n / 2 ^ 63 % 2 = fN n / 2 ^ 63 := Nat.mod_eq_of_lt (by omega)
  rw [hx2] at h1
  rw [hf2] at h2
  have hp : (0 : Int) < 2 ^ 1074 := by decide +kernel
  rcases Nat.eq_zero_or_pos n with h0 | h0
  · subst h0
    have h3 : rv (x % 2 ^ 63) = 0 := by
      simp only [Int.natCast_zero, Int.zero_mul] at h1
      split at h1 <;> omega
    have h4 : x % 2 ^ 63 = 0 := rv_inj (t := 0) (by rw [h3]; rfl)
    unfold isWh
    rw [fN_zero]
    omega
  · left
    have hpos : (0 : Int) < (n : Int) * 2 ^ 1074 := Int.mul_pos (by omega) hp
    generalize (n : Int) * 2 ^ 1074 = v at *
    split at h1 <;> split at h2
    · omega
    · omega
    · omega
    · have h5 : rv (x % 2 ^ 63) = rv (fN n % 2 ^ 63) := by omega
      have h6 := rv_inj h5
      omega
theorem isWh_V {x n : Nat} (hn : n < 2600) (h : isWh x n) : fV x = some ((n : Int) * 2 ^ 1074) := by
  rcases h with rfl | ⟨rfl, rfl⟩
  · exact (fN_all hn).1
  · decide +kernel
theorem isWh_lt {x n : Nat} (hn : n < 2600) (h : isWh x n) : x < 2 ^ 64 := by
  rcases h with rfl | ⟨rfl, rfl⟩
  · exact (fN_all hn).2.2.2
  · omega
theorem isWh_int {x n : Nat} (hn : n < 2600) (h : isWh x n) : floatToIntVal .f64 x .i64 = some (n : Int) := by
  rcases h with rfl | ⟨rfl, rfl⟩
  · exact (fN_all hn).2.1
  · decide +kernel
theorem isWh_fN (n : Nat) : isWh (fN n) n := .inl rfl
theorem scaled_inj {a b : Nat} (h : (a : Int) * 2 ^ 1074 = (b : Int) * 2 ^ 1074) : a = b := by
  have hp : (2 : Int) ^ 1074 ≠ 0 := by decide +kernel
  have := Int.eq_of_mul_eq_mul_right hp h
  omega
/-- Which float is the same as a whole number. -/
theorem feq_whole {x n : Nat} (hx : x < 2 ^ 64) (hn : n < 2600) : feq x (fN n) = true ↔ isWh x n := by
  have hf := (fN_all hn).1
  cases hv : fV x with
  | none =>
    rw [order_none hv hf]
    constructor
    · intro h; cases h
    · intro h; rw [isWh_V hn h] at hv; cases hv
  | some a =>
    rw [order_num hv hf, decide_eq_true_eq]
    constructor
    · rintro rfl; exact isWh_of hx hn hv
    · intro h; rw [isWh_V hn h] at hv; cases hv; rfl
theorem isWh_inj {x a b : Nat} (ha : a < 2600) (hb : b < 2600) (h : isWh x a) (k : isWh x b) : a = b := by
  have h1 := isWh_V ha h
  rw [isWh_V hb k] at h1
  exact (scaled_inj (Option.some.inj h1)).symm
end Go.Proofs.YtjbfopnkeclfgaaGreat
