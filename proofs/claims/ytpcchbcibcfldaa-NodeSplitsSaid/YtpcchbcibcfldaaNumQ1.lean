/- Plain facts on the check sum: it is linear, and turned bits within 32 in a row are seen. -/
import Derived.Test.YtpcchbcibcfldaaNumP0
namespace Go.Proofs.Ytpcchbcibcfldaa

theorem xor_div2 (a b : Nat) : (a ^^^ b) / 2 = a / 2 ^^^ b / 2 := by
  have := Nat.xor_div_two_pow (a := a) (b := b) (n := 1)
  simpa using this
theorem xor_mod2 (a b : Nat) : (a ^^^ b) % 2 = (a % 2 + b % 2) % 2 := by
  have := Nat.xor_mod_two_pow (a := a) (b := b) (n := 1)
  simp only [Nat.pow_one] at this
  rw [this]
  rcases Nat.mod_two_eq_zero_or_one a with h | h <;> rcases Nat.mod_two_eq_zero_or_one b with h' | h' <;> rw [h, h'] <;> rfl
theorem foldS_xor (a b : Nat) : foldS (a ^^^ b) = foldS a ^^^ foldS b := by
  unfold foldS
  have hm := xor_mod2 a b
  rw [xor_div2]
  rcases Nat.mod_two_eq_zero_or_one a with h | h <;> rcases Nat.mod_two_eq_zero_or_one b with h' | h' <;> rw [h, h'] at hm <;> simp only [hm, h, h', Nat.zero_add, Nat.add_zero, if_true, Nat.zero_mod, Nat.reduceAdd, Nat.reduceMod, Nat.zero_ne_one, if_false]
  · rw [Nat.xor_assoc]
  · rw [Nat.xor_assoc, Nat.xor_comm (b / 2), ← Nat.xor_assoc]
  · rw [Nat.xor_assoc (a / 2), Nat.xor_comm (b / 2), ← Nat.xor_assoc 3988292384, Nat.xor_self, Nat.zero_xor]
theorem foldN_xor (n : Nat) : ∀ a b, foldN n (a ^^^ b) = foldN n a ^^^ foldN n b := by
  induction n with
  | zero => intro a b; rfl
  | succ n ih => intro a b; simp only [foldN]; rw [foldS_xor, ih]
theorem foldN_add (m n c : Nat) : foldN (m + n) c = foldN n (foldN m c) := by
  induction m generalizing c with
  | zero => simp [foldN]
  | succ m ih => rw [show m + 1 + n = (m + n) + 1 by omega]; simp only [foldN]; exact ih _
theorem foldS_double (m : Nat) : foldS (2 * m) = m := by
  unfold foldS
  rw [if_neg (by omega)]; omega
theorem foldN_shift (n : Nat) : ∀ m, foldN n (2 ^ n * m) = m := by
  induction n with
  | zero => intro m; simp [foldN]
  | succ n ih =>
    intro m
    simp only [foldN]
    rw [Nat.pow_succ, Nat.mul_comm (2 ^ n) 2, Nat.mul_assoc, foldS_double, ih]
theorem foldS_zero (c : Nat) (hc : c < 4294967296) (h : foldS c = 0) : c = 0 := by
  unfold foldS at h
  split at h
  · have e : c / 2 = 3988292384 := by
      have := congrArg (· ^^^ 3988292384) h
      simpa [Nat.xor_assoc] using this
    omega
  · omega
theorem foldN_zero (n : Nat) : ∀ c, c < 4294967296 → foldN n c = 0 → c = 0 := by
  induction n with
  | zero => intro c _ h; exact h
  | succ n ih => intro c hc h; exact foldS_zero c hc (ih _ (foldS_lt c hc) h)

theorem xor_add (a m : Nat) (ha : a < 256) : a ^^^ 256 * m = a + 256 * m := by
  have h1 := Nat.xor_div_two_pow (a := a) (b := 256 * m) (n := 8)
  have h2 := Nat.xor_mod_two_pow (a := a) (b := 256 * m) (n := 8)
  simp only [Nat.reducePow] at h1 h2
  rw [show a / 256 = 0 by omega, show 256 * m / 256 = m by omega, Nat.zero_xor] at h1
  rw [show a % 256 = a by omega, show 256 * m % 256 = 0 by omega, Nat.xor_zero] at h2
  omega
/-- The sum's register over bytes is that over their number. -/
theorem reg_num (l : List UInt8) : ∀ c, reg c l = foldN (8 * l.length) (c ^^^ leNat l) := by
  induction l with
  | nil => intro c; simp [reg, leNat, foldN]
  | cons u r ih =>
    intro c
    have e : reg c (u :: r) = reg (regB c u) r := rfl
    rw [e, ih, List.length_cons, show 8 * (r.length + 1) = 8 + 8 * r.length by omega, foldN_add]
    congr 1
    rw [leNat, ← xor_add _ _ u.toNat_lt, ← Nat.xor_assoc, foldN_xor 8 (c ^^^ u.toNat)]
    rw [show 256 * leNat r = 2 ^ 8 * leNat r from rfl, foldN_shift]; rfl
theorem leNat_append (l m : List UInt8) : leNat (l ++ m) = leNat l + 256 ^ l.length * leNat m := by
  induction l with
  | nil => simp [leNat]
  | cons u r ih => simp only [List.cons_append, leNat, ih, List.length_cons, Nat.pow_succ, Nat.mul_add]; rw [Nat.mul_comm (256 ^ r.length) 256, Nat.mul_assoc]; omega
theorem xor_ones (c : Nat) : c ^^^ (c ^^^ 4294967295) = 4294967295 := by rw [← Nat.xor_assoc, Nat.xor_self, Nat.zero_xor]
theorem reg_append (l m : List UInt8) (c : Nat) : reg c (l ++ m) = reg (reg c l) m := by simp [reg]
/-- Behind bytes and their sum the register is one and the same. -/
theorem reg_seal (l : List UInt8) : reg 4294967295 (l ++ putL (crc l) 4) = foldN 32 4294967295 := by
  rw [reg_append, reg_num (putL (crc l) 4), putL_length, leNat_putL, Nat.mod_eq_of_lt (by have := crc_lt l; omega)]
  unfold crc
  rw [xor_ones]
/-- And it isn't, behind other bytes. -/
theorem reg_open (l m : List UInt8) (hm : m.length = 4) (h : reg 4294967295 (l ++ m) = foldN 32 4294967295) : leNat m = crc l := by
  rw [reg_append, reg_num m, hm] at h
  have hlt : leNat m < 4294967296 := by have := leNat_lt m; rw [hm] at this; omega
  have hr := reg_lt l 4294967295 (by omega)
  have h2 : foldN 32 ((reg 4294967295 l ^^^ leNat m) ^^^ 4294967295) = 0 := by rw [foldN_xor, h, Nat.xor_self]
  have h3 := foldN_zero 32 _ (xor_lt32 (xor_lt32 hr hlt) (by omega)) h2
  unfold crc
  have h4 : (reg 4294967295 l ^^^ leNat m) = 4294967295 := by
    have := congrArg (· ^^^ 4294967295) h3
    simpa [Nat.xor_assoc] using this
  have h5 := congrArg (reg 4294967295 l ^^^ ·) h4
  simp only [← Nat.xor_assoc, Nat.xor_self, Nat.zero_xor] at h5
  exact h5
/-- Bits within 32 in a row that are turned are seen. -/
theorem spoilt (c d : List UInt8) (first t : Nat) (hc : c.length = 40) (hd : d.length = 40) (hf : first ≤ 288) (ht : t < 4294967296) (h0 : t ≠ 0)
    (hx : leNat d = leNat c ^^^ (2 ^ first * t)) (h : reg 4294967295 c = foldN 32 4294967295) : reg 4294967295 d ≠ foldN 32 4294967295 := by
  intro hd2
  rw [reg_num, hd] at hd2
  rw [reg_num, hc] at h
  rw [hx, ← Nat.xor_assoc, foldN_xor, h] at hd2
  have h3 : foldN (8 * 40) (2 ^ first * t) = 0 := by
    have := congrArg (foldN 32 4294967295 ^^^ ·) hd2
    simp only [← Nat.xor_assoc, Nat.xor_self, Nat.zero_xor] at this
    exact this
  rw [show 8 * 40 = first + (320 - first) by omega, foldN_add, foldN_shift] at h3
  exact h0 (foldN_zero _ _ ht h3)
theorem xor_split (a b m n : Nat) (ha : a < 256) (hb : b < 256) : (a + 256 * m) ^^^ (b + 256 * n) = (a ^^^ b) + 256 * (m ^^^ n) := by
  have h1 := Nat.xor_div_two_pow (a := a + 256 * m) (b := b + 256 * n) (n := 8)
  have h2 := Nat.xor_mod_two_pow (a := a + 256 * m) (b := b + 256 * n) (n := 8)
  simp only [Nat.reducePow] at h1 h2
  rw [show (a + 256 * m) / 256 = m by omega, show (b + 256 * n) / 256 = n by omega] at h1
  rw [show (a + 256 * m) % 256 = a by omega, show (b + 256 * n) % 256 = b by omega] at h2
  omega
/-- A byte of a number that is xored. -/
theorem leNat_set (l : List UInt8) : ∀ (j : Nat) (b : UInt8) (hj : j < l.length), leNat (l.set j (l[j] ^^^ b)) = leNat l ^^^ (256 ^ j * b.toNat) := by
  induction l with
  | nil => intro j b hj; simp at hj
  | cons u r ih =>
    intro j b hj
    cases j with
    | zero =>
      have := xor_split u.toNat b.toNat (leNat r) 0 u.toNat_lt b.toNat_lt
      simp only [List.set_cons_zero, List.getElem_cons_zero, leNat, Nat.pow_zero, Nat.one_mul, UInt8.toNat_xor]
      simpa using this.symm
    | succ j =>
      have hj' : j < r.length := by simpa using hj
      have := xor_split u.toNat 0 (leNat r) (256 ^ j * b.toNat) u.toNat_lt (by omega)
      simp only [List.set_cons_succ, List.getElem_cons_succ, leNat, ih j b hj']
      rw [Nat.pow_succ, Nat.mul_comm (256 ^ j) 256, Nat.mul_assoc]
      simpa using this.symm
theorem xor_high (i a m : Nat) (h : a < 2 ^ i) : a ^^^ 2 ^ i * m = a + 2 ^ i * m := by
  have h1 := Nat.xor_div_two_pow (a := a) (b := 2 ^ i * m) (n := i)
  have h2 := Nat.xor_mod_two_pow (a := a) (b := 2 ^ i * m) (n := i)
  rw [Nat.div_eq_of_lt h, Nat.mul_div_cancel_left _ (Nat.pow_pos (by omega)), Nat.zero_xor] at h1
  rw [Nat.mod_eq_of_lt h, Nat.mul_mod_right, Nat.xor_zero] at h2
  have h3 := Nat.div_add_mod (a ^^^ 2 ^ i * m) (2 ^ i)
  rw [h1, h2] at h3
  omega
theorem mul_xor (f a b : Nat) : 2 ^ f * a ^^^ 2 ^ f * b = 2 ^ f * (a ^^^ b) := by
  have h1 := Nat.xor_div_two_pow (a := 2 ^ f * a) (b := 2 ^ f * b) (n := f)
  have h2 := Nat.xor_mod_two_pow (a := 2 ^ f * a) (b := 2 ^ f * b) (n := f)
  have hp : 0 < 2 ^ f := Nat.pow_pos (by omega)
  rw [Nat.mul_div_cancel_left _ hp, Nat.mul_div_cancel_left _ hp] at h1
  rw [Nat.mul_mod_right, Nat.mul_mod_right, Nat.xor_zero] at h2
  have h3 := Nat.div_add_mod (2 ^ f * a ^^^ 2 ^ f * b) (2 ^ f)
  rw [h1, h2] at h3
  omega
theorem turn_odd (f i t : Nat) (h : t / 2 ^ i % 2 = 1) : 2 ^ f * (t % 2 ^ i) ^^^ 2 ^ (f + i) = 2 ^ f * (t % 2 ^ (i + 1)) := by
  rw [Nat.pow_add, mul_xor]
  congr 1
  have := xor_high i (t % 2 ^ i) 1 (Nat.mod_lt _ (Nat.pow_pos (by omega)))
  rw [Nat.mul_one] at this
  rw [this, Nat.pow_succ, Nat.mod_mul, h, Nat.mul_one]
theorem turn_even (f i t : Nat) (h : t / 2 ^ i % 2 = 0) : 2 ^ f * (t % 2 ^ i) = 2 ^ f * (t % 2 ^ (i + 1)) := by
  rw [Nat.pow_succ, Nat.mod_mul, h, Nat.mul_zero, Nat.add_zero]
theorem place (k : Nat) : 256 ^ (k / 8) * 2 ^ (k % 8) = 2 ^ k := by
  rw [show (256 : Nat) = 2 ^ 8 from rfl, ← Nat.pow_mul, ← Nat.pow_add]
  congr 1; omega
/-- One bit of a row of bytes is turned. -/
theorem turn_bit (l : List UInt8) (k : Nat) (hk : k / 8 < l.length) : leNat (l.set (k / 8) (l[k / 8] ^^^ UInt8.ofNat (2 ^ (k % 8)))) = leNat l ^^^ 2 ^ k := by
  rw [leNat_set l (k / 8) _ hk]
  have h8 : 2 ^ (k % 8) ≤ 2 ^ 7 := Nat.pow_le_pow_right (by omega) (by omega)
  rw [show (UInt8.ofNat (2 ^ (k % 8))).toNat = 2 ^ (k % 8) by simp; omega, place]
end Go.Proofs.Ytpcchbcibcfldaa
