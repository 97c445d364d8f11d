/- Plain facts on the check sum: it is linear, and turned bits within 32 in a row are seen. What else holds of bytes, sums, and sealed blocks; rows of bytes that are the call's own. Boxes that lie in a world, and what a walk through calls keeps of them; no program in sight. The contracts of bytes and sealed blocks, with lengths as numbers of their own. Put of the reference, its row owned (as Nu5 has it, for seats that hold NumW5). Items, and right nodes, as plain lists; slices of items. No program in sight. -/
import Derived.Test.YtnlkakbpcdfgfaaGreatK01
import Derived.Test.YtnlkakbpcdfgfaaGreatK02
namespace Go.Proofs.YtnlkakbpcdfgfaaGreat
set_option maxRecDepth 20000

theorem xor_div2 (a b : Nat) : (a ^^^ b) / 2 = a / 2 ^^^ b / 2 := by
  have := Nat.xor_div_two_pow (a := a) (b := b) (n := 1)
  simpa using this
theorem xor_mod2 (a b : Nat) : (a ^^^ b) % 2 = (a % 2 + b % 2) % 2 := by
  have := Nat.xor_mod_two_pow (a := a) (b := b) (n := 1)
  simp only [Nat.pow_one] at this
  rw [this]
  rcases Nat.mod_two_eq_zero_or_one a with h | h <;> rcases Nat.mod_two_eq_zero_or_one b with h' | h' <;> rw [h, h'] <;> rfl
theorem foldS_xor (a b : Nat) : foldS (a ^^^ b) = foldS a ^^^ foldS b := by
  unfold foldS
  have hm := xor_mod2 a b
  rw [xor_div2]
  rcases Nat.mod_two_eq_zero_or_one a with h | h <;> rcases Nat.mod_two_eq_zero_or_one b with h' | h' <;> rw [h, h'] at hm <;> simp only [hm, h, h', Nat.zero_add, Nat.add_zero, if_true, Nat.zero_mod, Nat.reduceAdd, Nat.reduceMod, Nat.zero_ne_one, if_false]
  · rw [Nat.xor_assoc]
  · rw [Nat.xor_assoc, Nat.xor_comm (b / 2), ← Nat.xor_assoc]
  · rw [Nat.xor_assoc (a / 2), Nat.xor_comm (b / 2), ← Nat.xor_assoc 3988292384, Nat.xor_self, Nat.zero_xor]
theorem foldN_xor (n : Nat) : ∀ a b, foldN n (a ^^^ b) = foldN n a ^^^ foldN n b := by
  induction n with
  | zero => intro a b; rfl
  | succ n ih => intro a b; simp only [foldN]; rw [foldS_xor, ih]
theorem foldN_add (m n c : Nat) : foldN (m + n) c = foldN n (foldN m c) := by
  induction m generalizing c with
  | zero => simp [foldN]
  | succ m ih => rw [show m + 1 + n = (m + n) + 1 by omega]; simp only [foldN]; exact ih _
theorem foldS_double (m : Nat) : foldS (2 * m) = m := by
  unfold foldS
  rw [if_neg (by omega)]; omega
theorem foldN_shift (n : Nat) : ∀ m, foldN n (2 ^ n * m) = m := by
  induction n with
  | zero => intro m; simp [foldN]
  | succ n ih =>
    intro m
    simp only [foldN]
    rw [Nat.pow_succ, Nat.mul_comm (2 ^ n) 2, Nat.mul_assoc, foldS_double, ih]
theorem foldS_zero (c : Nat) (hc : c < 4294967296) (h : foldS c = 0) : c = 0 := by
  unfold foldS at h
  split at h
  · have e : c / 2 = 3988292384 := by
      have := congrArg (· ^^^ 3988292384) h
      simpa [Nat.xor_assoc] using this
    omega
  · omega
theorem foldN_zero (n : Nat) : ∀ c, c < 4294967296 → foldN n c = 0 → c = 0 := by
  induction n with
  | zero => intro c _ h; exact h
  | succ n ih => intro c hc h; exact foldS_zero c hc (ih _ (foldS_lt c hc) h)

theorem xor_add (a m : Nat) (ha : a < 256) : a ^^^ 256 * m = a + 256 * m := by
  have h1 := Nat.xor_div_two_pow (a := a) (b := 256 * m) (n := 8)
  have h2 := Nat.xor_mod_two_pow (a := a) (b := 256 * m) (n := 8)
  simp only [Nat.reducePow] at h1 h2
  rw [show a / 256 = 0 by omega, show 256 * m / 256 = m by omega, Nat.zero_xor] at h1
  rw [show a % 256 = a by omega, show 256 * m % 256 = 0 by omega, Nat.xor_zero] at h2
  omega
/-- The sum's register over bytes is that over their number. -/
theorem reg_num (l : List UInt8) : ∀ c, reg c l = foldN (8 * l.length) (c ^^^ leNat l) := by
  induction l with
  | nil => intro c; simp [reg, leNat, foldN]
  | cons u r ih =>
    intro c
    have e : reg c (u :: r) = reg (regB c u) r := rfl
    rw [e, ih, List.length_cons, show 8 * (r.length + 1) = 8 + 8 * r.length by omega, foldN_add]
    congr 1
    rw [leNat, ← xor_add _ _ u.toNat_lt, ← Nat.xor_assoc, foldN_xor 8 (c ^^^ u.toNat)]
    rw [show 256 * leNat r = 2 ^ 8 * leNat r from rfl, foldN_shift]; rfl
theorem leNat_append (l m : List UInt8) : leNat (l ++ m) = leNat l + 256 ^ l.length * leNat m := by
  induction l with
  | nil => simp [leNat]
  | cons u r ih => simp only [List.cons_append, leNat, ih, List.length_cons, Nat.pow_succ, Nat.mul_add]; rw [Nat.mul_comm (256 ^ r.length) 256, Nat.mul_assoc]; omega
theorem xor_ones (c : Nat) : c ^^^ (c ^^^ 4294967295) = 4294967295 := by rw [← Nat.xor_assoc, Nat.xor_self, Nat.zero_xor]
theorem reg_append (l m : List UInt8) (c : Nat) : reg c (l ++ m) = reg (reg c l) m := by simp [reg]
/-- Behind bytes and their sum the register is one and the same. -/
theorem reg_seal (l : List UInt8) : reg 4294967295 (l ++ putL (crc l) 4) = foldN 32 4294967295 := by
  rw [reg_append, reg_num (putL (crc l) 4), putL_length, leNat_putL, Nat.mod_eq_of_lt (by have := crc_lt l; omega)]
  unfold crc
  rw [xor_ones]
/-- And it isn't, behind other bytes. -/
theorem reg_open (l m : List UInt8) (hm : m.length = 4) (h : reg 4294967295 (l ++ m) = foldN 32 4294967295) : leNat m = crc l := by
  rw [reg_append, reg_num m, hm] at h
  have hlt : leNat m < 4294967296 := by have := leNat_lt m; rw [hm] at this; omega
  have hr := reg_lt l 4294967295 (by omega)
  have h2 : foldN 32 ((reg 4294967295 l ^^^ leNat m) ^^^ 4294967295) = 0 := by rw [foldN_xor, h, Nat.xor_self]
  have h3 := foldN_zero 32 _ (xor_lt32 (xor_lt32 hr hlt) (by omega)) h2
  unfold crc
  have h4 : (reg 4294967295 l ^^^ leNat m) = 4294967295 := by
    have := congrArg (· ^^^ 4294967295) h3
    simpa [Nat.xor_assoc] using this
  have h5 := congrArg (reg 4294967295 l ^^^ ·) h4
  simp only [← Nat.xor_assoc, Nat.xor_self, Nat.zero_xor] at h5
  exact h5
/-- Bits within 32 in a row that are turned are seen. -/
theorem spoilt (c d : List UInt8) (first t : Nat) (hc : c.length = 40) (hd : d.length = 40) (hf : first ≤ 288) (ht : t < 4294967296) (h0 : t ≠ 0)
    (hx : leNat d = leNat c ^^^ (2 ^ first * t)) (h : reg 4294967295 c = foldN 32 4294967295) : reg 4294967295 d ≠ foldN 32 4294967295 := by
  intro hd2
  rw [reg_num, hd] at hd2
  rw [reg_num, hc] at h
  rw [hx, ← Nat.xor_assoc, foldN_xor, h] at hd2
  have h3 : foldN (8 * 40) (2 ^ first * t) = 0 := by
    have := congrArg (foldN 32 4294967295 ^^^ ·) hd2
    simp only [← Nat.xor_assoc, Nat.xor_self, Nat.zero_xor] at this
    exact this
  rw [show 8 * 40 = first + (320 - first) by omega, foldN_add, foldN_shift] at h3
  exact h0 (foldN_zero _ _ ht h3)
theorem xor_split (a b m n : Nat) (ha : a < 256) (hb : b < 256) : (a + 256 * m) ^^^ (b + 256 * n) = (a ^^^ b) + 256 * (m ^^^ n) := by
  have h1 := Nat.xor_div_two_pow (a := a + 256 * m) (b := b + 256 * n) (n := 8)
  have h2 := Nat.xor_mod_two_pow (a := a + 256 * m) (b := b + 256 * n) (n := 8)
  simp only [Nat.reducePow] at h1 h2
  rw [show (a + 256 * m) / 256 = m by omega, show (b + 256 * n) / 256 = n by omega] at h1
  rw [show (a + 256 * m) % 256 = a by omega, show (b + 256 * n) % 256 = b by omega] at h2
  omega
/-- A byte of a number that is xored. -/
theorem leNat_set (l : List UInt8) : ∀ (j : Nat) (b : UInt8) (hj : j < l.length), leNat (l.set j (l[j] ^^^ b)) = leNat l ^^^ (256 ^ j * b.toNat) := by
  induction l with
  | nil => intro j b hj; simp at hj
  | cons u r ih =>
    intro j b hj
    cases j with
    | zero =>
      have := xor_split u.toNat b.toNat (leNat r) 0 u.toNat_lt b.toNat_lt
      simp only [List.set_cons_zero, List.getElem_cons_zero, leNat, Nat.pow_zero, Nat.one_mul, UInt8.toNat_xor]
      simpa using this.symm
    | succ j =>
      have hj' : j < r.length := by simpa using hj
      have := xor_split u.toNat 0 (leNat r) (256 ^ j * b.toNat) u.toNat_lt (by omega)
      simp only [List.set_cons_succ, List.getElem_cons_succ, leNat, ih j b hj']
      rw [Nat.pow_succ, Nat.mul_comm (256 ^ j) 256, Nat.mul_assoc]
      simpa using this.symm
theorem xor_high (i a m : Nat) (h : a < 2 ^ i) : a ^^^ 2 ^ i * m = a + 2 ^ i * m := by
  have h1 := Nat.xor_div_two_pow (a := a) (b := 2 ^ i * m) (n := i)
  have h2 := Nat.xor_mod_two_pow (a := a) (b := 2 ^ i * m) (n := i)
  rw [Nat.div_eq_of_lt h, Nat.mul_div_cancel_left _ (Nat.pow_pos (by omega)), Nat.zero_xor] at h1
  rw [Nat.mod_eq_of_lt h, Nat.mul_mod_right, Nat.xor_zero] at h2
  have h3 := Nat.div_add_mod (a ^^^ 2 ^ i * m) (2 ^ i)
  rw [h1, h2] at h3
  omega
theorem mul_xor (f a b : Nat) : 2 ^ f * a ^^^ 2 ^ f * b = 2 ^ f * (a ^^^ b) := by
  have h1 := Nat.xor_div_two_pow (a := 2 ^ f * a) (b := 2 ^ f * b) (n := f)
  have h2 := Nat.xor_mod_two_pow (a := 2 ^ f * a) (b := 2 ^ f * b) (n := f)
  have hp : 0 < 2 ^ f := Nat.pow_pos (by omega)
  rw [Nat.mul_div_cancel_left _ hp, Nat.mul_div_cancel_left _ hp] at h1
  rw [Nat.mul_mod_right, Nat.mul_mod_right, Nat.xor_zero] at h2
  have h3 := Nat.div_add_mod (2 ^ f * a ^^^ 2 ^ f * b) (2 ^ f)
  rw [h1, h2] at h3
  omega
theorem turn_odd (f i t : Nat) (h : t / 2 ^ i % 2 = 1) : 2 ^ f * (t % 2 ^ i) ^^^ 2 ^ (f + i) = 2 ^ f * (t % 2 ^ (i + 1)) := by
  rw [Nat.pow_add, mul_xor]
  congr 1
  have := xor_high i (t % 2 ^ i) 1 (Nat.mod_lt _ (Nat.pow_pos (by omega)))
  rw [Nat.mul_one] at this
  rw [this, Nat.pow_succ, Nat.mod_mul, h, Nat.mul_one]
theorem turn_even (f i t : Nat) (h : t / 2 ^ i % 2 = 0) : 2 ^ f * (t % 2 ^ i) = 2 ^ f * (t % 2 ^ (i + 1)) := by
  rw [Nat.pow_succ, Nat.mod_mul, h, Nat.mul_zero, Nat.add_zero]
theorem place (k : Nat) : 256 ^ (k / 8) * 2 ^ (k % 8) = 2 ^ k := by
  rw [show (256 : Nat) = 2 ^ 8 from rfl, ← Nat.pow_mul, ← Nat.pow_add]
  congr 1; omega
/-- One bit of a row of bytes is turned. -/
theorem turn_bit (l : List UInt8) (k : Nat) (hk : k / 8 < l.length) : leNat (l.set (k / 8) (l[k / 8] ^^^ UInt8.ofNat (2 ^ (k % 8)))) = leNat l ^^^ 2 ^ k := by
  rw [leNat_set l (k / 8) _ hk]
  have h8 : 2 ^ (k % 8) ≤ 2 ^ 7 := Nat.pow_le_pow_right (by omega) (by omega)
  rw [show (UInt8.ofNat (2 ^ (k % 8))).toNat = 2 ^ (k % 8) by simp; omega, place]
end Go.Proofs.YtnlkakbpcdfgfaaGreat
namespace Go.Proofs.YtnlkakbpcdfgfaaGreat
set_option maxRecDepth 20000
open Go.RowKit


theorem Cells.take {w : World} {A : Option Addr} {xs : List Value} (h : Cells w A xs) (k : Nat) : Cells w A (xs.take k) := fun hne => by
  obtain ⟨b, off, e, hlt, hc⟩ := h (by intro e; subst e; simp at hne)
  exact ⟨b, off, e, hlt, fun j u hu => hc j u (by
    rw [List.getElem?_take] at hu
    split at hu
    · exact hu
    · cases hu)⟩
theorem leNat_one (l : List UInt8) (k : Nat) (hk : k < l.length) : leNat ((l.drop k).take 1) = l[k].toNat := by
  rw [List.drop_eq_getElem_cons hk, List.take_succ_cons, List.take_zero]; simp [leNat]
theorem leNat_step (l : List UInt8) (k : Nat) (hk : k < l.length) : leNat (l.take (k + 1)) = leNat (l.take k) + 256 ^ k * l[k].toNat := by
  have := leNat_take_succ l 0 k (by omega)
  simpa using this
theorem putL_take (n w : Nat) : ∀ k, k ≤ w → (putL n w).take k = putL n k := by
  induction w generalizing n with
  | zero =>
    intro k hk
    have e : k = 0 := by omega
    rw [e]; rfl
  | succ w ih =>
    intro k hk
    cases k with
    | zero => rfl
    | succ k => simp only [putL, List.take_succ_cons]; rw [ih _ k (by omega)]
theorem putL_mod (n w : Nat) : putL (n % 256 ^ w) w = putL n w := by
  have h := putL_leNat (putL n w)
  rw [leNat_putL, putL_length] at h
  exact h
theorem putL_inj (a b w : Nat) (ha : a < 256 ^ w) (hb : b < 256 ^ w) (h : putL a w = putL b w) : a = b := by
  have := congrArg leNat h
  rwa [leNat_putL, leNat_putL, Nat.mod_eq_of_lt ha, Nat.mod_eq_of_lt hb] at this


theorem own_empty_b (w : World) : (w.alloc (.cells #[] 5)).ownsRow w.heap.size 5 1 (.slice (some ⟨w.heap.size, 0, none⟩) 0 0) 0 (([] : List UInt8).map bv) :=
  World.ownsRow_lit (base := w.heap.size) (e := 5) (size := 1) w #[] 0 (Nat.le_refl _) (Nat.zero_le _) rfl
theorem own_zero (w : World) (B : Nat) (h : B ≤ w.heap.size) : (w.alloc (.cells #[.int .u8 0] 5)).ownsRow B 5 1 (.slice (some ⟨w.heap.size, 0, none⟩) 1 1) 1 (([0] : List UInt8).map bv) :=
  World.ownsRow_lit (base := B) (e := 5) (size := 1) w #[.int .u8 0] 1 h (by unfold maxLen; omega) rfl

/-- append of bytes onto a row of the call's own. -/
theorem app_bytes (w : World) {ops : Array Oper} {rest : List Oper} {o : Oper} {a : Act} {Q : Exit → Act → World → Prop} (hgd : o.guard = none) (s x : Operand)
    (ho : o.op = .call { callee := .builtin .append, args := #[s, x], argTypes := #[83, 83] })
    (B : Nat) (v : Value) (n : Nat) (l : List UInt8) (hs : a.eval s = v) (hown : w.ownsRow B 5 1 v n (l.map bv))
    (A : Option Addr) (m c : Nat) (k : List UInt8) (hx : a.eval x = .slice A m c) (hl : k.length = m) (hnil : A = none → c = 0) (hc : Cells w A (k.map bv))
    (hsz : n + m ≤ 100000) (hB : B ≤ w.heap.size)
    (h : ∀ A' c' w', w'.ownsRow B 5 1 (.slice A' (n + m) c') (n + m) ((l ++ k).map bv) → w.grownBy w' v.ownBlock → wpList Tryz.prog ops Q rest (a.put o.dst (.slice A' (n + m) c')) w') : wpList Tryz.prog ops Q (o :: rest) a w := by
  obtain ⟨i0, hi, hz0, hz1, hz2⟩ := info_parts info5
  subst hl
  refine wpList_app w hgd s x 83 ho B 5 i0 (.int .u8 0) 1 1 Tryz.underlying83 hi hz0 hz1 hz2 rfl (by decide) v n _ hs hown A k.length c (k.map bv) hx (by simp) (fun e => ⟨hc.none_ e, hnil e⟩) hc.at_ (bytes_oneCell _) (by unfold maxLen; omega) (by omega) hB ?_
  intro v' w' hown' hg
  rw [← List.map_append] at hown'
  obtain ⟨A', c', rfl⟩ := own_shape hown'
  exact h A' c' w' hown' hg

theorem crc_both (a m : List UInt8) : crc ((a ++ putL (crc a) 4) ++ m) = reg (foldN 32 4294967295) m ^^^ 4294967295 := by
  unfold crc
  rw [reg_append]
  have := reg_seal a
  unfold crc at this
  rw [this]


/-- Block g's first cells are the bytes l, and may be written. -/
def Mine (w : World) (g : Nat) (l : List UInt8) : Prop := ∃ cur t lo hi, w.heap[g]? = some (.cells cur t (lo, hi)) ∧ l.length ≤ lo ∧ ∀ j (hj : j < l.length), cur[j]? = some (bv l[j])
theorem Mine.lt {w : World} {g : Nat} {l : List UInt8} (h : Mine w g l) : g < w.heap.size := by
  obtain ⟨cur, t, lo, hi, h1, _⟩ := h
  exact (Array.getElem?_eq_some_iff.1 h1).1
theorem Mine.cell {w : World} {g : Nat} {l : List UInt8} (h : Mine w g l) (j : Nat) (hj : j < l.length) : w.cell? ⟨g, j, none⟩ = some (.int .u8 (l[j].toNat : Int)) := by
  obtain ⟨cur, t, lo, hi, h1, _, h2⟩ := h
  rw [cell_of_row w g j cur t (lo, hi) h1, h2 j hj]; rfl
theorem Mine.free {w : World} {g : Nat} {l : List UInt8} (h : Mine w g l) (j : Nat) (hj : j < l.length) : w.frozen? ⟨g, j, none⟩ = false := by
  obtain ⟨cur, t, lo, hi, h1, h3, _⟩ := h
  simp [World.frozen?, h1]
  omega
theorem Mine.set {w : World} {g : Nat} {l : List UInt8} (h : Mine w g l) (j : Nat) (u : UInt8) : Mine (w.setCell ⟨g, j, none⟩ (bv u)) g (l.set j u) := by
  obtain ⟨cur, t, lo, hi, h1, h3, h2⟩ := h
  refine ⟨cur.setIfInBounds j (bv u), t, lo, hi, ?_, by simpa using h3, fun i hi => ?_⟩
  · simp [World.setCell, Array.getElem?_modify, h1]
  · have hi' : i < l.length := by simpa using hi
    rw [Array.getElem?_setIfInBounds]
    by_cases e : j = i
    · subst e
      have hlt : j < cur.size := (Array.getElem?_eq_some_iff.1 (h2 j hi')).1
      simp [hlt]
    · rw [if_neg e, h2 i hi']
      simp [e]
theorem Mine.cells {w : World} {g : Nat} {l : List UInt8} (h : Mine w g l) : Cells w (some ⟨g, 0, none⟩) (l.map bv) := fun _ =>
  ⟨g, 0, rfl, h.lt, fun j u hu => by
    have hj : j < l.length := by have := (List.getElem?_eq_some_iff.1 hu).1; simpa using this
    rw [Nat.zero_add, h.cell j hj, ← hu]
    simp [bv, hj]⟩
theorem conv_mine (s : ByteArray) (w : World) : ∃ cap W, (convert 9 83 (.string s)).run Tryz.prog w = .ok (.slice (some ⟨w.heap.size, 0, none⟩) s.size cap) W ∧
    Ext w W ∧ Mine W w.heap.size s.data.toList := by
  refine ⟨_, _, run_bytes_of_string (P := Tryz.prog) w 9 83 5 s Tryz.underlying9 Tryz.underlying83 Tryz.underlying5, ((Below.refl _ _).drew).alloc (Nat.le_refl _) _, ?_⟩
  have hcap := grownCap_ge w s.size 0 5
  refine ⟨_, 5, _, _, heap_alloc_new w.drew _, ?_, fun j hj => ?_⟩
  · simp [bytesRow]
  · have hj' : j < s.data.size := by simpa using hj
    rw [bytesRow_at s _ j hj']
    simp [bv]

theorem bits_xor8 (a b : UInt8) : bits BinOp.xor IntKind.u8 (a.toNat : Int) (b.toNat : Int) = ((a ^^^ b).toNat : Int) := by
  rw [u8_xor_nat _ _ a.toNat_lt b.toNat_lt, UInt8.toNat_xor]

theorem bits_turn (u : UInt8) (q : Nat) (hq : q < 8) : Value.int .u8 (bits BinOp.xor IntKind.u8 (u.toNat : Int) (2 ^ q)) = bv (u ^^^ UInt8.ofNat (2 ^ q)) := by
  have h8 : 2 ^ q ≤ 2 ^ 7 := Nat.pow_le_pow_right (by omega) (by omega)
  have e : ((2 : Int) ^ q) = (((UInt8.ofNat (2 ^ q)).toNat : Nat) : Int) := by
    rw [show (UInt8.ofNat (2 ^ q)).toNat = 2 ^ q by simp; omega]; simp
  rw [e, bits_xor8]; rfl
theorem open_spoilt (c d : List UInt8) (first t : Nat) (hc : c.length = 40) (hd : d.length = 40) (hf : first ≤ 288) (ht : t < 4294967296) (h0 : t ≠ 0)
    (hx : leNat d = leNat c ^^^ (2 ^ first * t)) (h : reg 4294967295 c = foldN 32 4294967295) : openE d = 2 := by
  refine (open_no (s := d) ?_).1
  rintro ⟨_, hq⟩
  refine spoilt c d first t hc hd hf ht h0 hx h ?_
  have hm : (d.drop 36).take 4 = d.drop 36 := List.take_of_length_le (by simp [hd])
  rw [hm] at hq
  have hl : (d.drop 36).length = 4 := by simp [hd]
  have hput : putL (crc (d.take 36)) 4 = d.drop 36 := by
    rw [← hq, ← hl]; exact putL_leNat _
  have := reg_seal (d.take 36)
  rw [hput, List.take_append_drop] at this
  exact this


/-- What is sealed, opened: b with noughts behind, or nothing. -/
def unsealed (b : List UInt8) : List UInt8 := if b.length ≤ 36 then padL b else []
theorem unsealed_at (b : List UInt8) (i : Nat) (hi : i < (unsealed b).length) : (∀ h : i < b.length, (unsealed b)[i] = b[i]) ∧ (b.length ≤ i → (unsealed b)[i] = 0) := by
  unfold unsealed at hi ⊢
  split at hi
  · rename_i h
    simp only [if_pos h]
    unfold padL
    constructor
    · intro h'; rw [List.getElem_append_left h']
    · intro h'; rw [List.getElem_append_right h']; simp
  · simp at hi
theorem open_sealB (b : List UInt8) : openL (sealB b).data.toList = unsealed b ∧ openE (sealB b).data.toList = (if b.length ≤ 36 then 0 else 2) ∧ (sealB b).size = (if b.length ≤ 36 then 40 else 0) := by
  unfold sealB unsealed
  by_cases h : b.length ≤ 36
  · simp only [if_pos h]
    have := open_seal b h
    exact ⟨this.2, this.1, sealL_length b h⟩
  · simp only [if_neg h]
    have := open_no (s := ([] : List UInt8)) (by simp)
    exact ⟨this.2, this.1, rfl⟩
theorem seal_open (s : ByteArray) (h : openE s.data.toList = 0) : sealV (openL s.data.toList) = .tuple #[.string s, .int .i64 0] := by
  by_cases hc : s.data.toList.length = 40 ∧ leNat ((s.data.toList.drop 36).take 4) = crc (s.data.toList.take 36)
  · obtain ⟨h40, hq⟩ := hc
    rw [(open_yes h40 hq).2]
    have hl : (s.data.toList.take 36).length = 36 := by rw [List.length_take, h40]; rfl
    have hd : (s.data.toList.drop 36).length = 4 := by rw [List.length_drop, h40]
    unfold sealV sealB sealE
    rw [if_pos (by omega), if_pos (by omega)]
    have hp : padL (s.data.toList.take 36) = s.data.toList.take 36 := by unfold padL; rw [hl]; simp
    have e : sealL (s.data.toList.take 36) = s.data.toList := by
      unfold sealL
      have ht : (s.data.toList.drop 36).take 4 = s.data.toList.drop 36 := List.take_of_length_le (by omega)
      rw [hp, ← hq, ht]
      have := putL_leNat (s.data.toList.drop 36)
      rw [hd] at this
      rw [this, List.take_append_drop]
    rw [e]
  · rw [(open_no hc).1] at h
    cases h

theorem unsealed_length (b : List UInt8) : (unsealed b).length = if b.length ≤ 36 then 36 else 0 := by
  unfold unsealed
  by_cases h : b.length ≤ 36
  · rw [if_pos h, if_pos h]; exact padL_length b h
  · rw [if_neg h, if_neg h]; rfl
theorem openE_two (s : List UInt8) : openE s = 0 ∨ openE s = 2 := by
  unfold openE; split
  · exact .inl rfl
  · exact .inr rfl
theorem openL_le (s : List UInt8) : (openL s).length ≤ 36 := by
  unfold openL openS
  split
  · simp; omega
  · simp

end Go.Proofs.YtnlkakbpcdfgfaaGreat
namespace Go.Proofs.YtnlkakbpcdfgfaaGreat
set_option maxRecDepth 20000
open Go.RowKit

theorem Ext.ext {a b c : World} (h : Ext a b) (k : Ext b c) : Ext a c := h.trans k

/-- A block that holds these values, none of them frozen. -/
def Bx (w : World) (k : Nat) (cs : Array Value) : Prop := ∃ t, w.heap[k]? = some (.cells cs t (0, 0))
theorem Bx.lt {w : World} {k : Nat} {cs : Array Value} (h : Bx w k cs) : k < w.heap.size := by
  obtain ⟨t, h⟩ := h
  exact (Array.getElem?_eq_some_iff.1 h).1
theorem Bx.ext {w w' : World} {k : Nat} {cs : Array Value} (h : Bx w k cs) (hx : Ext w w') : Bx w' k cs := by
  have hk := h.lt
  obtain ⟨t, h⟩ := h
  exact ⟨t, (hx.block k hk).trans h⟩
theorem Bx.at {w : World} {k : Nat} {cs : Array Value} (h : Bx w k cs) (i : Nat) (v : Value) (hi : cs[i]? = some v) : w.cell? ⟨k, i, none⟩ = some v := by
  obtain ⟨t, h⟩ := h
  unfold World.cell?; rw [h]; exact hi
theorem Bx.free {w : World} {k : Nat} {cs : Array Value} (h : Bx w k cs) (i : Nat) : w.frozen? ⟨k, i, none⟩ = false := by
  obtain ⟨t, h⟩ := h
  unfold World.frozen?; rw [h]; simp
theorem Bx.new (w : World) (cs : Array Value) (t : TypeId) : Bx (w.alloc (.cells cs t)) w.heap.size cs := ⟨t, heap_alloc_new w _⟩
theorem Bx.new' {w : World} {k : Nat} (hk : k = w.heap.size) (cs : Array Value) (t : TypeId) : Bx (w.alloc (.cells cs t)) k cs := by subst hk; exact Bx.new w cs t

theorem allocs1 {w W : World} {c0 : Array Value} {t0 : TypeId} (h : w.alloc (.cells c0 t0) = W) : Ext w W ∧ Bx W w.heap.size c0 := by
  subst h; exact ⟨(Ext.refl w).alloc _, Bx.new _ _ _⟩
theorem allocs2 {w W : World} {c0 c1 : Array Value} {t0 t1 : TypeId} (h : (w.alloc (.cells c0 t0)).alloc (.cells c1 t1) = W) : Ext w W ∧ Bx W w.heap.size c0 ∧ Bx W (w.heap.size + 1) c1 := by
  obtain ⟨x, b⟩ := allocs1 (w := w) (c0 := c0) (t0 := t0) rfl
  subst h
  exact ⟨x.alloc _, b.ext ((Ext.refl _).alloc _), Bx.new' (by simp) _ _⟩
theorem allocs3 {w W : World} {c0 c1 c2 : Array Value} {t0 t1 t2 : TypeId} (h : ((w.alloc (.cells c0 t0)).alloc (.cells c1 t1)).alloc (.cells c2 t2) = W) : Ext w W ∧ Bx W w.heap.size c0 ∧ Bx W (w.heap.size + 1) c1 ∧ Bx W (w.heap.size + 1 + 1) c2 := by
  obtain ⟨x, b0, b1⟩ := allocs2 (w := w) (c0 := c0) (t0 := t0) (c1 := c1) (t1 := t1) rfl
  subst h
  exact ⟨x.alloc _, b0.ext ((Ext.refl _).alloc _), b1.ext ((Ext.refl _).alloc _), Bx.new' (by simp) _ _⟩
theorem allocs4 {w W : World} {c0 c1 c2 c3 : Array Value} {t0 t1 t2 t3 : TypeId} (h : (((w.alloc (.cells c0 t0)).alloc (.cells c1 t1)).alloc (.cells c2 t2)).alloc (.cells c3 t3) = W) :
    Ext w W ∧ Bx W w.heap.size c0 ∧ Bx W (w.heap.size + 1) c1 ∧ Bx W (w.heap.size + 1 + 1) c2 ∧ Bx W (w.heap.size + 1 + 1 + 1) c3 := by
  obtain ⟨x, b0, b1, b2⟩ := allocs3 (w := w) (c0 := c0) (t0 := t0) (c1 := c1) (t1 := t1) (c2 := c2) (t2 := t2) rfl
  subst h
  exact ⟨x.alloc _, b0.ext ((Ext.refl _).alloc _), b1.ext ((Ext.refl _).alloc _), b2.ext ((Ext.refl _).alloc _), Bx.new' (by simp) _ _⟩
end Go.Proofs.YtnlkakbpcdfgfaaGreat
namespace Go.Proofs.YtnlkakbpcdfgfaaGreat
set_option maxRecDepth 20000
open Go.RowKit

theorem openL_len {s : List UInt8} (h : openE s = 0) : (openL s).length = 36 := by
  unfold openE at h
  unfold openL
  cases hs : openS s with
  | none => rw [hs] at h; simp at h
  | some l =>
    unfold openS at hs
    split at hs
    · rename_i hh
      cases hs
      simp [hh.1]
    · cases hs
theorem openL_none {s : List UInt8} (h : openE s ≠ 0) : openL s = [] ∧ openE s = 2 := by
  unfold openE at h ⊢
  unfold openL
  cases hs : openS s with
  | none => simp
  | some l => rw [hs] at h; simp at h
theorem Got.sl {w : World} {v : Value} {l : List UInt8} (h : Got w v l) {n : Nat} (hn : l.length = n) : ∃ A cap, v = .slice A n cap ∧ Sl w A n cap (l.map bv) := by
  obtain ⟨A, cap, rfl, h1, h2, h3, h4⟩ := h
  subst hn
  exact ⟨A, cap, rfl, h3, h1, h2, h4⟩
theorem putS_four {g : Int} (h0 : 0 ≤ g) (h1 : g < 4294967296) : putS g 4 = putL g.toNat 4 := by
  have e : (256 : Int) ^ (4 : Int).toNat = 4294967296 := by decide
  unfold putS; rw [if_pos ⟨by omega, by omega, h0, by rw [e]; exact h1⟩]; rfl

section
variable (g : Int) (w : World) (h0 : 0 ≤ g) (h1 : g < 4294967296)
include h0 h1
theorem numPut_n : Calls Tryz.prog 128 #[.int .i64 g, .int .i64 4] w fun e w' => ∃ A cap, e = .returned (.slice A 4 cap) ∧ Sl w' A 4 cap ((putL g.toNat 4).map bv) ∧ Ext w w' := by
  refine (numPut_any g 4 w (by omega) (by omega)).mono ?_
  rintro e w' ⟨v, rfl, h, hb⟩
  rw [putS_four h0 h1] at h
  obtain ⟨A, cap, rfl, hs⟩ := h.sl (putL_length 4 _)
  exact ⟨A, cap, rfl, hs, hb⟩
theorem ref01Put_n : Calls Tryz.prog 83 #[.int .i64 g, .int .i64 4] w fun e w' => ∃ A cap, e = .returned (.slice A 4 cap) ∧ Sl w' A 4 cap ((putL g.toNat 4).map bv) ∧ Ext w w' := by
  refine (ref01Put_any g 4 w (by omega) (by omega)).mono ?_
  rintro e w' ⟨v, rfl, h, hb⟩
  rw [putS_four h0 h1] at h
  obtain ⟨A, cap, rfl, hs⟩ := h.sl (putL_length 4 _)
  exact ⟨A, cap, rfl, hs, hb⟩
end
theorem takeV_four {l : List UInt8} {at_ : Int} {k : Nat} (hk : at_ = (k : Int)) (h : k + 4 ≤ l.length) (z : Int) : takeV l at_ 4 z = .tuple #[.int .i64 (leNat ((l.drop k).take 4) : Nat), .int .i64 (at_ + 4), .int .i64 0] := by
  subst hk
  unfold takeV takeS
  rw [if_pos (by omega)]
  rfl
section
variable (A : Option Addr) (l : List UInt8) (n c : Nat) (at_ : Int) (k : Nat) (w : World) (hn : n = l.length) (hk : at_ = (k : Int)) (h : k + 4 ≤ n) (hS : Sl w A n c (l.map bv))
include hn hk h hS
end
section
variable (s : ByteArray) (w : World) (hs : s.size ≤ maxLen)
include hs
end
theorem sealV_short {l : List UInt8} (h : l.length ≤ 36) : sealV l = .tuple #[.string (sealB l), .int .i64 0] := by
  unfold sealV sealE; rw [if_pos h]
section
variable (A : Option Addr) (l : List UInt8) (n c : Nat) (w : World) (hn : n = l.length) (h : n ≤ 36) (hS : Sl w A n c (l.map bv))
include hn h hS
theorem numSeal_n : Calls Tryz.prog 129 #[.slice A n c] w fun e w' => e = .returned (.tuple #[.string (sealB l), .int .i64 0]) ∧ Ext w w' := by
  subst hn
  rw [← sealV_short h]
  exact numSeal_any A l c w hS.len hS.cells
theorem ref01Seal_n : Calls Tryz.prog 86 #[.slice A n c] w fun e w' => e = .returned (.tuple #[.string (sealB l), .int .i64 0]) ∧ Ext w w' := by
  subst hn
  rw [← sealV_short h]
  exact ref01Seal_any A l c w hS.len hS.1 hS.cells
end
section
variable (A : Option Addr) (l : List UInt8) (n c : Nat) (w : World) (hn : n = l.length) (hS : Sl w A n c (l.map bv))
include hn hS
theorem numSum_n : Calls Tryz.prog 120 #[.slice A n c] w fun e w' => e = .returned (.int .i64 (crc l : Nat)) ∧ w = w' := by
  subst hn; exact numSum_any A l c w hS.len hS.cells
theorem ref01Sum_n : Calls Tryz.prog 88 #[.slice A n c] w fun e w' => e = .returned (.int .i64 (crc l : Nat)) ∧ w = w' := by
  subst hn; exact ref01Sum_any A l c w hS.len hS.cells
end
end Go.Proofs.YtnlkakbpcdfgfaaGreat
namespace Go.Proofs.YtnlkakbpcdfgfaaGreat
set_option maxRecDepth 20000
open Go.RowKit

theorem own_nil (w : World) : w.ownsRow w.heap.size 5 1 (.slice none 0 0) ([] : List UInt8).length (([] : List UInt8).map bv) := ⟨rfl, .inl ⟨rfl, rfl⟩⟩
set_option maxRecDepth 20000 in
set_option maxHeartbeats 1000000 in
theorem ref01Put_own (n w_ : Int) (w : World) (hn1 : -9223372036854775808 ≤ n) (hn2 : n ≤ 9223372036854775807) :
    Calls Tryz.prog 83 #[.int .i64 n, .int .i64 w_] w fun e w' => ∃ v, e = .returned v ∧ w'.ownsRow w.heap.size 5 1 v (putS n w_).length ((putS n w_).map bv) ∧ Below w.heap.size w w' := by
  by_cases hw : 1 ≤ w_
  · by_cases hw2 : w_ ≤ 4
    · by_cases h0 : 0 ≤ n
      · obtain ⟨m, rfl⟩ := Int.eq_ofNat_of_zero_le (show 0 ≤ w_ by omega)
        obtain ⟨n, rfl⟩ := Int.eq_ofNat_of_zero_le h0
        have hl := lim_pow m
        have hl2 : lim m = ((256 ^ m : Nat) : Int) := by rw [hl]; simp
        by_cases hlt : n < 256 ^ m
        · have t2 : (n : Int) < lim m := by rw [hl2]; omega
          have HP := Lib.hid (putS_some (n := n) (m := m) (by omega) (by omega) hlt)
          clear hlt hl hl2
          obtain ⟨i0, hi, hz0, hz1, hz2⟩ := info_parts info5
          go_enter Tryz.func83, Tryz.ntmps83
          go_wp2_with (go_at_call 111; refine (ref01Limit_any _ (by omega) _).mono ?_; rintro e w' ⟨rfl, rfl⟩)
          go_loopw [0, 5, 6] (fun z v i wr => ∃ k : Nat, k ≤ m ∧ i = .int .i64 k ∧ z = .int .i64 (n / 256 ^ k : Nat) ∧ wr.ownsRow w.heap.size 5 1 v k ((putL n k).map bv) ∧ Below w.heap.size w wr) (fun _ _ i _ => m - (intOf i).toNat)
          case atStart => exact ⟨0, Nat.zero_le _, rfl, by simp, World.ownsRow_nil _ _ _ _, Below.refl _ _⟩
          case round =>
            obtain ⟨k, hk, rfl, rfl, ho, hb⟩ := hrel
            have HB := Lib.hid hb
            have HO := Lib.hid ho
            clear hb ho
            have hle : n / 256 ^ k ≤ n := Nat.div_le_self _ _
            have hzz : n / 256 ^ k / 256 = n / 256 ^ (k + 1) := by rw [Nat.div_div_eq_div_mul, Nat.pow_succ]
            have HZ := Lib.hid hzz
            have HN := Lib.hid (putL_snoc k n)
            clear hzz
            generalize n / 256 ^ k = z at *
            by_cases hlt : k < m
            · go_wp2_with (at_builtin; refine wpList_append_own _ rfl _ _ 83 rfl w.heap.size 5 i0 (.int .u8 0) 1 1 Tryz.underlying83 hi hz0 hz1 hz2 rfl (by decide) _ _ _ rfl (HO.out.alloc _) ⟨wr.heap.size, 0, none⟩ 1 1 [bv (UInt8.ofNat z)] rfl rfl ?c1 ?c2 ?c3 ?c4 ?c5 ?_)
              case c1 => rw [bv_ofNat]; exact cell_one_new _ _ _
              case c2 => intro u hu; simp at hu; subst hu; rfl
              case c3 => unfold maxLen; omega
              case c4 => omega
              case c5 => have := HB.out.size; simp; omega
              intro v' w2 hown hgrow _
              have R : w2.ownsRow w.heap.size 5 1 v' (k + 1) ((putL n (k + 1)).map bv) ∧ Below w.heap.size w w2 :=
                ⟨by rw [HN.out, List.map_append]; exact hown, (HB.out.alloc HB.out.size _).grown hgrow (by have := HB.out.size; simp; omega) (fun q hq => (HO.out.lt q hq).1)⟩
              have HR := Lib.hid R
              clear R hown hgrow
              go_wp2
              rw [show (z : Int) / 256 = ((n / 256 ^ (k + 1) : Nat) : Int) by rw [← HZ.out]; rfl]
              go_roundw
              case rel => exact ⟨k + 1, by omega, by go_num, rfl, HR.out.1, HR.out.2⟩
              case measure => simp [intOf]; omega
            · obtain rfl : k = m := by omega
              go_wp2
              go_ret
              refine ⟨_, rfl, ?_, HB.out⟩
              rw [HP.out, putL_length]
              exact HO.out
        · have t2 : ¬ (n : Int) < lim m := by rw [hl2]; omega
          have HP := Lib.hid (putS_none (n := n) (w := m) (by
            rintro ⟨_, _, _, h⟩
            apply t2
            rw [hl2]; rw [Int.toNat_natCast] at h; simpa using h))
          clear hl hl2
          go_enter Tryz.func83, Tryz.ntmps83
          go_wp2_with (go_at_call 111; refine (ref01Limit_any _ (by omega) _).mono ?_; rintro e w' ⟨rfl, rfl⟩)
          go_ret
          exact ⟨_, rfl, HP.out ▸ own_nil w, Below.refl _ _⟩
      · have HP := Lib.hid (putS_none (n := n) (w := w_) (by omega))
        go_enter Tryz.func83, Tryz.ntmps83
        go_wp2
        go_ret
        exact ⟨_, rfl, HP.out ▸ own_nil w, Below.refl _ _⟩
    · have HP := Lib.hid (putS_none (n := n) (w := w_) (by omega))
      go_enter Tryz.func83, Tryz.ntmps83
      go_wp2
      go_ret
      exact ⟨_, rfl, HP.out ▸ own_nil w, Below.refl _ _⟩
  · have HP := Lib.hid (putS_none (n := n) (w := w_) (by omega))
    go_enter Tryz.func83, Tryz.ntmps83
    go_wp2
    go_ret
    exact ⟨_, rfl, HP.out ▸ own_nil w, Below.refl _ _⟩
end Go.Proofs.YtnlkakbpcdfgfaaGreat
namespace Go.Proofs.YtnlkakbpcdfgfaaGreat
set_option maxRecDepth 20000
open Go.RowKit

/-- An item: its key, and what it tells. -/
abbrev It := Int × Int
def ivs : List It → List Value
  | [] => []
  | x :: l => .int .i64 x.1 :: .int .i64 x.2 :: ivs l
theorem ivs_length (l : List It) : (ivs l).length = l.length * 2 := by
  induction l with
  | nil => rfl
  | cons x l ih => simp only [ivs, List.length_cons, ih]; omega
theorem ivs_append (l m : List It) : ivs (l ++ m) = ivs l ++ ivs m := by
  induction l with
  | nil => rfl
  | cons x l ih => simp [ivs, ih]
theorem ivs_at (l : List It) : ∀ (k : Nat) (h : k < l.length), (ivs l)[k * 2]? = some (.int .i64 l[k].1) ∧ (ivs l)[k * 2 + 1]? = some (.int .i64 l[k].2) := by
  induction l with
  | nil => intro k h; simp at h
  | cons x l ih =>
    intro k h
    match k with
    | 0 => exact ⟨rfl, rfl⟩
    | k + 1 =>
      have := ih k (by simpa using h)
      have e1 : (k + 1) * 2 = k * 2 + 1 + 1 := by omega
      rw [e1]
      simpa [ivs] using this
theorem ivs_oneCell (l : List It) : ∀ u ∈ ivs l, u.oneCell' = true := by
  induction l with
  | nil => intro u h; simp [ivs] at h
  | cons x l ih =>
    intro u h
    simp only [ivs, List.mem_cons] at h
    rcases h with rfl | rfl | h
    · rfl
    · rfl
    · exact ih u h
theorem flat_ivs (l : List It) : ∀ u ∈ ivs l, flat u = true := by
  induction l with
  | nil => intro u h; simp [ivs] at h
  | cons x l ih =>
    intro u h
    simp only [ivs, List.mem_cons] at h
    rcases h with rfl | rfl | h
    · rfl
    · rfl
    · exact ih u h
theorem ivs_drop (l : List It) : ∀ k, (ivs l).drop (k * 2) = ivs (l.drop k) := by
  induction l with
  | nil => intro k; simp [ivs]
  | cons x l ih =>
    intro k
    match k with
    | 0 => rfl
    | k + 1 => rw [show (k + 1) * 2 = k * 2 + 1 + 1 by omega]; simp only [ivs, List.drop_succ_cons]; exact ih k
theorem ivs_take (l : List It) : ∀ k, (ivs l).take (k * 2) = ivs (l.take k) := by
  induction l with
  | nil => intro k; simp [ivs]
  | cons x l ih =>
    intro k
    match k with
    | 0 => simp [ivs]
    | k + 1 => rw [show (k + 1) * 2 = k * 2 + 1 + 1 by omega]; simp only [ivs, List.take_succ_cons]; rw [ih k]
theorem ivs_nil {l : List It} (h : ivs l = []) : l = [] := by
  cases l with
  | nil => rfl
  | cons x l => simp [ivs] at h
/-- Where an item stands. -/
theorem Cells.it {w : World} {A : Option Addr} {l : List It} (h : Cells w A (ivs l)) {k : Nat} (hk : k < l.length) :
    ∃ b off, A = some ⟨b, off, none⟩ ∧ b < w.heap.size ∧ ∀ j (hj : j < l.length), w.cell? ⟨b, off + j * 2, none⟩ = some (.int .i64 l[j].1) ∧ w.cell? ⟨b, off + j * 2 + 1, none⟩ = some (.int .i64 l[j].2) := by
  obtain ⟨b, off, rfl, hlt, hc⟩ := h (by intro e; have := ivs_length l; rw [e] at this; simp at this; omega)
  exact ⟨b, off, rfl, hlt, fun j hj => ⟨hc _ _ (ivs_at l j hj).1, by rw [Nat.add_assoc]; exact hc _ _ (ivs_at l j hj).2⟩⟩
/-- A piece of a slice. -/
theorem Sl.cut {w : World} {A : Option Addr} {n c size : Nat} {xs : List Value} (h : Sl w A n c xs) (hx : xs.length = n * size) (lo hi : Nat) (h1 : lo ≤ hi) (h2 : hi ≤ n) :
    Sl w (if c = lo then A else A.map (fun p => p.add (lo * size))) (hi - lo) (c - lo) ((xs.drop (lo * size)).take ((hi - lo) * size)) := by
  obtain ⟨ha, hb, hc, hd⟩ := h
  refine ⟨fun e => ?_, by omega, by omega, fun hne => ?_⟩
  · by_cases hcl : c = lo
    · omega
    · rw [if_neg hcl] at e
      cases A with
      | none => have := ha rfl; omega
      | some a => simp at e
  · have hlh : lo < hi := by
      rcases Nat.lt_or_ge lo hi with h | h
      · exact h
      · have : hi - lo = 0 := by omega
        rw [this] at hne; simp at hne
    have hsz : 0 < size := by
      rcases Nat.eq_zero_or_pos size with h | h
      · subst h; simp at hne
      · exact h
    have hne2 : xs ≠ [] := by intro e; subst e; simp at hne
    obtain ⟨b, off, rfl, hlt, hcell⟩ := hd hne2
    rw [if_neg (by omega)]
    refine ⟨b, off + lo * size, by simp [Addr.add_lit], hlt, fun j u hu => ?_⟩
    rw [Nat.add_assoc]
    refine hcell _ _ ?_
    rw [List.getElem?_take] at hu
    split at hu
    · rwa [List.getElem?_drop] at hu
    · cases hu
theorem Sl.items {w : World} {A : Option Addr} {n c : Nat} {l : List It} (h : Sl w A n c (ivs l)) (hn : n = l.length) (lo hi : Nat) (h1 : lo ≤ hi) (h2 : hi ≤ n) :
    Sl w (if c = lo then A else A.map (fun p => p.add (lo * 2))) (hi - lo) (c - lo) (ivs ((l.drop lo).take (hi - lo))) := by
  have k := h.cut (size := 2) (by rw [ivs_length, hn]) lo hi h1 h2
  rw [ivs_drop, ivs_take] at k
  exact k

theorem Bx.read2 {w : World} {k : Nat} {a b : Value} (h : Bx w k #[a, b]) : w.cell? ⟨k, 0, none⟩ = some a ∧ w.cell? ⟨k, 1, none⟩ = some b ∧ k < w.heap.size := ⟨h.at 0 _ rfl, h.at 1 _ rfl, h.lt⟩
/-- P4.1: which are right. -/
def okIt (x : It) : Prop := (0 ≤ x.1 ∧ x.1 ≤ 2147483647) ∧ (0 ≤ x.2 ∧ x.2 ≤ 2147483647)
instance (x : It) : Decidable (okIt x) := by unfold okIt; infer_instance
def NdK (l : List It) (k : Nat) : Prop := ∀ i (h : i < l.length), i < k → okIt l[i] ∧ (∀ h0 : 0 < i, l[i - 1].1 < l[i].1)
def NdR (l : List It) : Prop := (1 ≤ l.length ∧ l.length ≤ 4) ∧ ∀ i (h : i < l.length), okIt l[i] ∧ (∀ h0 : 0 < i, l[i - 1].1 < l[i].1)
instance (l : List It) : Decidable (NdR l) := by unfold NdR; infer_instance
def ndR (l : List It) : Bool := decide (NdR l)
theorem ndR_iff (l : List It) : ndR l = true ↔ NdR l := by unfold ndR; simp
theorem ndR_no {l : List It} (h : ¬ NdR l) : ndR l = false := by unfold ndR; simpa using h
theorem NdK.zero (l : List It) : NdK l 0 := fun _ _ h => by omega
theorem NdK.succ {l : List It} {k : Nat} (h : NdK l k) (hk : k < l.length) (h1 : okIt l[k]) (h2 : ∀ h0 : 0 < k, l[k - 1].1 < l[k].1) : NdK l (k + 1) := fun i hi hik => by
  rcases Nat.lt_or_ge i k with h' | h'
  · exact h i hi h'
  · obtain rfl : i = k := by omega
    exact ⟨h1, h2⟩
theorem NdK.all {l : List It} (h : NdK l l.length) (h1 : 1 ≤ l.length ∧ l.length ≤ 4) : NdR l := ⟨h1, fun i hi => h i hi hi⟩
/-- Keys rise. -/
theorem NdR.rise {l : List It} (h : NdR l) : ∀ (j i : Nat) (hj : j < l.length) (hi : i < j), (l[i]'(by omega)).1 < l[j].1
  | 0, i, hj, hi => by omega
  | j + 1, i, hj, hi => by
    have h1 := (h.2 (j + 1) hj).2 (by omega)
    simp only [Nat.add_sub_cancel] at h1
    rcases Nat.lt_or_ge i j with h' | h'
    · have := NdR.rise h j i (by omega) h'; omega
    · obtain rfl : i = j := by omega
      exact h1

theorem NdR.ok {l : List It} (h : NdR l) : ∀ x ∈ l, okIt x := fun x hx => by
  obtain ⟨i, hi, rfl⟩ := List.mem_iff_getElem.1 hx
  exact (h.2 i hi).1
end Go.Proofs.YtnlkakbpcdfgfaaGreat
