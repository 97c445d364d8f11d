/- Plain facts on numbers as bytes and on the check sum; no program in sight. Walks of the small functions of package num and of the reference: isWidth, limit, xor, fold. Walks of Take, Sum and Row. Walks of Take. Rows of bytes that are compared. Walks of Put. Walks of Seal. -/
import Derived.WalkKit
import Derived.WalkSpells
import Derived.WalkLawsBesides
import Derived.Lib.Hide
import Derived.Test.YtjbfopnkeclfgaaGreatRows
import Derived.Deep.QuietTactic
import Derived.BigQuiet
import Derived.Laws.CopyOwn
namespace Go.Proofs.YtjbfopnkeclfgaaGreat
set_option maxRecDepth 20000
open Go.RowKit

/-- A mark at which the walk stands still. -/
def Stop (p : Prop) : Prop := p
theorem stop_here {p : Prop} (h : Stop p) : p := h
theorem stop_on {p : Prop} (h : p) : Stop p := h

/-- A byte as a value. -/
def bv (u : UInt8) : Value := .int .u8 (u.toNat : Int)

/-- The cells xs stand from A on (nothing is asked where there are none). -/
def Cells (w : World) (A : Option Addr) (xs : List Value) : Prop :=
  xs ≠ [] → ∃ b off, A = some ⟨b, off, none⟩ ∧ b < w.heap.size ∧ ∀ j u, xs[j]? = some u → w.cell? ⟨b, off + j, none⟩ = some u

theorem Cells.below {w w' : World} {A : Option Addr} {xs : List Value} (h : Cells w A xs) (hb : Below w.heap.size w w') : Cells w' A xs := fun hx => by
  obtain ⟨b, off, rfl, hlt, hc⟩ := h hx
  exact ⟨b, off, rfl, Nat.lt_of_lt_of_le hlt hb.size, fun j u hu => (hb.cell (p := ⟨b, off + j, none⟩) hlt).trans (hc j u hu)⟩

/-- Where a byte stands. -/
theorem Cells.byte {w : World} {A : Option Addr} {l : List UInt8} (h : Cells w A (l.map bv)) {k : Nat} (hk : k < l.length) :
    ∃ b off, A = some ⟨b, off, none⟩ ∧ b < w.heap.size ∧ ∀ j (hj : j < l.length), w.cell? ⟨b, off + j, none⟩ = some (.int .u8 ((l[j]'hj).toNat : Int)) := by
  obtain ⟨b, off, rfl, hlt, hc⟩ := h (by intro e; rw [List.map_eq_nil_iff] at e; subst e; simp at hk)
  exact ⟨b, off, rfl, hlt, fun j hj => hc j _ (by simp [bv, hj])⟩

/-- The number that bytes tell, the lowest first. -/
def leNat : List UInt8 → Nat
  | [] => 0
  | u :: r => u.toNat + 256 * leNat r
theorem leNat_lt (l : List UInt8) : leNat l < 256 ^ l.length := by
  induction l with
  | nil => simp [leNat]
  | cons u r ih =>
    have := u.toNat_lt
    simp only [leNat, List.length_cons, Nat.pow_succ]
    have : 256 * leNat r + 256 ≤ 256 * 256 ^ r.length := by omega
    omega
theorem leNat_snoc (l : List UInt8) (u : UInt8) : leNat (l ++ [u]) = leNat l + 256 ^ l.length * u.toNat := by
  induction l with
  | nil => simp [leNat]
  | cons v r ih => simp only [List.cons_append, leNat, ih, List.length_cons, Nat.pow_succ]; rw [Nat.mul_add]; rw [Nat.mul_comm (256 ^ r.length) 256, Nat.mul_assoc]; omega

def putL (n : Nat) : Nat → List UInt8
  | 0 => []
  | w+1 => UInt8.ofNat n :: putL (n / 256) w
theorem putL_length (w : Nat) : ∀ n, (putL n w).length = w := by
  induction w with
  | zero => intro n; rfl
  | succ w ih => intro n; simp [putL, ih]
theorem leNat_putL (w : Nat) : ∀ n, leNat (putL n w) = n % 256 ^ w := by
  induction w with
  | zero => intro n; simp [putL, leNat, Nat.mod_one]
  | succ w ih =>
    intro n
    simp only [putL, leNat, ih, UInt8.toNat_ofNat']
    have e := Nat.mod_mul (a := 256) (b := 256 ^ w) (x := n)
    rw [show 256 ^ (w + 1) = 256 * 256 ^ w by rw [Nat.pow_succ, Nat.mul_comm], e]
theorem putL_snoc (w : Nat) : ∀ n, putL n (w + 1) = putL n w ++ [UInt8.ofNat (n / 256 ^ w)] := by
  induction w with
  | zero => intro n; simp [putL]
  | succ w ih =>
    intro n
    rw [putL, ih]
    simp only [putL, List.cons_append]
    rw [Nat.div_div_eq_div_mul, Nat.pow_succ, Nat.mul_comm 256]
/-- P1.1. -/
def putS (n w : Int) : List UInt8 := if 1 ≤ w ∧ w ≤ 4 ∧ 0 ≤ n ∧ n < 256 ^ w.toNat then putL n.toNat w.toNat else []
def takeS (l : List UInt8) (at_ w : Int) : Option Nat := if 1 ≤ w ∧ w ≤ 4 ∧ 0 ≤ at_ ∧ at_ + w ≤ l.length then some (leNat ((l.drop at_.toNat).take w.toNat)) else none

/-- P1.2. -/
def foldS (c : Nat) : Nat := if c % 2 = 1 then (c / 2) ^^^ 3988292384 else c / 2
def foldN : Nat → Nat → Nat
  | 0, c => c
  | n+1, c => foldN n (foldS c)
theorem foldS_lt (c : Nat) (h : c < 4294967296) : foldS c < 4294967296 := by
  unfold foldS; split
  · exact Nat.xor_lt_two_pow (n := 32) (by omega) (by omega)
  · omega
theorem foldN_lt (n : Nat) : ∀ (c : Nat), c < 4294967296 → foldN n c < 4294967296 := by
  induction n with
  | zero => intro c h; exact h
  | succ n ih => intro c h; exact ih _ (foldS_lt c h)
theorem foldN_succ (n : Nat) : ∀ c, foldN (n + 1) c = foldS (foldN n c) := by
  induction n with
  | zero => intro c; rfl
  | succ n ih => intro c; rw [foldN, ih]; rfl
theorem xor_lt32 {a b : Nat} (ha : a < 4294967296) (hb : b < 4294967296) : a ^^^ b < 4294967296 := Nat.xor_lt_two_pow (n := 32) ha hb
def regB (c : Nat) (u : UInt8) : Nat := foldN 8 (c ^^^ u.toNat)
def reg (c : Nat) (l : List UInt8) : Nat := l.foldl regB c
theorem regB_lt (c : Nat) (u : UInt8) (h : c < 4294967296) : regB c u < 4294967296 := foldN_lt _ _ (xor_lt32 h (by have := u.toNat_lt; omega))
theorem reg_lt (l : List UInt8) : ∀ (c : Nat), c < 4294967296 → reg c l < 4294967296 := by
  induction l with
  | nil => intro c h; exact h
  | cons u r ih => intro c h; exact ih _ (regB_lt c u h)
theorem reg_snoc (l : List UInt8) (u : UInt8) (c : Nat) : reg c (l ++ [u]) = regB (reg c l) u := by simp [reg]
theorem reg_take (l : List UInt8) (k : Nat) (h : k < l.length) (c : Nat) : reg c (l.take (k + 1)) = regB (reg c (l.take k)) l[k] := by
  rw [List.take_succ_eq_append_getElem h, reg_snoc]
def crc (l : List UInt8) : Nat := reg 4294967295 l ^^^ 4294967295
theorem crc_lt (l : List UInt8) : crc l < 4294967296 := xor_lt32 (reg_lt l _ (by omega)) (by omega)

theorem ret_int {k : IntKind} {a b : Int} (h : a = b) : Ending.returned (.int k a) = .returned (.int k b) := by rw [h]

theorem ret_bool {a b : Bool} (h : a = b) : Ending.returned (.bool a) = .returned (.bool b) := by rw [h]
end Go.Proofs.YtjbfopnkeclfgaaGreat
namespace Go.Proofs.YtjbfopnkeclfgaaGreat
set_option maxRecDepth 20000
open Go.RowKit

def isW (w : Int) : Bool := decide (1 ≤ w) && decide (w ≤ 4)

set_option maxHeartbeats 400000 in
theorem numIsWidth_any (n : Int) (w : World) :
    Calls Tryz.prog 143 #[.int .i64 n] w fun e w' => e = .returned (.bool (isW n)) ∧ w = w' := by
  unfold isW
  by_cases h1 : 1 ≤ n <;> by_cases h2 : n ≤ 4
  all_goals
    go_enter Tryz.func143, Tryz.ntmps143
    go_wp2
    go_ret
    exact ⟨by simp [*], rfl⟩

def lim : Nat → Int
  | 0 => 1
  | n+1 => lim n * 256
theorem lim_pow (n : Nat) : lim n = 256 ^ n := by
  induction n with
  | zero => rfl
  | succ n ih => rw [lim, ih, Int.pow_succ]
theorem lim_bd (n : Nat) (h : n ≤ 4) : 1 ≤ lim n ∧ lim n ≤ 4294967296 := by
  match n, h with
  | 0, _ => decide
  | 1, _ => decide
  | 2, _ => decide
  | 3, _ => decide
  | 4, _ => decide

set_option maxHeartbeats 400000 in
theorem ref01Limit_any (n : Nat) (hn : n ≤ 4) (w : World) :
    Calls Tryz.prog 147 #[.int .i64 n] w fun e w' => e = .returned (.int .i64 (lim n)) ∧ w = w' := by
  go_enter Tryz.func147, Tryz.ntmps147
  go_wp2
  go_loop [3, 4] (fun m i => ∃ k : Nat, k ≤ n ∧ i = .int .i64 k ∧ m = .int .i64 (lim k)) (fun _ i => n - (intOf i).toNat)
  case atStart => exact ⟨0, Nat.zero_le _, rfl, rfl⟩
  case round =>
    obtain ⟨k, hk, rfl, rfl⟩ := hrel
    have b1 := (lim_bd k (by omega)).1
    have b2 := (lim_bd k (by omega)).2
    by_cases hlt : k < n
    · have b3 : lim k * 256 ≤ 4294967296 := (lim_bd (k+1) (by omega)).2
      go_wp2
      go_round
      case rel => exact ⟨k + 1, by omega, by go_num, rfl⟩
      case measure => simp [intOf]; omega
    · obtain rfl : k = n := by omega
      go_wp2
      go_ret
      exact ⟨rfl, rfl⟩

set_option maxHeartbeats 400000 in
theorem ref01Xor_any (a b : Nat) (ha : a < 4294967296) (hb : b < 4294967296) (w : World) :
    Calls Tryz.prog 150 #[.int .i64 a, .int .i64 b] w fun e w' => e = .returned (.int .i64 ((a ^^^ b : Nat) : Int)) ∧ w = w' := by
  have hx : a ^^^ b < 2 ^ 32 := Nat.xor_lt_two_pow ha hb
  have e : wrap64 (bits BinOp.xor IntKind.u32 ↑a ↑b) = ((a ^^^ b : Nat) : Int) := by
    rw [u32_xor_nat a b ha hb]; unfold wrap64; omega
  have H := Lib.hid e; clear e
  go_enter Tryz.func150, Tryz.ntmps150
  go_wp2
  go_ret
  exact ⟨ret_int H.out, rfl⟩

theorem foldS_odd (c : Nat) (h : c < 4294967296) (ho : c % 2 = 1) : bits BinOp.xor IntKind.u32 ((c : Int) / 2) 3988292384 = (foldS c : Nat) ∧ (bits BinOp.and IntKind.u32 (↑c) 1 == 1) = true := by
  unfold foldS
  rw [if_pos ho]
  refine ⟨u32_xor_nat (c/2) 3988292384 (by omega) (by omega), ?_⟩
  have := u32_and_nat c 1 h (by omega)
  rw [nat_mask1, ho] at this
  rw [show ((1 : Int)) = ((1 : Nat) : Int) from rfl, this]; rfl
theorem foldS_even (c : Nat) (h : c < 4294967296) (ho : ¬ c % 2 = 1) : (c : Int) / 2 = (foldS c : Nat) ∧ (bits BinOp.and IntKind.u32 (↑c) 1 == 1) = false := by
  unfold foldS
  rw [if_neg ho]
  refine ⟨by omega, ?_⟩
  have := u32_and_nat c 1 h (by omega)
  rw [nat_mask1, show c % 2 = 0 by omega] at this
  rw [show ((1 : Int)) = ((1 : Nat) : Int) from rfl, this]; rfl

set_option maxHeartbeats 400000 in
theorem numFold_any (c : Nat) (hc : c < 4294967296) (w : World) :
    Calls Tryz.prog 109 #[.int .u32 c] w fun e w' => e = .returned (.int .u32 (foldN 8 c : Nat)) ∧ w = w' := by
  go_enter Tryz.func109, Tryz.ntmps109
  go_wp2
  refine wp_scope_jumps 0 (fun a' w' => w' = w ∧ ∃ (k m : Nat) (u4 u5 u6 u7 u8 u9 u10 u11 u12 u13 u14 u15 u16 : Value), a' = { tmps := #[.int .u32 m, undef, .int .u32 0, .int .i64 k, u4, u5, u6, u7, u8, u9, u10, u11, u12, u13, u14, u15, u16, undef], defers := [] } ∧ 1 ≤ k ∧ k ≤ 8 ∧ m < 4294967296 ∧ foldN k m = foldN 8 c) (fun a' _ => (intOf (a'.tmps.getD 3 undef)).toNat) rfl ?_ ?_
  · go_wp2
    go_step3
    have hl := foldS_lt c hc
    by_cases ho : c % 2 = 1
    · obtain ⟨e1, t⟩ := foldS_odd c hc ho
      have H := Lib.hid e1; clear e1
      go_wp2
      go_step3
      rw [H.out]
      exact ⟨rfl, rfl, 7, foldS c, _, _, _, _, _, _, _, _, _, _, _, _, _, rfl, by omega, by omega, hl, rfl⟩
    · obtain ⟨e1, t⟩ := foldS_even c hc ho
      have H := Lib.hid e1; clear e1
      go_wp2
      go_step3
      rw [H.out]
      exact ⟨rfl, rfl, 7, foldS c, _, _, _, _, _, _, _, _, _, _, _, _, _, rfl, by omega, by omega, hl, rfl⟩
  · rintro a' w' ⟨rfl, k, m, u4, u5, u6, u7, u8, u9, u10, u11, u12, u13, u14, u15, u16, rfl, hk1, hk8, hm, he⟩
    obtain ⟨j, rfl⟩ : ∃ j, k = j + 1 := ⟨k - 1, by omega⟩
    have hl := foldS_lt m hm
    have he' : foldN j (foldS m) = foldN 8 c := he
    have HE := Lib.hid he'; clear he he'
    have fin : ∀ (h0 : ¬ 0 < j) (x : Int), x = (foldS m : Nat) → Ending.returned (Value.int .u32 x) = .returned (.int .u32 (foldN 8 c : Nat)) := by
      intro h0 x hx
      obtain rfl : j = 0 := by omega
      have e := HE.out
      rw [hx, ← e]; rfl
    have FIN := Lib.hid fin; clear fin
    by_cases ho : m % 2 = 1
    · obtain ⟨e1, t⟩ := foldS_odd m hm ho
      have H := Lib.hid e1; clear e1
      by_cases hj : 0 < j
      · go_wp2
        go_step3
        rw [H.out]
        exact ⟨rfl, ⟨rfl, j, foldS m, _, _, _, _, _, _, _, _, _, _, _, _, _, rfl, by omega, by omega, hl, HE.out⟩, by simp [intOf]⟩
      · have hj0 : (j : Int) ≤ 0 := by omega
        go_wp2
        simp only [Exit.jump]
        go_ret
        exact ⟨FIN.out hj _ H.out, rfl⟩
    · obtain ⟨e1, t⟩ := foldS_even m hm ho
      have H := Lib.hid e1; clear e1
      by_cases hj : 0 < j
      · go_wp2
        go_step3
        rw [H.out]
        exact ⟨rfl, ⟨rfl, j, foldS m, _, _, _, _, _, _, _, _, _, _, _, _, _, rfl, by omega, by omega, hl, HE.out⟩, by simp [intOf]⟩
      · have hj0 : (j : Int) ≤ 0 := by omega
        go_wp2
        simp only [Exit.jump]
        go_ret
        exact ⟨FIN.out hj _ H.out, rfl⟩

end Go.Proofs.YtjbfopnkeclfgaaGreat
namespace Go.Proofs.YtjbfopnkeclfgaaGreat
set_option maxRecDepth 20000
open Go.RowKit

theorem bits_xor_byte (c : Nat) (u : UInt8) (h : c < 4294967296) : bits BinOp.xor IntKind.u32 (c : Int) ((u.toNat : Int) % 4294967296) = ((c ^^^ u.toNat : Nat) : Int) := by
  have := u.toNat_lt
  rw [show ((u.toNat : Int) % 4294967296) = (u.toNat : Int) by omega]
  exact u32_xor_nat c u.toNat h (by omega)
theorem bits_ones (c : Nat) (h : c < 4294967296) : wrap64 (bits BinOp.xor IntKind.u32 (c : Int) 4294967295) = ((c ^^^ 4294967295 : Nat) : Int) := by
  have := u32_xor_nat c 4294967295 h (by omega)
  rw [show (4294967295 : Int) = ((4294967295 : Nat) : Int) from rfl, this]
  have := xor_lt32 (b := 4294967295) h (by omega)
  unfold wrap64; omega

set_option maxHeartbeats 400000 in
theorem numSum_any (A : Option Addr) (l : List UInt8) (c : Nat) (w : World) (hl : l.length ≤ maxLen) (hA : Cells w A (l.map bv)) :
    Calls Tryz.prog 70 #[.slice A l.length c] w fun e w' => e = .returned (.int .i64 (crc l : Nat)) ∧ w = w' := by
  unfold maxLen at hl
  go_enter Tryz.func70, Tryz.ntmps70
  go_wp2
  go_loop [3, 7] (fun m i => ∃ k : Nat, k ≤ l.length ∧ i = .int .i64 k ∧ m = .int .u32 (reg 4294967295 (l.take k) : Nat)) (fun _ i => l.length - (intOf i).toNat)
  case atStart => exact ⟨0, Nat.zero_le _, rfl, rfl⟩
  case round =>
    obtain ⟨k, hk, rfl, rfl⟩ := hrel
    have b1 := reg_lt (l.take k) 4294967295 (by omega)
    by_cases hlt : k < l.length
    · have HR := Lib.hid (reg_take l k hlt 4294967295)
      obtain ⟨b, off, rfl, _, hc⟩ := hA.byte hlt
      have hck := hc k hlt
      go_wp2_with (go_at_call 109; rw [bits_xor_byte _ _ b1]; refine (numFold_any _ (xor_lt32 b1 (by have := l[k].toNat_lt; omega)) _).mono ?_; rintro e w' ⟨rfl, rfl⟩)
      go_round
      case rel => exact ⟨k + 1, by omega, by go_num, by rw [HR.out]; rfl⟩
      case measure => simp [intOf]; omega
    · obtain rfl : k = l.length := by omega
      rw [List.take_length]
      rw [List.take_length] at b1
      have HB := Lib.hid (bits_ones _ b1)
      go_wp2
      go_ret
      exact ⟨ret_int HB.out, rfl⟩

theorem xor_int (a b : Int) (w : World) (h1 : 0 ≤ a) (h2 : a < 4294967296) (h3 : 0 ≤ b) (h4 : b < 4294967296) :
    Calls Tryz.prog 150 #[.int .i64 a, .int .i64 b] w fun e w' => e = .returned (.int .i64 ((a.toNat ^^^ b.toNat : Nat) : Int)) ∧ w = w' := by
  obtain ⟨a, rfl⟩ := Int.eq_ofNat_of_zero_le h1
  obtain ⟨b, rfl⟩ := Int.eq_ofNat_of_zero_le h3
  exact ref01Xor_any a b (by omega) (by omega) w

set_option maxHeartbeats 1000000 in
theorem ref01Sum_any (A : Option Addr) (l : List UInt8) (c : Nat) (w : World) (hl : l.length ≤ maxLen) (hA : Cells w A (l.map bv)) :
    Calls Tryz.prog 135 #[.slice A l.length c] w fun e w' => e = .returned (.int .i64 (crc l : Nat)) ∧ w = w' := by
  unfold maxLen at hl
  go_enter Tryz.func135, Tryz.ntmps135
  go_wp2
  go_loop [3, 4] (fun m i => ∃ k : Nat, k ≤ l.length ∧ i = .int .i64 k ∧ m = .int .i64 (reg 4294967295 (l.take k) : Nat)) (fun _ i => l.length - (intOf i).toNat)
  case atStart => exact ⟨0, Nat.zero_le _, rfl, rfl⟩
  case round =>
    obtain ⟨k, hk, rfl, rfl⟩ := hrel
    have b1 := reg_lt (l.take k) 4294967295 (by omega)
    by_cases hlt : k < l.length
    · have HR := Lib.hid (reg_take l k hlt 4294967295)
      obtain ⟨b, off, rfl, _, hc⟩ := hA.byte hlt
      have hck := hc k hlt
      have hb8 := l[k].toNat_lt
      go_wp2_with (go_at_call 150; refine (xor_int _ _ _ (by omega) (by omega) (by omega) (by omega)).mono ?_; rintro e w' ⟨rfl, rfl⟩)
      have bx : reg 4294967295 (List.take k l) ^^^ l[k].toNat < 4294967296 := xor_lt32 b1 (by omega)
      go_loop [3, 5] (fun m i => ∃ q : Nat, q ≤ 8 ∧ i = .int .i64 q ∧ m = .int .i64 (foldN q (reg 4294967295 (l.take k) ^^^ l[k].toNat) : Nat)) (fun _ i => 8 - (intOf i).toNat)
      case atStart => exact ⟨0, Nat.zero_le _, rfl, rfl⟩
      case round =>
        obtain ⟨q, hq, rfl, rfl⟩ := hrel
        have b2 := foldN_lt q _ bx
        by_cases hq8 : q < 8
        · have HF := Lib.hid (foldN_succ q (reg 4294967295 (List.take k l) ^^^ l[k].toNat))
          generalize foldN q (reg 4294967295 (List.take k l) ^^^ l[k].toNat) = z at *
          by_cases ho : z % 2 = 1
          · have ho' : (((z : Int) % 2) == 1) = true := by simp; omega
            go_wp2_with (go_at_call 150; refine (xor_int _ _ _ (by omega) (by omega) (by omega) (by omega)).mono ?_; rintro e w' ⟨rfl, rfl⟩)
            go_round
            case rel => exact ⟨q + 1, by omega, by go_num, by rw [HF.out]; unfold foldS; rw [if_pos ho]; rfl⟩
            case measure => simp [intOf]; omega
          · have ho' : (((z : Int) % 2) == 1) = false := by simp; omega
            go_wp2
            go_round
            case rel => exact ⟨q + 1, by omega, by go_num, by rw [HF.out]; unfold foldS; rw [if_neg ho]; rfl⟩
            case measure => simp [intOf]; omega
        · obtain rfl : q = 8 := by omega
          go_wp2
          go_round
          case rel => exact ⟨k + 1, by omega, by go_num, by rw [HR.out]; rfl⟩
          case measure => simp [intOf]; omega
    · obtain rfl : k = l.length := by omega
      rw [List.take_length]
      rw [List.take_length] at b1
      go_wp2_with (go_at_call 150; refine (xor_int _ _ _ (by omega) (by omega) (by omega) (by omega)).mono ?_; rintro e w' ⟨rfl, rfl⟩)
      go_ret
      exact ⟨rfl, rfl⟩

/-- The three results of Take, with the word for a fault. -/
def takeV (l : List UInt8) (at_ w : Int) (none_ : Int) : Value := match takeS l at_ w with
  | some n => .tuple #[.int .i64 (n : Int), .int .i64 (at_ + w), .int .i64 0]
  | none => .tuple #[.int .i64 0, .int .i64 0, .int .i64 none_]

end Go.Proofs.YtjbfopnkeclfgaaGreat
namespace Go.Proofs.YtjbfopnkeclfgaaGreat
set_option maxRecDepth 20000
open Go.RowKit

theorem take_drop_succ (l : List UInt8) (a k : Nat) (h : a + k < l.length) : (l.drop a).take (k + 1) = (l.drop a).take k ++ [l[a + k]] := by
  rw [List.take_succ_eq_append_getElem (by simp; omega), List.getElem_drop]
theorem leNat_take_succ (l : List UInt8) (a k : Nat) (h : a + k < l.length) : leNat ((l.drop a).take (k + 1)) = leNat ((l.drop a).take k) + 256 ^ k * (l[a + k]).toNat := by
  rw [take_drop_succ l a k h, leNat_snoc, List.length_take, List.length_drop, Nat.min_eq_left (by omega)]
theorem leNat_take_lt (l : List UInt8) (a k : Nat) : leNat ((l.drop a).take k) < 256 ^ k :=
  Nat.lt_of_lt_of_le (leNat_lt _) (Nat.pow_le_pow_right (by omega) (by simp; omega))

theorem i64_or (a b : Nat) (ha : a < 9223372036854775808) (hb : b < 9223372036854775808) : bits .or .i64 (a : Int) (b : Int) = ((a ||| b : Nat) : Int) := by
  have hx : a ||| b < 2 ^ 63 := Nat.or_lt_two_pow (by omega) (by omega)
  have e : ∀ n : Nat, n < 9223372036854775808 → (BitVec.ofInt 64 (n : Int)).toNat = n := fun n hn => by
    rw [BitVec.ofInt_natCast, BitVec.toNat_ofNat]; exact Nat.mod_eq_of_lt (by omega)
  show IntKind.i64.wrap ((BitVec.ofInt 64 (a : Int) ||| BitVec.ofInt 64 (b : Int)).toNat : Int) = _
  rw [BitVec.toNat_or, e a ha, e b hb, IntKind.wrap_i64]
  omega
theorem or_byte (x k u : Nat) (hk : k < 4) (hx : x < 256 ^ k) (hu : u < 256) : bits BinOp.or .i64 (x : Int) (wrap64 ((u : Int) * 2 ^ (8 * k))) = ((x + 256 ^ k * u : Nat) : Int) := by
  have hp : (256 : Nat) ^ k = 2 ^ (8 * k) := by rw [show (256 : Nat) = 2 ^ 8 from rfl, ← Nat.pow_mul]
  have hle : (256 : Nat) ^ k ≤ 256 ^ 3 := Nat.pow_le_pow_right (by omega) (by omega)
  have hmul : 256 ^ k * u ≤ 256 ^ 3 * 255 := Nat.mul_le_mul hle (by omega)
  have e : ((u : Int) * 2 ^ (8 * k)) = ((256 ^ k * u : Nat) : Int) := by
    rw [hp, Int.natCast_mul, Int.natCast_pow, Int.mul_comm]; rfl
  have e2 : wrap64 ((256 ^ k * u : Nat) : Int) = ((256 ^ k * u : Nat) : Int) := by unfold wrap64; omega
  rw [e, e2, i64_or _ _ (by omega) (by omega)]
  congr 1
  rw [Nat.or_comm, nat_join (8 * k) _ _ (by rw [← hp]; exact Nat.mul_mod_right _ _) (by rw [← hp]; exact hx)]
  omega

theorem takeV_some {l : List UInt8} {a m : Nat} {z : Int} (h1 : 1 ≤ m) (h2 : m ≤ 4) (h3 : a + m ≤ l.length) :
    takeV l a m z = .tuple #[.int .i64 (leNat ((l.drop a).take m) : Nat), .int .i64 ((a : Int) + m), .int .i64 0] := by
  unfold takeV takeS; rw [if_pos (by omega)]; rfl
theorem takeV_none {l : List UInt8} {a m z : Int} (h : ¬ (1 ≤ m ∧ m ≤ 4 ∧ 0 ≤ a ∧ a + m ≤ l.length)) :
    takeV l a m z = .tuple #[.int .i64 0, .int .i64 0, .int .i64 z] := by
  unfold takeV takeS; rw [if_neg h]

set_option maxHeartbeats 1000000 in
theorem numTake_any (A : Option Addr) (l : List UInt8) (c : Nat) (at_ w_ : Int) (w : World) (hl : l.length ≤ maxLen) (hA : Cells w A (l.map bv)) (h1 : -9223372036854775808 ≤ at_) (h2 : at_ ≤ 9223372036854775807) :
    Calls Tryz.prog 119 #[.slice A l.length c, .int .i64 at_, .int .i64 w_] w fun e w' => e = .returned (takeV l at_ w_ 2) ∧ w = w' := by
  unfold maxLen at hl
  by_cases hw : 1 ≤ w_ ∧ w_ ≤ 4
  · have t1 : isW w_ = true := by unfold isW; simp; omega
    by_cases hb : 0 ≤ at_ ∧ at_ + w_ ≤ l.length
    · obtain ⟨m, rfl⟩ := Int.eq_ofNat_of_zero_le (show 0 ≤ w_ by omega)
      obtain ⟨a, rfl⟩ := Int.eq_ofNat_of_zero_le hb.1
      obtain ⟨hw1, hw2⟩ := hw
      obtain ⟨_, hb⟩ := hb
      have HF := Lib.hid (takeV_some (l := l) (a := a) (m := m) (z := 2) (by omega) (by omega) (by omega))
      go_enter Tryz.func119, Tryz.ntmps119
      go_wp2_with (go_at_call 143; refine (numIsWidth_any _ _).mono ?_; rintro e w' ⟨rfl, rfl⟩)
      go_loop [9, 27] (fun n i => ∃ k : Nat, k ≤ m ∧ i = .int .i64 k ∧ n = .int .i64 (leNat ((l.drop a).take k) : Nat)) (fun _ i => m - (intOf i).toNat)
      case atStart => exact ⟨0, Nat.zero_le _, rfl, rfl⟩
      case round =>
        obtain ⟨k, hk, rfl, rfl⟩ := hrel
        by_cases hlt : k < m
        · obtain ⟨b, off, rfl, _, hc⟩ := hA.byte (k := a + k) (by omega)
          have hck := hc (a + k) (by omega)
          have hb8 := l[a+k].toNat_lt
          have HO := Lib.hid (or_byte (leNat ((l.drop a).take k)) k l[a+k].toNat (by omega) (leNat_take_lt l a k) l[a+k].toNat_lt)
          have HS := Lib.hid (leNat_take_succ l a k (by omega))
          go_wp2
          go_round
          case rel => exact ⟨k + 1, by omega, by go_num, by rw [HO.out, HS.out]⟩
          case measure => simp [intOf]; omega
        · obtain rfl : k = m := by omega
          go_wp2
          go_ret3
          exact ⟨congrArg Ending.returned HF.out.symm, rfl⟩
    · have HF := Lib.hid (takeV_none (l := l) (a := at_) (m := w_) (z := 2) (by omega))
      by_cases ha : 0 ≤ at_
      · go_enter Tryz.func119, Tryz.ntmps119
        go_wp2_with (go_at_call 143; refine (numIsWidth_any _ _).mono ?_; rintro e w' ⟨rfl, rfl⟩)
        go_ret3
        exact ⟨congrArg Ending.returned HF.out.symm, rfl⟩
      · go_enter Tryz.func119, Tryz.ntmps119
        go_wp2_with (go_at_call 143; refine (numIsWidth_any _ _).mono ?_; rintro e w' ⟨rfl, rfl⟩)
        go_ret3
        exact ⟨congrArg Ending.returned HF.out.symm, rfl⟩
  · have t1 : isW w_ = false := by unfold isW; simp; omega
    have HF := Lib.hid (takeV_none (l := l) (a := at_) (m := w_) (z := 2) (by omega))
    go_enter Tryz.func119, Tryz.ntmps119
    go_wp2_with (go_at_call 143; refine (numIsWidth_any _ _).mono ?_; rintro e w' ⟨rfl, rfl⟩)
    go_ret3
    exact ⟨congrArg Ending.returned HF.out.symm, rfl⟩

end Go.Proofs.YtjbfopnkeclfgaaGreat
namespace Go.Proofs.YtjbfopnkeclfgaaGreat
set_option maxRecDepth 20000
open Go.RowKit

theorem Cells.drewN {w : World} {A : Option Addr} {xs : List Value} (h : Cells w A xs) (n : Nat) : Cells (w.drewN n) A xs := h

end Go.Proofs.YtjbfopnkeclfgaaGreat
namespace Go.Proofs.YtjbfopnkeclfgaaGreat
set_option maxRecDepth 20000
open Go.RowKit

theorem info5 : (Tryz.prog.info? 5).map (fun i => (i.zero, i.size, i.bytes)) = some (some (.int .u8 0), 1, 1) := by kernel_rfl

/-- A slice value that tells the bytes l. -/
def Got (w : World) (v : Value) (l : List UInt8) : Prop := ∃ A cap, v = .slice A l.length cap ∧ l.length ≤ cap ∧ cap ≤ maxLen ∧ (A = none → cap = 0) ∧ Cells w A (l.map bv)

theorem got_nil (w : World) : Got w (.slice none 0 0) [] := ⟨none, 0, rfl, Nat.le_refl _, by unfold maxLen; omega, fun _ => rfl, fun h => absurd rfl h⟩
theorem got_own {w : World} {B n : Nat} {v : Value} {l : List UInt8} (h : w.ownsRow B 5 1 v n (l.map bv)) : Got w v l := by
  have hn : l.length = n := by have := h.1; simpa using this
  subst hn
  rcases h.2 with ⟨rfl, hl⟩ | ⟨g, cap, cur, rfl, _, hg, hc, hm, _, _⟩
  · rw [List.eq_nil_of_length_eq_zero hl]; exact got_nil w
  · refine ⟨_, cap, rfl, hc, hm, (fun h => by cases h), fun _ => ⟨g, 0, rfl, (Array.getElem?_eq_some_iff.1 hg).1, fun j u hu => ?_⟩⟩
    have := h.cellAt j (by have := (List.getElem?_eq_some_iff.1 hu).1; simpa using this)
    rw [Nat.zero_add, this, hu]
theorem Got.below {w w' : World} {v : Value} {l : List UInt8} (h : Got w v l) (hb : Below w.heap.size w w') : Got w' v l := by
  obtain ⟨A, cap, rfl, h1, h2, h4, h3⟩ := h
  exact ⟨A, cap, rfl, h1, h2, h4, h3.below hb⟩
theorem below_grown {w w' w'' : World} {row : Option Nat} (h : Below w.heap.size w w') (hg : w'.grownBy w'' row) (hr : ∀ k, row = some k → w.heap.size ≤ k) : Below w.heap.size w w'' := h.grown hg h.size hr

theorem putS_some {n m : Nat} (h1 : 1 ≤ m) (h2 : m ≤ 4) (h3 : n < 256 ^ m) : putS n m = putL n m := by
  unfold putS
  have : (n : Int) < 256 ^ (m : Int).toNat := by
    rw [Int.toNat_natCast]
    have e : ((256 ^ m : Nat) : Int) = (256 : Int) ^ m := by simp
    rw [← e]; omega
  rw [if_pos ⟨by omega, by omega, by omega, this⟩]; rfl
theorem putS_none {n w : Int} (h : ¬ (1 ≤ w ∧ w ≤ 4 ∧ 0 ≤ n ∧ n < 256 ^ w.toNat)) : putS n w = [] := by
  unfold putS; rw [if_neg h]
theorem pow8 (k : Nat) : (2 : Nat) ^ (8 * k) = 256 ^ k := by rw [show (256 : Nat) = 2 ^ 8 from rfl, ← Nat.pow_mul]
theorem shr_byte (n k : Nat) : (n : Int) / 2 ^ (8 * k) = ((n / 256 ^ k : Nat) : Int) := by
  rw [← pow8]; simp
theorem shr_zero (n m : Nat) (h : n < 256 ^ m) : ((n : Int) / 2 ^ (8 * m) != 0) = false := by
  rw [shr_byte, Nat.div_eq_of_lt h]; rfl
theorem shr_pos (n m : Nat) (h : ¬ n < 256 ^ m) : ((n : Int) / 2 ^ (8 * m) != 0) = true := by
  rw [shr_byte]
  have : 0 < n / 256 ^ m := Nat.div_pos (by omega) (Nat.pow_pos (by omega))
  generalize n / 256 ^ m = z at *
  simp; omega
theorem bv_ofNat (n : Nat) : Value.int .u8 ((n : Int) % 256) = bv (UInt8.ofNat n) := by
  unfold bv; simp
/-- What the new row holds behind k rounds. -/
def putCells (n m k : Nat) : List Value := (putL n k).map bv ++ List.replicate (m - k) (.int .u8 0)
theorem putCells_set (n m k : Nat) (h : k < m) : (putCells n m k).set k (bv (UInt8.ofNat (n / 256 ^ k))) = putCells n m (k + 1) := by
  unfold putCells
  rw [List.set_append_right _ _ (by simp [putL_length])]
  simp only [List.length_map, putL_length, Nat.sub_self]
  rw [show m - k = (m - (k + 1)) + 1 by omega, List.replicate_succ, List.set_cons_zero, putL_snoc]
  simp

set_option maxHeartbeats 1000000 in
theorem numPut_any (n w_ : Int) (w : World) (hn1 : -9223372036854775808 ≤ n) (hn2 : n ≤ 9223372036854775807) :
    Calls Tryz.prog 121 #[.int .i64 n, .int .i64 w_] w fun e w' => ∃ v, e = .returned v ∧ Got w' v (putS n w_) ∧ Below w.heap.size w w' := by
  by_cases hw : 1 ≤ w_ ∧ w_ ≤ 4
  · have t1 : isW w_ = true := by unfold isW; simp; omega
    by_cases h0 : 0 ≤ n
    · obtain ⟨m, rfl⟩ := Int.eq_ofNat_of_zero_le (show 0 ≤ w_ by omega)
      obtain ⟨n, rfl⟩ := Int.eq_ofNat_of_zero_le h0
      obtain ⟨hw1, hw2⟩ := hw
      by_cases hlt : n < 256 ^ m
      · have t2 := shr_zero n m hlt
        have HP := Lib.hid (putS_some (n := n) (m := m) (by omega) (by omega) hlt)
        clear hlt
        obtain ⟨i0, hi, hz0, hz1, hz2⟩ := info_parts info5
        go_enter Tryz.func121, Tryz.ntmps121
        go_wp2_with (first | (go_at_call 143; refine (numIsWidth_any _ _).mono ?_; rintro e w' ⟨rfl, rfl⟩) | (at_make; refine wpList_make_full _ rfl _ _ 68 rfl w.heap.size 5 i0 (.int .u8 0) 1 Tryz.underlying68 hi hz0 hz1 _ _ _ _ m rfl rfl rfl rfl (by rw [hz2]; omega) (by unfold maxLen; omega) (Nat.le_refl _) ?_; intro w1 hown hgrow))
        have ec : (madeCells (Value.int IntKind.u8 0).cells (m * 1)).toList = putCells n m 0 := by
          rw [Nat.mul_one]; exact toList_madeCells_one _ _
        rw [ec] at hown
        go_loopw [24] (fun i wr => ∃ k : Nat, k ≤ m ∧ i = .int .i64 k ∧ wr.ownsRow w.heap.size 5 1 (.slice (some ⟨w.heap.size, 0, none⟩) m m) m (putCells n m k) ∧ Below w.heap.size w wr) (fun i _ => m - (intOf i).toNat)
        case atStart => exact ⟨0, Nat.zero_le _, rfl, hown, below_grown (Below.refl _ _) hgrow (by intro k h; cases h)⟩
        case round =>
          obtain ⟨k, hk, rfl, ho, hb⟩ := hrel
          clear hown hgrow ec
          by_cases hlt : k < m
          · have hf := ho.frozenAt k
            obtain ⟨u, hu⟩ : ∃ u, wr.cell? ⟨w.heap.size, k, none⟩ = some u := by
              rw [ho.cellAt k (by omega)]
              have hl := ho.1
              exact ⟨_, List.getElem?_eq_getElem (by omega)⟩
            have HO := Lib.hid (ho.stored k (bv (UInt8.ofNat (n / 256 ^ k))))
            have HB := Lib.hid hb
            have HC := Lib.hid (putCells_set n m k hlt)
            have HS := Lib.hid (shr_byte n k)
            clear ho hb
            go_wp2
            rw [HS.out, bv_ofNat]
            go_roundw
            case rel => exact ⟨k + 1, by omega, by go_num, HC.out ▸ HO.out.1, below_grown HB.out HO.out.2 (by intro q h; cases h; exact Nat.le_refl _)⟩
            case measure => simp [intOf]; omega
          · obtain rfl : k = m := by omega
            have HO := Lib.hid ho
            have HB := Lib.hid hb
            clear ho hb
            go_wp2
            go_ret
            refine ⟨_, rfl, ?_, HB.out⟩
            rw [HP.out]
            have h := HO.out
            unfold putCells at h
            rw [Nat.sub_self, List.replicate_zero, List.append_nil] at h
            exact got_own h
      · have t2 := shr_pos n m hlt
        have HP := Lib.hid (putS_none (n := n) (w := m) (by
          rintro ⟨_, _, _, h⟩
          apply hlt
          rw [Int.toNat_natCast] at h
          have e : ((256 ^ m : Nat) : Int) = (256 : Int) ^ m := by simp
          rw [← e] at h; omega))
        go_enter Tryz.func121, Tryz.ntmps121
        go_wp2_with (go_at_call 143; refine (numIsWidth_any _ _).mono ?_; rintro e w' ⟨rfl, rfl⟩)
        go_ret
        exact ⟨_, rfl, HP.out ▸ got_nil w, Below.refl _ _⟩
    · have HP := Lib.hid (putS_none (n := n) (w := w_) (by omega))
      go_enter Tryz.func121, Tryz.ntmps121
      go_wp2_with (go_at_call 143; refine (numIsWidth_any _ _).mono ?_; rintro e w' ⟨rfl, rfl⟩)
      go_ret
      exact ⟨_, rfl, HP.out ▸ got_nil w, Below.refl _ _⟩
  · have t1 : isW w_ = false := by unfold isW; simp; omega
    have HP := Lib.hid (putS_none (n := n) (w := w_) (by omega))
    go_enter Tryz.func121, Tryz.ntmps121
    go_wp2_with (go_at_call 143; refine (numIsWidth_any _ _).mono ?_; rintro e w' ⟨rfl, rfl⟩)
    go_ret
    exact ⟨_, rfl, HP.out ▸ got_nil w, Below.refl _ _⟩

set_option maxRecDepth 20000 in
set_option maxHeartbeats 1000000 in
theorem ref01Put_any (n w_ : Int) (w : World) (hn1 : -9223372036854775808 ≤ n) (hn2 : n ≤ 9223372036854775807) :
    Calls Tryz.prog 130 #[.int .i64 n, .int .i64 w_] w fun e w' => ∃ v, e = .returned v ∧ Got w' v (putS n w_) ∧ Below w.heap.size w w' := by
  by_cases hw : 1 ≤ w_
  · by_cases hw2 : w_ ≤ 4
    · by_cases h0 : 0 ≤ n
      · obtain ⟨m, rfl⟩ := Int.eq_ofNat_of_zero_le (show 0 ≤ w_ by omega)
        obtain ⟨n, rfl⟩ := Int.eq_ofNat_of_zero_le h0
        have hl := lim_pow m
        have hl2 : lim m = ((256 ^ m : Nat) : Int) := by rw [hl]; simp
        by_cases hlt : n < 256 ^ m
        · have t2 : (n : Int) < lim m := by rw [hl2]; omega
          have HP := Lib.hid (putS_some (n := n) (m := m) (by omega) (by omega) hlt)
          clear hlt hl hl2
          obtain ⟨i0, hi, hz0, hz1, hz2⟩ := info_parts info5
          go_enter Tryz.func130, Tryz.ntmps130
          go_wp2_with (go_at_call 147; refine (ref01Limit_any _ (by omega) _).mono ?_; rintro e w' ⟨rfl, rfl⟩)
          go_loopw [0, 5, 6] (fun z v i wr => ∃ k : Nat, k ≤ m ∧ i = .int .i64 k ∧ z = .int .i64 (n / 256 ^ k : Nat) ∧ wr.ownsRow w.heap.size 5 1 v k ((putL n k).map bv) ∧ Below w.heap.size w wr) (fun _ _ i _ => m - (intOf i).toNat)
          case atStart => exact ⟨0, Nat.zero_le _, rfl, by simp, World.ownsRow_nil _ _ _ _, Below.refl _ _⟩
          case round =>
            obtain ⟨k, hk, rfl, rfl, ho, hb⟩ := hrel
            have HB := Lib.hid hb
            have HO := Lib.hid ho
            clear hb ho
            have hle : n / 256 ^ k ≤ n := Nat.div_le_self _ _
            have hzz : n / 256 ^ k / 256 = n / 256 ^ (k + 1) := by rw [Nat.div_div_eq_div_mul, Nat.pow_succ]
            have HZ := Lib.hid hzz
            have HN := Lib.hid (putL_snoc k n)
            clear hzz
            generalize n / 256 ^ k = z at *
            by_cases hlt : k < m
            · go_wp2_with (at_builtin; refine wpList_append_own _ rfl _ _ 68 rfl w.heap.size 5 i0 (.int .u8 0) 1 1 Tryz.underlying68 hi hz0 hz1 hz2 rfl (by decide) _ _ _ rfl (HO.out.alloc _) ⟨wr.heap.size, 0, none⟩ 1 1 [bv (UInt8.ofNat z)] rfl rfl ?c1 ?c2 ?c3 ?c4 ?c5 ?_)
              case c1 => rw [bv_ofNat]; exact cell_one_new _ _ _
              case c2 => intro u hu; simp at hu; subst hu; rfl
              case c3 => unfold maxLen; omega
              case c4 => omega
              case c5 => have := HB.out.size; simp; omega
              intro v' w2 hown hgrow _
              have R : w2.ownsRow w.heap.size 5 1 v' (k + 1) ((putL n (k + 1)).map bv) ∧ Below w.heap.size w w2 :=
                ⟨by rw [HN.out, List.map_append]; exact hown, (HB.out.alloc HB.out.size _).grown hgrow (by have := HB.out.size; simp; omega) (fun q hq => (HO.out.lt q hq).1)⟩
              have HR := Lib.hid R
              clear R hown hgrow
              go_wp2
              rw [show (z : Int) / 256 = ((n / 256 ^ (k + 1) : Nat) : Int) by rw [← HZ.out]; rfl]
              go_roundw
              case rel => exact ⟨k + 1, by omega, by go_num, rfl, HR.out.1, HR.out.2⟩
              case measure => simp [intOf]; omega
            · obtain rfl : k = m := by omega
              go_wp2
              go_ret
              refine ⟨_, rfl, ?_, HB.out⟩
              rw [HP.out]
              exact got_own HO.out
        · have t2 : ¬ (n : Int) < lim m := by rw [hl2]; omega
          have HP := Lib.hid (putS_none (n := n) (w := m) (by
            rintro ⟨_, _, _, h⟩
            apply t2
            rw [hl2]; rw [Int.toNat_natCast] at h; simpa using h))
          clear hl hl2
          go_enter Tryz.func130, Tryz.ntmps130
          go_wp2_with (go_at_call 147; refine (ref01Limit_any _ (by omega) _).mono ?_; rintro e w' ⟨rfl, rfl⟩)
          go_ret
          exact ⟨_, rfl, HP.out ▸ got_nil w, Below.refl _ _⟩
      · have HP := Lib.hid (putS_none (n := n) (w := w_) (by omega))
        go_enter Tryz.func130, Tryz.ntmps130
        go_wp2
        go_ret
        exact ⟨_, rfl, HP.out ▸ got_nil w, Below.refl _ _⟩
    · have HP := Lib.hid (putS_none (n := n) (w := w_) (by omega))
      go_enter Tryz.func130, Tryz.ntmps130
      go_wp2
      go_ret
      exact ⟨_, rfl, HP.out ▸ got_nil w, Below.refl _ _⟩
  · have HP := Lib.hid (putS_none (n := n) (w := w_) (by omega))
    go_enter Tryz.func130, Tryz.ntmps130
    go_wp2
    go_ret
    exact ⟨_, rfl, HP.out ▸ got_nil w, Below.refl _ _⟩
end Go.Proofs.YtjbfopnkeclfgaaGreat
namespace Go.Proofs.YtjbfopnkeclfgaaGreat
set_option maxRecDepth 20000
open Go.RowKit

/-- 36 bytes: b, and bytes 0 behind. -/
def padL (b : List UInt8) : List UInt8 := b ++ List.replicate (36 - b.length) 0
theorem padL_length (b : List UInt8) (h : b.length ≤ 36) : (padL b).length = 36 := by simp [padL]; omega
def sealL (b : List UInt8) : List UInt8 := padL b ++ putL (crc (padL b)) 4
theorem sealL_length (b : List UInt8) (h : b.length ≤ 36) : (sealL b).length = 40 := by simp [sealL, padL_length b h, putL_length]
def sealB (b : List UInt8) : ByteArray := if b.length ≤ 36 then ⟨(sealL b).toArray⟩ else ⟨#[]⟩
def sealE (b : List UInt8) : Int := if b.length ≤ 36 then 0 else 1
def sealV (b : List UInt8) : Value := .tuple #[.string (sealB b), .int .i64 (sealE b)]
theorem putS_crc (l : List UInt8) : putS (crc l : Nat) 4 = putL (crc l) 4 := putS_some (n := crc l) (m := 4) (by omega) (by omega) (by have := crc_lt l; omega)
/-- 40 cells 0 that were just made. -/
def zeros (n : Nat) : Array Value := Array.replicate n (.int .u8 0)
theorem make_40 (w : World) : (Instr.makeSlice 68 (.int .i64 36) (.int .i64 40)).run Tryz.prog w = .ok (.slice (some ⟨w.heap.size, 0, none⟩) 36 40) (w.alloc (.cells (zeros 40) 5)) := by kernel_rfl
def zl (n : Nat) : List Value := List.replicate n (.int .u8 0)
theorem zl_length (n : Nat) : (zl n).length = n := by simp [zl]
theorem zeros_zl (n : Nat) : zeros n = (zl n).toArray := by simp [zeros, zl]
theorem pad_splice (b : List UInt8) (h : b.length ≤ 36) : splice (zl 40) 0 (b.map bv) = (padL b).map bv ++ zl 4 := by
  have e : bv 0 = .int .u8 0 := rfl
  simp only [splice, padL, zl, List.map_append, List.map_replicate, e, List.take_zero, List.nil_append, Nat.zero_add, List.length_map, List.drop_replicate, List.append_assoc, List.replicate_append_replicate]
  rw [show 36 - b.length + 4 = 40 - b.length by omega]
/-- What lies in the row behind the copy. -/
theorem pad_own {w : World} {g : Nat} {b : List UInt8} (h : b.length ≤ 36) (hg : w.heap[g]? = some (.cells (splice (zl 40) 0 (b.map bv)).toArray 5 (0, 0))) :
    w.ownsRow g 5 1 (.slice (some ⟨g, 0, none⟩) 36 40) 36 ((padL b).map bv) := by
  rw [pad_splice b h] at hg
  refine ⟨by simp [padL_length b h], .inr ⟨g, 40, _, rfl, Nat.le_refl _, hg, by omega, by unfold maxLen; omega, by simp [padL_length b h, zl_length], ?_⟩⟩
  simp [padL_length b h]
theorem bytes_oneCell (l : List UInt8) : ∀ u ∈ l.map bv, u.oneCell' = true := by
  intro u hu
  obtain ⟨x, _, rfl⟩ := List.mem_map.1 hu
  rfl
theorem Cells.some_ {w : World} {A : Option Addr} {xs : List Value} (h : Cells w A xs) (hp : 0 < xs.length) : ∃ ad, A = some ad ∧ ∀ j v, xs[j]? = some v → w.cell? (ad.add j) = some v := by
  obtain ⟨b, off, rfl, _, hc⟩ := h (by intro e; subst e; simp at hp)
  refine ⟨_, rfl, fun j v hv => ?_⟩
  have e : (⟨b, off, none⟩ : Addr).add j = ⟨b, off + j, none⟩ := by unfold Addr.add; split <;> simp_all
  rw [e]; exact hc j v hv

theorem own_below {w w' : World} {B e s n : Nat} {v : Value} {xs : List Value} (h : w.ownsRow B e s v n xs) (hb : Below w.heap.size w w') : w'.ownsRow B e s v n xs :=
  h.kept (row := none) ⟨hb.os, hb.tape, hb.output, hb.size, fun k hk _ => hb.block k hk⟩ (by cases hv : v.ownBlock <;> simp)
theorem own_cells {w : World} {B n : Nat} {A : Option Addr} {k c : Nat} {l : List UInt8} (h : w.ownsRow B 5 1 (.slice A k c) n (l.map bv)) : Cells w A (l.map bv) := by
  obtain ⟨A', cap', h', _, _, _, h3⟩ := got_own h
  obtain rfl : A = A' := (Value.slice.inj h').1
  exact h3
/-- A slice of bytes made a string. -/
theorem conv_str {w : World} {A : Option Addr} {l : List UInt8} {c : Nat} (h : Cells w A (l.map bv)) (hp : 0 < l.length) :
    (convert 68 9 (.slice A l.length c)).run Tryz.prog w = .ok (.string ⟨l.toArray⟩) w := by
  obtain ⟨ad, rfl, hc⟩ := h.some_ (by simpa using hp)
  exact run_convert_bytes_back (P := Tryz.prog) w 68 9 5 ad c l Tryz.underlying68 Tryz.underlying5 Tryz.underlying9 (fun j hj => hc j _ (by simp [bv, hj]))

set_option maxHeartbeats 1000000 in
theorem numSeal_any (A : Option Addr) (l : List UInt8) (c : Nat) (w : World) (hl : l.length ≤ maxLen) (hA : Cells w A (l.map bv)) :
    Calls Tryz.prog 122 #[.slice A l.length c] w fun e w' => e = .returned (sealV l) ∧ Below w.heap.size w w' := by
  unfold maxLen at hl
  by_cases h36 : l.length ≤ 36
  · have hmk := make_40
    have HV := Lib.hid (show sealV l = .tuple #[.string ⟨(sealL l).toArray⟩, .int .i64 0] by unfold sealV sealB sealE; rw [if_pos h36, if_pos h36])
    have hA1 : Cells (w.alloc (.cells (zeros 40) 5)) A (l.map bv) := hA.below ((Below.refl _ _).alloc (Nat.le_refl _) _)
    obtain ⟨i0, hi, hz0, hz1, hz2⟩ := info_parts info5
    go_enter Tryz.func122, Tryz.ntmps122
    go_wp2_with (with_reducible refine wpList_copy_splice rfl _ _ _ _ rfl 5 Tryz.underlying68 ?k0 _ A _ _ _ _ rfl rfl w.heap.size 0 (zl 40) 5 ?k1 (l.map bv) ?k2 ?k3 ?k4 (bytes_oneCell l) w.heap.size w ?k5 (Nat.le_refl _) ?_)
    case k0 => rw [hi]; simp [hz1]
    case k1 => rw [← zeros_zl]; exact heap_alloc_new w _
    case k2 => simp [Nat.min_eq_left h36]
    case k3 => first | (intro hp; exact hA1.some_ hp) | (intro hp; simpa using hA1.some_ (by simpa using hp))
    case k4 => rw [zl_length, List.length_map]; omega
    case k5 => exact (Below.refl _ _).alloc (Nat.le_refl _) _
    intro w1 hg hb
    have HO := Lib.hid (pad_own h36 hg.out)
    have HB := Lib.hid hb
    clear hg hb hA1 hA
    have hlp := padL_length l h36
    have HG := Lib.hid (got_own HO.out)
    have HL := Lib.hid hlp
    clear hlp
    generalize hp : padL l = p at *
    have HPL := Lib.hid hp; clear hp
    have hcl := crc_lt p
    have HC : Cells w1 (some ⟨w.heap.size, 0, none⟩) (p.map bv) := by
      obtain ⟨A', cap', h, _, _, _, h3⟩ := HG.out
      have : A' = some ⟨w.heap.size, 0, none⟩ := by simpa using (Value.slice.inj h).1.symm
      rw [this] at h3; exact h3
    have HSum : Calls Tryz.prog 70 #[.slice (some ⟨w.heap.size, 0, none⟩) 36 40] w1 fun e w' => e = .returned (.int .i64 (crc p : Nat)) ∧ w1 = w' := by
      have := numSum_any (some ⟨w.heap.size, 0, none⟩) p 40 w1 (by rw [HL.out]; unfold maxLen; omega) HC
      rw [HL.out] at this; exact this
    have HSum := Lib.hid HSum
    clear HC
    go_wp2_with (first | (at_builtin; refine stop_here ?_) | (go_at_call 70; refine HSum.out.mono ?_; rintro e w' ⟨rfl, rfl⟩) | (go_at_call 121; refine (numPut_any _ _ _ (by omega) (by omega)).mono ?_; rintro e w2 ⟨v, rfl, hgot, hb2⟩; have HG2 := Lib.hid hgot; have HB2 := Lib.hid hb2; clear hgot hb2))
    refine stop_on ?_
    have hgot := HG2.out
    rw [putS_crc] at hgot
    obtain ⟨A2, cap2, rfl, hc2, _, hnil, hcells⟩ := hgot
    have h4 := putL_length 4 (crc p)
    rw [h4] at hc2
    rw [h4]
    refine wpList_append_fits_any _ rfl _ _ 68 rfl w.heap.size 5 i0 1 Tryz.underlying68 hi hz1 w.heap.size 36 40 (p.map bv) rfl (own_below HO.out HB2.out) A2 4 cap2 ((putL (crc p) 4).map bv) rfl (by simp [h4]) ?k6 ?k7 (bytes_oneCell _) (by omega) ?_
    case k6 => intro h; have := hnil h; omega
    case k7 => intro ad had j u hu; obtain ⟨ad', h', hc⟩ := hcells.some_ (by simp [h4]); rw [had] at h'; cases h'; exact hc j u hu
    intro w3 hown hgrow
    rw [← List.map_append] at hown
    have hl40 : (p ++ putL (crc p) 4).length = 40 := by rw [List.length_append, HL.out, h4]
    have hcv := conv_str (c := 40) (own_cells hown) (by rw [hl40]; omega)
    rw [hl40] at hcv
    have HB3 := Lib.hid (show Below w.heap.size w w3 from (HB.out.trans (HB2.out.mono HB.out.size)).grown hgrow (by have := HB.out.size; have := HB2.out.size; omega) (by intro k hk; cases hk; exact Nat.le_refl _))
    have HV2 := Lib.hid (show sealV l = .tuple #[.string ⟨(p ++ putL (crc p) 4).toArray⟩, .int .i64 0] by rw [HV.out]; unfold sealL; rw [HPL.out])
    clear hown hgrow hcells hnil HO HG HSum hl40 h4
    generalize (p ++ putL (crc p) 4).toArray = z at *
    go_wp2
    go_ret2
    exact ⟨congrArg Ending.returned HV2.out.symm, HB3.out⟩
  · have HV := Lib.hid (show sealV l = .tuple #[.string ⟨#[]⟩, .int .i64 1] by unfold sealV sealB sealE; rw [if_neg h36, if_neg h36])
    go_enter Tryz.func122, Tryz.ntmps122
    go_wp2
    go_ret2
    exact ⟨congrArg Ending.returned HV.out.symm, Below.refl _ _⟩
end Go.Proofs.YtjbfopnkeclfgaaGreat
