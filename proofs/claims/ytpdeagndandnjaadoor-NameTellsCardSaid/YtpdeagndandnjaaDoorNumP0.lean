/- Plain facts on numbers as bytes and on the check sum; no program in sight. -/
import Derived.WalkKit
import Derived.WalkSpells
import Derived.WalkLawsBesides
import Derived.Lib.Hide
namespace Go.Proofs.YtpdeagndandnjaaDoor
set_option maxRecDepth 20000
open Go.RowKit

/-- A mark at which the walk stands still. -/
def Stop (p : Prop) : Prop := p
theorem stop_here {p : Prop} (h : Stop p) : p := h
theorem stop_on {p : Prop} (h : p) : Stop p := h

/-- A byte as a value. -/
def bv (u : UInt8) : Value := .int .u8 (u.toNat : Int)

/-- The cells xs stand from A on (nothing is asked where there are none). -/
def Cells (w : World) (A : Option Addr) (xs : List Value) : Prop :=
  xs ≠ [] → ∃ b off, A = some ⟨b, off, none⟩ ∧ b < w.heap.size ∧ ∀ j u, xs[j]? = some u → w.cell? ⟨b, off + j, none⟩ = some u

theorem Cells.below {w w' : World} {A : Option Addr} {xs : List Value} (h : Cells w A xs) (hb : Below w.heap.size w w') : Cells w' A xs := fun hx => by
  obtain ⟨b, off, rfl, hlt, hc⟩ := h hx
  exact ⟨b, off, rfl, Nat.lt_of_lt_of_le hlt hb.size, fun j u hu => (hb.cell (p := ⟨b, off + j, none⟩) hlt).trans (hc j u hu)⟩

/-- Where a byte stands. -/
theorem Cells.byte {w : World} {A : Option Addr} {l : List UInt8} (h : Cells w A (l.map bv)) {k : Nat} (hk : k < l.length) :
    ∃ b off, A = some ⟨b, off, none⟩ ∧ b < w.heap.size ∧ ∀ j (hj : j < l.length), w.cell? ⟨b, off + j, none⟩ = some (.int .u8 ((l[j]'hj).toNat : Int)) := by
  obtain ⟨b, off, rfl, hlt, hc⟩ := h (by intro e; rw [List.map_eq_nil_iff] at e; subst e; simp at hk)
  exact ⟨b, off, rfl, hlt, fun j hj => hc j _ (by simp [bv, hj])⟩

/-- The number that bytes tell, the lowest first. -/
def leNat : List UInt8 → Nat
  | [] => 0
  | u :: r => u.toNat + 256 * leNat r
theorem leNat_lt (l : List UInt8) : leNat l < 256 ^ l.length := by
  induction l with
  | nil => simp [leNat]
  | cons u r ih =>
    have := u.toNat_lt
    simp only [leNat, List.length_cons, Nat.pow_succ]
    have : 256 * leNat r + 256 ≤ 256 * 256 ^ r.length := by omega
    omega
theorem leNat_snoc (l : List UInt8) (u : UInt8) : leNat (l ++ [u]) = leNat l + 256 ^ l.length * u.toNat := by
  induction l with
  | nil => simp [leNat]
  | cons v r ih => simp only [List.cons_append, leNat, ih, List.length_cons, Nat.pow_succ]; rw [Nat.mul_add]; rw [Nat.mul_comm (256 ^ r.length) 256, Nat.mul_assoc]; omega

def putL (n : Nat) : Nat → List UInt8
  | 0 => []
  | w+1 => UInt8.ofNat n :: putL (n / 256) w
theorem putL_length (w : Nat) : ∀ n, (putL n w).length = w := by
  induction w with
  | zero => intro n; rfl
  | succ w ih => intro n; simp [putL, ih]
theorem leNat_putL (w : Nat) : ∀ n, leNat (putL n w) = n % 256 ^ w := by
  induction w with
  | zero => intro n; simp [putL, leNat, Nat.mod_one]
  | succ w ih =>
    intro n
    simp only [putL, leNat, ih, UInt8.toNat_ofNat']
    have e := Nat.mod_mul (a := 256) (b := 256 ^ w) (x := n)
    rw [show 256 ^ (w + 1) = 256 * 256 ^ w by rw [Nat.pow_succ, Nat.mul_comm], e]
theorem putL_snoc (w : Nat) : ∀ n, putL n (w + 1) = putL n w ++ [UInt8.ofNat (n / 256 ^ w)] := by
  induction w with
  | zero => intro n; simp [putL]
  | succ w ih =>
    intro n
    rw [putL, ih]
    simp only [putL, List.cons_append]
    rw [Nat.div_div_eq_div_mul, Nat.pow_succ, Nat.mul_comm 256]
theorem putL_leNat (l : List UInt8) : putL (leNat l) l.length = l := by
  induction l with
  | nil => rfl
  | cons u r ih =>
    have h := u.toNat_lt
    simp only [leNat, List.length_cons, putL]
    rw [show (u.toNat + 256 * leNat r) / 256 = leNat r by omega, ih]
    congr 1
    apply UInt8.toNat_inj.1
    simp

/-- P1.1. -/
def putS (n w : Int) : List UInt8 := if 1 ≤ w ∧ w ≤ 4 ∧ 0 ≤ n ∧ n < 256 ^ w.toNat then putL n.toNat w.toNat else []
def takeS (l : List UInt8) (at_ w : Int) : Option Nat := if 1 ≤ w ∧ w ≤ 4 ∧ 0 ≤ at_ ∧ at_ + w ≤ l.length then some (leNat ((l.drop at_.toNat).take w.toNat)) else none

/-- P1.2. -/
def foldS (c : Nat) : Nat := if c % 2 = 1 then (c / 2) ^^^ 3988292384 else c / 2
def foldN : Nat → Nat → Nat
  | 0, c => c
  | n+1, c => foldN n (foldS c)
theorem foldS_lt (c : Nat) (h : c < 4294967296) : foldS c < 4294967296 := by
  unfold foldS; split
  · exact Nat.xor_lt_two_pow (n := 32) (by omega) (by omega)
  · omega
theorem foldN_lt (n : Nat) : ∀ (c : Nat), c < 4294967296 → foldN n c < 4294967296 := by
  induction n with
  | zero => intro c h; exact h
  | succ n ih => intro c h; exact ih _ (foldS_lt c h)
theorem foldN_succ (n : Nat) : ∀ c, foldN (n + 1) c = foldS (foldN n c) := by
  induction n with
  | zero => intro c; rfl
  | succ n ih => intro c; rw [foldN, ih]; rfl
theorem xor_lt32 {a b : Nat} (ha : a < 4294967296) (hb : b < 4294967296) : a ^^^ b < 4294967296 := Nat.xor_lt_two_pow (n := 32) ha hb
def regB (c : Nat) (u : UInt8) : Nat := foldN 8 (c ^^^ u.toNat)
def reg (c : Nat) (l : List UInt8) : Nat := l.foldl regB c
theorem regB_lt (c : Nat) (u : UInt8) (h : c < 4294967296) : regB c u < 4294967296 := foldN_lt _ _ (xor_lt32 h (by have := u.toNat_lt; omega))
theorem reg_lt (l : List UInt8) : ∀ (c : Nat), c < 4294967296 → reg c l < 4294967296 := by
  induction l with
  | nil => intro c h; exact h
  | cons u r ih => intro c h; exact ih _ (regB_lt c u h)
theorem reg_snoc (l : List UInt8) (u : UInt8) (c : Nat) : reg c (l ++ [u]) = regB (reg c l) u := by simp [reg]
theorem reg_take (l : List UInt8) (k : Nat) (h : k < l.length) (c : Nat) : reg c (l.take (k + 1)) = regB (reg c (l.take k)) l[k] := by
  rw [List.take_succ_eq_append_getElem h, reg_snoc]
def crc (l : List UInt8) : Nat := reg 4294967295 l ^^^ 4294967295
theorem crc_lt (l : List UInt8) : crc l < 4294967296 := xor_lt32 (reg_lt l _ (by omega)) (by omega)

theorem ret_int {k : IntKind} {a b : Int} (h : a = b) : Ending.returned (.int k a) = .returned (.int k b) := by rw [h]

theorem ret_bool {a b : Bool} (h : a = b) : Ending.returned (.bool a) = .returned (.bool b) := by rw [h]
end Go.Proofs.YtpdeagndandnjaaDoor
