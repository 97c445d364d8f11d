/- Walks of Of, Place, Done, On and Same of package todo. -/
import Derived.Test.YticppegploniaaaTdP
import Derived.Deep.QuietTactic
import Derived.BigQuiet
namespace Go.Proofs.Yticppegploniaaa
open Go.RowKit

theorem log2_shl {m e : Nat} (hm : m ≠ 0) : (m <<< e).log2 = m.log2 + e := by
  have h1 : m <<< e ≠ 0 := by rw [Nat.shiftLeft_eq]; exact Nat.mul_ne_zero hm (by have : 0 < 2 ^ e := Nat.pow_pos (by omega); omega)
  rw [Nat.log2_eq_iff h1, Nat.shiftLeft_eq, Nat.pow_add, show m.log2 + e + 1 = (m.log2 + 1) + e by omega, Nat.pow_add]
  have hp : 0 < 2 ^ e := Nat.pow_pos (by omega)
  have h2 := (Nat.log2_eq_iff hm).1 rfl
  exact ⟨Nat.mul_le_mul_right _ h2.1, Nat.mul_lt_mul_of_pos_right h2.2 hp⟩
theorem cut_shl (m e : Nat) (h : e ≤ (m <<< e).log2 + 2) : Ieee.Toward.cut .even false (m <<< e) e = m := by
  unfold Ieee.Toward.cut
  rw [Nat.min_eq_left h]
  have h1 : (1 : Nat) <<< e = 2 ^ e := by rw [Nat.shiftLeft_eq, Nat.one_mul]
  have hp : 0 < 2 ^ e := Nat.pow_pos (by omega)
  simp only [h1, Nat.shiftLeft_eq, Nat.mul_div_cancel _ hp, Nat.mul_mod_left]
  have h2 : decide (2 ^ e < 2 * 0) = false := decide_eq_false (by omega)
  have h3 : (2 ^ e == 2 * 0) = false := by rw [beq_eq_false_iff_ne]; omega
  rw [h2, h3]
  rfl
/-- A finite number that is not below nought, and nought. -/
theorem add_nought {x : Nat} (hx : x < 2047 * 2 ^ 52) : FloatKind.f64.format.add x 0 = some x := by
  have hl : (FloatKind.f64.format).leastPlace = -1074 := by decide
  have hb : (FloatKind.f64.format).binade = 2 ^ 52 := by decide
  have hw : (FloatKind.f64.format).signWeight = 2 ^ 63 := by decide
  have hi : (FloatKind.f64.format).infRung = 2047 * 2 ^ 52 := by decide
  have hf : (FloatKind.f64.format).fractionBits = 52 := rfl
  have h0 : FloatKind.f64.format.read 0 = .number false 0 (-1074) := by decide
  have key : ∃ m e : Nat, FloatKind.f64.format.read x = .number false m (-1074 + (e : Int)) ∧ e * 2 ^ 52 + m = x ∧ m < 2 ^ 53 ∧ (e = 0 ∨ 2 ^ 52 ≤ m) := by
    have hs : (x / 2 ^ 63 % 2 == 1) = false := by rw [beq_eq_false_iff_ne]; omega
    have hr : x % 2 ^ 63 = x := by omega
    unfold Ieee.Format.read
    simp only [hl, hb, hw, hi, hs, hr]
    rcases Nat.lt_or_ge x (2 ^ 52) with h | h
    · rw [if_pos h]
      exact ⟨x, 0, by simp, by omega, by omega, .inl rfl⟩
    · rw [if_neg (by omega), if_pos hx]
      exact ⟨2 ^ 52 + x % 2 ^ 52, x / 2 ^ 52 - 1, rfl, by omega, by omega, .inr (by omega)⟩
  obtain ⟨m, e, hr, hsum, hm, hc⟩ := key
  unfold Ieee.Format.add
  rw [hr, h0]
  have hbase : min (-1074 + (e : Int)) (-1074) = -1074 := by omega
  have htot : Ieee.signed false m (-1074 + (e : Int) - -1074).toNat + Ieee.signed false 0 (-1074 - -1074 : Int).toNat = ((m <<< e : Nat) : Int) := by
    rw [show (-1074 + (e : Int) - -1074).toNat = e by omega]
    unfold Ieee.signed
    simp
  simp only [Ieee.Datum.sum, hbase, htot, Option.map_some, Ieee.Format.write, Int.natAbs_natCast]
  have hneg : (if ((m <<< e : Nat) : Int) = 0 then (false && false) else decide (((m <<< e : Nat) : Int) < 0)) = false := by
    split
    · rfl
    · exact decide_eq_false (by have := Int.natCast_nonneg (m <<< e); omega)
  rw [hneg]
  unfold Ieee.Format.nearest
  by_cases hm0 : m = 0
  · subst hm0
    have : e = 0 := by rcases hc with h | h <;> omega
    subst this
    obtain rfl : x = 0 := by simpa using hsum.symm
    rw [if_pos (show (0 : Nat) <<< 0 = 0 from rfl)]
    simp [Ieee.Format.word]
  have hme : m <<< e ≠ 0 := by rw [Nat.shiftLeft_eq]; exact Nat.mul_ne_zero hm0 (by have : 0 < 2 ^ e := Nat.pow_pos (by omega); omega)
  rw [if_neg hme]
  have hlog : m.log2 < 53 := (Nat.log2_lt hm0).2 hm
  have hlast : max (-1074 + ((m <<< e).log2 : Int) - ((52 : Nat) : Int)) (-1074) = -1074 + (e : Int) := by
    rw [log2_shl hm0]
    rcases hc with h | h
    · subst h; omega
    · have : 52 ≤ m.log2 := (Nat.le_log2 hm0).2 h
      omega
  simp only [hl, hb, hf, hi, hlast]
  rw [show (-1074 - (-1074 + (e : Int))).toNat = 0 by omega, show (-1074 + (e : Int) - -1074).toNat = e by omega, Nat.shiftLeft_zero, cut_shl m e (by rw [log2_shl hm0]; omega), hsum]
  unfold Ieee.Format.word
  rw [Nat.min_eq_left (by omega)]
  rfl
def chkS : Nat → Bool
  | 0 => true
  | n + 1 => decide (fN n < 2047 * 2 ^ 52) && chkS n
theorem chkS_all : chkS 2600 = true := by decide +kernel
theorem chkS_of : ∀ (m n : Nat), n < m → chkS m = true → fN n < 2047 * 2 ^ 52
  | 0, n, h, _ => by omega
  | m + 1, n, h, hc => by
    unfold chkS at hc
    rw [Bool.and_eq_true] at hc
    rcases Nat.lt_or_ge n m with h' | h'
    · exact chkS_of m n h' hc.2
    · obtain rfl : n = m := by omega
      exact of_decide_eq_true hc.1
theorem fN_add0 {n : Nat} (h : n < 2600) : floatBits .add .f64 (fN n) 0 = some (fN n) := add_nought (chkS_of 2600 n h chkS_all)
theorem fN_one : fN 1 = 4607182418800017408 := by decide +kernel
theorem sum_on {p k : Nat} (hp : p < 2600) (hk : k < 2600) : cSumBits .add .f64 (fN p) (fN k) 0 4607182418800017408 = some (fN p, fN (k + 1)) := by
  unfold cSumBits
  rw [fN_add0 hp, ← fN_one, isWh_on hk (isWh_fN k)]
  rfl
set_option maxHeartbeats 400000 in
theorem todoOf_any (p k : Nat) (w : World) :
    Calls Try.prog 5 #[.int .i64 p, .int .i64 k] w fun e w' => e = .returned (.complex .f64 (fN p) (fN k)) ∧ w = w' := by
  go_enter Try.func5, Try.ntmps5
  go_wp2
  go_ret
  exact ⟨rfl, rfl⟩
set_option maxHeartbeats 400000 in
theorem todoPlace_any (t : Tk) (p : Nat) (w : World) (hp : p < 2600) (h : isWh t.1 p) :
    Calls Try.prog 8 #[.complex .f64 t.1 t.2] w fun e w' => e = .returned (.int .i64 p) ∧ w = w' := by
  have hi := isWh_int hp h
  have hrun := fun w => run_convert_float_int (P := Try.prog) w 30 3 .f64 .i64 t.1 p (by rw [Try.underlying30]; rfl) Try.underlying3 hi
  go_enter Try.func8, Try.ntmps8
  go_wp2
  go_ret
  exact ⟨rfl, rfl⟩
set_option maxHeartbeats 400000 in
theorem todoDone_any (t : Tk) (k : Nat) (w : World) (hk : k < 2600) (h : isWh t.2 k) :
    Calls Try.prog 9 #[.complex .f64 t.1 t.2] w fun e w' => e = .returned (.int .i64 k) ∧ w = w' := by
  have hi := isWh_int hk h
  have hrun := fun w => run_convert_float_int (P := Try.prog) w 30 3 .f64 .i64 t.2 k (by rw [Try.underlying30]; rfl) Try.underlying3 hi
  go_enter Try.func9, Try.ntmps9
  go_wp2
  go_ret
  exact ⟨rfl, rfl⟩
set_option maxHeartbeats 400000 in
theorem todoOn_is (p k : Nat) (w : World) (hp : p < 2600) (hk : k < 2600) :
    Calls Try.prog 6 #[.complex .f64 (fN p) (fN k)] w fun e w' => e = .returned (.complex .f64 (fN p) (fN (k + 1))) ∧ w = w' := by
  have hi := sum_on hp hk
  have hrun := fun w => run_complex_sum (P := Try.prog) w .add (.inl rfl) 24 .f64 (fN p) (fN k) 0 4607182418800017408 (fN p) (fN (k + 1)) hi
  go_enter Try.func6, Try.ntmps6
  go_wp2
  go_ret
  exact ⟨rfl, rfl⟩
/-- Are two tasks the same? -/
def sameK (a b : Tk) : Bool := feq a.1 b.1 && feq a.2 b.2
def sameT : List Tk → List Tk → Bool
  | [], [] => true
  | a :: l, b :: m => sameK a b && sameT l m
  | _, _ => false
theorem sameT_len : ∀ {l m : List Tk}, sameT l m = true → l.length = m.length
  | [], [], _ => rfl
  | a :: l, b :: m, h => by
    unfold sameT at h
    rw [Bool.and_eq_true] at h
    simp [sameT_len h.2]
  | [], _ :: _, h => by simp [sameT] at h
  | _ :: _, [], h => by simp [sameT] at h
theorem sameT_all : ∀ {l m : List Tk}, l.length = m.length → (∀ k (hk : k < l.length) (hk2 : k < m.length), sameK l[k] m[k] = true) → sameT l m = true
  | [], [], _, _ => rfl
  | a :: l, b :: m, hl, h => by
    unfold sameT
    rw [Bool.and_eq_true]
    exact ⟨h 0 (by simp) (by simp), sameT_all (by simpa using hl) (fun k hk hk2 => h (k + 1) (by simp; omega) (by simp; omega))⟩
  | [], _ :: _, hl, _ => by simp at hl
  | _ :: _, [], hl, _ => by simp at hl
theorem sameT_at : ∀ {l m : List Tk}, sameT l m = true → ∀ k (hk : k < l.length) (hk2 : k < m.length), sameK l[k] m[k] = true
  | a :: l, b :: m, h, 0, _, _ => by unfold sameT at h; rw [Bool.and_eq_true] at h; exact h.1
  | a :: l, b :: m, h, k + 1, hk, hk2 => by
    unfold sameT at h
    rw [Bool.and_eq_true] at h
    exact sameT_at h.2 k (by simpa using hk) (by simpa using hk2)
  | [], _, _, _, hk, _ => by simp at hk
theorem sameT_no {l m : List Tk} {k : Nat} (hk : k < l.length) (hk2 : k < m.length) (h : sameK l[k] m[k] = false) : sameT l m = false := by
  cases hs : sameT l m
  · rfl
  · rw [sameT_at hs k hk hk2] at h; cases h
set_option maxHeartbeats 1600000 in
theorem slEqual_any (A B : Option Addr) (a b : List Tk) (n m c d : Nat) (w : World) (hn : n = a.length) (hm : m = b.length) (hA : Sl w A n c (a.map cxv)) (hB : Sl w B m d (b.map cxv)) :
    Calls Try.prog 13 #[.slice A n c, .slice B m d] w fun e w' => e = .returned (.bool (sameT a b)) ∧ ∃ q, w' = w.drewN q := by
  have hl := hA.len
  unfold maxLen at hl
  have HA := Lib.hid hA.cells
  have HB := Lib.hid hB.cells
  have HNA := Lib.hid hn
  have HNB := Lib.hid hm
  clear hA hB hn hm
  by_cases hnm : n = m
  rotate_left
  · have e2 : ((n : Int) != (m : Int)) = true := bne_iff_ne.2 (by omega)
    have HE := Lib.hid (show sameT a b = false from by
      cases hs : sameT a b
      · rfl
      · have := sameT_len hs; rw [← HNA.out, ← HNB.out] at this; exact absurd this hnm)
    clear hnm
    go_enter Try.func13, Try.ntmps13
    go_wp2
    go_ret
    exact ⟨ret_bool HE.out.symm, 0, rfl⟩
  subst hnm
  have e2 : ((n : Int) != (n : Int)) = false := by simp
  go_enter Try.func13, Try.ntmps13
  go_wp2
  go_loopw [13] (fun i wr => ∃ k q : Nat, k ≤ n ∧ i = .int .i64 k ∧ wr = w.drewN q ∧ ∀ j (hj : j < a.length) (hj2 : j < b.length), j < k → sameK a[j] b[j] = true) (fun i _ => n - (intOf i).toNat)
  case atStart => exact ⟨0, 0, Nat.zero_le _, rfl, rfl, fun _ _ _ h => by omega⟩
  case round =>
    obtain ⟨k, q, hk, rfl, rfl, hb⟩ := hrel
    have HBB := Lib.hid hb
    clear hb
    rcases Nat.lt_or_ge k n with hlt | hlt
    · have hka : k < a.length := by rw [← HNA.out]; exact hlt
      have hkb : k < b.length := by rw [← HNB.out]; exact hlt
      obtain ⟨ba, oa, rfl, _, hca⟩ := HA.out.tk hka
      obtain ⟨bb, ob, rfl, _, hcb⟩ := HB.out.tk hkb
      have hcka := hca k hka
      have hckb := hcb k hkb
      have hki : (k : Int) < (n : Int) := by omega
      have HY := Lib.hid (fun h => sameT_no hka hkb h)
      have HN := Lib.hid (fun (h : sameK a[k] b[k] = true) => (show ∀ j (hj : j < a.length) (hj2 : j < b.length), j < k + 1 → sameK a[j] b[j] = true from fun j hj hj2 hjk => by
        rcases Nat.lt_or_ge j k with h' | h'
        · exact HBB.out j hj hj2 h'
        · obtain rfl : j = k := by omega
          exact h))
      have HO := Lib.hid (show sameK a[k] b[k] = ((FloatKind.f64.format.order a[k].1 b[k].1 == some .eq) && (FloatKind.f64.format.order a[k].2 b[k].2 == some .eq)) from rfl)
      clear hca hcb HBB
      generalize sameK a[k] b[k] = s at *
      generalize a[k] = x at *
      generalize b[k] = y at *
      obtain ⟨x1, x2⟩ := x
      obtain ⟨y1, y2⟩ := y
      simp only at hcka hckb HO
      have ho := HO.out.symm
      clear HO
      cases s
      · have HE := Lib.hid (HY.out rfl)
        clear HY HN
        go_wp2
        go_quiet (fail)
        go_wp2
        go_ret
        exact ⟨ret_bool HE.out.symm, q + nq, by rw [World.drewN_drewN]⟩
      · have HE := Lib.hid (HN.out rfl)
        clear HY HN
        go_wp2
        go_quiet (fail)
        go_wp2
        go_roundw
        case rel => exact ⟨k + 1, q + nq, by omega, by go_num, rfl, HE.out⟩
        case measure => simp [intOf]; omega
    · obtain rfl : n = k := by omega
      have HE := Lib.hid (sameT_all (l := a) (m := b) (by rw [← HNA.out, ← HNB.out]) (fun j hj hj2 => HBB.out j hj hj2 (by rw [HNA.out]; exact hj)))
      clear hlt
      go_wp2
      go_ret
      exact ⟨ret_bool HE.out.symm, q, rfl⟩
end Go.Proofs.Yticppegploniaaa
