/- Area, Base and Cells of package plan as it landed. Cells of package plan as it landed: a search. Whole numbers among floats of 64 bits, and which floats are the same as they; no program in sight. Tasks, as plain pairs of floats (TodoP and TdP once more, over no text of num: for seats that hold all layers). Walks of Of, Place, Done, On and Same of package todo. Whole numbers below 2 ^ 53 among floats of 64 bits: how they are read, compared, and made whole; no program in sight. -/
import Derived.Test.YtnlkakbpcdfgfaaGreatK14
import Derived.Deep.RegionHeld3
import Derived.Test.YtnlkakbpcdfgfaaGreatK02
import Derived.Laws.FloatArith
import Derived.Laws.ComplexArith
import Derived.Laws.Cover3
import Derived.Test.YtnlkakbpcdfgfaaGreatK03
import Derived.Test.YtnlkakbpcdfgfaaGreatRows
import Derived.WalkKit
import Derived.WalkSpells
import Derived.WalkLawsBesides
import Derived.Lib.Hide
import Derived.Deep.QuietTactic
import Derived.BigQuiet
namespace Go.Proofs.YtnlkakbpcdfgfaaGreat
set_option maxRecDepth 20000
open Go.RowKit

set_option maxHeartbeats 800000 in
theorem layArea_any (n : Nat) (w : World) (hn : n ≤ 100000) :
    Calls Tryz.prog 82 #[.agg #[.int .i64 n]] w fun e w' => e = .returned (.int .i64 (areaP n : Nat)) ∧ Ext w w' := by
  have hb := Bx.new w #[.int .i64 n] 79
  have HX := Lib.hid ((Ext.refl w).alloc (.cells #[.int .i64 n] 79))
  have p0 := hb.at 0 _ rfl
  have e1 : IntKind.i64.wrap (2 * (n : Int)) = 2 * (n : Int) := by rw [IntKind.wrap_i64]; omega
  have e2 : IntKind.i64.wrap (1631 + 2 * (n : Int)) = 1631 + 2 * (n : Int) := by rw [IntKind.wrap_i64]; omega
  have e3 : IntKind.i64.wrap (1631 + 2 * (n : Int) + 40) = 1631 + 2 * (n : Int) + 40 := by rw [IntKind.wrap_i64]; omega
  have e4 : IntKind.i64.wrap (1631 + 2 * (n : Int) + 40 - 1) = 1631 + 2 * (n : Int) + 40 - 1 := by rw [IntKind.wrap_i64]; omega
  have ha : (1631 + 2 * (n : Int) + 40 - 1).tdiv 40 = (areaP n : Int) := by unfold areaP; rw [Int.tdiv_eq_ediv_of_nonneg (by omega)]; omega
  have hb2 : areaP n ≤ 10000 := by unfold areaP; omega
  have e5 : IntKind.i64.wrap (areaP n : Int) = (areaP n : Int) := by rw [IntKind.wrap_i64]; omega
  go_enter Tryz.func82, Tryz.ntmps82
  go_wp2_with fail
  go_ret
  exact ⟨by first | rfl | (congr 2; omega), HX.out⟩
set_option maxHeartbeats 800000 in
theorem layBase_any (n : Nat) (w : World) (hn : n ≤ 100000) :
    Calls Tryz.prog 52 #[.agg #[.int .i64 n]] w fun e w' => e = .returned (.int .i64 (baseP n : Nat)) ∧ Ext w w' := by
  have hb := Bx.new w #[.int .i64 n] 79
  have hx := (Ext.refl w).alloc (.cells #[.int .i64 n] 79)
  have HX := Lib.hid hx
  have p0 := hb.at 0 _ rfl
  have HA := Lib.hid (fun w' => layArea_any n w' hn)
  have hb2 : areaP n ≤ 10000 := by unfold areaP; omega
  unfold baseP
  generalize areaP n = a at *
  have e1 : IntKind.i64.wrap (2 * (a : Int)) = 2 * (a : Int) := by rw [IntKind.wrap_i64]; omega
  have e2 : IntKind.i64.wrap (2 + 2 * (a : Int)) = 2 + 2 * (a : Int) := by rw [IntKind.wrap_i64]; omega
  clear hx hb
  go_enter Tryz.func52, Tryz.ntmps52
  go_wp2_with (go_at_call 82; refine (HA.out _).mono ?_; rintro e w2 ⟨rfl, hx⟩; have HX2 := Lib.hid (HX.out.trans hx); clear hx)
  go_ret
  exact ⟨by first | rfl | (congr 2; omega), HX2.out⟩
set_option maxHeartbeats 1600000 in
theorem layBlocks_any (n : Nat) (w : World) (hn : n ≤ 100000) :
    Calls Tryz.prog 33 #[.agg #[.int .i64 n]] w fun e w' => e = .returned (.int .i64 (baseP n + n : Nat)) ∧ Ext w w' := by
  have hb := Bx.new w #[.int .i64 n] 79
  have HX := Lib.hid ((Ext.refl w).alloc (.cells #[.int .i64 n] 79))
  have HB := Lib.hid hb
  have p0 := hb.at 0 _ rfl
  have HA := Lib.hid (fun w' => layBase_any n w' hn)
  have hb2 : baseP n ≤ 30000 := by unfold baseP areaP; omega
  generalize baseP n = a at *
  have e1 : IntKind.i64.wrap ((a : Int) + (n : Int)) = (a : Int) + (n : Int) := by rw [IntKind.wrap_i64]; omega
  clear hb
  go_enter Tryz.func33, Tryz.ntmps33
  go_wp2_with fail
  go_region_with (go_at_call 52; refine (HA.out _).mono ?_; rintro e w2 ⟨rfl, hx⟩; have p0 := (HB.out.ext ((Ext.refl _).drew.trans hx)).at 0 _ rfl; have HX2 := Lib.hid ((HX.out.drew).trans hx); clear hx)
  all_goals go_wp2_with fail
  all_goals go_ret
  all_goals exact ⟨by first | rfl | (congr 2; omega), HX2.out⟩
set_option maxHeartbeats 1600000 in
theorem cellsC_any (i b kb : Nat) (w : World) (hi : i < 5000) (hk : w.cell? ⟨kb, 0, none⟩ = some (.int .i64 b)) :
    Calls Tryz.prog 32 #[.int .i64 i, .pointer (some ⟨kb, 0, none⟩)] w fun e w' => e = .returned (.bool (decide (b < baseP (i + 1) + i + 1))) ∧ Ext w w' := by
  have hl := World.block_lt_of_cell? _ _ hk
  have HK := Lib.hid hk
  have HA := Lib.hid (fun w' => layBlocks_any (i + 1) w' (by omega))
  have hb2 : baseP (i + 1) ≤ 30000 := by unfold baseP areaP; omega
  rw [show baseP (i + 1) + i + 1 = baseP (i + 1) + (i + 1) by omega]
  generalize baseP (i + 1) = a at *
  obtain ⟨m, hm⟩ : ∃ m, a + (i + 1) = m := ⟨_, rfl⟩
  rw [hm] at HA ⊢
  have e1 : IntKind.i64.wrap ((i : Int) + 1) = ((i + 1 : Nat) : Int) := by rw [IntKind.wrap_i64]; omega
  have HX := Lib.hid (Ext.refl w)
  clear hm
  go_enter Tryz.func32, Tryz.ntmps32
  go_wp2_with fail
  go_region_with (go_at_call 33; refine (HA.out _).mono ?_; rintro e w2 ⟨rfl, hx⟩; have p0 := (((Ext.refl _).drew.trans hx).cell (p := ⟨kb, 0, none⟩) hl).trans HK.out; have HX2 := Lib.hid ((HX.out.drew).trans hx); clear hx)
  all_goals go_wp2_with fail
  all_goals go_ret
  all_goals exact ⟨by first | rfl | (simp only [Int.ofNat_lt]) | (congr 2; simp), HX2.out⟩
end Go.Proofs.YtnlkakbpcdfgfaaGreat
namespace Go.Proofs.YtnlkakbpcdfgfaaGreat
set_option maxRecDepth 20000
open Go.RowKit

theorem cells_up {i j : Nat} (h : i ≤ j) : baseP (i + 1) + i + 1 ≤ baseP (j + 1) + j + 1 := by unfold baseP areaP; omega
theorem cells_lt {b i : Nat} (h : i < cellsP b) : baseP (i + 1) + i + 1 ≤ b := by
  obtain ⟨c1, c2, c3⟩ := cells_facts b
  have h1 := c2 (by omega)
  have h2 := cells_up (i := i) (j := cellsP b - 1) (by omega)
  rw [show cellsP b - 1 + 1 = cellsP b by omega] at h2
  omega
theorem cells_ge {b i : Nat} (h : cellsP b ≤ i) (hi : i < 2000) : b < baseP (i + 1) + i + 1 := by
  obtain ⟨c1, c2, c3⟩ := cells_facts b
  have h2 := cells_up h
  omega
set_option maxHeartbeats 1600000 in
theorem planCells_any (b : Nat) (w : World) :
    Calls Tryz.prog 16 #[.int .i64 b] w fun e w' => e = .returned (.int .i64 (cellsP b : Nat)) ∧ Ext w w' := by
  have hb := Bx.new w #[.int .i64 b] 3
  have hx := (Ext.refl w).alloc (.cells #[.int .i64 b] 3)
  obtain ⟨W, hW⟩ : ∃ W, w.alloc (.cells #[.int .i64 b] 3) = W := ⟨_, rfl⟩
  rw [hW] at hb hx
  have HS : Calls Tryz.prog 31 #[.int .i64 2000, .func (.func 32) #[] #[.pointer (some ⟨w.heap.size, 0, none⟩)]] W fun e w' => e = .returned (.int .i64 (cellsP b : Nat)) ∧ Ext W w' := by
    have HF := Lib.hid (fun i (w' : World) (hy : Ext W w') (hi : i < 2000) => cellsC_any i b w.heap.size w' (by omega) ((hb.ext hy).at 0 _ rfl))
    obtain ⟨c1, c2, c3⟩ := cells_facts b
    have C1 := Lib.hid (fun i (h : i < cellsP b) => cells_lt h)
    have C2 := Lib.hid (fun i (h : cellsP b ≤ i) (hi : i < 2000) => cells_ge h hi)
    clear c2 c3 hb hx hW
    generalize cellsP b = c at *
    go_enter Tryz.func31, Tryz.ntmps31
    go_wp2
    go_loopw [5, 6] (fun s5 s6 wr => ∃ lo hi : Nat, s5 = .int .i64 lo ∧ s6 = .int .i64 hi ∧ lo ≤ c ∧ c ≤ hi ∧ hi ≤ 2000 ∧ Ext W wr) (fun s5 s6 _ => (intOf s6 - intOf s5).toNat)
    case atStart => exact ⟨0, 2000, rfl, rfl, Nat.zero_le _, c1, Nat.le_refl _, Ext.refl _⟩
    case round =>
      obtain ⟨lo, hi, rfl, rfl, hlh, hch, hin, hy⟩ := hrel
      have HY := Lib.hid hy
      by_cases hlt : lo < hi
      · have hc := HF.out ((lo + hi) / 2) wr hy (by omega)
        rw [show (((lo + hi) / 2 : Nat) : Int) = ((lo : Int) + (hi : Int)) / 2 by omega] at hc
        obtain ⟨m, hm⟩ : ∃ m, (lo + hi) / 2 = m := ⟨_, rfl⟩
        have hmI : ((lo : Int) + (hi : Int)) / 2 = (m : Int) := by omega
        have hm2 : m < 2000 := by omega
        have K1 := Lib.hid (C1.out m)
        have K2 := Lib.hid (fun h => C2.out m h hm2)
        rw [hm] at hc
        obtain ⟨t, ht⟩ : ∃ t, decide (b < baseP (m + 1) + m + 1) = t := ⟨_, rfl⟩
        rw [ht] at hc
        have HT := Lib.hid ht
        have HM := Lib.hid hm
        have HMI := Lib.hid hmI
        have HC := Lib.hid hc
        clear ht hc hy hm hmI
        cases t
        · go_wp2_with (go_at_call 32; refine HC.out.mono ?_; rintro e w' ⟨rfl, hz⟩; have HZ := Lib.hid (HY.out.trans hz); clear hz)
          go_roundw
          case measure => have h1 := HM.out; simp [intOf]; omega
          case rel =>
            have h1 := HM.out
            have hmc : m < c := by
              rcases Nat.lt_or_ge m c with g | g
              · exact g
              · have h2 := K2.out g; have h3 := of_decide_eq_false HT.out; omega
            exact ⟨m + 1, hi, by rw [HMI.out]; first | rfl | (congr 1; omega), rfl, by omega, hch, hin, HZ.out⟩
        · go_wp2_with (go_at_call 32; refine HC.out.mono ?_; rintro e w' ⟨rfl, hz⟩; have HZ := Lib.hid (HY.out.trans hz); clear hz)
          go_roundw
          case measure => have h1 := HM.out; simp [intOf]; omega
          case rel =>
            have h1 := HM.out
            have hmc : c ≤ m := by
              rcases Nat.lt_or_ge m c with g | g
              · have h2 := K1.out g; have h3 := of_decide_eq_true HT.out; omega
              · exact g
            exact ⟨lo, m, rfl, by rw [HMI.out], hlh, hmc, by omega, HZ.out⟩
      · obtain rfl : hi = lo := by omega
        obtain rfl : c = hi := by omega
        go_wp2
        go_ret
        exact ⟨rfl, HY.out⟩
  have HS := Lib.hid HS
  have HX := Lib.hid hx
  have HW := Lib.hid hW
  clear hb hx hW
  go_enter Tryz.func16, Tryz.ntmps16
  go_wp2_with (go_at_call 31; rw [HW.out]; refine HS.out.mono ?_; rintro e w1 ⟨rfl, hz⟩; have HZ := Lib.hid (HX.out.trans hz); clear hz)
  go_ret
  exact ⟨rfl, HZ.out⟩
end Go.Proofs.YtnlkakbpcdfgfaaGreat
namespace Go.Proofs.YtnlkakbpcdfgfaaGreat
set_option maxRecDepth 20000
open Go.RowKit

/-- A number's float. -/
def fN (n : Nat) : Nat := floatOfInt .f64 (n : Int)
def feq (x y : Nat) : Bool := FloatKind.f64.format.order x y == some .eq
/-- A finite float's number, in units of 2 ^ -1074. -/
def fV (x : Nat) : Option Int :=
  match FloatKind.f64.format.read x with
  | .number s m e => some (Ieee.signed s m (e + 1074).toNat)
  | _ => none
theorem signed_add (s : Bool) (m u v : Nat) : Ieee.signed s m (u + v) = Ieee.signed s m u * ((2 ^ v : Nat) : Int) := by
  unfold Ieee.signed
  cases s <;> simp [Nat.shiftLeft_eq, Nat.pow_add, Int.mul_assoc, Int.neg_mul]
theorem cmp_eq_iff (a b : Int) : (compare a b = .eq) ↔ a = b := by
  rw [show compare a b = compareOfLessAndEq a b from rfl]
  unfold compareOfLessAndEq
  constructor
  · intro h
    split at h
    · cases h
    · split at h
      · assumption
      · cases h
  · rintro rfl
    simp
theorem read_place {x : Nat} {s : Bool} {m : Nat} {e : Int} (h : FloatKind.f64.format.read x = .number s m e) : -1074 ≤ e := by
  have hl : (FloatKind.f64.format).leastPlace = -1074 := by decide
  unfold Ieee.Format.read at h
  simp only at h
  split at h
  · cases h; omega
  · split at h
    · cases h; omega
    · split at h <;> cases h
theorem order_num {x y : Nat} {a b : Int} (hx : fV x = some a) (hy : fV y = some b) : feq x y = decide (a = b) := by
  unfold fV at hx hy
  unfold feq Ieee.Format.order
  split at hx
  · rename_i s m i h1
    split at hy
    · rename_i t n j h2
      have hi := read_place h1
      have hj := read_place h2
      rw [h1, h2]
      simp only [Ieee.Datum.order]
      have e1 : (i + 1074).toNat = (i - min i j).toNat + (min i j + 1074).toNat := by omega
      have e2 : (j + 1074).toNat = (j - min i j).toNat + (min i j + 1074).toNat := by omega
      rw [e1, signed_add] at hx
      rw [e2, signed_add] at hy
      cases hx
      cases hy
      have hp : ((2 ^ (min i j + 1074).toNat : Nat) : Int) ≠ 0 := by
        have : 0 < 2 ^ (min i j + 1074).toNat := Nat.pow_pos (by omega)
        omega
      rw [Bool.eq_iff_iff]
      simp only [beq_iff_eq, Option.some.injEq, decide_eq_true_eq]
      rw [cmp_eq_iff]
      exact ⟨fun h => by rw [h], fun h => Int.eq_of_mul_eq_mul_right hp h⟩
    · cases hy
  · cases hx
theorem order_none {x y : Nat} {b : Int} (hx : fV x = none) (hy : fV y = some b) : feq x y = false := by
  unfold fV at hx hy
  unfold feq Ieee.Format.order
  split at hy
  · rename_i t n j h2
    rw [h2]
    split at hx
    · cases hx
    · rename_i h9
      cases hd : FloatKind.f64.format.read x with
      | number s m e => exact absurd hd (h9 s m e)
      | infinity s => cases s <;> rfl
      | nan s f => rfl
  · cases hy
/-- What is reckoned for each number, one by one. -/
def chkN (n : Nat) : Bool := fV (fN n) == some ((n : Int) * 2 ^ 1074) && (floatToIntVal .f64 (fN n) .i64 == some (n : Int)) && (floatBits .add .f64 (fN n) (fN 1) == some (fN (n + 1))) && decide (fN n < 2 ^ 64)
def chkAll : Nat → Bool
  | 0 => true
  | n + 1 => chkN n && chkAll n
theorem chk_all : chkAll 2600 = true := by decide +kernel
theorem chk_of : ∀ (m n : Nat), n < m → chkAll m = true → chkN n = true
  | 0, n, h, _ => by omega
  | m + 1, n, h, hc => by
    unfold chkAll at hc
    rw [Bool.and_eq_true] at hc
    rcases Nat.lt_or_ge n m with h' | h'
    · exact chk_of m n h' hc.2
    · obtain rfl : n = m := by omega
      exact hc.1
theorem fN_all {n : Nat} (h : n < 2600) : fV (fN n) = some ((n : Int) * 2 ^ 1074) ∧ floatToIntVal .f64 (fN n) .i64 = some (n : Int) ∧ floatBits .add .f64 (fN n) (fN 1) = some (fN (n + 1)) ∧ fN n < 2 ^ 64 := by
  have h1 := chk_of 2600 n h chk_all
  unfold chkN at h1
  simp only [Bool.and_eq_true, beq_iff_eq, decide_eq_true_eq] at h1
  exact ⟨h1.1.1.1, h1.1.1.2, h1.1.2, h1.2⟩

/-- The number of a rung, in units of 2 ^ -1074. -/
def rv (r : Nat) : Nat := if r < 2 ^ 52 then r else (2 ^ 52 + r % 2 ^ 52) * 2 ^ (r / 2 ^ 52 - 1)
theorem rv_range {r : Nat} (h : 2 ^ 52 ≤ r) : 2 ^ (r / 2 ^ 52 + 51) ≤ rv r ∧ rv r < 2 ^ (r / 2 ^ 52 + 52) := by
  unfold rv
  rw [if_neg (by omega)]
  have hq : 1 ≤ r / 2 ^ 52 := by omega
  obtain ⟨q, hq'⟩ : ∃ q, r / 2 ^ 52 = q + 1 := ⟨r / 2 ^ 52 - 1, by omega⟩
  rw [hq']
  have ht : r % 2 ^ 52 < 2 ^ 52 := Nat.mod_lt _ (by omega)
  generalize r % 2 ^ 52 = t at *
  have hp : 0 < 2 ^ q := Nat.pow_pos (by omega)
  rw [show q + 1 + 51 = 52 + q by omega, show q + 1 + 52 = 53 + q by omega, Nat.pow_add 2 52 q, Nat.pow_add 2 53 q, show q + 1 - 1 = q by omega]
  exact ⟨Nat.mul_le_mul_right _ (by omega), Nat.mul_lt_mul_of_pos_right (by omega) hp⟩
theorem pow_lt_of {a b : Nat} (h : 2 ^ a < 2 ^ b) : a < b := (Nat.pow_lt_pow_iff_right (by omega)).1 h
theorem rv_inj {r t : Nat} (h : rv r = rv t) : r = t := by
  rcases Nat.lt_or_ge r (2 ^ 52) with hr | hr <;> rcases Nat.lt_or_ge t (2 ^ 52) with ht | ht
  · unfold rv at h
    rw [if_pos hr, if_pos ht] at h
    exact h
  · exfalso
    have h1 := rv_range ht
    have h2 : rv r = r := by unfold rv; rw [if_pos hr]
    have h3 : (2 : Nat) ^ 52 ≤ 2 ^ (t / 2 ^ 52 + 51) := Nat.pow_le_pow_right (by omega) (by omega)
    omega
  · exfalso
    have h1 := rv_range hr
    have h2 : rv t = t := by unfold rv; rw [if_pos ht]
    have h3 : (2 : Nat) ^ 52 ≤ 2 ^ (r / 2 ^ 52 + 51) := Nat.pow_le_pow_right (by omega) (by omega)
    omega
  · have h1 := rv_range hr
    have h2 := rv_range ht
    have h3 : r / 2 ^ 52 + 51 < t / 2 ^ 52 + 52 := pow_lt_of (Nat.lt_of_le_of_lt h1.1 (by rw [h]; exact h2.2))
    have h4 : t / 2 ^ 52 + 51 < r / 2 ^ 52 + 52 := pow_lt_of (Nat.lt_of_le_of_lt h2.1 (by rw [← h]; exact h1.2))
    have hq : r / 2 ^ 52 = t / 2 ^ 52 := by omega
    unfold rv at h
    rw [if_neg (by omega), if_neg (by omega), hq] at h
    have h5 := Nat.eq_of_mul_eq_mul_right (Nat.pow_pos (by omega)) h
    have e1 := Nat.div_add_mod r (2 ^ 52)
    have e2 := Nat.div_add_mod t (2 ^ 52)
    rw [hq] at e1
    omega
theorem fV_rung {x : Nat} {a : Int} (h : fV x = some a) : a = if x / 2 ^ 63 % 2 = 1 then -(rv (x % 2 ^ 63) : Int) else (rv (x % 2 ^ 63) : Int) := by
  have hl : (FloatKind.f64.format).leastPlace = -1074 := by decide
  have hb : (FloatKind.f64.format).binade = 2 ^ 52 := by decide
  have hw : (FloatKind.f64.format).signWeight = 2 ^ 63 := by decide
  unfold fV at h
  split at h
  · rename_i s m e h1
    cases h
    unfold Ieee.Format.read at h1
    simp only [hl, hb, hw] at h1
    unfold rv
    split at h1
    · rename_i hr
      cases h1
      rw [if_pos hr]
      unfold Ieee.signed
      simp
    · rename_i hr
      split at h1
      · cases h1
        rw [if_neg hr]
        unfold Ieee.signed
        have e9 : ((-1074 : Int) + ((x % 2 ^ 63 / 2 ^ 52 - 1 : Nat) : Int) + 1074).toNat = x % 2 ^ 63 / 2 ^ 52 - 1 := by omega
        rw [e9]
        simp only [Nat.shiftLeft_eq, beq_iff_eq]
      · split at h1 <;> cases h1
  · cases h
/-- A float that is a whole number. -/
def isWh (x n : Nat) : Prop := x = fN n ∨ (n = 0 ∧ x = 2 ^ 63)
theorem fN_zero : fN 0 = 0 := by decide +kernel
theorem isWh_of {x n : Nat} (hx : x < 2 ^ 64) (hn : n < 2600) (h : fV x = some ((n : Int) * 2 ^ 1074)) : isWh x n := by
  have hf := fN_all hn
  have h1 := fV_rung h
  have h2 := fV_rung hf.1
  have hfl := hf.2.2.2
  have hx2 : x / 2 ^ 63 % 2 = x / 2 ^ 63 := Nat.mod_eq_of_lt (by omega)
  have hf2 : fN n / 2 ^ 63 % 2 = fN n / 2 ^ 63 := Nat.mod_eq_of_lt (by omega)
  rw [hx2] at h1
  rw [hf2] at h2
  have hp : (0 : Int) < 2 ^ 1074 := by decide +kernel
  rcases Nat.eq_zero_or_pos n with h0 | h0
  · subst h0
    have h3 : rv (x % 2 ^ 63) = 0 := by
      simp only [Int.natCast_zero, Int.zero_mul] at h1
      split at h1 <;> omega
    have h4 : x % 2 ^ 63 = 0 := rv_inj (t := 0) (by rw [h3]; rfl)
    unfold isWh
    rw [fN_zero]
    omega
  · left
    have hpos : (0 : Int) < (n : Int) * 2 ^ 1074 := Int.mul_pos (by omega) hp
    generalize (n : Int) * 2 ^ 1074 = v at *
    split at h1 <;> split at h2
    · omega
    · omega
    · omega
    · have h5 : rv (x % 2 ^ 63) = rv (fN n % 2 ^ 63) := by omega
      have h6 := rv_inj h5
      omega
theorem isWh_V {x n : Nat} (hn : n < 2600) (h : isWh x n) : fV x = some ((n : Int) * 2 ^ 1074) := by
  rcases h with rfl | ⟨rfl, rfl⟩
  · exact (fN_all hn).1
  · decide +kernel
theorem isWh_lt {x n : Nat} (hn : n < 2600) (h : isWh x n) : x < 2 ^ 64 := by
  rcases h with rfl | ⟨rfl, rfl⟩
  · exact (fN_all hn).2.2.2
  · omega
theorem isWh_int {x n : Nat} (hn : n < 2600) (h : isWh x n) : floatToIntVal .f64 x .i64 = some (n : Int) := by
  rcases h with rfl | ⟨rfl, rfl⟩
  · exact (fN_all hn).2.1
  · decide +kernel
theorem isWh_on {x n : Nat} (hn : n < 2600) (h : isWh x n) : floatBits .add .f64 x (fN 1) = some (fN (n + 1)) := by
  rcases h with rfl | ⟨rfl, rfl⟩
  · exact (fN_all hn).2.2.1
  · decide +kernel
theorem isWh_fN (n : Nat) : isWh (fN n) n := .inl rfl
theorem scaled_inj {a b : Nat} (h : (a : Int) * 2 ^ 1074 = (b : Int) * 2 ^ 1074) : a = b := by
  have hp : (2 : Int) ^ 1074 ≠ 0 := by decide +kernel
  have := Int.eq_of_mul_eq_mul_right hp h
  omega
/-- Which float is the same as a whole number. -/
theorem feq_whole {x n : Nat} (hx : x < 2 ^ 64) (hn : n < 2600) : feq x (fN n) = true ↔ isWh x n := by
  have hf := (fN_all hn).1
  cases hv : fV x with
  | none =>
    rw [order_none hv hf]
    constructor
    · intro h; cases h
    · intro h; rw [isWh_V hn h] at hv; cases hv
  | some a =>
    rw [order_num hv hf, decide_eq_true_eq]
    constructor
    · rintro rfl; exact isWh_of hx hn hv
    · intro h; rw [isWh_V hn h] at hv; cases hv; rfl
theorem feq_two {x y a b : Nat} (ha : a < 2600) (hb : b < 2600) (hx : isWh x a) (hy : isWh y b) : feq x y = decide (a = b) := by
  rw [order_num (isWh_V ha hx) (isWh_V hb hy), Bool.eq_iff_iff, decide_eq_true_eq, decide_eq_true_eq]
  exact ⟨scaled_inj, fun h => by rw [h]⟩
theorem isWh_inj {x a b : Nat} (ha : a < 2600) (hb : b < 2600) (h : isWh x a) (k : isWh x b) : a = b := by
  have h1 := isWh_V ha h
  rw [isWh_V hb k] at h1
  exact (scaled_inj (Option.some.inj h1)).symm
end Go.Proofs.YtnlkakbpcdfgfaaGreat
namespace Go.Proofs.YtnlkakbpcdfgfaaGreat
set_option maxRecDepth 20000
open Go.RowKit

/-- A task: the bits of its parts. -/
abbrev Tk := Nat × Nat
def cxv (t : Tk) : Value := .complex .f64 t.1 t.2
theorem cxv_one (l : List Tk) : ∀ u ∈ l.map cxv, u.oneCell' = true := by
  intro u hu
  obtain ⟨_, _, rfl⟩ := List.mem_map.1 hu
  rfl
theorem Cells.tk {w : World} {A : Option Addr} {l : List Tk} (h : Cells w A (l.map cxv)) {k : Nat} (hk : k < l.length) :
    ∃ b off, A = some ⟨b, off, none⟩ ∧ b < w.heap.size ∧ ∀ j (hj : j < l.length), w.cell? ⟨b, off + j, none⟩ = some (.complex .f64 l[j].1 l[j].2) := by
  obtain ⟨b, off, rfl, hlt, hc⟩ := h (by intro e; rw [List.map_eq_nil_iff] at e; subst e; simp at hk)
  exact ⟨b, off, rfl, hlt, fun j hj => hc j _ (by simp [hj, cxv])⟩
/-- Is a float one of the whole numbers from 0 to most? -/
def wholeB (x : Nat) (most : Int) : Bool := (List.range (most + 1).toNat).any (fun i => feq x (fN i))
theorem wholeB_iff {x : Nat} {most : Int} (hx : x < 2 ^ 64) (hm : most < 2600) : wholeB x most = true ↔ ∃ i : Nat, (i : Int) ≤ most ∧ isWh x i := by
  unfold wholeB
  rw [List.any_eq_true]
  constructor
  · rintro ⟨i, hi, he⟩
    have h1 : i < (most + 1).toNat := List.mem_range.1 hi
    exact ⟨i, by omega, (feq_whole hx (by omega)).1 he⟩
  · rintro ⟨i, hi, he⟩
    exact ⟨i, List.mem_range.2 (by omega), (feq_whole hx (by omega)).2 he⟩
/-- P6.1: which are right. -/
def okT (n : Int) (t : Tk) : Bool := wholeB t.1 (n - 1) && wholeB t.2 5
def rightT (l : List Tk) (n : Int) : Bool := l.all (okT n) && decide (l.length ≤ 500)
/-- The task of a place, of which so many steps are done. -/
def ofT (p k : Nat) : Tk := (fN p, fN k)
/-- The whole number that a float is. -/
def plN (x : Nat) : Nat := ((List.range 2600).find? (fun i => feq x (fN i))).getD 0
theorem plN_is {x i : Nat} (hi : i < 2600) (h : isWh x i) : plN x = i := by
  have hx := isWh_lt hi h
  unfold plN
  cases hf : (List.range 2600).find? (fun i => feq x (fN i)) with
  | none =>
    have := List.find?_eq_none.1 hf i (List.mem_range.2 hi)
    exact absurd ((feq_whole hx hi).2 h) this
  | some j =>
    have h1 := List.find?_some hf
    have h2 := List.mem_range.1 (List.mem_of_find?_eq_some hf)
    exact isWh_inj h2 hi ((feq_whole hx h2).1 h1) h
/-- What a right task is: a whole place, and whole steps. -/
theorem okT_iff {n : Int} {t : Tk} (h1 : t.1 < 2 ^ 64) (h2 : t.2 < 2 ^ 64) (hn : n ≤ 2000) : okT n t = true ↔ ∃ p k : Nat, (p : Int) < n ∧ k ≤ 5 ∧ isWh t.1 p ∧ isWh t.2 k := by
  unfold okT
  rw [Bool.and_eq_true, wholeB_iff h1 (by omega), wholeB_iff h2 (by omega)]
  constructor
  · rintro ⟨⟨p, hp, h3⟩, k, hk, h4⟩
    exact ⟨p, k, by omega, by omega, h3, h4⟩
  · rintro ⟨p, k, hp, hk, h3, h4⟩
    exact ⟨⟨p, by omega, h3⟩, k, by omega, h4⟩
end Go.Proofs.YtnlkakbpcdfgfaaGreat
namespace Go.Proofs.YtnlkakbpcdfgfaaGreat
set_option maxRecDepth 20000
open Go.RowKit

theorem log2_shl {m e : Nat} (hm : m ≠ 0) : (m <<< e).log2 = m.log2 + e := by
  have h1 : m <<< e ≠ 0 := by rw [Nat.shiftLeft_eq]; exact Nat.mul_ne_zero hm (by have : 0 < 2 ^ e := Nat.pow_pos (by omega); omega)
  rw [Nat.log2_eq_iff h1, Nat.shiftLeft_eq, Nat.pow_add, show m.log2 + e + 1 = (m.log2 + 1) + e by omega, Nat.pow_add]
  have hp : 0 < 2 ^ e := Nat.pow_pos (by omega)
  have h2 := (Nat.log2_eq_iff hm).1 rfl
  exact ⟨Nat.mul_le_mul_right _ h2.1, Nat.mul_lt_mul_of_pos_right h2.2 hp⟩
theorem cut_shl (m e : Nat) (h : e ≤ (m <<< e).log2 + 2) : Ieee.Toward.cut .even false (m <<< e) e = m := by
  unfold Ieee.Toward.cut
  rw [Nat.min_eq_left h]
  have h1 : (1 : Nat) <<< e = 2 ^ e := by rw [Nat.shiftLeft_eq, Nat.one_mul]
  have hp : 0 < 2 ^ e := Nat.pow_pos (by omega)
  simp only [h1, Nat.shiftLeft_eq, Nat.mul_div_cancel _ hp, Nat.mul_mod_left]
  have h2 : decide (2 ^ e < 2 * 0) = false := decide_eq_false (by omega)
  have h3 : (2 ^ e == 2 * 0) = false := by rw [beq_eq_false_iff_ne]; omega
  rw [h2, h3]
  rfl
/-- A finite number that is not below nought, and nought. -/
theorem add_nought {x : Nat} (hx : x < 2047 * 2 ^ 52) : FloatKind.f64.format.add x 0 = some x := by
  have hl : (FloatKind.f64.format).leastPlace = -1074 := by decide
  have hb : (FloatKind.f64.format).binade = 2 ^ 52 := by decide
  have hw : (FloatKind.f64.format).signWeight = 2 ^ 63 := by decide
  have hi : (FloatKind.f64.format).infRung = 2047 * 2 ^ 52 := by decide
  have hf : (FloatKind.f64.format).fractionBits = 52 := rfl
  have h0 : FloatKind.f64.format.read 0 = .number false 0 (-1074) := by decide
  have key : ∃ m e : Nat, FloatKind.f64.format.read x = .number false m (-1074 + (e : Int)) ∧ e * 2 ^ 52 + m = x ∧ m < 2 ^ 53 ∧ (e = 0 ∨ 2 ^ 52 ≤ m) := by
    have hs : (x / 2 ^ 63 % 2 == 1) = false := by rw [beq_eq_false_iff_ne]; omega
    have hr : x % 2 ^ 63 = x := by omega
    unfold Ieee.Format.read
    simp only [hl, hb, hw, hi, hs, hr]
    rcases Nat.lt_or_ge x (2 ^ 52) with h | h
    · rw [if_pos h]
      exact ⟨x, 0, by simp, by omega, by omega, .inl rfl⟩
    · rw [if_neg (by omega), if_pos hx]
      exact ⟨2 ^ 52 + x % 2 ^ 52, x / 2 ^ 52 - 1, rfl, by omega, by omega, .inr (by omega)⟩
  obtain ⟨m, e, hr, hsum, hm, hc⟩ := key
  unfold Ieee.Format.add
  rw [hr, h0]
  have hbase : min (-1074 + (e : Int)) (-1074) = -1074 := by omega
  have htot : Ieee.signed false m (-1074 + (e : Int) - -1074).toNat + Ieee.signed false 0 (-1074 - -1074 : Int).toNat = ((m <<< e : Nat) : Int) := by
    rw [show (-1074 + (e : Int) - -1074).toNat = e by omega]
    unfold Ieee.signed
    simp
  simp only [Ieee.Datum.sum, hbase, htot, Option.map_some, Ieee.Format.write, Int.natAbs_natCast]
  have hneg : (if ((m <<< e : Nat) : Int) = 0 then (false && false) else decide (((m <<< e : Nat) : Int) < 0)) = false := by
    split
    · rfl
    · exact decide_eq_false (by have := Int.natCast_nonneg (m <<< e); omega)
  rw [hneg]
  unfold Ieee.Format.nearest
  by_cases hm0 : m = 0
  · subst hm0
    have : e = 0 := by rcases hc with h | h <;> omega
    subst this
    obtain rfl : x = 0 := by simpa using hsum.symm
    rw [if_pos (show (0 : Nat) <<< 0 = 0 from rfl)]
    simp [Ieee.Format.word]
  have hme : m <<< e ≠ 0 := by rw [Nat.shiftLeft_eq]; exact Nat.mul_ne_zero hm0 (by have : 0 < 2 ^ e := Nat.pow_pos (by omega); omega)
  rw [if_neg hme]
  have hlog : m.log2 < 53 := (Nat.log2_lt hm0).2 hm
  have hlast : max (-1074 + ((m <<< e).log2 : Int) - ((52 : Nat) : Int)) (-1074) = -1074 + (e : Int) := by
    rw [log2_shl hm0]
    rcases hc with h | h
    · subst h; omega
    · have : 52 ≤ m.log2 := (Nat.le_log2 hm0).2 h
      omega
  simp only [hl, hb, hf, hi, hlast]
  rw [show (-1074 - (-1074 + (e : Int))).toNat = 0 by omega, show (-1074 + (e : Int) - -1074).toNat = e by omega, Nat.shiftLeft_zero, cut_shl m e (by rw [log2_shl hm0]; omega), hsum]
  unfold Ieee.Format.word
  rw [Nat.min_eq_left (by omega)]
  rfl
def chkS : Nat → Bool
  | 0 => true
  | n + 1 => decide (fN n < 2047 * 2 ^ 52) && chkS n
theorem chkS_all : chkS 2600 = true := by decide +kernel
theorem chkS_of : ∀ (m n : Nat), n < m → chkS m = true → fN n < 2047 * 2 ^ 52
  | 0, n, h, _ => by omega
  | m + 1, n, h, hc => by
    unfold chkS at hc
    rw [Bool.and_eq_true] at hc
    rcases Nat.lt_or_ge n m with h' | h'
    · exact chkS_of m n h' hc.2
    · obtain rfl : n = m := by omega
      exact of_decide_eq_true hc.1
theorem fN_add0 {n : Nat} (h : n < 2600) : floatBits .add .f64 (fN n) 0 = some (fN n) := add_nought (chkS_of 2600 n h chkS_all)
theorem fN_one : fN 1 = 4607182418800017408 := by decide +kernel
theorem sum_on {p k : Nat} (hp : p < 2600) (hk : k < 2600) : cSumBits .add .f64 (fN p) (fN k) 0 4607182418800017408 = some (fN p, fN (k + 1)) := by
  unfold cSumBits
  rw [fN_add0 hp, ← fN_one, isWh_on hk (isWh_fN k)]
  rfl
set_option maxHeartbeats 400000 in
theorem todoPlace_any (t : Tk) (p : Nat) (w : World) (hp : p < 2600) (h : isWh t.1 p) :
    Calls Tryz.prog 137 #[.complex .f64 t.1 t.2] w fun e w' => e = .returned (.int .i64 p) ∧ w = w' := by
  have hi := isWh_int hp h
  have hrun := fun w => run_convert_float_int (P := Tryz.prog) w 192 3 .f64 .i64 t.1 p (by rw [Tryz.underlying192]; rfl) Tryz.underlying3 hi
  go_enter Tryz.func137, Tryz.ntmps137
  go_wp2
  go_ret
  exact ⟨rfl, rfl⟩
set_option maxHeartbeats 400000 in
theorem todoDone_any (t : Tk) (k : Nat) (w : World) (hk : k < 2600) (h : isWh t.2 k) :
    Calls Tryz.prog 138 #[.complex .f64 t.1 t.2] w fun e w' => e = .returned (.int .i64 k) ∧ w = w' := by
  have hi := isWh_int hk h
  have hrun := fun w => run_convert_float_int (P := Tryz.prog) w 192 3 .f64 .i64 t.2 k (by rw [Tryz.underlying192]; rfl) Tryz.underlying3 hi
  go_enter Tryz.func138, Tryz.ntmps138
  go_wp2
  go_ret
  exact ⟨rfl, rfl⟩
/-- Are two tasks the same? -/
def sameK (a b : Tk) : Bool := feq a.1 b.1 && feq a.2 b.2
def sameT : List Tk → List Tk → Bool
  | [], [] => true
  | a :: l, b :: m => sameK a b && sameT l m
  | _, _ => false
theorem sameT_len : ∀ {l m : List Tk}, sameT l m = true → l.length = m.length
  | [], [], _ => rfl
  | a :: l, b :: m, h => by
    unfold sameT at h
    rw [Bool.and_eq_true] at h
    simp [sameT_len h.2]
  | [], _ :: _, h => by simp [sameT] at h
  | _ :: _, [], h => by simp [sameT] at h
theorem sameT_all : ∀ {l m : List Tk}, l.length = m.length → (∀ k (hk : k < l.length) (hk2 : k < m.length), sameK l[k] m[k] = true) → sameT l m = true
  | [], [], _, _ => rfl
  | a :: l, b :: m, hl, h => by
    unfold sameT
    rw [Bool.and_eq_true]
    exact ⟨h 0 (by simp) (by simp), sameT_all (by simpa using hl) (fun k hk hk2 => h (k + 1) (by simp; omega) (by simp; omega))⟩
  | [], _ :: _, hl, _ => by simp at hl
  | _ :: _, [], hl, _ => by simp at hl
theorem sameT_at : ∀ {l m : List Tk}, sameT l m = true → ∀ k (hk : k < l.length) (hk2 : k < m.length), sameK l[k] m[k] = true
  | a :: l, b :: m, h, 0, _, _ => by unfold sameT at h; rw [Bool.and_eq_true] at h; exact h.1
  | a :: l, b :: m, h, k + 1, hk, hk2 => by
    unfold sameT at h
    rw [Bool.and_eq_true] at h
    exact sameT_at h.2 k (by simpa using hk) (by simpa using hk2)
  | [], _, _, _, hk, _ => by simp at hk
theorem sameT_no {l m : List Tk} {k : Nat} (hk : k < l.length) (hk2 : k < m.length) (h : sameK l[k] m[k] = false) : sameT l m = false := by
  cases hs : sameT l m
  · rfl
  · rw [sameT_at hs k hk hk2] at h; cases h
end Go.Proofs.YtnlkakbpcdfgfaaGreat
namespace Go.Proofs.YtnlkakbpcdfgfaaGreat
set_option maxRecDepth 20000
open Go.RowKit

theorem shl_pos {m : Nat} (hm : m ≠ 0) (e : Nat) : m <<< e ≠ 0 := by
  rw [Nat.shiftLeft_eq]; exact Nat.mul_ne_zero hm (by have : 0 < 2 ^ e := Nat.pow_pos (by omega); omega)
theorem log2_shift {m e : Nat} (hm : m ≠ 0) : (m <<< e).log2 = m.log2 + e := by
  rw [Nat.log2_eq_iff (shl_pos hm e), Nat.shiftLeft_eq, Nat.pow_add, show m.log2 + e + 1 = (m.log2 + 1) + e by omega, Nat.pow_add]
  have hp : 0 < 2 ^ e := Nat.pow_pos (by omega)
  have h2 := (Nat.log2_eq_iff hm).1 rfl
  exact ⟨Nat.mul_le_mul_right _ h2.1, Nat.mul_lt_mul_of_pos_right h2.2 hp⟩
theorem cut_none (m : Nat) : Ieee.Toward.cut .even false m 0 = m := by
  unfold Ieee.Toward.cut
  rw [Nat.min_eq_left (Nat.zero_le _)]
  simp only [Nat.shiftLeft_zero, Nat.div_one, Nat.mod_one]
  simp
theorem cut_zero (m e : Nat) (h : e ≤ (m <<< e).log2 + 2) : Ieee.Toward.cut .zero false (m <<< e) e = m := by
  unfold Ieee.Toward.cut
  rw [Nat.min_eq_left h]
  have h1 : (1 : Nat) <<< e = 2 ^ e := by rw [Nat.shiftLeft_eq, Nat.one_mul]
  have hp : 0 < 2 ^ e := Nat.pow_pos (by omega)
  simp [h1, Nat.shiftLeft_eq, Nat.mul_div_cancel _ hp]
/-- The bits of a whole number's float. -/
theorem fN_bits {n : Nat} (h0 : n ≠ 0) (h : n < 2 ^ 53) : fN n = (n.log2 + 1022) * 2 ^ 52 + n <<< (52 - n.log2) := by
  have hl : (FloatKind.f64.format).leastPlace = -1074 := by decide
  have hb : (FloatKind.f64.format).binade = 2 ^ 52 := by decide
  have hi : (FloatKind.f64.format).infRung = 2047 * 2 ^ 52 := by decide
  have hf : (FloatKind.f64.format).fractionBits = 52 := rfl
  have hlog : n.log2 ≤ 52 := by have := (Nat.log2_lt h0).2 h; omega
  show FloatKind.f64.format.write (.number (decide ((n : Int) < 0)) (n : Int).natAbs 0) = _
  rw [decide_eq_false (by omega), Int.natAbs_natCast]
  unfold Ieee.Format.write Ieee.Format.nearest
  simp only [if_neg h0, hl, hb, hf, hi]
  have hlast : max (0 + (n.log2 : Int) - ((52 : Nat) : Int)) (-1074) = (n.log2 : Int) - 52 := by omega
  rw [hlast, show (0 - ((n.log2 : Int) - 52)).toNat = 52 - n.log2 by omega, show ((n.log2 : Int) - 52 - 0).toNat = 0 by omega, cut_none, show ((n.log2 : Int) - 52 - -1074).toNat = n.log2 + 1022 by omega]
  unfold Ieee.Format.word
  have hlt : n <<< (52 - n.log2) < 2 ^ 53 := by
    have h1 := log2_shift (e := 52 - n.log2) h0
    have h2 := (Nat.log2_lt (shl_pos h0 (52 - n.log2))).1 (show (n <<< (52 - n.log2)).log2 < 53 by omega)
    exact h2
  rw [Nat.min_eq_left (by omega)]
  rfl
theorem fN_read {n : Nat} (h0 : n ≠ 0) (h : n < 2 ^ 53) : FloatKind.f64.format.read (fN n) = .number false (n <<< (52 - n.log2)) ((n.log2 : Int) - 52) := by
  have hl : (FloatKind.f64.format).leastPlace = -1074 := by decide
  have hb : (FloatKind.f64.format).binade = 2 ^ 52 := by decide
  have hw : (FloatKind.f64.format).signWeight = 2 ^ 63 := by decide
  have hi : (FloatKind.f64.format).infRung = 2047 * 2 ^ 52 := by decide
  have hlog : n.log2 ≤ 52 := by have := (Nat.log2_lt h0).2 h; omega
  have h1 := log2_shift (e := 52 - n.log2) h0
  have h2 := (Nat.log2_lt (shl_pos h0 (52 - n.log2))).1 (show (n <<< (52 - n.log2)).log2 < 53 by omega)
  have h3 := (Nat.le_log2 (shl_pos h0 (52 - n.log2))).1 (show 52 ≤ (n <<< (52 - n.log2)).log2 by omega)
  rw [fN_bits h0 h]
  generalize n <<< (52 - n.log2) = x at *
  unfold Ieee.Format.read
  have e1 : ((n.log2 + 1022) * 2 ^ 52 + x) % 2 ^ 63 = (n.log2 + 1022) * 2 ^ 52 + x := Nat.mod_eq_of_lt (by omega)
  have e2 : (((n.log2 + 1022) * 2 ^ 52 + x) / 2 ^ 63 % 2 == 1) = false := by rw [beq_eq_false_iff_ne]; omega
  simp only [hl, hb, hw, hi, e1, e2]
  rw [if_neg (by omega), if_pos (by omega)]
  have e3 : 2 ^ 52 + ((n.log2 + 1022) * 2 ^ 52 + x) % 2 ^ 52 = x := by omega
  have e4 : ((n.log2 + 1022) * 2 ^ 52 + x) / 2 ^ 52 = n.log2 + 1023 := by omega
  rw [e3, e4]
  congr 1
  omega
/-- A whole number's float, as a number in units of 2 ^ -1074. -/
theorem fN_val {n : Nat} (h : n < 2 ^ 53) : ∃ (m : Nat) (e : Int), FloatKind.f64.format.read (fN n) = .number false m e ∧ -1074 ≤ e ∧ e ≤ 0 ∧ m * 2 ^ (e + 1074).toNat = n * 2 ^ 1074 := by
  by_cases h0 : n = 0
  · subst h0
    exact ⟨0, -1074, by decide +kernel, by omega, by omega, by simp only [Nat.zero_mul]⟩
  · have hlog : n.log2 ≤ 52 := by have := (Nat.log2_lt h0).2 h; omega
    refine ⟨_, _, fN_read h0 h, by omega, by omega, ?_⟩
    rw [Nat.shiftLeft_eq, Nat.mul_assoc, ← Nat.pow_add, show 52 - n.log2 + ((n.log2 : Int) - 52 + 1074).toNat = 1074 by omega]
theorem cmp_mul {a b n m K T : Nat} (hK : 0 < K) (hT : 0 < T) (ha : a * K = n * T) (hb : b * K = m * T) : compare (a : Int) (b : Int) = compare (n : Int) (m : Int) := by
  rw [show compare (a : Int) (b : Int) = compareOfLessAndEq (a : Int) (b : Int) from rfl, show compare (n : Int) (m : Int) = compareOfLessAndEq (n : Int) (m : Int) from rfl]
  unfold compareOfLessAndEq
  have h1 : (a : Int) < (b : Int) ↔ (n : Int) < (m : Int) := by
    rw [Int.ofNat_lt, Int.ofNat_lt]
    constructor
    · intro h
      have : n * T < m * T := by rw [← ha, ← hb]; exact Nat.mul_lt_mul_of_pos_right h hK
      exact Nat.lt_of_mul_lt_mul_right this
    · intro h
      have : a * K < b * K := by rw [ha, hb]; exact Nat.mul_lt_mul_of_pos_right h hT
      exact Nat.lt_of_mul_lt_mul_right this
  have h2 : (a : Int) = (b : Int) ↔ (n : Int) = (m : Int) := by
    rw [Int.ofNat_inj, Int.ofNat_inj]
    constructor
    · intro h
      exact Nat.eq_of_mul_eq_mul_right hT (by rw [← ha, ← hb, h])
    · intro h
      exact Nat.eq_of_mul_eq_mul_right hK (by rw [ha, hb, h])
  by_cases c1 : (n : Int) < (m : Int)
  · rw [if_pos (h1.2 c1), if_pos c1]
  · rw [if_neg (fun h => c1 (h1.1 h)), if_neg c1]
    by_cases c2 : (n : Int) = (m : Int)
    · rw [if_pos (h2.2 c2), if_pos c2]
    · rw [if_neg (fun h => c2 (h2.1 h)), if_neg c2]
/-- Whole numbers compare as their floats do. -/
theorem fN_order {n m : Nat} (hn : n < 2 ^ 53) (hm : m < 2 ^ 53) : FloatKind.f64.format.order (fN n) (fN m) = some (compare (n : Int) (m : Int)) := by
  obtain ⟨a, i, h1, h2, h3, h4⟩ := fN_val hn
  obtain ⟨b, j, k1, k2, k3, k4⟩ := fN_val hm
  unfold Ieee.Format.order
  rw [h1, k1]
  simp only [Ieee.Datum.order, Ieee.signed, Bool.false_eq_true, if_false, Option.some.injEq]
  refine cmp_mul (K := 2 ^ (min i j + 1074).toNat) (T := 2 ^ 1074) (Nat.pow_pos (by omega)) (Nat.pow_pos (by omega)) ?_ ?_
  · rw [Nat.shiftLeft_eq, Nat.mul_assoc, ← Nat.pow_add, show (i - min i j).toNat + (min i j + 1074).toNat = (i + 1074).toNat by omega]; exact h4
  · rw [Nat.shiftLeft_eq, Nat.mul_assoc, ← Nat.pow_add, show (j - min i j).toNat + (min i j + 1074).toNat = (j + 1074).toNat by omega]; exact k4
theorem fN_below {n : Nat} (hn : n < 2 ^ 53) : FloatKind.f64.format.order (fN n) (floatOfInt .f64 (-1)) = some .gt := by
  obtain ⟨a, i, h1, h2, h3, h4⟩ := fN_val hn
  have hr : FloatKind.f64.format.read (floatOfInt .f64 (-1)) = .number true (2 ^ 52) (-52) := by decide +kernel
  unfold Ieee.Format.order
  rw [h1, hr]
  simp only [Ieee.Datum.order, Ieee.signed, Bool.false_eq_true, if_false, if_true, Option.some.injEq]
  have hp : (0 : Int) < ((2 ^ 52 <<< ((-52 : Int) - min i (-52)).toNat : Nat) : Int) := by
    have := Nat.pos_of_ne_zero (shl_pos (show (2 ^ 52 : Nat) ≠ 0 by omega) ((-52 : Int) - min i (-52)).toNat)
    omega
  generalize ((2 ^ 52 <<< ((-52 : Int) - min i (-52)).toNat : Nat) : Int) = y at *
  generalize a <<< (i - min i (-52)).toNat = x at *
  show compareOfLessAndEq (x : Int) (-y) = .gt
  unfold compareOfLessAndEq
  rw [if_neg (by omega), if_neg (by omega)]
/-- A whole number's float, made whole, is it. -/
theorem fN_toInt {n : Nat} (hn : n < 2 ^ 53) : floatToIntVal .f64 (fN n) .i64 = some (n : Int) := by
  by_cases h0 : n = 0
  · subst h0; decide +kernel
  · have hlog : n.log2 ≤ 52 := by have := (Nat.log2_lt h0).2 hn; omega
    have hr := fN_read h0 hn
    unfold floatToIntVal
    rw [show FloatKind.f64.decode (fN n) = FloatKind.f64.format.read (fN n) from rfl, hr]
    unfold Ieee.Datum.toInt Ieee.Datum.integral
    simp only
    rw [show ((n.log2 : Int) - 52).toNat = 0 by omega, Nat.shiftLeft_zero, show (-((n.log2 : Int) - 52)).toNat = 52 - n.log2 by omega, cut_zero n (52 - n.log2) (by rw [log2_shift h0]; omega)]
    unfold Ieee.signed
    simp only [Bool.false_eq_true, if_false, Nat.shiftLeft_zero]
    have h1 : IntKind.i64.min = -9223372036854775808 := by decide
    have h2 : IntKind.i64.max = 9223372036854775807 := by decide
    rw [if_pos (by rw [h1, h2]; omega)]
end Go.Proofs.YtnlkakbpcdfgfaaGreat
