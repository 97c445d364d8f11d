/- Walks of Put. -/
import Derived.Test.YticppegploniaaaNt4
namespace Go.Proofs.Yticppegploniaaa
open Go.RowKit

theorem info5 : (Try.prog.info? 5).map (fun i => (i.zero, i.size, i.bytes)) = some (some (.int .u8 0), 1, 1) := by kernel_rfl

/-- A slice value that tells the bytes l. -/
def Got (w : World) (v : Value) (l : List UInt8) : Prop := ∃ A cap, v = .slice A l.length cap ∧ l.length ≤ cap ∧ cap ≤ maxLen ∧ (A = none → cap = 0) ∧ Cells w A (l.map bv)

theorem got_nil (w : World) : Got w (.slice none 0 0) [] := ⟨none, 0, rfl, Nat.le_refl _, by unfold maxLen; omega, fun _ => rfl, fun h => absurd rfl h⟩
theorem got_own {w : World} {B n : Nat} {v : Value} {l : List UInt8} (h : w.ownsRow B 5 1 v n (l.map bv)) : Got w v l := by
  have hn : l.length = n := by have := h.1; simpa using this
  subst hn
  rcases h.2 with ⟨rfl, hl⟩ | ⟨g, cap, cur, rfl, _, hg, hc, hm, _, _⟩
  · rw [List.eq_nil_of_length_eq_zero hl]; exact got_nil w
  · refine ⟨_, cap, rfl, hc, hm, (fun h => by cases h), fun _ => ⟨g, 0, rfl, (Array.getElem?_eq_some_iff.1 hg).1, fun j u hu => ?_⟩⟩
    have := h.cellAt j (by have := (List.getElem?_eq_some_iff.1 hu).1; simpa using this)
    rw [Nat.zero_add, this, hu]
theorem Got.below {w w' : World} {v : Value} {l : List UInt8} (h : Got w v l) (hb : Below w.heap.size w w') : Got w' v l := by
  obtain ⟨A, cap, rfl, h1, h2, h4, h3⟩ := h
  exact ⟨A, cap, rfl, h1, h2, h4, h3.below hb⟩
theorem below_grown {w w' w'' : World} {row : Option Nat} (h : Below w.heap.size w w') (hg : w'.grownBy w'' row) (hr : ∀ k, row = some k → w.heap.size ≤ k) : Below w.heap.size w w'' := h.grown hg h.size hr

theorem putS_some {n m : Nat} (h1 : 1 ≤ m) (h2 : m ≤ 4) (h3 : n < 256 ^ m) : putS n m = putL n m := by
  unfold putS
  have : (n : Int) < 256 ^ (m : Int).toNat := by
    rw [Int.toNat_natCast]
    have e : ((256 ^ m : Nat) : Int) = (256 : Int) ^ m := by simp
    rw [← e]; omega
  rw [if_pos ⟨by omega, by omega, by omega, this⟩]; rfl
theorem putS_none {n w : Int} (h : ¬ (1 ≤ w ∧ w ≤ 4 ∧ 0 ≤ n ∧ n < 256 ^ w.toNat)) : putS n w = [] := by
  unfold putS; rw [if_neg h]
theorem pow8 (k : Nat) : (2 : Nat) ^ (8 * k) = 256 ^ k := by rw [show (256 : Nat) = 2 ^ 8 from rfl, ← Nat.pow_mul]
theorem shr_byte (n k : Nat) : (n : Int) / 2 ^ (8 * k) = ((n / 256 ^ k : Nat) : Int) := by
  rw [← pow8]; simp
theorem shr_zero (n m : Nat) (h : n < 256 ^ m) : ((n : Int) / 2 ^ (8 * m) != 0) = false := by
  rw [shr_byte, Nat.div_eq_of_lt h]; rfl
theorem shr_pos (n m : Nat) (h : ¬ n < 256 ^ m) : ((n : Int) / 2 ^ (8 * m) != 0) = true := by
  rw [shr_byte]
  have : 0 < n / 256 ^ m := Nat.div_pos (by omega) (Nat.pow_pos (by omega))
  generalize n / 256 ^ m = z at *
  simp; omega
theorem bv_ofNat (n : Nat) : Value.int .u8 ((n : Int) % 256) = bv (UInt8.ofNat n) := by
  unfold bv; simp
/-- What the new row holds behind k rounds. -/
def putCells (n m k : Nat) : List Value := (putL n k).map bv ++ List.replicate (m - k) (.int .u8 0)
theorem putCells_set (n m k : Nat) (h : k < m) : (putCells n m k).set k (bv (UInt8.ofNat (n / 256 ^ k))) = putCells n m (k + 1) := by
  unfold putCells
  rw [List.set_append_right _ _ (by simp [putL_length])]
  simp only [List.length_map, putL_length, Nat.sub_self]
  rw [show m - k = (m - (k + 1)) + 1 by omega, List.replicate_succ, List.set_cons_zero, putL_snoc]
  simp

theorem own_nil (w : World) : w.ownsRow w.heap.size 5 1 (.slice none 0 0) ([] : List UInt8).length (([] : List UInt8).map bv) := ⟨rfl, .inl ⟨rfl, rfl⟩⟩
set_option maxHeartbeats 1000000 in
theorem numPut_own (n w_ : Int) (w : World) (hn1 : -9223372036854775808 ≤ n) (hn2 : n ≤ 9223372036854775807) :
    Calls Try.prog 14 #[.int .i64 n, .int .i64 w_] w fun e w' => ∃ v, e = .returned v ∧ w'.ownsRow w.heap.size 5 1 v (putS n w_).length ((putS n w_).map bv) ∧ Below w.heap.size w w' := by
  by_cases hw : 1 ≤ w_ ∧ w_ ≤ 4
  · have t1 : isW w_ = true := by unfold isW; simp; omega
    by_cases h0 : 0 ≤ n
    · obtain ⟨m, rfl⟩ := Int.eq_ofNat_of_zero_le (show 0 ≤ w_ by omega)
      obtain ⟨n, rfl⟩ := Int.eq_ofNat_of_zero_le h0
      obtain ⟨hw1, hw2⟩ := hw
      by_cases hlt : n < 256 ^ m
      · have t2 := shr_zero n m hlt
        have HP := Lib.hid (putS_some (n := n) (m := m) (by omega) (by omega) hlt)
        clear hlt
        obtain ⟨i0, hi, hz0, hz1, hz2⟩ := info_parts info5
        go_enter Try.func14, Try.ntmps14
        go_wp2_with (first | (go_at_call 19; refine (numIsWidth_any _ _).mono ?_; rintro e w' ⟨rfl, rfl⟩) | (at_make; refine wpList_make_full _ rfl _ _ 32 rfl w.heap.size 5 i0 (.int .u8 0) 1 Try.underlying32 hi hz0 hz1 _ _ _ _ m rfl rfl rfl rfl (by rw [hz2]; omega) (by unfold maxLen; omega) (Nat.le_refl _) ?_; intro w1 hown hgrow))
        have ec : (madeCells (Value.int IntKind.u8 0).cells (m * 1)).toList = putCells n m 0 := by
          rw [Nat.mul_one]; exact toList_madeCells_one _ _
        rw [ec] at hown
        go_loopw [24] (fun i wr => ∃ k : Nat, k ≤ m ∧ i = .int .i64 k ∧ wr.ownsRow w.heap.size 5 1 (.slice (some ⟨w.heap.size, 0, none⟩) m m) m (putCells n m k) ∧ Below w.heap.size w wr) (fun i _ => m - (intOf i).toNat)
        case atStart => exact ⟨0, Nat.zero_le _, rfl, hown, below_grown (Below.refl _ _) hgrow (by intro k h; cases h)⟩
        case round =>
          obtain ⟨k, hk, rfl, ho, hb⟩ := hrel
          clear hown hgrow ec
          by_cases hlt : k < m
          · have hf := ho.frozenAt k
            obtain ⟨u, hu⟩ : ∃ u, wr.cell? ⟨w.heap.size, k, none⟩ = some u := by
              rw [ho.cellAt k (by omega)]
              have hl := ho.1
              exact ⟨_, List.getElem?_eq_getElem (by omega)⟩
            have HO := Lib.hid (ho.stored k (bv (UInt8.ofNat (n / 256 ^ k))))
            have HB := Lib.hid hb
            have HC := Lib.hid (putCells_set n m k hlt)
            have HS := Lib.hid (shr_byte n k)
            clear ho hb
            go_wp2
            rw [HS.out, bv_ofNat]
            go_roundw
            case rel => exact ⟨k + 1, by omega, by go_num, HC.out ▸ HO.out.1, below_grown HB.out HO.out.2 (by intro q h; cases h; exact Nat.le_refl _)⟩
            case measure => simp [intOf]; omega
          · obtain rfl : k = m := by omega
            have HO := Lib.hid ho
            have HB := Lib.hid hb
            clear ho hb
            go_wp2
            go_ret
            refine ⟨_, rfl, ?_, HB.out⟩
            rw [HP.out, putL_length]
            have h := HO.out
            unfold putCells at h
            rw [Nat.sub_self, List.replicate_zero, List.append_nil] at h
            exact h
      · have t2 := shr_pos n m hlt
        have HP := Lib.hid (putS_none (n := n) (w := m) (by
          rintro ⟨_, _, _, h⟩
          apply hlt
          rw [Int.toNat_natCast] at h
          have e : ((256 ^ m : Nat) : Int) = (256 : Int) ^ m := by simp
          rw [← e] at h; omega))
        go_enter Try.func14, Try.ntmps14
        go_wp2_with (go_at_call 19; refine (numIsWidth_any _ _).mono ?_; rintro e w' ⟨rfl, rfl⟩)
        go_ret
        exact ⟨_, rfl, HP.out ▸ own_nil w, Below.refl _ _⟩
    · have HP := Lib.hid (putS_none (n := n) (w := w_) (by omega))
      go_enter Try.func14, Try.ntmps14
      go_wp2_with (go_at_call 19; refine (numIsWidth_any _ _).mono ?_; rintro e w' ⟨rfl, rfl⟩)
      go_ret
      exact ⟨_, rfl, HP.out ▸ own_nil w, Below.refl _ _⟩
  · have t1 : isW w_ = false := by unfold isW; simp; omega
    have HP := Lib.hid (putS_none (n := n) (w := w_) (by omega))
    go_enter Try.func14, Try.ntmps14
    go_wp2_with (go_at_call 19; refine (numIsWidth_any _ _).mono ?_; rintro e w' ⟨rfl, rfl⟩)
    go_ret
    exact ⟨_, rfl, HP.out ▸ own_nil w, Below.refl _ _⟩

theorem numPut_any (n w_ : Int) (w : World) (hn1 : -9223372036854775808 ≤ n) (hn2 : n ≤ 9223372036854775807) :
    Calls Try.prog 14 #[.int .i64 n, .int .i64 w_] w fun e w' => ∃ v, e = .returned v ∧ Got w' v (putS n w_) ∧ Below w.heap.size w w' := by
  refine (numPut_own n w_ w hn1 hn2).mono ?_
  rintro e w' ⟨v, rfl, h, hb⟩
  exact ⟨v, rfl, got_own h, hb⟩
end Go.Proofs.Yticppegploniaaa
