/- NameDigits, over what package name answers. -/
import Derived.Test.YtpdeagndandnjaaDoorNmL2
namespace Go.Proofs.YtpdeagndandnjaaDoor
set_option maxRecDepth 20000
open Go.RowKit

theorem digs_more : ∀ (f n : Nat), n < 27 ^ f → digs (f + 1) n = digs f n
  | 0, n, h => by
    have : n = 0 := by simpa using h
    subst this
    simp [digs]
  | f + 1, n, h => by
    by_cases h0 : n = 0
    · subst h0; simp [digs]
    · rw [digs, if_neg h0, digs_more f (n / 27) (by rw [Nat.pow_succ] at h; omega)]
      conv => rhs; rw [digs, if_neg h0]
theorem digs_many : ∀ (f n : Nat), 27 ^ f ≤ n → (digs (f + 1) n).length = f + 1
  | 0, n, h => by rw [digs, if_neg (by simp at h; omega)]; simp [digs]
  | f + 1, n, h => by
    have hp : 0 < 27 ^ (f + 1) := Nat.pow_pos (by omega)
    rw [digs, if_neg (by omega), List.length_append, digs_many f (n / 27) (by rw [Nat.pow_succ] at h; omega)]
    rfl
def nz (l : List Nat) : Bool := l.all (fun d => decide (d ≠ 0))
theorem text_digs (m : Nat) (h : m < 600000) : textOk (m : Int) = ((decide (0 < m) && nz (digs 5 m)) && decide ((digs 5 m).length ≤ 4)) := by
  unfold textOk
  rw [Int.toNat_natCast]
  by_cases h4 : m < 27 ^ 4
  · have e := digs_more 4 m h4
    have hl := digs_len 4 m
    rw [show (5 : Nat) = 4 + 1 from rfl, e, decide_eq_true hl, Bool.and_true, decide_eq_true (show (m : Int) ≤ 531440 by omega), Bool.true_and]
    have : decide (1 ≤ (m : Int)) = decide (0 < m) := by rw [decide_eq_decide]; omega
    rw [this]
    rfl
  · have hl := digs_many 4 m (by omega)
    rw [show (5 : Nat) = 4 + 1 from rfl, decide_eq_false (show ¬ (m : Int) ≤ 531440 by omega), Bool.false_and, Bool.and_false, decide_eq_false (show ¬ (digs (4 + 1) m).length ≤ 4 by omega), Bool.and_false]
set_option maxRecDepth 100000 in
set_option maxHeartbeats 3200000 in
theorem ndigits_any (G : NmOk) (n : Int) (w : World) (h0 : 0 ≤ n) (h1 : n < 4294967296) :
    Calls Tryd.prog 8 #[.int .u32 n] w fun e w' => e = .returned (.bool true) ∧ Ext w w' := by
  obtain ⟨m, hm⟩ : ∃ m : Nat, n % 600000 = (m : Int) := Int.eq_ofNat_of_zero_le (Int.emod_nonneg _ (by omega))
  have hm2 : m < 600000 := by have := Int.emod_lt_of_pos n (show (0 : Int) < 600000 by omega); omega
  have hm3 : n.tmod 600000 = (m : Int) := by rw [Int.tmod_eq_emod_of_nonneg h0]; exact hm
  have e1 : IntKind.i64.wrap n = n := by rw [IntKind.wrap_i64]; omega
  have GT := Lib.hid (fun w' => G.text (m : Int) w')
  have HTD := Lib.hid (text_digs m hm2)
  have HLEN := Lib.hid (fun (h : textOk (m : Int) = true) => of_text h)
  go_enter Tryd.func8, Tryd.ntmps8
  go_wp2_with (first
    | (go_at_call 9; refine (G.shown _).mono ?_; rintro e w2 ⟨rfl, hx⟩; have X := Lib.hid hx; clear hx)
    | (go_at_call 12; refine stop_here ?_))
  refine stop_on ?_
  refine (GT.out _).mono ?_
  rintro e w3 ⟨t, rfl, ht, hx⟩
  have HT := Lib.hid ht
  have X3 := Lib.hid (X.out.trans hx)
  clear ht hx
  go_wp2_with fail
  go_loop [7, 8, 9] (fun c b k => ∃ j K : Nat, ∃ wh : Bool, j ≤ 5 ∧ c = .int .i64 j ∧ b = .bool wh ∧ k = .int .i64 K ∧ K < 27 ^ (5 - j) ∧ (digs (5 - j) K).length + j = (digs 5 m).length ∧ (wh && nz (digs (5 - j) K)) = (decide (0 < m) && nz (digs 5 m))) (fun _ _ k => (intOf k).toNat)
  case atStart => exact ⟨0, m, _, by omega, rfl, rfl, rfl, by omega, rfl, by first | rfl | simp⟩
  case round =>
    obtain ⟨j, K, wh, hj, rfl, rfl, rfl, hK, hl, hb⟩ := hrel
    have HL := Lib.hid hl
    have HB := Lib.hid hb
    have HKK := Lib.hid hK
    clear hl hb hK
    rcases Nat.eq_zero_or_pos K with hk0 | hk0
    · subst hk0
      have hd0 : digs (5 - j) 0 = [] := by rcases h : 5 - j with _ | i <;> simp [digs]
      have hj5 : (digs 5 m).length = j := by have h := HL.out; rw [hd0] at h; simpa using h.symm
      have hwh : wh = (decide (0 < m) && nz (digs 5 m)) := by have h := HB.out; rw [hd0] at h; simpa [nz] using h
      have htk : textOk (m : Int) = (wh && decide (j ≤ 4)) := by rw [HTD.out, hj5, ← hwh]
      have RO := Lib.hid (ref17Of_any t w3)
      clear hd0 hwh
      cases hok : textOk (m : Int) with
      | true =>
        rw [hok] at htk
        have hw := (Bool.and_eq_true_iff.1 htk.symm).1
        have hj4 := of_decide_eq_true (Bool.and_eq_true_iff.1 htk.symm).2
        subst hw
        obtain ⟨t1, t2, t3⟩ := of_text hok
        obtain ⟨o1, o2⟩ := of_good t1
        have e4 := (text_good hok).2
        have hm4 : m < 27 ^ 4 := by
          have h := hok
          unfold textOk at h
          simp only [Bool.and_eq_true, decide_eq_true_eq] at h
          omega
        have hsz : t.size = j := by rw [← tx_len, HT.out, t3, Int.toNat_natCast, ← hj5, show (5 : Nat) = 4 + 1 from rfl, digs_more 4 m hm4]
        rw [HT.out, o1, o2] at RO
        have hnum : (numL (textL (m : Int)) : Int) = (m : Int) := t2
        rw [hnum] at RO
        have d1 : decide ((j : Int) ≤ 4) = true := decide_eq_true (by omega)
        have d2 : decide (j ≤ 4) = true := decide_eq_true hj4
        have HE := Lib.hid e4
        have s1 : ((t.size : Int) == (j : Int)) = true := by rw [hsz]; simp
        have s2 : (t.size == j) = true := by rw [hsz]; simp
        clear htk hok t1 t2 t3 o1 o2 e4 hm4 hsz hnum hj5
        rw [HE.out]
        go_wp2_with (go_at_call 11; refine RO.out.mono ?_; rintro e w5 ⟨rfl, rfl⟩)
        go_ret
        exact ⟨rfl, X3.out⟩
      | false =>
        rw [hok] at htk
        have e4 := (text_bad hok).2
        have HE := Lib.hid e4
        cases wh with
        | false =>
          clear htk hok e4 hj5
          rw [HE.out]
          go_wp2_with (go_at_call 11; refine RO.out.mono ?_; rintro e w5 ⟨rfl, rfl⟩)
          go_ret
          exact ⟨rfl, X3.out⟩
        | true =>
          have hj4 : ¬ j ≤ 4 := fun h => by rw [decide_eq_true h] at htk; cases htk
          have d1 : decide ((j : Int) ≤ 4) = false := decide_eq_false (by omega)
          have d2 : decide (j ≤ 4) = false := decide_eq_false hj4
          clear htk hok e4 hj5
          rw [HE.out]
          go_wp2_with (go_at_call 11; refine RO.out.mono ?_; rintro e w5 ⟨rfl, rfl⟩)
          go_ret
          exact ⟨rfl, X3.out⟩
    · have hki : (0 : Int) < (K : Int) := by omega
      obtain ⟨i, hi⟩ : ∃ i, 5 - j = i + 1 := ⟨5 - j - 1, by
        have : j ≠ 5 := fun e => by have h := HKK.out; subst e; simp at h; omega
        omega⟩
      have hj1 : j + 1 ≤ 5 := by omega
      have hi2 : 5 - (j + 1) = i := by omega
      have hdg : digs (5 - j) K = digs i (K / 27) ++ [K % 27] := by rw [hi, digs, if_neg (by omega)]
      have hKb : K < 14348907 := by have h := HKK.out; exact Nat.lt_of_lt_of_le h (Nat.le_trans (Nat.pow_le_pow_right (n := 27) (by omega) (show 5 - j ≤ 5 by omega)) (by decide))
      have HK2 := Lib.hid (show K / 27 < 27 ^ (5 - (j + 1)) from by have h := HKK.out; rw [hi2]; rw [hi, Nat.pow_succ] at h; omega)
      have HL2 := Lib.hid (show (digs (5 - (j + 1)) (K / 27)).length + (j + 1) = (digs 5 m).length from by rw [← HL.out, hdg, hi2, List.length_append, List.length_singleton]; omega)
      have HNZ := Lib.hid (show nz (digs (5 - j) K) = (nz (digs (5 - (j + 1)) (K / 27)) && decide (K % 27 ≠ 0)) from by rw [hdg, hi2]; unfold nz; rw [List.all_append]; simp)
      have hr : (K : Int).tmod 27 = (K : Int) % 27 := Int.tmod_eq_emod_of_nonneg (by omega)
      clear hdg hi hi2
      cases wh with
      | false =>
        have HB2 := Lib.hid (show (false && nz (digs (5 - (j + 1)) (K / 27))) = (decide (0 < m) && nz (digs 5 m)) from by have h := HB.out; rw [Bool.false_and] at h; rw [Bool.false_and]; exact h)
        go_wp2_with fail
        go_round
        case rel => exact ⟨j + 1, K / 27, false, hj1, by go_num, rfl, by go_num, HK2.out, HL2.out, HB2.out⟩
        case measure => simp [intOf]; omega
      | true =>
        by_cases hz : K % 27 = 0
        · have HB2 := Lib.hid (show (false && nz (digs (5 - (j + 1)) (K / 27))) = (decide (0 < m) && nz (digs 5 m)) from by have h := HB.out; rw [HNZ.out, decide_eq_false (show ¬ (K % 27 ≠ 0) from fun h => h hz)] at h; simpa using h)
          have d1 : decide ((0 : Int) < (K : Int) % 27) = false := decide_eq_false (by omega)
          go_wp2_with fail
          go_round
          case rel => exact ⟨j + 1, K / 27, false, hj1, by go_num, by first | rfl | rw [d1], by go_num, HK2.out, HL2.out, HB2.out⟩
          case measure => simp [intOf]; omega
        · have HB2 := Lib.hid (show (true && nz (digs (5 - (j + 1)) (K / 27))) = (decide (0 < m) && nz (digs 5 m)) from by have h := HB.out; rw [HNZ.out, decide_eq_true (show (K % 27 ≠ 0) from hz)] at h; simpa using h)
          have d1 : decide ((0 : Int) < (K : Int) % 27) = true := decide_eq_true (by omega)
          go_wp2_with fail
          go_round
          case rel => exact ⟨j + 1, K / 27, true, hj1, by go_num, by first | rfl | rw [d1], by go_num, HK2.out, HL2.out, HB2.out⟩
          case measure => simp [intOf]; omega
end Go.Proofs.YtpdeagndandnjaaDoor
