/- Walk of NumBytes. -/
import Derived.Test.YtobhmkdjjglfaaaL1
namespace Go.Proofs.Ytobhmkdjjglfaaa
open Go.RowKit

theorem Cells.take {w : World} {A : Option Addr} {xs : List Value} (h : Cells w A xs) (k : Nat) : Cells w A (xs.take k) := fun hne => by
  obtain ⟨b, off, e, hlt, hc⟩ := h (by intro e; subst e; simp at hne)
  exact ⟨b, off, e, hlt, fun j u hu => hc j u (by
    rw [List.getElem?_take] at hu
    split at hu
    · exact hu
    · cases hu)⟩
theorem leNat_one (l : List UInt8) (k : Nat) (hk : k < l.length) : leNat ((l.drop k).take 1) = l[k].toNat := by
  rw [List.drop_eq_getElem_cons hk, List.take_succ_cons, List.take_zero]; simp [leNat]
theorem leNat_step (l : List UInt8) (k : Nat) (hk : k < l.length) : leNat (l.take (k + 1)) = leNat (l.take k) + 256 ^ k * l[k].toNat := by
  have := leNat_take_succ l 0 k (by omega)
  simpa using this
theorem putL_take (n w : Nat) : ∀ k, k ≤ w → (putL n w).take k = putL n k := by
  induction w generalizing n with
  | zero =>
    intro k hk
    have e : k = 0 := by omega
    rw [e]; rfl
  | succ w ih =>
    intro k hk
    cases k with
    | zero => rfl
    | succ k => simp only [putL, List.take_succ_cons]; rw [ih _ k (by omega)]
theorem putL_mod (n w : Nat) : putL (n % 256 ^ w) w = putL n w := by
  have h := putL_leNat (putL n w)
  rw [leNat_putL, putL_length] at h
  exact h
theorem putL_inj (a b w : Nat) (ha : a < 256 ^ w) (hb : b < 256 ^ w) (h : putL a w = putL b w) : a = b := by
  have := congrArg leNat h
  rwa [leNat_putL, leNat_putL, Nat.mod_eq_of_lt ha, Nat.mod_eq_of_lt hb] at this

set_option maxHeartbeats 2000000 in
theorem numBytes_any (n : Nat) (wd : Int) (w : World) (hn : n < 4294967296) (hw1 : -9223372036854775808 ≤ wd) (hw2 : wd ≤ 9223372036854775807) :
    Calls Try.prog 7 #[.int .u32 n, .int .i64 wd] w fun e w' => e = .returned (.bool true) ∧ Below w.heap.size w w' := by
  by_cases hlo : 1 ≤ wd
  · by_cases hhi : wd ≤ 3
    · obtain ⟨m, rfl⟩ := Int.eq_ofNat_of_zero_le (show 0 ≤ wd by omega)
      go_enter Try.func7, Try.ntmps7
      go_wp2_with (go_at_call 9; refine stop_here ?_)
      refine stop_on ?_
      refine (shown_any _).mono ?_
      rintro e w1 ⟨rfl, hb1⟩
      have HB1 := Lib.hid hb1
      clear hb1
      go_wp2_with (go_at_call 13; refine stop_here ?_)
      refine stop_on ?_
      have hp := putS_some (n := n) (m := 4) (by omega) (by omega) (by omega)
      have hP := putP_any n 4 w1 (by omega) (by omega)
      rw [show putS (n : Int) 4 = putL n 4 from hp] at hP
      refine hP.mono ?_
      rintro e w2 ⟨v2, rfl, ⟨A, c, rfl, hlc, hm2, hnil, hcl⟩, hb2⟩
      have h4 := putL_length 4 n
      have HB2 := Lib.hid (HB1.out.trans (hb2.mono HB1.out.size))
      have HC := Lib.hid hcl
      have HL := Lib.hid h4
      rw [h4] at hlc ⊢
      have H4 := Lib.hid (show (putL n 4).length ≤ maxLen by rw [h4]; unfold maxLen; omega)
      clear hp hP hb2 hcl hnil hm2 h4
      have hlf : leNat (putL n 4) = n := by rw [leNat_putL]; exact Nat.mod_eq_of_lt (by omega)
      have HLF := Lib.hid hlf
      clear hlf
      have HTK := Lib.hid (putL_take n 4 m (by omega))
      generalize hl : putL n 4 = l at *
      have HPL := Lib.hid hl; clear hl
      go_wp2
      go_loop [7, 8, 9] (fun s y i => ∃ k : Nat, k ≤ 4 ∧ i = .int .i64 k ∧ s = .int .i64 (leNat (l.take k) : Nat) ∧ y = .int .i64 (256 ^ k : Nat)) (fun _ _ i => 4 - (intOf i).toNat)
      case atStart => exact ⟨0, by omega, rfl, rfl, rfl⟩
      case round =>
        obtain ⟨k, hk, rfl, rfl, rfl⟩ := hrel
        by_cases hlt : k < 4
        · have hkl : k < l.length := by rw [HL.out]; exact hlt
          have hT := takeP_any A l c k 1 w2 H4.out HC.out (by omega) (by omega)
          have e1 : takeV l k 1 2 = .tuple #[.int .i64 (l[k].toNat : Nat), .int .i64 ((k : Int) + 1), .int .i64 0] := by
            have := takeV_some (l := l) (a := k) (m := 1) (z := 2) (by omega) (by omega) (by omega)
            rw [leNat_one l k hkl] at this
            exact this
          rw [e1, HL.out] at hT
          have HT := Lib.hid hT
          have hb8 := l[k].toNat_lt
          have HS := Lib.hid (leNat_step l k hkl)
          have b1 := leNat_take_lt l 0 k
          rw [List.drop_zero] at b1
          have b2 : 256 ^ k ≤ 256 ^ 3 := Nat.pow_le_pow_right (by omega) (by omega)
          have b3 : 256 ^ k * l[k].toNat ≤ 256 ^ 3 * 255 := Nat.mul_le_mul b2 (by omega)
          have HPW := Lib.hid (Nat.pow_succ 256 k)
          clear hT e1
          generalize l[k].toNat = u at *
          generalize leNat (List.take k l) = s at *
          generalize 256 ^ k = y at *
          have b4 : ((y : Int) * (u : Int)) = ((y * u : Nat) : Int) := by simp
          have b5 : 0 ≤ (y : Int) * (u : Int) := by rw [b4]; omega
          have b6 : (y : Int) * (u : Int) ≤ 4278190080 := by rw [b4]; omega
          clear b4
          go_wp2_with (go_at_call 10; refine HT.out.mono ?_; rintro e w' ⟨rfl, rfl⟩)
          go_round
          case rel => exact ⟨k + 1, by omega, by go_num, by rw [HS.out]; go_num, by rw [HPW.out]; go_num⟩
          case measure => simp [intOf]; omega
        · obtain rfl : k = 4 := by omega
          have e4 : leNat (List.take 4 l) = n := by rw [← HL.out, List.take_length]; exact HLF.out
          rw [e4]
          have HT := takeP_any A l c 0 m w2 H4.out HC.out (by omega) (by omega)
          have ev : takeV l 0 m 2 = .tuple #[.int .i64 (leNat (putL n m) : Nat), .int .i64 m, .int .i64 0] := by
            have := takeV_some (l := l) (a := 0) (m := m) (z := 2) (by omega) (by omega) (by rw [HL.out]; omega)
            rw [List.drop_zero, HTK.out] at this
            simpa using this
          rw [ev, HL.out] at HT
          have HT := Lib.hid HT
          have hlow := leNat_lt (putL n m)
          rw [putL_length] at hlow
          have hlow3 : leNat (putL n m) < 256 ^ 3 := Nat.lt_of_lt_of_le hlow (Nat.pow_le_pow_right (by omega) (by omega))
          have HPL2 := Lib.hid (show putS (leNat (putL n m) : Nat) m = l.take m by
            rw [putS_some (by omega) (by omega) hlow, leNat_putL, putL_mod, HTK.out])
          clear ev e4 hlow
          generalize leNat (putL n m) = low at *
          go_wp2_with (first | (go_at_call 10; refine HT.out.mono ?_; rintro e w' ⟨rfl, rfl⟩) | (go_at_call 13; refine stop_here ?_))
          refine stop_on ?_
          refine (putP_any _ _ _ (by omega) (by omega)).mono ?_
          rw [HPL2.out]
          rintro e w3 ⟨v3, rfl, ⟨A3, c3, rfl, _, _, _, hc3⟩, hb3⟩
          have hml : (l.take m).length = m := by rw [List.length_take, HL.out]; omega
          have HR := row_any A3 A (l.take m) (l.take m) c3 c w3 (by rw [hml]; unfold maxLen; omega) (by rw [hml]; unfold maxLen; omega) hc3 (by rw [List.map_take]; exact (HC.out.below hb3).take m)
          rw [rowB_true _ _ rfl, hml] at HR
          have HR := Lib.hid HR
          have HB3 := Lib.hid (HB2.out.trans (hb3.mono HB2.out.size))
          rw [hml]
          clear hc3 hb3 hml
          have hmc : (m : Int) ≤ c := by omega
          go_wp2_with (first | (go_at_call 12; refine HR.out.mono ?_; rintro e w' ⟨rfl, q, rfl⟩) | (go_at_call 13; refine stop_here ?_))
          refine stop_on ?_
          have hP2 := putP_any ((n : Int) / 2) 4 (w3.drewN q) (by omega) (by omega)
          rw [show putS ((n : Int) / 2) 4 = putL (n / 2) 4 from by
            rw [show (n : Int) / 2 = ((n / 2 : Nat) : Int) by omega]
            exact putS_some (n := n / 2) (m := 4) (by omega) (by omega) (by omega)] at hP2
          refine hP2.mono ?_
          clear hP2
          rintro e w4 ⟨v4, rfl, hgot4, hb4⟩
          have HG4 := Lib.hid hgot4
          have HB4 := Lib.hid ((below_drewN HB3.out q).trans (hb4.mono HB3.out.size))
          clear hgot4 hb4 HR
          go_wp2_with (go_at_call 13; refine stop_here ?_)
          refine stop_on ?_
          have hP2 := putP_any ((n : Int) / 2 + 1) 4 w4 (by omega) (by omega)
          rw [show putS ((n : Int) / 2 + 1) 4 = putL (n / 2 + 1) 4 from by
            rw [show (n : Int) / 2 + 1 = ((n / 2 + 1 : Nat) : Int) by omega]
            exact putS_some (n := n / 2 + 1) (m := 4) (by omega) (by omega) (by omega)] at hP2
          refine hP2.mono ?_
          clear hP2
          rintro e w5 ⟨v5, rfl, hgot5, hb5⟩
          obtain ⟨A4, c4, rfl, _, _, _, hc4⟩ := HG4.out
          obtain ⟨A5, c5, rfl, _, _, _, hc5⟩ := hgot5
          have HB5 := Lib.hid (HB4.out.trans (hb5.mono HB4.out.size))
          have HR := row_any A4 A5 _ _ c4 c5 w5 (by rw [putL_length]; unfold maxLen; omega) (by rw [putL_length]; unfold maxLen; omega) (hc4.below hb5) hc5
          rw [rowB_false _ _ (fun h => by have := putL_inj _ _ 4 (by omega) (by omega) h; omega)] at HR
          have HR := Lib.hid HR
          clear hc4 hc5 hb5 HG4
          go_wp2_with (go_at_call 12; refine HR.out.mono ?_; rintro e w' ⟨rfl, q2, rfl⟩)
          go_ret
          exact ⟨rfl, below_drewN HB5.out q2⟩
    · go_enter Try.func7, Try.ntmps7
      go_wp2_with (go_at_call 9; refine (shown_any _).mono ?_; rintro e w1 ⟨rfl, hb1⟩; have HB1 := Lib.hid hb1; clear hb1)
      go_ret
      exact ⟨rfl, HB1.out⟩
  · go_enter Try.func7, Try.ntmps7
    go_wp2_with (go_at_call 9; refine (shown_any _).mono ?_; rintro e w1 ⟨rfl, hb1⟩; have HB1 := Lib.hid hb1; clear hb1)
    go_ret
    exact ⟨rfl, HB1.out⟩
end Go.Proofs.Ytobhmkdjjglfaaa
