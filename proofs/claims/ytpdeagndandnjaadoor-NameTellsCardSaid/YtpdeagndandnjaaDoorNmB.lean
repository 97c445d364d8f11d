/- Walk of Text of the reference of layer 17. -/
import Derived.Test.YtpdeagndandnjaaDoorNmA
namespace Go.Proofs.YtpdeagndandnjaaDoor
set_option maxRecDepth 20000
open Go.RowKit

theorem text_bad {n : Int} (h : textOk n = false) : textL n = [] ∧ textE n = 1 := by unfold textL textE; rw [h]; exact ⟨rfl, rfl⟩
theorem text_good {n : Int} (h : textOk n = true) : textL n = (digs 4 n.toNat).map chr ∧ textE n = 0 := by unfold textL textE; rw [h]; exact ⟨rfl, rfl⟩
theorem text_out {n : Int} (h : n < 1 ∨ 531440 < n) : textOk n = false := by
  unfold textOk
  rcases h with h | h
  · rw [decide_eq_false (by omega)]; rfl
  · rw [decide_eq_false (show ¬ n ≤ 531440 by omega)]; simp
theorem text_nought {n : Int} {d : Nat} (hd : d ∈ digs 4 n.toNat) (h : d = 0) : textOk n = false := by
  cases hk : textOk n with
  | false => rfl
  | true =>
    unfold textOk at hk
    simp only [Bool.and_eq_true, decide_eq_true_eq, List.all_eq_true] at hk
    exact absurd h (hk.2.2 d hd)
theorem str_nil (t : ByteArray) (h : tx t = []) : t = ByteArray.mk #[] := by
  cases t with
  | mk a => unfold tx at h; simp at h; subst h; rfl
theorem str_inj {s t : ByteArray} (h : tx s = tx t) : s = t := by
  cases s; cases t
  unfold tx at h
  simp at h
  exact congrArg _ h
theorem conv_one (w : World) (d : Nat) (hd : d < 27) : (convert 50 9 (.slice (some ⟨w.heap.size, 0, none⟩) 1 1)).run Tryd.prog (w.alloc (.cells #[.int .u8 (96 + (d : Int))] 5)) = .ok (.string ⟨#[chr d]⟩) (w.alloc (.cells #[.int .u8 (96 + (d : Int))] 5)) := by
  have h := run_convert_bytes_back (P := Tryd.prog) (w.alloc (.cells #[.int .u8 (96 + (d : Int))] 5)) 50 9 5 ⟨w.heap.size, 0, none⟩ 1 [chr d] Tryd.underlying50 Tryd.underlying5 Tryd.underlying9 (fun j hj => by
    obtain rfl : j = 0 := by simpa using hj
    have hb := (Bx.new w #[.int .u8 (96 + (d : Int))] 5).at 0 _ rfl
    simp only [List.getElem_cons_zero]
    rw [chr_nat hd, Addr.add_lit, show ((96 + d : Nat) : Int) = 96 + (d : Int) from by omega]
    exact hb)
  simpa using h
theorem tx_append (a b : ByteArray) : tx (a ++ b) = tx a ++ tx b := by unfold tx; rw [ByteArray.data_append, Array.toList_append]
theorem tx_one (c : UInt8) : tx ⟨#[c]⟩ = [c] := rfl
set_option maxRecDepth 100000 in
set_option maxHeartbeats 1600000 in
theorem ref17Text_any (n : Int) (w : World) :
    Calls Tryd.prog 13 #[.int .i64 n] w fun e w' => ∃ t : ByteArray, e = .returned (.tuple #[.string t, .int .i64 (textE n : Nat)]) ∧ tx t = textL n ∧ Ext w w' := by
  by_cases h1 : n < 1
  · obtain ⟨e1, e2⟩ := text_bad (text_out (n := n) (.inl h1))
    rw [e1, e2]
    go_enter Tryd.func13, Tryd.ntmps13
    go_wp2_with fail
    go_ret2
    exact ⟨_, rfl, rfl, Ext.refl w⟩
  · by_cases h4 : 531440 < n
    · obtain ⟨e1, e2⟩ := text_bad (text_out (n := n) (.inr h4))
      rw [e1, e2]
      have d1 : decide (n < 1) = false := decide_eq_false (by omega)
      have d2 : decide ((531440 : Int) < n) = true := decide_eq_true (by omega)
      go_enter Tryd.func13, Tryd.ntmps13
      go_wp2_with fail
      go_ret2
      exact ⟨_, rfl, rfl, Ext.refl w⟩
    · have d1 : decide (n < 1) = false := decide_eq_false (by omega)
      have d2 : decide ((531440 : Int) < n) = false := decide_eq_false (by omega)
      obtain ⟨N, rfl⟩ := Int.eq_ofNat_of_zero_le (show 0 ≤ n by omega)
      go_enter Tryd.func13, Tryd.ntmps13
      go_wp2_with fail
      go_loopw [0, 4] (fun m s wr => ∃ k M : Nat, ∃ t : ByteArray, k ≤ 4 ∧ m = .int .i64 M ∧ s = .string t ∧ M < 27 ^ (4 - k) ∧ (digs (4 - k) M).map chr ++ tx t = (digs 4 N).map chr ∧ (∀ d ∈ digs (4 - k) M, d ∈ digs 4 N) ∧ ((∀ d ∈ digs (4 - k) M, d ≠ 0) → ∀ d ∈ digs 4 N, d ≠ 0) ∧ Ext w wr) (fun m _ _ => (intOf m).toNat)
      case atStart => exact ⟨0, N, _, by omega, rfl, rfl, by omega, by simp [tx], fun d h => h, fun h => h, Ext.refl w⟩
      case round =>
        obtain ⟨k, M, t, hk, rfl, rfl, hM, hT, hin, hnz, hx⟩ := hrel
        have HT := Lib.hid hT
        have HIN := Lib.hid hin
        have HNZ := Lib.hid hnz
        have HX := Lib.hid hx
        clear hT hin hnz hx
        rcases Nat.eq_zero_or_pos M with h0 | h0
        · subst h0
          have hd0 : digs (4 - k) 0 = [] := by rcases h : 4 - k with _ | j <;> simp [digs]
          have HE := Lib.hid (show textOk (N : Int) = true from by
            have h := HNZ.out (by rw [hd0]; simp)
            unfold textOk
            simp only [Bool.and_eq_true, decide_eq_true_eq, List.all_eq_true, Int.toNat_natCast]
            exact ⟨by omega, by omega, fun d hd => h d hd⟩)
          have HF := Lib.hid (text_good HE.out)
          have HT0 := Lib.hid (show tx t = (digs 4 N).map chr from by rw [← HT.out, hd0]; rfl)
          clear hd0
          go_wp2_with fail
          go_ret2
          exact ⟨t, by rw [HF.out.2]; rfl, HT0.out.trans HF.out.1.symm, HX.out⟩
        · have p0 : (0 : Int) < (M : Int) := by omega
          have hMb : M < 531441 := Nat.lt_of_lt_of_le hM (Nat.le_trans (Nat.pow_le_pow_right (n := 27) (by omega) (show 4 - k ≤ 4 by omega)) (by decide))
          obtain ⟨j, hj⟩ : ∃ j, 4 - k = j + 1 := ⟨4 - k - 1, by
            have : k ≠ 4 := fun e => by subst e; simp at hM; omega
            omega⟩
          have hk3 : k + 1 ≤ 4 := by omega
          have hj2 : 4 - (k + 1) = j := by omega
          have hdg : digs (4 - k) M = digs j (M / 27) ++ [M % 27] := by rw [hj, digs, if_neg (by omega)]
          by_cases hz : M % 27 = 0
          · have HB := Lib.hid (text_bad (text_nought (n := (N : Int)) (HIN.out 0 (by rw [hdg, hz]; simp)) rfl))
            clear hdg hj hj2
            have hzi : (M : Int) % 27 = 0 := by omega
            go_wp2_with fail
            go_ret2
            exact ⟨_, by rw [HB.out.2]; rfl, HB.out.1.symm, HX.out⟩
          · have hzi : ((M : Int) % 27 == 0) = false := by rw [beq_eq_false_iff_ne]; omega
            have hcv := conv_one wr (M % 27) (Nat.mod_lt _ (by omega))
            rw [show ((M % 27 : Nat) : Int) = (M : Int) % 27 from by omega] at hcv
            have ht4 : t.size ≤ 4 := by
              have h := congrArg List.length HT.out
              have h2 := digs_len 4 N
              rw [List.length_append, List.length_map, List.length_map, tx_len] at h
              omega
            have HCX := Lib.hid ((Ext.refl wr).alloc (.cells #[.int .u8 (96 + (M : Int) % 27)] 5))
            have HM2 := Lib.hid (show M / 27 < 27 ^ (4 - (k + 1)) from by rw [hj2]; rw [hj, Nat.pow_succ] at hM; omega)
            have HT2 := Lib.hid (show (digs (4 - (k + 1)) (M / 27)).map chr ++ tx (⟨#[chr (M % 27)]⟩ ++ t) = (digs 4 N).map chr from by
              rw [← HT.out, hdg, hj2, tx_append, tx_one, List.map_append]; simp)
            have HI2 := Lib.hid (show ∀ d ∈ digs (4 - (k + 1)) (M / 27), d ∈ digs 4 N from fun d hd => HIN.out d (by rw [hdg, ← hj2]; exact List.mem_append_left _ hd))
            have HN2 := Lib.hid (show (∀ d ∈ digs (4 - (k + 1)) (M / 27), d ≠ 0) → ∀ d ∈ digs 4 N, d ≠ 0 from fun h => HNZ.out (fun d hd => by
              rw [hdg, List.mem_append] at hd
              rcases hd with hd | hd
              · exact h d (by rw [hj2]; exact hd)
              · rw [List.mem_singleton.1 hd]; exact hz))
            clear hdg hj hj2 hM
            go_wp2_with fail
            go_roundw
            case rel => exact ⟨k + 1, M / 27, _, hk3, by go_num, rfl, HM2.out, HT2.out, HI2.out, HN2.out, HX.out.trans HCX.out⟩
            case measure => simp [intOf]; omega
end Go.Proofs.YtpdeagndandnjaaDoor
