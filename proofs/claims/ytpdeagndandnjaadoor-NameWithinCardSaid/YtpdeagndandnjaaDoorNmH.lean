/- Text and Join of package name as it landed. -/
import Derived.Test.YtpdeagndandnjaaDoorNmG
namespace Go.Proofs.YtpdeagndandnjaaDoor
set_option maxRecDepth 20000
open Go.RowKit

theorem letter_any (f : Int) (w : World) (h1 : 1 ≤ f) (h2 : f ≤ 26) :
    Calls Tryd.prog 22 #[.int .i64 f] w fun e w' => e = .returned (.int .i32 (96 + f)) ∧ w = w' := by
  have e1 : IntKind.i64.wrap (f - 1) = f - 1 := by rw [IntKind.wrap_i64]; omega
  have e2 : IntKind.i32.wrap (f - 1) = f - 1 := by rw [IntKind.wrap_i32]; omega
  have e3 : IntKind.i32.wrap (97 + (f - 1)) = 96 + f := by rw [IntKind.wrap_i32]; omega
  go_enter Tryd.func22, Tryd.ntmps22
  go_wp2_with fail
  go_ret
  exact ⟨by first | rfl | (congr 2; omega), rfl⟩
theorem enc_chr {d : Nat} (h : d < 27) : Utf8.encode (96 + (d : Int)) = ⟨#[chr d]⟩ := by
  have : ∀ d : Nat, d < 27 → Utf8.encode (96 + (d : Int)) = ⟨#[chr d]⟩ := by decide +kernel
  exact this d h
set_option maxRecDepth 100000 in
set_option maxHeartbeats 1600000 in
theorem nameText_any (n : Int) (w : World) :
    Calls Tryd.prog 12 #[.int .i64 n] w fun e w' => ∃ t : ByteArray, e = .returned (.tuple #[.string t, .int .i64 (textE n : Nat)]) ∧ tx t = textL n ∧ Ext w w' := by
  by_cases h1 : n < 1
  · obtain ⟨e1, e2⟩ := text_bad (text_out (n := n) (.inl h1))
    rw [e1, e2]
    have d1 : decide (n < 1) = true := decide_eq_true h1
    go_enter Tryd.func12, Tryd.ntmps12
    go_wp2_with fail
    go_ret2
    exact ⟨_, rfl, rfl, Ext.refl w⟩
  · by_cases h4 : 531440 < n
    · obtain ⟨e1, e2⟩ := text_bad (text_out (n := n) (.inr h4))
      rw [e1, e2]
      have d1 : decide (n < 1) = false := decide_eq_false (by omega)
      have d2 : decide ((531440 : Int) < n) = true := decide_eq_true (by omega)
      go_enter Tryd.func12, Tryd.ntmps12
      go_wp2_with fail
      go_ret2
      exact ⟨_, rfl, rfl, Ext.refl w⟩
    · have d1 : decide (n < 1) = false := decide_eq_false (by omega)
      have d2 : decide ((531440 : Int) < n) = false := decide_eq_false (by omega)
      obtain ⟨N, rfl⟩ := Int.eq_ofNat_of_zero_le (show 0 ≤ n by omega)
      go_enter Tryd.func12, Tryd.ntmps12
      go_wp2_with fail
      go_loopw [0, 4] (fun m s wr => ∃ k M : Nat, ∃ t : ByteArray, k ≤ 4 ∧ m = .int .i64 M ∧ s = .string t ∧ M < 27 ^ (4 - k) ∧ (digs (4 - k) M).map chr ++ tx t = (digs 4 N).map chr ∧ (∀ d ∈ digs (4 - k) M, d ∈ digs 4 N) ∧ ((∀ d ∈ digs (4 - k) M, d ≠ 0) → ∀ d ∈ digs 4 N, d ≠ 0) ∧ wr = w) (fun m _ _ => (intOf m).toNat)
      case atStart => exact ⟨0, N, _, by omega, rfl, rfl, by omega, by simp [tx], fun d h => h, fun h => h, rfl⟩
      case round =>
        obtain ⟨k, M, t, hk, rfl, rfl, hM, hT, hin, hnz, rfl⟩ := hrel
        have HT := Lib.hid hT
        have HIN := Lib.hid hin
        have HNZ := Lib.hid hnz
        clear hT hin hnz
        rcases Nat.eq_zero_or_pos M with h0 | h0
        · subst h0
          have hd0 : digs (4 - k) 0 = [] := by rcases h : 4 - k with _ | j <;> simp [digs]
          have HE := Lib.hid (show textOk (N : Int) = true from by
            have h := HNZ.out (by rw [hd0]; simp)
            unfold textOk
            simp only [Bool.and_eq_true, decide_eq_true_eq, List.all_eq_true, Int.toNat_natCast]
            exact ⟨by omega, by omega, fun d hd => h d hd⟩)
          have HF := Lib.hid (text_good HE.out)
          have HT0 := Lib.hid (show tx t = (digs 4 N).map chr from by rw [← HT.out, hd0]; rfl)
          clear hd0
          go_wp2_with fail
          go_ret2
          exact ⟨t, by rw [HF.out.2]; rfl, HT0.out.trans HF.out.1.symm, Ext.refl _⟩
        · have p0 : (0 : Int) < (M : Int) := by omega
          have hMb : M < 531441 := Nat.lt_of_lt_of_le hM (Nat.le_trans (Nat.pow_le_pow_right (n := 27) (by omega) (show 4 - k ≤ 4 by omega)) (by decide))
          obtain ⟨j, hj⟩ : ∃ j, 4 - k = j + 1 := ⟨4 - k - 1, by
            have : k ≠ 4 := fun e => by subst e; simp at hM; omega
            omega⟩
          have hk3 : k + 1 ≤ 4 := by omega
          have hj2 : 4 - (k + 1) = j := by omega
          have hdg : digs (4 - k) M = digs j (M / 27) ++ [M % 27] := by rw [hj, digs, if_neg (by omega)]
          by_cases hz : M % 27 = 0
          · have HB := Lib.hid (text_bad (text_nought (n := (N : Int)) (HIN.out 0 (by rw [hdg, hz]; simp)) rfl))
            clear hdg hj hj2
            have hzi : (M : Int) % 27 = 0 := by omega
            go_wp2_with fail
            go_ret2
            exact ⟨_, by rw [HB.out.2]; rfl, HB.out.1.symm, Ext.refl _⟩
          · have hzi : ((M : Int) % 27 == 0) = false := by rw [beq_eq_false_iff_ne]; omega
            have ht4 : t.size ≤ 4 := by
              have h := congrArg List.length HT.out
              have h2 := digs_len 4 N
              rw [List.length_append, List.length_map, List.length_map, tx_len] at h
              omega
            have HM2 := Lib.hid (show M / 27 < 27 ^ (4 - (k + 1)) from by rw [hj2]; rw [hj, Nat.pow_succ] at hM; omega)
            have HT2 := Lib.hid (show (digs (4 - (k + 1)) (M / 27)).map chr ++ tx (⟨#[chr (M % 27)]⟩ ++ t) = (digs 4 N).map chr from by
              rw [← HT.out, hdg, hj2, tx_append, tx_one, List.map_append]; simp)
            have HI2 := Lib.hid (show ∀ d ∈ digs (4 - (k + 1)) (M / 27), d ∈ digs 4 N from fun d hd => HIN.out d (by rw [hdg, ← hj2]; exact List.mem_append_left _ hd))
            have HN2 := Lib.hid (show (∀ d ∈ digs (4 - (k + 1)) (M / 27), d ≠ 0) → ∀ d ∈ digs 4 N, d ≠ 0 from fun h => HNZ.out (fun d hd => by
              rw [hdg, List.mem_append] at hd
              rcases hd with hd | hd
              · exact h d (by rw [hj2]; exact hd)
              · rw [List.mem_singleton.1 hd]; exact hz))
            have hen := enc_chr (d := M % 27) (Nat.mod_lt _ (by omega))
            rw [show ((M % 27 : Nat) : Int) = (M : Int) % 27 from by omega] at hen
            obtain ⟨E, hE⟩ : ∃ E, ByteArray.mk #[chr (M % 27)] = E := ⟨_, rfl⟩
            have hs1 : E.size = 1 := by rw [← hE]; rfl
            rw [hE] at hen HT2
            clear hE
            have HL := Lib.hid (fun w' => letter_any ((M : Int) % 27) w' (by omega) (by omega))
            clear hdg hj hj2 hM
            go_wp2_with (go_at_call 22; refine (HL.out _).mono ?_; rintro e w2 ⟨rfl, rfl⟩)
            go_roundw
            case rel => exact ⟨k + 1, M / 27, _, hk3, by go_num, rfl, HM2.out, HT2.out, HI2.out, HN2.out, trivial⟩
            case measure => simp [intOf]; omega
set_option maxRecDepth 100000 in
set_option maxHeartbeats 1600000 in
theorem nameJoin_any (A : Option Addr) (l : List Int) (n c : Nat) (w : World) (hn : n = l.length) (hb : n ≤ 1000000) (hA : Sl w A n c (l.map zv)) :
    Calls Tryd.prog 16 #[.slice A n c] w fun e w' => ∃ t : ByteArray, e = .returned (.tuple #[.string t, .int .i64 (joinE l : Nat)]) ∧ tx t = joinL l ∧ Ext w w' := by
  have HA := Lib.hid hA.cells
  have HN := Lib.hid hn
  clear hA hn
  by_cases h20 : 20 < n
  · have HE := Lib.hid (join_bad (join_no (l := l) (k := 20) (by rw [← HN.out]; exact h20) (.inr (Nat.le_refl _))))
    have d1 : decide ((20 : Int) < (n : Int)) = true := decide_eq_true (by omega)
    have d2 : decide (20 < n) = true := decide_eq_true h20
    go_enter Tryd.func16, Tryd.ntmps16
    go_wp2_with fail
    go_ret2
    exact ⟨_, by rw [HE.out.2]; rfl, HE.out.1.symm, Ext.refl w⟩
  have d1 : decide ((20 : Int) < (n : Int)) = false := decide_eq_false (by omega)
  have d2 : decide (20 < n) = false := decide_eq_false h20
  rcases Nat.eq_zero_or_pos n with h0 | h0
  · subst h0
    obtain rfl : l = [] := List.eq_nil_of_length_eq_zero HN.out.symm
    clear HN HA
    go_enter Tryd.func16, Tryd.ntmps16
    go_wp2_with fail
    go_ret2
    exact ⟨_, rfl, rfl, Ext.refl w⟩
  have e0 : ((n : Int) == 0) = false := by rw [beq_eq_false_iff_ne]; omega
  have e1 : (n == 0) = false := by rw [beq_eq_false_iff_ne]; omega
  go_enter Tryd.func16, Tryd.ntmps16
  go_wp2_with fail
  go_loopw [4, 17] (fun s i wr => ∃ k : Nat, ∃ t : ByteArray, k ≤ n ∧ i = .int .i64 k ∧ s = .string t ∧ tx t = slashed ((l.take k).map textL) ∧ (l.take k).all textOk = true ∧ Ext w wr) (fun _ i _ => n - (intOf i).toNat)
  case atStart => exact ⟨0, _, Nat.zero_le _, rfl, rfl, rfl, rfl, Ext.refl w⟩
  case round =>
    obtain ⟨k, t, hk, rfl, rfl, ht, hok, hx⟩ := hrel
    have HT := Lib.hid ht
    have HOK := Lib.hid hok
    have HX := Lib.hid hx
    clear ht hok
    have hts : t.size ≤ 100 := by
      have h := slashed_len (l.take k)
      rw [← HT.out, tx_len, List.length_take] at h
      omega
    rcases Nat.lt_or_ge k n with hlt | hlt
    · have hkl : k < l.length := by rw [← HN.out]; exact hlt
      obtain ⟨b, off, rfl, hbl, hc⟩ := (HA.out.ext hx).zum hkl
      have hck := hc k hkl
      have hki : (k : Int) < (n : Int) := by omega
      have HTK := Lib.hid (List.take_succ_eq_append_getElem hkl)
      have HNO := Lib.hid (fun (h : textOk l[k] = false ∨ 20 ≤ k) => join_bad (join_no hkl h))
      have HTX := Lib.hid (nameText_any l[k] wr)
      have htl := textL_len l[k]
      clear hc hx
      generalize l[k] = x at *
      cases hg : textOk x
      · have HE := Lib.hid (HNO.out (.inl hg))
        have he : textE x = 1 := (text_bad hg).2
        rw [he] at HTX
        clear hg he
        go_wp2_with (go_at_call 12; refine HTX.out.mono ?_; rintro e w2 ⟨t2, rfl, ht2, hx2⟩; have HX2 := Lib.hid (HX.out.trans hx2); clear ht2 hx2)
        go_ret2
        exact ⟨_, by rw [HE.out.2]; rfl, HE.out.1.symm, HX2.out⟩
      · have he : textE x = 0 := (text_good hg).2
        rw [he] at HTX
        have HAL := Lib.hid (show (l.take (k + 1)).all textOk = true from by rw [HTK.out, List.all_append, HOK.out]; simp [hg])
        clear hg he
        have hs1 : (ByteArray.mk #[47]).size = 1 := rfl
        go_wp2_with (go_at_call 12; refine HTX.out.mono ?_; rintro e w2 ⟨t2, rfl, ht2, hx2⟩; have HT2 := Lib.hid ht2; have HX2 := Lib.hid (HX.out.trans hx2); have hs2 : t2.size ≤ 4 := (by rw [← tx_len, ht2]; exact htl); have hs3 : (ByteArray.mk #[47] ++ t2).size ≤ 5 := (by rw [ByteArray.size_append, hs1]; omega); clear ht2 hx2)
        have HTN := Lib.hid (show tx (t ++ (⟨#[47]⟩ ++ t2)) = slashed ((l.take (k + 1)).map textL) from by
          rw [tx_append, tx_append, HT.out, HTK.out, List.map_append, slashed_app, HT2.out]
          simp [slashed, tx])
        go_roundw
        case rel => exact ⟨k + 1, _, by omega, by go_num, rfl, HTN.out, HAL.out, HX2.out⟩
        case measure => simp [intOf]; omega
    · obtain rfl : k = n := by omega
      have HE := Lib.hid (join_good (show joinOk l = true from by
        have h := HOK.out
        rw [HN.out, List.take_length] at h
        unfold joinOk
        rw [h, decide_eq_true (by rw [← HN.out]; omega)]
        rfl))
      have HT2 := Lib.hid (show tx t = joinL l from by
        rw [HE.out.1, if_neg (by intro e; subst e; have := HN.out; simp at this; omega), HT.out, HN.out, List.take_length])
      go_wp2_with fail
      go_ret2
      exact ⟨t, by rw [HE.out.2]; rfl, HT2.out, HX.out⟩
end Go.Proofs.YtpdeagndandnjaaDoor
