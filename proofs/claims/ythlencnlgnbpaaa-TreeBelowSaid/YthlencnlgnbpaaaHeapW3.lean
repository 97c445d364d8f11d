/- Walks of Right and May of the reference. -/
import Derived.Test.YthlencnlgnbpaaaHeapW2
namespace Go.Proofs.Ythlencnlgnbpaaa
open Go.RowKit
attribute [local go_sem ↓] Go.wp_at_zero Go.wp_at_succ

theorem rightH_no {l : List HC} {keep : Int} (h : ¬ ((1 ≤ l.length ∧ l.length ≤ 2000) ∧ (0 ≤ keep ∧ keep ≤ l.length))) : rightH ⟨l, keep⟩ = false := by
  unfold rightH; simp only; rw [decide_eq_false h]; rfl
theorem rightH_bad {l : List HC} {keep : Int} {k : Nat} (hk : k < l.length) (h : cellR l.length l[k] = false) : rightH ⟨l, keep⟩ = false := by
  unfold rightH; simp only
  rw [show l.all (cellR l.length) = false from by rw [List.all_eq_false]; exact ⟨l[k], List.getElem_mem hk, by simp [h]⟩]
  simp
theorem rightH_yes {l : List HC} {keep : Int} (h : (1 ≤ l.length ∧ l.length ≤ 2000) ∧ (0 ≤ keep ∧ keep ≤ l.length)) (h2 : ∀ k (hk : k < l.length), cellR l.length l[k] = true) : rightH ⟨l, keep⟩ = true := by
  unfold rightH; simp only
  rw [decide_eq_true h, show l.all (cellR l.length) = true from by
    rw [List.all_eq_true]; intro x hx
    obtain ⟨j, hj, rfl⟩ := List.mem_iff_getElem.1 hx
    exact h2 j hj]
  rfl
theorem rightH_iff {l : List HC} {keep : Int} (h : rightH ⟨l, keep⟩ = true) : ((1 ≤ l.length ∧ l.length ≤ 2000) ∧ (0 ≤ keep ∧ keep ≤ l.length)) ∧ ∀ k (hk : k < l.length), cellR l.length l[k] = true := by
  unfold rightH at h
  simp only [Bool.and_eq_true, decide_eq_true_eq, List.all_eq_true] at h
  exact ⟨h.1, fun k hk => h.2 _ (List.getElem_mem hk)⟩

set_option maxRecDepth 100000 in
set_option maxHeartbeats 1600000 in
theorem ref05Right_any (R : Option Addr) (l : List HC) (n q : Nat) (keep : Int) (w : World) (hA : HcSl w R n q l) :
    Calls Try.prog 26 #[.agg #[.slice R n q, .int .i64 keep]] w fun e w' => e = .returned (.bool (rightH ⟨l, keep⟩)) ∧ Ext w w' := by
  have hn := hA.1
  have hml : n ≤ maxLen := by obtain ⟨_, cs, h, _⟩ := hA; exact h.len
  have HML := Lib.hid hml
  unfold maxLen at hml
  have HX := Lib.hid ((Ext.refl w).alloc (.cells #[.slice R n q, .int .i64 keep] 24))
  have hb := Bx.new w #[.slice R n q, .int .i64 keep] 24
  have HB := Lib.hid hb
  have HA := Lib.hid (hA.ext HX.out)
  have HN := Lib.hid hn
  have HNO := Lib.hid (fun (h : ¬ ((1 ≤ n ∧ n ≤ 2000) ∧ (0 ≤ keep ∧ keep ≤ n))) => rightH_no (l := l) (keep := keep) (by rw [← hn]; exact h))
  obtain ⟨b0, b1, b2⟩ := hb.read2
  clear hA hb hn
  rcases Nat.lt_or_ge n 1 with h0 | h0
  · obtain rfl : n = 0 := by omega
    have HE := Lib.hid (HNO.out (by omega))
    go_enter Try.func26, Try.ntmps26
    go_wp2_with fail
    go_ret
    exact ⟨ret_bool HE.out.symm, HX.out⟩
  have d0 : decide ((n : Int) < 1) = false := decide_eq_false (by omega)
  have d0' : decide (n < 1) = false := decide_eq_false (by omega)
  have d0'' : decide (n = 0) = false := decide_eq_false (by omega)
  rcases Nat.lt_or_ge 2000 n with h1 | h1
  · have d1 : decide ((2000 : Int) < (n : Int)) = true := decide_eq_true (by omega)
    have d1' : decide (2000 < n) = true := decide_eq_true (by omega)
    have HE := Lib.hid (HNO.out (by omega))
    clear h0 h1
    go_enter Try.func26, Try.ntmps26
    go_wp2_with fail
    go_ret
    exact ⟨ret_bool HE.out.symm, HX.out⟩
  have d1 : decide ((2000 : Int) < (n : Int)) = false := decide_eq_false (by omega)
  have d1' : decide (2000 < n) = false := decide_eq_false (by omega)
  rcases Int.lt_or_le keep 0 with h2 | h2
  · have d2 : decide (keep < 0) = true := decide_eq_true h2
    have HE := Lib.hid (HNO.out (by omega))
    clear h0 h1 h2
    go_enter Try.func26, Try.ntmps26
    go_wp2_with fail
    go_ret
    exact ⟨ret_bool HE.out.symm, HX.out⟩
  have d2 : decide (keep < 0) = false := decide_eq_false (by omega)
  rcases Int.lt_or_le n keep with h3 | h3
  · have d3 : decide ((n : Int) < keep) = true := decide_eq_true h3
    have HE := Lib.hid (HNO.out (by omega))
    clear h0 h1 h2 h3
    go_enter Try.func26, Try.ntmps26
    go_wp2_with fail
    go_ret
    exact ⟨ret_bool HE.out.symm, HX.out⟩
  have d3 : decide ((n : Int) < keep) = false := decide_eq_false (by omega)
  have HOK := Lib.hid (show (1 ≤ n ∧ n ≤ 2000) ∧ (0 ≤ keep ∧ keep ≤ n) from ⟨⟨h0, h1⟩, h2, h3⟩)
  clear h0 h1 h2 h3 HNO
  go_enter Try.func26, Try.ntmps26
  go_wp2_with fail
  generalize hW : World.alloc w _ = W at *
  clear hW
  go_loopw [3] (fun i wr => ∃ k : Nat, k ≤ n ∧ i = .int .i64 k ∧ Ext W wr ∧ ∀ j (hj : j < l.length), j < k → cellR n l[j] = true) (fun i _ => n - (intOf i).toNat)
  case atStart => exact ⟨0, Nat.zero_le _, rfl, Ext.refl _, fun j hj h => by omega⟩
  case round =>
    obtain ⟨k, hk, rfl, hx, hne⟩ := hrel
    have HNE := Lib.hid hne
    have HXR := Lib.hid hx
    clear hne b0 b1 b2
    obtain ⟨b0, b1, b2⟩ := (HB.out.ext hx).read2
    rcases Nat.lt_or_ge k n with hlt | hlt
    · have hkl : k < l.length := by rw [← HN.out]; exact hlt
      obtain ⟨b, off, rfl, hbl, A, c, r0, r1, r2, r3, hI⟩ := (HA.out.ext hx).cell hkl
      have hki : (k : Int) < (n : Int) := by omega
      have HF := Lib.hid (fun (h : cellR n l[k] = false) => rightH_bad (keep := keep) hkl (by rw [← HN.out]; exact h))
      have HK := Lib.hid (fun (h : cellR n l[k] = true) => (show ∀ j (hj : j < l.length), j < k + 1 → cellR n l[j] = true from fun j hj hjk => by
        rcases Nat.lt_or_ge j k with h' | h'
        · exact HNE.out j hj h'
        · obtain rfl : j = k := by omega
          exact h))
      have HC := Lib.hid (fun w' (hx : Ext wr w') => ref05cell_any (some ⟨b, off, none⟩) n q keep l[k] A l[k].it.length c w' HML.out rfl (hI.ext hx))
      clear HNE hI hx
      obtain ⟨u, hu⟩ : ∃ u, cellR n l[k] = u := ⟨_, rfl⟩
      rw [hu] at HF HK HC
      clear hu
      generalize hq : l[k] = x at *
      clear hq
      obtain ⟨rf, pn, lf, it⟩ := x
      simp only at r0 r1 r2 r3 HC
      generalize it.length = m at *
      cases u
      · have HE := Lib.hid (HF.out rfl)
        clear HF HK
        go_wp2_with fail
        go_region_law
          (first
            | ((go_simp
                go_at_call 37
                refine (HC.out _ ?_).mono ?_
                (first | exact (Ext.refl _).drew | exact Ext.refl _)
                rintro e w1 ⟨rfl, hx⟩
                have HX1 := Lib.hid (show Ext wr w1 from by first | exact (Ext.refl _).drew.trans hx | exact hx)
                clear hx)))
        all_goals
          go_wp2_with fail
          go_ret
          exact ⟨ret_bool HE.out.symm, HX.out.trans (HXR.out.trans HX1.out)⟩
      · have HE := Lib.hid (HK.out rfl)
        clear HF HK
        go_wp2_with fail
        go_region_law
          (first
            | ((go_simp
                go_at_call 37
                refine (HC.out _ ?_).mono ?_
                (first | exact (Ext.refl _).drew | exact Ext.refl _)
                rintro e w1 ⟨rfl, hx⟩
                have HX1 := Lib.hid (show Ext wr w1 from by first | exact (Ext.refl _).drew.trans hx | exact hx)
                clear hx)))
        all_goals
          go_wp2_with fail
          go_roundw
          case rel => exact ⟨k + 1, by omega, by go_num, HXR.out.trans HX1.out, HE.out⟩
          case measure => simp [intOf]; omega
    · obtain rfl : k = n := by omega
      have HE := Lib.hid (rightH_yes (l := l) (keep := keep) (by rw [← HN.out]; exact HOK.out) (fun j hj => by rw [← HN.out]; exact HNE.out j hj (by rw [HN.out]; exact hj)))
      clear hlt hx
      go_wp2_with fail
      go_ret
      exact ⟨ret_bool HE.out.symm, HX.out.trans HXR.out⟩

def mayH (h : Hp) (most : Int) : Bool := smallH h most && rightH h
set_option maxRecDepth 100000 in
set_option maxHeartbeats 800000 in
theorem ref05May_any (R : Option Addr) (l : List HC) (n q : Nat) (keep most : Int) (w : World) (hA : HcSl w R n q l) :
    Calls Try.prog 10 #[.agg #[.slice R n q, .int .i64 keep], .int .i64 most] w fun e w' => e = .returned (.bool (mayH ⟨l, keep⟩ most)) ∧ Ext w w' := by
  have HX := Lib.hid ((Ext.refl w).alloc (.cells #[.slice R n q, .int .i64 keep] 24))
  have hb := Bx.new w #[.slice R n q, .int .i64 keep] 24
  have HB := Lib.hid hb
  have HS := Lib.hid (fun w' (hx : Ext w w') => ref05Small_any R l n q keep most w' (hA.ext hx))
  have HR := Lib.hid (fun w' (hx : Ext w w') => ref05Right_any R l n q keep w' (hA.ext hx))
  have HM := Lib.hid (show mayH ⟨l, keep⟩ most = (smallH ⟨l, keep⟩ most && rightH ⟨l, keep⟩) from rfl)
  obtain ⟨b0, b1, b2⟩ := hb.read2
  obtain ⟨r1, hr1⟩ : ∃ r, smallH ⟨l, keep⟩ most = r := ⟨_, rfl⟩
  obtain ⟨r2, hr2⟩ : ∃ r, rightH ⟨l, keep⟩ = r := ⟨_, rfl⟩
  rw [hr1] at HS HM
  rw [hr2] at HR HM
  clear hA hb hr1 hr2
  cases r1
  all_goals
    go_enter Try.func10, Try.ntmps10
    go_wp2_with (first
      | (go_at_call 28; refine (HS.out _ HX.out).mono ?_; rintro e w1 ⟨rfl, hx⟩; have HX1 := Lib.hid (HX.out.trans hx); clear b0 b1 b2; obtain ⟨b0, b1, b2⟩ := (HB.out.ext hx).read2; clear hx)
      | (go_at_call 26; refine (HR.out _ HX1.out).mono ?_; rintro e w2 ⟨rfl, hx⟩; have HX2 := Lib.hid (HX1.out.trans hx); clear hx))
    go_ret
    first
    | exact ⟨ret_bool (by rw [HM.out]; rfl), HX2.out⟩
    | exact ⟨ret_bool (by rw [HM.out]; rfl), HX1.out⟩
end Go.Proofs.Ythlencnlgnbpaaa
