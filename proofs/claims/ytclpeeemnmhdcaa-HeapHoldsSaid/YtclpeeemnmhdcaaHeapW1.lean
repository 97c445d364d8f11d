/- Walks of Used, In, Free, Fits and Small of the reference. -/
import Derived.Test.YtclpeeemnmhdcaaHeapP
import Derived.Deep.AppendLies
import Derived.Deep.RegionHeld3
import Derived.Deep.DeepCutAuto
import Derived.Deep.DrawnRows
import Derived.RegionTactic
import Derived.StillTailTactics
namespace Go.Proofs.Ytclpeeemnmhdcaa
open Go.RowKit
attribute [local go_sem ↓] Go.wp_at_zero Go.wp_at_succ

set_option maxRecDepth 100000 in
set_option maxHeartbeats 800000 in
theorem ref05Used_any (R : Option Addr) (l : List HC) (n q : Nat) (keep p : Int) (w : World) (hA : HcSl w R n q l) :
    Calls Try.prog 30 #[.agg #[.slice R n q, .int .i64 keep], .int .i64 p] w fun e w' => e = .returned (.bool (usedC l p)) ∧ Ext w w' := by
  have hn := hA.1
  have HX := Lib.hid ((Ext.refl w).alloc (.cells #[.slice R n q, .int .i64 keep] 24))
  have hb := Bx.new w #[.slice R n q, .int .i64 keep] 24
  obtain ⟨b0, b1, b2⟩ := hb.read2
  have HA := Lib.hid (hA.ext HX.out)
  clear hA hb
  rcases Int.lt_or_le p 0 with h0 | h0
  · have d0 : decide (0 ≤ p) = false := decide_eq_false (by omega)
    have HU := Lib.hid (usedC_neg (l := l) h0)
    clear h0 hn
    go_enter Try.func30, Try.ntmps30
    go_wp2
    go_ret
    exact ⟨ret_bool HU.out.symm, HX.out⟩
  rcases Int.lt_or_le p n with h1 | h1
  · obtain ⟨k, rfl⟩ := Int.eq_ofNat_of_zero_le h0
    have hk : k < l.length := by omega
    obtain ⟨b, off, rfl, hbl, A, c, r0, r1, r2, r3, _⟩ := HA.out.cell hk
    have d0 : decide ((0 : Int) ≤ (k : Int)) = true := decide_eq_true (by omega)
    have d1 : decide ((k : Int) < (n : Int)) = true := decide_eq_true (by omega)
    have d2 : decide (k < n) = true := decide_eq_true (by omega)
    have HU := Lib.hid (usedC_at hk)
    generalize l[k].ref = rf at *
    clear hn r1 r2 r3
    go_enter Try.func30, Try.ntmps30
    go_wp2
    go_ret
    exact ⟨ret_bool HU.out.symm, HX.out⟩
  · have d0 : decide (0 ≤ p) = true := decide_eq_true h0
    have d1 : decide (p < (n : Int)) = false := decide_eq_false (by omega)
    have HU := Lib.hid (usedC_big (l := l) (p := p) (by omega))
    clear hn
    go_enter Try.func30, Try.ntmps30
    go_wp2
    go_ret
    exact ⟨ret_bool HU.out.symm, HX.out⟩

set_option maxHeartbeats 800000 in
theorem ref05In_any (A : Option Addr) (l : List Int) (n c : Nat) (x : Int) (w : World) (hn : n = l.length) (hA : Sl w A n c (l.map iv)) :
    Calls Try.prog 33 #[.slice A n c, .int .i64 x] w fun e w' => e = .returned (.bool (inL l x)) ∧ w = w' := by
  have hl := hA.len
  unfold maxLen at hl
  have HA := Lib.hid hA.cells
  have HN := Lib.hid hn
  clear hA hn
  go_enter Try.func33, Try.ntmps33
  go_wp2
  go_loop [5] (fun i => ∃ k : Nat, k ≤ n ∧ i = .int .i64 k ∧ ∀ j (hj : j < l.length), j < k → l[j] ≠ x) (fun i => n - (intOf i).toNat)
  case atStart => exact ⟨0, Nat.zero_le _, rfl, fun j hj h => by omega⟩
  case round =>
    obtain ⟨k, hk, rfl, hne⟩ := hrel
    have HNE := Lib.hid hne
    clear hne
    rcases Nat.lt_or_ge k n with hlt | hlt
    · have hkl : k < l.length := by rw [← HN.out]; exact hlt
      obtain ⟨b, off, rfl, _, hc⟩ := HA.out.num hkl
      have hck := hc k hkl
      have hki : (k : Int) < (n : Int) := by omega
      have HY := Lib.hid (fun h => inL_yes (x := x) hkl h)
      have HK := Lib.hid (fun (h : l[k] ≠ x) => (show ∀ j (hj : j < l.length), j < k + 1 → l[j] ≠ x from fun j hj hjk => by
        rcases Nat.lt_or_ge j k with h' | h'
        · exact HNE.out j hj h'
        · obtain rfl : j = k := by omega
          exact h))
      clear hc HNE
      generalize l[k] = y at *
      rcases Decidable.em (y = x) with he | he
      · have e1 : (y == x) = true := by simpa using he
        have HE := Lib.hid (HY.out he)
        clear he
        go_wp2
        go_ret
        exact ⟨ret_bool HE.out.symm, rfl⟩
      · have e1 : (y == x) = false := by simpa using he
        have HE := Lib.hid (HK.out he)
        clear he
        go_wp2
        go_round
        case rel => exact ⟨k + 1, by omega, by go_num, HE.out⟩
        case measure => simp [intOf]; omega
    · obtain rfl : k = n := by omega
      have HE := Lib.hid (inL_no (l := l) (x := x) (fun j hj => HNE.out j hj (by rw [HN.out]; exact hj)))
      clear hlt
      go_wp2
      go_ret
      exact ⟨ret_bool HE.out.symm, rfl⟩

theorem countP_take1 {α : Type} (l : List α) (p : α → Bool) (k : Nat) (hk : k < l.length) : (l.take (k + 1)).countP p = (l.take k).countP p + (if p l[k] then 1 else 0) := by
  rw [List.take_succ_eq_append_getElem hk, List.countP_append]; simp [List.countP_cons]
set_option maxRecDepth 100000 in
set_option maxHeartbeats 800000 in
theorem ref05Free_any (R : Option Addr) (l : List HC) (n q : Nat) (keep : Int) (w : World) (hA : HcSl w R n q l) :
    Calls Try.prog 18 #[.agg #[.slice R n q, .int .i64 keep]] w fun e w' => e = .returned (.int .i64 (l.countP freeC : Nat)) ∧ Ext w w' := by
  have hn := hA.1
  have hml : n ≤ maxLen := by obtain ⟨_, cs, h, _⟩ := hA; exact h.len
  unfold maxLen at hml
  have HX := Lib.hid ((Ext.refl w).alloc (.cells #[.slice R n q, .int .i64 keep] 24))
  have hb := Bx.new w #[.slice R n q, .int .i64 keep] 24
  have HB := Lib.hid hb
  obtain ⟨b0, b1, b2⟩ := hb.read2
  have HA := Lib.hid (hA.ext HX.out)
  have HN := Lib.hid hn
  clear hA hb hn
  go_enter Try.func18, Try.ntmps18
  go_wp2
  generalize hW : World.alloc w _ = W at *
  clear hW
  go_loop [3, 4] (fun s i => ∃ k m : Nat, k ≤ n ∧ m ≤ k ∧ i = .int .i64 k ∧ s = .int .i64 m ∧ (l.take k).countP freeC = m) (fun _ i => n - (intOf i).toNat)
  case atStart => exact ⟨0, 0, Nat.zero_le _, Nat.le_refl _, rfl, rfl, rfl⟩
  case round =>
    obtain ⟨k, m, hk, hmk, rfl, rfl, hm⟩ := hrel
    have HM := Lib.hid hm
    clear hm
    rcases Nat.lt_or_ge k n with hlt | hlt
    · have hkl : k < l.length := by rw [← HN.out]; exact hlt
      obtain ⟨b, off, rfl, hbl, A, c, r0, r1, r2, r3, _⟩ := HA.out.cell hkl
      have hki : (k : Int) < (n : Int) := by omega
      have HS := Lib.hid (countP_take1 l freeC k hkl)
      rw [HM.out] at HS
      have HF := Lib.hid (show freeC l[k] = (decide (l[k].ref = 0) && !l[k].pin) from rfl)
      clear r2 r3
      generalize hq : l[k] = x at *
      clear hq
      obtain ⟨rf, pn, lf, it⟩ := x
      simp only at r0 r1 HF
      rcases Decidable.em (rf = 0) with h0 | h0
      · have e0 : (rf == 0) = true := by simpa using h0
        rw [decide_eq_true h0] at HF
        clear h0
        cases pn
        · have HS1 := Lib.hid (show (l.take (k + 1)).countP freeC = m + 1 by rw [HS.out, HF.out]; rfl)
          go_wp2
          go_round
          case rel => exact ⟨k + 1, m + 1, by omega, by omega, by go_num, by go_num, HS1.out⟩
          case measure => simp [intOf]; omega
        · have HS1 := Lib.hid (show (l.take (k + 1)).countP freeC = m by rw [HS.out, HF.out]; rfl)
          go_wp2
          go_round
          case rel => exact ⟨k + 1, m, by omega, by omega, by go_num, rfl, HS1.out⟩
          case measure => simp [intOf]; omega
      · have e0 : (rf == 0) = false := by simpa using h0
        rw [decide_eq_false h0] at HF
        clear h0
        have HS1 := Lib.hid (show (l.take (k + 1)).countP freeC = m by rw [HS.out, HF.out]; rfl)
        go_wp2
        go_round
        case rel => exact ⟨k + 1, m, by omega, by omega, by go_num, rfl, HS1.out⟩
        case measure => simp [intOf]; omega
    · obtain rfl : k = n := by omega
      have HE := Lib.hid (show l.countP freeC = m by rw [← HM.out, HN.out, List.take_length])
      clear hlt
      go_wp2
      go_ret
      exact ⟨by rw [HE.out]; rfl, HX.out⟩

set_option maxRecDepth 100000 in
set_option maxHeartbeats 800000 in
theorem ref05Fits_any (R : Option Addr) (l : List HC) (n q : Nat) (keep x : Int) (deep : Bool) (w : World) (hk : 0 ≤ keep ∧ keep ≤ 9223372036854775807) (hA : HcSl w R n q l) :
    Calls Try.prog 20 #[.agg #[.slice R n q, .int .i64 keep], .int .i64 x, .bool deep] w fun e w' => e = .returned (.bool (fitsH ⟨l, keep⟩ x deep)) ∧ Ext w w' := by
  have hn := hA.1
  have hml : n ≤ maxLen := by obtain ⟨_, cs, h, _⟩ := hA; exact h.len
  unfold maxLen at hml
  have HX := Lib.hid ((Ext.refl w).alloc (.cells #[.slice R n q, .int .i64 keep] 24))
  have hb := Bx.new w #[.slice R n q, .int .i64 keep] 24
  have HB := Lib.hid hb
  obtain ⟨b0, b1, b2⟩ := hb.read2
  have HF := Lib.hid (fun w' (hx : Ext w w') => ref05Free_any R l n q keep w' (hA.ext hx))
  unfold fitsH freeH
  simp only
  have hcn : l.countP freeC ≤ n := by rw [hn]; exact List.countP_le_length
  generalize l.countP freeC = m at *
  have hwr : IntKind.i64.wrap ((m : Int) - keep) = (m : Int) - keep := by rw [IntKind.wrap_i64]; omega
  clear hA hb hn
  cases deep
  · go_enter Try.func20, Try.ntmps20
    go_wp2_with fail
    go_region_law
      (first
        | ((go_simp
            go_at_call 18
            refine (HF.out _ ?_).mono ?_
            (first | exact HX.out.drew | exact HX.out)
            rintro e w1 ⟨rfl, hx⟩
            have HX1 := Lib.hid (show Ext w w1 from by first | exact HX.out.drew.trans hx | exact HX.out.trans hx)
            obtain ⟨c0, c1, c2⟩ := (HB.out.ext (show Ext _ w1 from by first | exact (Ext.refl _).drew.trans hx | exact hx)).read2
            clear hx)))
    all_goals
      go_wp2_with fail
      go_ret
      exact ⟨ret_bool (by simp), HX1.out⟩
  · go_enter Try.func20, Try.ntmps20
    go_wp2_with (go_at_call 18; refine (HF.out _ HX.out).mono ?_; rintro e w1 ⟨rfl, hx⟩; have HX1 := Lib.hid (HX.out.trans hx); clear hx)
    go_ret
    exact ⟨ret_bool (by simp), HX1.out⟩

set_option maxRecDepth 100000 in
set_option maxHeartbeats 800000 in
theorem ref05Small_any (R : Option Addr) (l : List HC) (n q : Nat) (keep most : Int) (w : World) (hA : HcSl w R n q l) :
    Calls Try.prog 10 #[.agg #[.slice R n q, .int .i64 keep], .int .i64 most] w fun e w' => e = .returned (.bool (smallH ⟨l, keep⟩ most)) ∧ Ext w w' := by
  have hn := hA.1
  have hml : n ≤ maxLen := by obtain ⟨_, cs, h, _⟩ := hA; exact h.len
  unfold maxLen at hml
  have HX := Lib.hid ((Ext.refl w).alloc (.cells #[.slice R n q, .int .i64 keep] 24))
  have hb := Bx.new w #[.slice R n q, .int .i64 keep] 24
  obtain ⟨b0, b1, b2⟩ := hb.read2
  have HA := Lib.hid (hA.ext HX.out)
  have HN := Lib.hid hn
  have HSM := Lib.hid (show smallH ⟨l, keep⟩ most = (decide ((n : Int) ≤ most) && l.all (fun c => decide (c.it.length ≤ 10) && decide (c.ref ≤ 1000000))) by rw [hn]; rfl)
  clear hA hb hn
  rcases Int.lt_or_le most n with h0 | h0
  · have d0 : decide (most < (n : Int)) = true := decide_eq_true h0
    have HE := Lib.hid (show smallH ⟨l, keep⟩ most = false by rw [HSM.out, decide_eq_false (by omega)]; rfl)
    go_enter Try.func10, Try.ntmps10
    go_wp2
    go_ret
    exact ⟨ret_bool HE.out.symm, HX.out⟩
  have d0 : decide (most < (n : Int)) = false := decide_eq_false (by omega)
  have HSM1 := Lib.hid (show smallH ⟨l, keep⟩ most = l.all (fun c => decide (c.it.length ≤ 10) && decide (c.ref ≤ 1000000)) by rw [HSM.out, decide_eq_true h0]; rfl)
  clear HSM
  go_enter Try.func10, Try.ntmps10
  go_wp2
  generalize hW : World.alloc w _ = W at *
  clear hW
  go_loop [5] (fun i => ∃ k : Nat, k ≤ n ∧ i = .int .i64 k ∧ ∀ j (hj : j < l.length), j < k → l[j].it.length ≤ 10 ∧ l[j].ref ≤ 1000000) (fun i => n - (intOf i).toNat)
  case atStart => exact ⟨0, Nat.zero_le _, rfl, fun j hj h => by omega⟩
  case round =>
    obtain ⟨k, hk, rfl, hne⟩ := hrel
    have HNE := Lib.hid hne
    clear hne
    rcases Nat.lt_or_ge k n with hlt | hlt
    · have hkl : k < l.length := by rw [← HN.out]; exact hlt
      obtain ⟨b, off, rfl, hbl, A, c, r0, r1, r2, r3, _⟩ := HA.out.cell hkl
      have hki : (k : Int) < (n : Int) := by omega
      have HF := Lib.hid (fun (h : ¬ (l[k].it.length ≤ 10 ∧ l[k].ref ≤ 1000000)) => (show smallH ⟨l, keep⟩ most = false from by
        rw [HSM1.out, List.all_eq_false]
        refine ⟨l[k], List.getElem_mem hkl, ?_⟩
        simp only [Bool.and_eq_true, decide_eq_true_eq]
        exact h))
      have HK := Lib.hid (fun (h : l[k].it.length ≤ 10 ∧ l[k].ref ≤ 1000000) => (show ∀ j (hj : j < l.length), j < k + 1 → l[j].it.length ≤ 10 ∧ l[j].ref ≤ 1000000 from fun j hj hjk => by
        rcases Nat.lt_or_ge j k with h' | h'
        · exact HNE.out j hj h'
        · obtain rfl : j = k := by omega
          exact h))
      clear HNE r1 r2
      generalize l[k].it.length = m at *
      generalize l[k].ref = rf at *
      rcases Nat.lt_or_ge 10 m with h1 | h1
      · have d1 : decide ((10 : Int) < (m : Int)) = true := decide_eq_true (by omega)
        have d2 : decide (10 < m) = true := decide_eq_true h1
        have HE := Lib.hid (HF.out (by omega))
        clear h1
        go_wp2
        go_ret
        exact ⟨ret_bool HE.out.symm, HX.out⟩
      have d1 : decide ((10 : Int) < (m : Int)) = false := decide_eq_false (by omega)
      have d2 : decide (10 < m) = false := decide_eq_false (by omega)
      rcases Int.lt_or_le 1000000 rf with h3 | h3
      · have d3 : decide (1000000 < rf) = true := decide_eq_true h3
        have HE := Lib.hid (HF.out (by omega))
        clear h1 h3
        go_wp2
        go_ret
        exact ⟨ret_bool HE.out.symm, HX.out⟩
      · have d3 : decide (1000000 < rf) = false := decide_eq_false (by omega)
        have HE := Lib.hid (HK.out ⟨h1, h3⟩)
        clear h1 h3
        go_wp2
        go_round
        case rel => exact ⟨k + 1, by omega, by go_num, HE.out⟩
        case measure => simp [intOf]; omega
    · obtain rfl : k = n := by omega
      have HE := Lib.hid (show smallH ⟨l, keep⟩ most = true from by
        rw [HSM1.out, List.all_eq_true]
        intro x hx
        obtain ⟨j, hj, rfl⟩ := List.mem_iff_getElem.1 hx
        simp only [Bool.and_eq_true, decide_eq_true_eq]
        exact HNE.out j hj (by rw [HN.out]; exact hj))
      clear hlt
      go_wp2
      go_ret
      exact ⟨ret_bool HE.out.symm, HX.out⟩
end Go.Proofs.Ytclpeeemnmhdcaa
