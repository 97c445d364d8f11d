/- The walk of NodeLeads, one case: b. -/
import Derived.Test.YtpcchbcibcfldaaNodeLP
namespace Go.Proofs.Ytpcchbcibcfldaa
open Go.RowKit
attribute [local go_sem ↓] Go.wp_at_zero Go.wp_at_succ

set_option maxRecDepth 100000 in
set_option maxHeartbeats 4000000 in
theorem leads_b (A : Option Addr) (l : List It) (c : Nat) (key : Int) (w : World) (hr : ndR l = true) (hb : atB l key = true) (hA : Sl w A l.length c (ivs l)) :
    Calls Try.prog 7 #[.agg #[.bool false, .slice A l.length c], .int .i64 key] w fun e w' => e = .returned (.bool true) ∧ Ext w w' := by
  have HA := Lib.hid hA
  have X0 := Lib.hid ((Ext.refl w).alloc (.cells #[.bool false, .slice A l.length c] 24))
  have B0 := Lib.hid (Bx.new w #[.bool false, .slice A l.length c] 24)
  clear hA
  have hN := (ndR_iff l).1 hr
  have h4 : l.length ≤ 4 := hN.1.2
  have h1l : 1 ≤ l.length := hN.1.1
  have HR := Lib.hid (fun w' (hx : Ext w w') => ref04Right_is false A l l.length c w' rfl (HA.out.ext hx) hr)
  obtain ⟨i, hi, hil, hil2, hie, hk⟩ := leads (leaf := false) hN key
  have HT := Lib.hid (fun w' (hx : Ext w w') => nodeAt_any false A l l.length c key w' rfl hr (HA.out.ext hx))
  rw [hi, hb] at HT
  rw [hb] at hk hie
  obtain ⟨hil4, hik⟩ := hie rfl
  have HK := Lib.hid (fun k (hk' : k < l.length) => (show (k < i → l[k].1 < key) ∧ (k = i → l[k].1 = key) ∧ (i < k → key < l[k].1) from ⟨fun h => by have := hN.rise i k hil4 h; omega, fun h => by subst h; exact hik, fun h => by have := hN.rise k i hk' h; omega⟩))
  clear hr hN hk hie hi hb
  have hil3 := hil2 rfl
  clear hil2
  go_enter Try.func7, Try.ntmps7
  go_wp2_with (first
    | (go_at_call 10; refine (shown_any _).mono ?_; rintro e w1 ⟨rfl, hx⟩; have X1 := Lib.hid (X0.out.trans hx); have B1 := Lib.hid (B0.out.ext hx); obtain ⟨b0, b1, b2⟩ := B1.out.read2; clear hx)
    | (go_at_call 15; refine (HR.out _ X1.out).mono ?_; rintro e w2 ⟨rfl, hx⟩; have X2 := Lib.hid (X1.out.trans hx); have B2 := Lib.hid (B1.out.ext hx); clear hx b0 b1 b2; obtain ⟨b0, b1, b2⟩ := B2.out.read2)
    | (go_at_call 19; refine stop_here ?_))
  refine stop_on ?_
  refine (HT.out _ X2.out).mono ?_
  rintro e w3 ⟨rfl, hx⟩
  have X3 := Lib.hid (X2.out.trans hx)
  have HC := Lib.hid ((HA.out.ext X3.out).cells)
  clear b0 b1 b2
  obtain ⟨b0, b1, b2⟩ := (B2.out.ext hx).read2
  clear hx B2 B1 B0 X2 X1 X0 HR HT HA
  have i0 : (0 : Int) ≤ (i : Int) := by omega
  have i1 : (i : Int) ≤ (l.length : Int) := by omega
  have d0 : decide ((i : Int) < 0) = false := decide_eq_false (by omega)
  have d1 : decide ((l.length : Int) < (i : Int)) = false := decide_eq_false (by omega)
  have i2 : ((i : Int) == (l.length : Int)) = false := by
    have : ¬ (i : Int) = (l.length : Int) := by omega
    simpa using this
  have i3 : (i : Int) < (l.length : Int) := by omega
  obtain ⟨bi, oi, rfl, _, hci⟩ := HC.out.it hil4
  have hcik := (hci i hil4).1
  rw [hik] at hcik
  clear hci hik
  go_wp2_with fail
  go_loop [8] (fun v => ∃ k : Nat, k ≤ l.length ∧ v = .int .i64 k) (fun v => l.length - (intOf v).toNat)
  case atStart => exact ⟨0, Nat.zero_le _, rfl⟩
  case round =>
    obtain ⟨k, hk, rfl⟩ := hrel
    rcases Nat.lt_or_ge k l.length with hlt | hlt
    · obtain ⟨bb, off, hA0, _, hc⟩ := HC.out.it hlt
      cases hA0
      have hck := (hc k hlt).1
      have hkl : (k : Int) < (l.length : Int) := by omega
      have ka := HK.out k hlt
      have K0 := Lib.hid (show k + 1 ≤ l.length from hlt)
      have hle2 : k + 1 ≤ l.length := hlt
      clear hc
      generalize l[k] = q at *
      obtain ⟨x, v⟩ := q
      simp only at hck ka
      rcases Nat.lt_trichotomy k i with hki | hki | hki
      · rcases Int.lt_trichotomy x key with hxk | hxk | hxk
        · clear ka
          have a1 : (k : Int) < (i : Int) := by omega
          have a2 : ¬ (k : Int) = (i : Int) := by omega
          have a3 : ¬ k = i := by omega
          have a4 : ((k : Int) == (i : Int)) = false := beq_eq_false_iff_ne.2 a2
          have a5 : ((k : Int) != (i : Int)) = true := bne_iff_ne.2 a2
          have a6 : (k == i) = false := beq_eq_false_iff_ne.2 a3
          have a7 : (k != i) = true := bne_iff_ne.2 a3
          have a8 : decide (k = i) = false := decide_eq_false a3
          have a8b : decide ((k : Int) = (i : Int)) = false := decide_eq_false a2
          have a9 : decide ((k : Int) < (i : Int)) = true := decide_eq_true (by omega)
          have a10 : decide (k < i) = true := decide_eq_true (by omega)
          have a11 : decide ((i : Int) < (k : Int)) = false := decide_eq_false (by omega)
          have a12 : decide (i < k) = false := decide_eq_false (by omega)
          have c2 : ¬ x = key := by omega
          have c4 : (x == key) = false := beq_eq_false_iff_ne.2 c2
          have c5 : decide (x = key) = false := decide_eq_false c2
          have c9 : decide (x < key) = true := decide_eq_true (by omega)
          have c10 : decide (key < x) = false := decide_eq_false (by omega)
          have c11 : decide (x ≤ key) = true := decide_eq_true (by omega)
          clear hki
          clear hxk
          go_wp2_with fail
          all_goals first
            | exact ⟨⟨k + 1, K0.out, by omega⟩, by simp [intOf]; omega⟩
            | (go_round <;> first | exact ⟨k + 1, K0.out, by go_num⟩ | (simp [intOf]; omega))
        · exfalso
          omega
        · exfalso
          omega
      · rcases Int.lt_trichotomy x key with hxk | hxk | hxk
        · exfalso
          omega
        · clear ka
          subst hki
          subst hxk
          go_wp2_with fail
          all_goals first
            | exact ⟨⟨k + 1, K0.out, by omega⟩, by simp [intOf]; omega⟩
            | (go_round <;> first | exact ⟨k + 1, K0.out, by go_num⟩ | (simp [intOf]; omega))
        · exfalso
          omega
      · rcases Int.lt_trichotomy x key with hxk | hxk | hxk
        · exfalso
          omega
        · exfalso
          omega
        · clear ka
          have a1 : (k : Int) > (i : Int) := by omega
          have a2 : ¬ (k : Int) = (i : Int) := by omega
          have a3 : ¬ k = i := by omega
          have a4 : ((k : Int) == (i : Int)) = false := beq_eq_false_iff_ne.2 a2
          have a5 : ((k : Int) != (i : Int)) = true := bne_iff_ne.2 a2
          have a6 : (k == i) = false := beq_eq_false_iff_ne.2 a3
          have a7 : (k != i) = true := bne_iff_ne.2 a3
          have a8 : decide (k = i) = false := decide_eq_false a3
          have a8b : decide ((k : Int) = (i : Int)) = false := decide_eq_false a2
          have a9 : decide ((k : Int) < (i : Int)) = false := decide_eq_false (by omega)
          have a10 : decide (k < i) = false := decide_eq_false (by omega)
          have a11 : decide ((i : Int) < (k : Int)) = true := decide_eq_true (by omega)
          have a12 : decide (i < k) = true := decide_eq_true (by omega)
          have c2 : ¬ x = key := by omega
          have c4 : (x == key) = false := beq_eq_false_iff_ne.2 c2
          have c5 : decide (x = key) = false := decide_eq_false c2
          have c9 : decide (x < key) = false := decide_eq_false (by omega)
          have c10 : decide (key < x) = true := decide_eq_true (by omega)
          have c11 : decide (x ≤ key) = false := decide_eq_false (by omega)
          have e1 : decide ((0 : Int) < (k : Int)) = true := decide_eq_true (by omega)
          have e2 : decide (0 < k) = true := decide_eq_true (by omega)
          clear hki
          clear hxk
          go_wp2_with fail
          all_goals first
            | exact ⟨⟨k + 1, K0.out, by omega⟩, by simp [intOf]; omega⟩
            | (go_round <;> first | exact ⟨k + 1, K0.out, by go_num⟩ | (simp [intOf]; omega))
    · obtain rfl : k = l.length := by omega
      go_wp2_with fail
      go_ret
      exact ⟨rfl, X3.out⟩
end Go.Proofs.Ytpcchbcibcfldaa
