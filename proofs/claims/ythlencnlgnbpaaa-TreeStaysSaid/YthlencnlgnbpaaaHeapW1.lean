/- Walks of Used, In, Free, Fits and Small of the reference. -/
import Derived.Test.YthlencnlgnbpaaaHeapP
import Derived.Deep.AppendLies
import Derived.Deep.RegionHeld3
import Derived.Deep.DeepCutAuto
import Derived.Deep.DrawnRows
import Derived.RegionTactic
import Derived.StillTailTactics
namespace Go.Proofs.Ythlencnlgnbpaaa
open Go.RowKit
attribute [local go_sem ↓] Go.wp_at_zero Go.wp_at_succ

set_option maxRecDepth 100000 in
set_option maxHeartbeats 800000 in
theorem ref05Used_any (R : Option Addr) (l : List HC) (n q : Nat) (keep p : Int) (w : World) (hA : HcSl w R n q l) :
    Calls Try.prog 29 #[.agg #[.slice R n q, .int .i64 keep], .int .i64 p] w fun e w' => e = .returned (.bool (usedC l p)) ∧ Ext w w' := by
  have hn := hA.1
  have HX := Lib.hid ((Ext.refl w).alloc (.cells #[.slice R n q, .int .i64 keep] 24))
  have hb := Bx.new w #[.slice R n q, .int .i64 keep] 24
  obtain ⟨b0, b1, b2⟩ := hb.read2
  have HA := Lib.hid (hA.ext HX.out)
  clear hA hb
  rcases Int.lt_or_le p 0 with h0 | h0
  · have d0 : decide (0 ≤ p) = false := decide_eq_false (by omega)
    have HU := Lib.hid (usedC_neg (l := l) h0)
    clear h0 hn
    go_enter Try.func29, Try.ntmps29
    go_wp2
    go_ret
    exact ⟨ret_bool HU.out.symm, HX.out⟩
  rcases Int.lt_or_le p n with h1 | h1
  · obtain ⟨k, rfl⟩ := Int.eq_ofNat_of_zero_le h0
    have hk : k < l.length := by omega
    obtain ⟨b, off, rfl, hbl, A, c, r0, r1, r2, r3, _⟩ := HA.out.cell hk
    have d0 : decide ((0 : Int) ≤ (k : Int)) = true := decide_eq_true (by omega)
    have d1 : decide ((k : Int) < (n : Int)) = true := decide_eq_true (by omega)
    have d2 : decide (k < n) = true := decide_eq_true (by omega)
    have HU := Lib.hid (usedC_at hk)
    generalize l[k].ref = rf at *
    clear hn r1 r2 r3
    go_enter Try.func29, Try.ntmps29
    go_wp2
    go_ret
    exact ⟨ret_bool HU.out.symm, HX.out⟩
  · have d0 : decide (0 ≤ p) = true := decide_eq_true h0
    have d1 : decide (p < (n : Int)) = false := decide_eq_false (by omega)
    have HU := Lib.hid (usedC_big (l := l) (p := p) (by omega))
    clear hn
    go_enter Try.func29, Try.ntmps29
    go_wp2
    go_ret
    exact ⟨ret_bool HU.out.symm, HX.out⟩

theorem countP_take1 {α : Type} (l : List α) (p : α → Bool) (k : Nat) (hk : k < l.length) : (l.take (k + 1)).countP p = (l.take k).countP p + (if p l[k] then 1 else 0) := by
  rw [List.take_succ_eq_append_getElem hk, List.countP_append]; simp [List.countP_cons]
set_option maxRecDepth 100000 in
set_option maxHeartbeats 800000 in
theorem ref05Small_any (R : Option Addr) (l : List HC) (n q : Nat) (keep most : Int) (w : World) (hA : HcSl w R n q l) :
    Calls Try.prog 28 #[.agg #[.slice R n q, .int .i64 keep], .int .i64 most] w fun e w' => e = .returned (.bool (smallH ⟨l, keep⟩ most)) ∧ Ext w w' := by
  have hn := hA.1
  have hml : n ≤ maxLen := by obtain ⟨_, cs, h, _⟩ := hA; exact h.len
  unfold maxLen at hml
  have HX := Lib.hid ((Ext.refl w).alloc (.cells #[.slice R n q, .int .i64 keep] 24))
  have hb := Bx.new w #[.slice R n q, .int .i64 keep] 24
  obtain ⟨b0, b1, b2⟩ := hb.read2
  have HA := Lib.hid (hA.ext HX.out)
  have HN := Lib.hid hn
  have HSM := Lib.hid (show smallH ⟨l, keep⟩ most = (decide ((n : Int) ≤ most) && l.all (fun c => decide (c.it.length ≤ 10) && decide (c.ref ≤ 1000000))) by rw [hn]; rfl)
  clear hA hb hn
  rcases Int.lt_or_le most n with h0 | h0
  · have d0 : decide (most < (n : Int)) = true := decide_eq_true h0
    have HE := Lib.hid (show smallH ⟨l, keep⟩ most = false by rw [HSM.out, decide_eq_false (by omega)]; rfl)
    go_enter Try.func28, Try.ntmps28
    go_wp2
    go_ret
    exact ⟨ret_bool HE.out.symm, HX.out⟩
  have d0 : decide (most < (n : Int)) = false := decide_eq_false (by omega)
  have HSM1 := Lib.hid (show smallH ⟨l, keep⟩ most = l.all (fun c => decide (c.it.length ≤ 10) && decide (c.ref ≤ 1000000)) by rw [HSM.out, decide_eq_true h0]; rfl)
  clear HSM
  go_enter Try.func28, Try.ntmps28
  go_wp2
  generalize hW : World.alloc w _ = W at *
  clear hW
  go_loop [5] (fun i => ∃ k : Nat, k ≤ n ∧ i = .int .i64 k ∧ ∀ j (hj : j < l.length), j < k → l[j].it.length ≤ 10 ∧ l[j].ref ≤ 1000000) (fun i => n - (intOf i).toNat)
  case atStart => exact ⟨0, Nat.zero_le _, rfl, fun j hj h => by omega⟩
  case round =>
    obtain ⟨k, hk, rfl, hne⟩ := hrel
    have HNE := Lib.hid hne
    clear hne
    rcases Nat.lt_or_ge k n with hlt | hlt
    · have hkl : k < l.length := by rw [← HN.out]; exact hlt
      obtain ⟨b, off, rfl, hbl, A, c, r0, r1, r2, r3, _⟩ := HA.out.cell hkl
      have hki : (k : Int) < (n : Int) := by omega
      have HF := Lib.hid (fun (h : ¬ (l[k].it.length ≤ 10 ∧ l[k].ref ≤ 1000000)) => (show smallH ⟨l, keep⟩ most = false from by
        rw [HSM1.out, List.all_eq_false]
        refine ⟨l[k], List.getElem_mem hkl, ?_⟩
        simp only [Bool.and_eq_true, decide_eq_true_eq]
        exact h))
      have HK := Lib.hid (fun (h : l[k].it.length ≤ 10 ∧ l[k].ref ≤ 1000000) => (show ∀ j (hj : j < l.length), j < k + 1 → l[j].it.length ≤ 10 ∧ l[j].ref ≤ 1000000 from fun j hj hjk => by
        rcases Nat.lt_or_ge j k with h' | h'
        · exact HNE.out j hj h'
        · obtain rfl : j = k := by omega
          exact h))
      clear HNE r1 r2
      generalize l[k].it.length = m at *
      generalize l[k].ref = rf at *
      rcases Nat.lt_or_ge 10 m with h1 | h1
      · have d1 : decide ((10 : Int) < (m : Int)) = true := decide_eq_true (by omega)
        have d2 : decide (10 < m) = true := decide_eq_true h1
        have HE := Lib.hid (HF.out (by omega))
        clear h1
        go_wp2
        go_ret
        exact ⟨ret_bool HE.out.symm, HX.out⟩
      have d1 : decide ((10 : Int) < (m : Int)) = false := decide_eq_false (by omega)
      have d2 : decide (10 < m) = false := decide_eq_false (by omega)
      rcases Int.lt_or_le 1000000 rf with h3 | h3
      · have d3 : decide (1000000 < rf) = true := decide_eq_true h3
        have HE := Lib.hid (HF.out (by omega))
        clear h1 h3
        go_wp2
        go_ret
        exact ⟨ret_bool HE.out.symm, HX.out⟩
      · have d3 : decide (1000000 < rf) = false := decide_eq_false (by omega)
        have HE := Lib.hid (HK.out ⟨h1, h3⟩)
        clear h1 h3
        go_wp2
        go_round
        case rel => exact ⟨k + 1, by omega, by go_num, HE.out⟩
        case measure => simp [intOf]; omega
    · obtain rfl : k = n := by omega
      have HE := Lib.hid (show smallH ⟨l, keep⟩ most = true from by
        rw [HSM1.out, List.all_eq_true]
        intro x hx
        obtain ⟨j, hj, rfl⟩ := List.mem_iff_getElem.1 hx
        simp only [Bool.and_eq_true, decide_eq_true_eq]
        exact HNE.out j hj (by rw [HN.out]; exact hj))
      clear hlt
      go_wp2
      go_ret
      exact ⟨ret_bool HE.out.symm, HX.out⟩
end Go.Proofs.Ythlencnlgnbpaaa
