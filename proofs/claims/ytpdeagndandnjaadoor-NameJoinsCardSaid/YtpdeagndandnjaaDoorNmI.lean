/- Within of package name as it landed: slices.Equal over numbers. -/
import Derived.Test.YtpdeagndandnjaaDoorNmH
namespace Go.Proofs.YtpdeagndandnjaaDoor
set_option maxRecDepth 20000
open Go.RowKit

set_option maxHeartbeats 1600000 in
theorem slEqualJ_any (A B : Option Addr) (a b : List Int) (n m c d : Nat) (w : World) (hn : n = a.length) (hm : m = b.length) (hA : Sl w A n c (a.map zv)) (hB : Sl w B m d (b.map zv)) :
    Calls Tryd.prog 25 #[.slice A n c, .slice B m d] w fun e w' => e = .returned (.bool (sameJ a b)) ∧ ∃ q, w' = w.drewN q := by
  have hl := hA.len
  unfold maxLen at hl
  have HA := Lib.hid hA.cells
  have HB := Lib.hid hB.cells
  have HNA := Lib.hid hn
  have HNB := Lib.hid hm
  clear hA hB hn hm
  by_cases hnm : n = m
  rotate_left
  · have e2 : ((n : Int) != (m : Int)) = true := bne_iff_ne.2 (by omega)
    have HE := Lib.hid (show sameJ a b = false from decide_eq_false (by
      intro h
      apply hnm
      rw [HNA.out, HNB.out, h]))
    clear hnm
    go_enter Tryd.func25, Tryd.ntmps25
    go_wp2
    go_ret
    exact ⟨ret_bool HE.out.symm, 0, rfl⟩
  subst hnm
  have e2 : ((n : Int) != (n : Int)) = false := by simp
  go_enter Tryd.func25, Tryd.ntmps25
  go_wp2
  go_loopw [13] (fun i wr => ∃ k q : Nat, k ≤ n ∧ i = .int .i64 k ∧ wr = w.drewN q ∧ a.take k = b.take k) (fun i _ => n - (intOf i).toNat)
  case atStart => exact ⟨0, 0, Nat.zero_le _, rfl, rfl, by simp⟩
  case round =>
    obtain ⟨k, q, hk, rfl, rfl, hb⟩ := hrel
    have HBB := Lib.hid hb
    clear hb
    rcases Nat.lt_or_ge k n with hlt | hlt
    · have hka : k < a.length := by rw [← HNA.out]; exact hlt
      have hkb : k < b.length := by rw [← HNB.out]; exact hlt
      obtain ⟨ba, oa, rfl, _, hca⟩ := HA.out.zum hka
      obtain ⟨bb, ob, rfl, _, hcb⟩ := HB.out.zum hkb
      have hcka := hca k hka
      have hckb := hcb k hkb
      have hki : (k : Int) < (n : Int) := by omega
      have HY := Lib.hid (fun (h : a[k] ≠ b[k]) => (show sameJ a b = false from decide_eq_false (neJ_at k hka hkb h)))
      have HN := Lib.hid (fun (h : a[k] = b[k]) => eqJ_step k hka hkb HBB.out h)
      clear hca hcb HBB
      generalize a[k] = x at *
      generalize b[k] = y at *
      by_cases he : x = y
      · have HE := Lib.hid (HN.out he)
        subst he
        have d0 : (x != x) = false := by simp
        clear HY HN
        go_wp2
        go_quiet (fail)
        go_wp2
        go_roundw
        case rel => exact ⟨k + 1, q + nq, by omega, by go_num, rfl, HE.out⟩
        case measure => simp [intOf]; omega
      · have HE := Lib.hid (HY.out he)
        have d0 : (x != y) = true := bne_iff_ne.2 he
        clear HY HN he
        go_wp2
        go_quiet (fail)
        go_wp2
        go_ret
        exact ⟨ret_bool HE.out.symm, q + nq, by rw [World.drewN_drewN]⟩
    · obtain rfl : n = k := by omega
      have HE := Lib.hid (show sameJ a b = true from decide_eq_true (by have h := HBB.out; rwa [HNA.out, List.take_length, ← HNA.out, HNB.out, List.take_length] at h))
      clear hlt
      go_wp2
      go_ret
      exact ⟨ret_bool HE.out.symm, q, rfl⟩
theorem ext_drewN2 (w : World) (n : Nat) : Ext w (w.drewN n) := (Ext.refl w).drewN n
theorem sl_preI {w : World} {A : Option Addr} {n c : Nat} {l : List Int} (h : Sl w A n c (l.map zv)) (k : Nat) (hk : k ≤ n) : Sl w A k c ((l.take k).map zv) := by
  obtain ⟨h1, h2, h3, h4⟩ := h
  refine ⟨h1, by omega, h3, fun hx => ?_⟩
  obtain ⟨b, off, rfl, hlt, hc⟩ := h4 (fun e => hx (by rw [List.map_eq_nil_iff] at e; subst e; simp))
  refine ⟨b, off, rfl, hlt, fun j u hu => hc j u ?_⟩
  rw [List.map_take, List.getElem?_take] at hu
  split at hu
  · exact hu
  · cases hu
set_option maxHeartbeats 1600000 in
theorem nameWithin_any (A B : Option Addr) (a b : List Int) (n m c d : Nat) (w : World) (hn : n = a.length) (hm : m = b.length) (hA : Sl w A n c (a.map zv)) (hB : Sl w B m d (b.map zv)) :
    Calls Tryd.prog 19 #[.slice A n c, .slice B m d] w fun e w' => e = .returned (.bool (withinB a b)) ∧ Ext w w' := by
  have hl := hA.len
  have hlb := hB.2.1
  have hlc := hB.2.2.1
  unfold maxLen at hl hlc
  by_cases hnm : n ≤ m
  rotate_left
  · have e2 : decide ((n : Int) ≤ (m : Int)) = false := decide_eq_false (by omega)
    have e3 : decide (n ≤ m) = false := decide_eq_false hnm
    have HE := Lib.hid (show withinB a b = false from by unfold withinB; rw [decide_eq_false (show ¬ a.length ≤ b.length by rw [← hn, ← hm]; omega), Bool.and_false])
    clear hnm hA hB hn hm
    go_enter Tryd.func19, Tryd.ntmps19
    go_wp2_with fail
    go_ret
    exact ⟨ret_bool HE.out.symm, Ext.refl w⟩
  have e2 : decide ((n : Int) ≤ (m : Int)) = true := decide_eq_true (by omega)
  have e3 : decide (n ≤ m) = true := decide_eq_true hnm
  have HS := Lib.hid (slEqualJ_any A B a (b.take n) n n c d w hn (by rw [List.length_take, ← hm]; omega) hA (sl_preI hB n hnm))
  have HE := Lib.hid (show withinB a b = sameJ a (b.take n) from by
    unfold withinB sameJ
    rw [← hn, ← hm, e3, Bool.and_true]
    exact decide_eq_decide.2 eq_comm)
  have hnd : n ≤ d := by omega
  have hndi : (n : Int) ≤ (d : Int) := by omega
  clear hA hB hn hm
  rw [HE.out]
  generalize sameJ a (b.take n) = R at *
  go_enter Tryd.func19, Tryd.ntmps19
  go_wp2_with (go_at_call 25; refine HS.out.mono ?_; rintro e w1 ⟨rfl, q, rfl⟩)
  go_ret
  exact ⟨rfl, ext_drewN2 w q⟩
end Go.Proofs.YtpdeagndandnjaaDoor
