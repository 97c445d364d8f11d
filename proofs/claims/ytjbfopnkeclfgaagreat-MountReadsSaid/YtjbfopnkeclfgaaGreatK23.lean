/- Walks of Of, Place, Done, On and Same of package todo. Walks of package todo's Right and what it calls: whole numbers, the closure, the search. -/
import Derived.Test.YtjbfopnkeclfgaaGreatK18
import Derived.Test.YtjbfopnkeclfgaaGreatK17
import Derived.Deep.QuietTactic
import Derived.BigQuiet
import Derived.Test.YtjbfopnkeclfgaaGreatK22
import Derived.Deep.AppendLies
import Derived.Deep.RegionHeld3
import Derived.Deep.DeepCutAuto
import Derived.Deep.DrawnRows
import Derived.RegionTactic
namespace Go.Proofs.YtjbfopnkeclfgaaGreat
set_option maxRecDepth 20000
open Go.RowKit

set_option maxHeartbeats 400000 in
theorem todoOf_any (p k : Nat) (w : World) :
    Calls Tryz.prog 161 #[.int .i64 p, .int .i64 k] w fun e w' => e = .returned (.complex .f64 (fN p) (fN k)) ∧ w = w' := by
  go_enter Tryz.func161, Tryz.ntmps161
  go_wp2
  go_ret
  exact ⟨rfl, rfl⟩
set_option maxHeartbeats 400000 in
theorem todoPlace_any (t : Tk) (p : Nat) (w : World) (hp : p < 2600) (h : isWh t.1 p) :
    Calls Tryz.prog 91 #[.complex .f64 t.1 t.2] w fun e w' => e = .returned (.int .i64 p) ∧ w = w' := by
  have hi := isWh_int hp h
  have hrun := fun w => run_convert_float_int (P := Tryz.prog) w 142 3 .f64 .i64 t.1 p (by rw [Tryz.underlying142]; rfl) Tryz.underlying3 hi
  go_enter Tryz.func91, Tryz.ntmps91
  go_wp2
  go_ret
  exact ⟨rfl, rfl⟩
set_option maxHeartbeats 400000 in
theorem todoDone_any (t : Tk) (k : Nat) (w : World) (hk : k < 2600) (h : isWh t.2 k) :
    Calls Tryz.prog 92 #[.complex .f64 t.1 t.2] w fun e w' => e = .returned (.int .i64 k) ∧ w = w' := by
  have hi := isWh_int hk h
  have hrun := fun w => run_convert_float_int (P := Tryz.prog) w 142 3 .f64 .i64 t.2 k (by rw [Tryz.underlying142]; rfl) Tryz.underlying3 hi
  go_enter Tryz.func92, Tryz.ntmps92
  go_wp2
  go_ret
  exact ⟨rfl, rfl⟩
end Go.Proofs.YtjbfopnkeclfgaaGreat
namespace Go.Proofs.YtjbfopnkeclfgaaGreat
set_option maxRecDepth 20000
open Go.RowKit
attribute [local go_sem ↓] Go.wp_at_zero Go.wp_at_succ

set_option maxRecDepth 100000 in
set_option maxHeartbeats 1600000 in
theorem tdIdx_any (f : Tk → Bool) (kb : Nat) (S : Option Addr) (l : List Tk) (t d : Nat) (w : World) (ht : t = l.length) (hS : Sl w S t d (l.map cxv))
    (hF : ∀ k (hk : k < l.length), Calls Tryz.prog 54 #[.complex .f64 l[k].1 l[k].2, .pointer (some ⟨kb, 0, none⟩)] w fun e w' => e = .returned (.bool (f l[k])) ∧ w = w') :
    Calls Tryz.prog 85 #[.slice S t d, .func (.func 54) #[] #[.pointer (some ⟨kb, 0, none⟩)]] w fun e w' => e = .returned (.int .i64 (idxBy f l)) ∧ w = w' := by
  have hl := hS.len
  unfold maxLen at hl
  have HT := Lib.hid ht
  have HS := Lib.hid hS.cells
  have HF := Lib.hid hF
  clear ht hS hF
  go_enter Tryz.func85, Tryz.ntmps85
  go_wp2_with fail
  go_loopw [8] (fun i wr => ∃ k : Nat, k ≤ t ∧ i = .int .i64 k ∧ (∀ j (hj : j < l.length), j < k → f l[j] = false) ∧ w = wr) (fun i _ => t - (intOf i).toNat)
  case atStart => exact ⟨0, Nat.zero_le _, rfl, fun _ _ h => by omega, rfl⟩
  case round =>
    obtain ⟨k, hk, rfl, hb, rfl⟩ := hrel
    have HB := Lib.hid hb
    clear hb
    rcases Nat.lt_or_ge k t with hlt | hlt
    · have hkl : k < l.length := by rw [← HT.out]; exact hlt
      obtain ⟨b, off, rfl, hbl, hc⟩ := HS.out.tk hkl
      have hck := hc k hkl
      have hki : (k : Int) < (t : Int) := by omega
      have HH := Lib.hid (fun h => idx_hit (f := f) hkl h HB.out)
      have HN := Lib.hid (fun (h : f l[k] = false) => (show ∀ j (hj : j < l.length), j < k + 1 → f l[j] = false from fun j hj hjk => by
        rcases Nat.lt_or_ge j k with h' | h'
        · exact HB.out j hj h'
        · obtain rfl : j = k := by omega
          exact h))
      have HC := Lib.hid (HF.out k hkl)
      clear hc HB
      generalize f l[k] = fy at *
      generalize l[k] = y at *
      obtain ⟨y1, y2⟩ := y
      simp only at hck HC
      cases fy
      · have HE := Lib.hid (HN.out rfl)
        clear HH HN
        go_wp2_with (go_at_call 54; refine HC.out.mono ?_; rintro e w1 ⟨rfl, rfl⟩)
        go_roundw
        case rel => exact ⟨k + 1, by omega, by go_num, HE.out, by first | rfl | trivial⟩
        case measure => simp [intOf]; omega
      · have HE := Lib.hid (HH.out rfl)
        clear HH HN
        go_wp2_with (go_at_call 54; refine HC.out.mono ?_; rintro e w1 ⟨rfl, rfl⟩)
        go_ret
        exact ⟨ret_int HE.out.symm, rfl⟩
    · obtain rfl : k = t := by omega
      have HE := Lib.hid (idx_none (f := f) (fun j hj => HB.out j hj (by rw [HT.out]; exact hj)))
      clear hlt
      go_wp2_with fail
      go_ret
      exact ⟨ret_int HE.out.symm, rfl⟩
set_option maxHeartbeats 800000 in
theorem tdHas_any (f : Tk → Bool) (kb : Nat) (S : Option Addr) (l : List Tk) (t d : Nat) (w : World) (ht : t = l.length) (hS : Sl w S t d (l.map cxv))
    (hF : ∀ k (hk : k < l.length), Calls Tryz.prog 54 #[.complex .f64 l[k].1 l[k].2, .pointer (some ⟨kb, 0, none⟩)] w fun e w' => e = .returned (.bool (f l[k])) ∧ w = w') :
    Calls Tryz.prog 53 #[.slice S t d, .func (.func 54) #[] #[.pointer (some ⟨kb, 0, none⟩)]] w fun e w' => e = .returned (.bool (l.any f)) ∧ w = w' := by
  have HI := Lib.hid (tdIdx_any f kb S l t d w ht hS hF)
  rw [← idx_any f l]
  generalize idxBy f l = z at *
  clear ht hS hF
  go_enter Tryz.func53, Tryz.ntmps53
  go_wp2_with (go_at_call 85; refine HI.out.mono ?_; rintro e w1 ⟨rfl, rfl⟩)
  go_ret
  exact ⟨by first | rfl | simp, rfl⟩
end Go.Proofs.YtjbfopnkeclfgaaGreat
