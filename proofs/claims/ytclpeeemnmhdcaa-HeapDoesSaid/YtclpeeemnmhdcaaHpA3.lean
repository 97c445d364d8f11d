/- Walks of slices.Index, Contains, IndexFunc, ContainsFunc and of the closures of package heap. -/
import Derived.Test.YtclpeeemnmhdcaaHpA2
namespace Go.Proofs.Ytclpeeemnmhdcaa
open Go.RowKit
attribute [local go_sem ↓] Go.wp_at_zero Go.wp_at_succ

/-- The first place at which f holds, or -1. -/
def idxBy {α : Type} (f : α → Bool) (l : List α) : Int := if l.any f then (l.findIdx f : Nat) else -1
theorem idx_hit {α : Type} {f : α → Bool} {l : List α} {k : Nat} (hk : k < l.length) (h : f l[k] = true) (hb : ∀ j (hj : j < l.length), j < k → f l[j] = false) : idxBy f l = (k : Int) := by
  unfold idxBy
  rw [if_pos (by rw [List.any_eq_true]; exact ⟨l[k], List.getElem_mem hk, h⟩), (List.findIdx_eq hk).2 ⟨h, fun j hj => hb j (by omega) hj⟩]
theorem idx_none {α : Type} {f : α → Bool} {l : List α} (hb : ∀ j (hj : j < l.length), f l[j] = false) : idxBy f l = -1 := by
  unfold idxBy
  have h : l.any f = false := by
    rw [List.any_eq_false]
    intro y hy
    obtain ⟨i, hi, rfl⟩ := List.mem_iff_getElem.1 hy
    simpa using hb i hi
  rw [h]; rfl
theorem idx_any {α : Type} (f : α → Bool) (l : List α) : decide (0 ≤ idxBy f l) = l.any f := by
  unfold idxBy
  cases h : l.any f
  · rfl
  · simp
set_option maxRecDepth 100000 in
set_option maxHeartbeats 1600000 in
theorem hpIndex_any (S : Option Addr) (l : List Int) (t d : Nat) (x : Int) (w : World) (ht : t = l.length) (hS : Sl w S t d (l.map iv)) :
    Calls Try.prog 70 #[.slice S t d, .int .i64 x] w fun e w' => e = .returned (.int .i64 (idxBy (fun y => decide (y = x)) l)) ∧ w = w' := by
  have hl := hS.len
  unfold maxLen at hl
  have HT := Lib.hid ht
  have HS := Lib.hid hS.cells
  clear ht hS
  go_enter Try.func70, Try.ntmps70
  go_wp2_with fail
  go_loopw [8] (fun i wr => ∃ k : Nat, k ≤ t ∧ i = .int .i64 k ∧ (∀ j (hj : j < l.length), j < k → decide (l[j] = x) = false) ∧ w = wr) (fun i _ => t - (intOf i).toNat)
  case atStart => exact ⟨0, Nat.zero_le _, rfl, fun _ _ h => by omega, rfl⟩
  case round =>
    obtain ⟨k, hk, rfl, hb, rfl⟩ := hrel
    have HB := Lib.hid hb
    clear hb
    rcases Nat.lt_or_ge k t with hlt | hlt
    · have hkl : k < l.length := by rw [← HT.out]; exact hlt
      obtain ⟨b, off, rfl, hbl, hc⟩ := HS.out.num hkl
      have hck := hc k hkl
      have hki : (k : Int) < (t : Int) := by omega
      have HH := Lib.hid (fun h => idx_hit (f := fun y => decide (y = x)) hkl h HB.out)
      have HN := Lib.hid (fun (h : decide (l[k] = x) = false) => (show ∀ j (hj : j < l.length), j < k + 1 → decide (l[j] = x) = false from fun j hj hjk => by
        rcases Nat.lt_or_ge j k with h' | h'
        · exact HB.out j hj h'
        · obtain rfl : j = k := by omega
          exact h))
      clear hc HB
      generalize l[k] = y at *
      by_cases he : y = x
      · have HE := Lib.hid (HH.out (by simpa using he))
        have d0 : decide (x = y) = true := decide_eq_true he.symm
        have d1 : (x == y) = true := by simpa using he.symm
        clear he HH HN
        go_wp2_with fail
        go_ret
        exact ⟨ret_int HE.out.symm, rfl⟩
      · have HE := Lib.hid (HN.out (decide_eq_false he))
        have d0 : decide (x = y) = false := decide_eq_false (fun h => he h.symm)
        have d1 : (x == y) = false := by simpa using (fun h : x = y => he h.symm)
        clear he HH HN
        go_wp2_with fail
        go_roundw
        case rel => exact ⟨k + 1, by omega, by go_num, HE.out, by first | rfl | trivial⟩
        case measure => simp [intOf]; omega
    · obtain rfl : k = t := by omega
      have HE := Lib.hid (idx_none (f := fun y => decide (y = x)) (fun j hj => HB.out j hj (by rw [HT.out]; exact hj)))
      clear hlt
      go_wp2_with fail
      go_ret
      exact ⟨ret_int HE.out.symm, rfl⟩
set_option maxHeartbeats 800000 in
theorem hpContains_any (S : Option Addr) (l : List Int) (t d : Nat) (x : Int) (w : World) (ht : t = l.length) (hS : Sl w S t d (l.map iv)) :
    Calls Try.prog 67 #[.slice S t d, .int .i64 x] w fun e w' => e = .returned (.bool (inL l x)) ∧ w = w' := by
  have HI := Lib.hid (hpIndex_any S l t d x w ht hS)
  have he := idx_any (fun y => decide (y = x)) l
  rw [show inL l x = l.any (fun y => decide (y = x)) from rfl, ← he]
  generalize idxBy (fun y => decide (y = x)) l = z at *
  clear he ht hS
  go_enter Try.func67, Try.ntmps67
  go_wp2_with (go_at_call 70; refine HI.out.mono ?_; rintro e w1 ⟨rfl, rfl⟩)
  go_ret
  exact ⟨by first | rfl | simp, rfl⟩
set_option maxHeartbeats 800000 in
theorem hpOut_any (p : Int) (kb n : Nat) (w : World) (hb : w.cell? ⟨kb, 0, none⟩ = some (.int .i64 n)) :
    Calls Try.prog 58 #[.int .i64 p, .pointer (some ⟨kb, 0, none⟩)] w fun e w' => e = .returned (.bool (!isPl p n)) ∧ w = w' := by
  have HP := Lib.hid (hpIsPlace_any p n w)
  generalize isPl p n = z at *
  go_enter Try.func58, Try.ntmps58
  go_wp2_with (go_at_call 59; refine HP.out.mono ?_; rintro e w1 ⟨rfl, rfl⟩)
  go_ret
  exact ⟨by first | rfl | simp, rfl⟩
set_option maxHeartbeats 800000 in
theorem hpUnused_any (p : Int) (kb : Nat) (R : Option Addr) (l : List HC) (n q : Nat) (w : World) (hb : w.cell? ⟨kb, 0, none⟩ = some (.slice R n q)) (hA : HcSl w R n q l) :
    Calls Try.prog 62 #[.int .i64 p, .pointer (some ⟨kb, 0, none⟩)] w fun e w' => e = .returned (.bool (!usedC l p)) ∧ w = w' := by
  have HP := Lib.hid (hpUsed_any R l n q p w hA)
  generalize usedC l p = z at *
  clear hA
  go_enter Try.func62, Try.ntmps62
  go_wp2_with (go_at_call 63; refine HP.out.mono ?_; rintro e w1 ⟨rfl, rfl⟩)
  go_ret
  exact ⟨by first | rfl | simp, rfl⟩
set_option maxHeartbeats 800000 in
theorem hpGone_any (p : Int) (kb : Nat) (S : Option Addr) (l : List Int) (t d : Nat) (w : World) (hb : w.cell? ⟨kb, 0, none⟩ = some (.slice S t d)) (ht : t = l.length) (hS : Sl w S t d (l.map iv)) :
    Calls Try.prog 66 #[.int .i64 p, .pointer (some ⟨kb, 0, none⟩)] w fun e w' => e = .returned (.bool (inL l p)) ∧ w = w' := by
  have HP := Lib.hid (hpContains_any S l t d p w ht hS)
  generalize inL l p = z at *
  clear hS ht
  go_enter Try.func66, Try.ntmps66
  go_wp2_with (go_at_call 67; refine HP.out.mono ?_; rintro e w1 ⟨rfl, rfl⟩)
  go_ret
  exact ⟨rfl, rfl⟩
set_option maxRecDepth 100000 in
set_option maxHeartbeats 1600000 in
theorem hpIdxOut_any (f : Int → Bool) (kb : Nat) (S : Option Addr) (l : List Int) (t d : Nat) (w : World) (ht : t = l.length) (hS : Sl w S t d (l.map iv))
    (hF : ∀ p, Calls Try.prog 58 #[.int .i64 p, .pointer (some ⟨kb, 0, none⟩)] w fun e w' => e = .returned (.bool (f p)) ∧ w = w') :
    Calls Try.prog 68 #[.slice S t d, .func (.func 58) #[] #[.pointer (some ⟨kb, 0, none⟩)]] w fun e w' => e = .returned (.int .i64 (idxBy f l)) ∧ w = w' := by
  have hl := hS.len
  unfold maxLen at hl
  have HT := Lib.hid ht
  have HS := Lib.hid hS.cells
  have HF := Lib.hid hF
  clear ht hS hF
  go_enter Try.func68, Try.ntmps68
  go_wp2_with fail
  go_loopw [8] (fun i wr => ∃ k : Nat, k ≤ t ∧ i = .int .i64 k ∧ (∀ j (hj : j < l.length), j < k → f l[j] = false) ∧ w = wr) (fun i _ => t - (intOf i).toNat)
  case atStart => exact ⟨0, Nat.zero_le _, rfl, fun _ _ h => by omega, rfl⟩
  case round =>
    obtain ⟨k, hk, rfl, hb, rfl⟩ := hrel
    have HB := Lib.hid hb
    clear hb
    rcases Nat.lt_or_ge k t with hlt | hlt
    · have hkl : k < l.length := by rw [← HT.out]; exact hlt
      obtain ⟨b, off, rfl, hbl, hc⟩ := HS.out.num hkl
      have hck := hc k hkl
      have hki : (k : Int) < (t : Int) := by omega
      have HH := Lib.hid (fun h => idx_hit (f := f) hkl h HB.out)
      have HN := Lib.hid (fun (h : f l[k] = false) => (show ∀ j (hj : j < l.length), j < k + 1 → f l[j] = false from fun j hj hjk => by
        rcases Nat.lt_or_ge j k with h' | h'
        · exact HB.out j hj h'
        · obtain rfl : j = k := by omega
          exact h))
      have HC := Lib.hid (HF.out l[k])
      clear hc HB
      generalize l[k] = y at *
      generalize f y = fy at *
      cases fy
      · have HE := Lib.hid (HN.out rfl)
        clear HH HN
        go_wp2_with (go_at_call 58; refine HC.out.mono ?_; rintro e w1 ⟨rfl, rfl⟩)
        go_roundw
        case rel => exact ⟨k + 1, by omega, by go_num, HE.out, by first | rfl | trivial⟩
        case measure => simp [intOf]; omega
      · have HE := Lib.hid (HH.out rfl)
        clear HH HN
        go_wp2_with (go_at_call 58; refine HC.out.mono ?_; rintro e w1 ⟨rfl, rfl⟩)
        go_ret
        exact ⟨ret_int HE.out.symm, rfl⟩
    · obtain rfl : k = t := by omega
      have HE := Lib.hid (idx_none (f := f) (fun j hj => HB.out j hj (by rw [HT.out]; exact hj)))
      clear hlt
      go_wp2_with fail
      go_ret
      exact ⟨ret_int HE.out.symm, rfl⟩
set_option maxHeartbeats 800000 in
theorem hpHasOut_any (f : Int → Bool) (kb : Nat) (S : Option Addr) (l : List Int) (t d : Nat) (w : World) (ht : t = l.length) (hS : Sl w S t d (l.map iv))
    (hF : ∀ p, Calls Try.prog 58 #[.int .i64 p, .pointer (some ⟨kb, 0, none⟩)] w fun e w' => e = .returned (.bool (f p)) ∧ w = w') :
    Calls Try.prog 57 #[.slice S t d, .func (.func 58) #[] #[.pointer (some ⟨kb, 0, none⟩)]] w fun e w' => e = .returned (.bool (l.any f)) ∧ w = w' := by
  have HI := Lib.hid (hpIdxOut_any f kb S l t d w ht hS hF)
  rw [← idx_any f l]
  generalize idxBy f l = z at *
  clear ht hS hF
  go_enter Try.func57, Try.ntmps57
  go_wp2_with (go_at_call 68; refine HI.out.mono ?_; rintro e w1 ⟨rfl, rfl⟩)
  go_ret
  exact ⟨by first | rfl | simp, rfl⟩
set_option maxRecDepth 100000 in
set_option maxHeartbeats 1600000 in
theorem hpIdxUnused_any (f : Int → Bool) (kb : Nat) (S : Option Addr) (l : List Int) (t d : Nat) (w : World) (ht : t = l.length) (hS : Sl w S t d (l.map iv))
    (hF : ∀ p, Calls Try.prog 62 #[.int .i64 p, .pointer (some ⟨kb, 0, none⟩)] w fun e w' => e = .returned (.bool (f p)) ∧ w = w') :
    Calls Try.prog 68 #[.slice S t d, .func (.func 62) #[] #[.pointer (some ⟨kb, 0, none⟩)]] w fun e w' => e = .returned (.int .i64 (idxBy f l)) ∧ w = w' := by
  have hl := hS.len
  unfold maxLen at hl
  have HT := Lib.hid ht
  have HS := Lib.hid hS.cells
  have HF := Lib.hid hF
  clear ht hS hF
  go_enter Try.func68, Try.ntmps68
  go_wp2_with fail
  go_loopw [8] (fun i wr => ∃ k : Nat, k ≤ t ∧ i = .int .i64 k ∧ (∀ j (hj : j < l.length), j < k → f l[j] = false) ∧ w = wr) (fun i _ => t - (intOf i).toNat)
  case atStart => exact ⟨0, Nat.zero_le _, rfl, fun _ _ h => by omega, rfl⟩
  case round =>
    obtain ⟨k, hk, rfl, hb, rfl⟩ := hrel
    have HB := Lib.hid hb
    clear hb
    rcases Nat.lt_or_ge k t with hlt | hlt
    · have hkl : k < l.length := by rw [← HT.out]; exact hlt
      obtain ⟨b, off, rfl, hbl, hc⟩ := HS.out.num hkl
      have hck := hc k hkl
      have hki : (k : Int) < (t : Int) := by omega
      have HH := Lib.hid (fun h => idx_hit (f := f) hkl h HB.out)
      have HN := Lib.hid (fun (h : f l[k] = false) => (show ∀ j (hj : j < l.length), j < k + 1 → f l[j] = false from fun j hj hjk => by
        rcases Nat.lt_or_ge j k with h' | h'
        · exact HB.out j hj h'
        · obtain rfl : j = k := by omega
          exact h))
      have HC := Lib.hid (HF.out l[k])
      clear hc HB
      generalize l[k] = y at *
      generalize f y = fy at *
      cases fy
      · have HE := Lib.hid (HN.out rfl)
        clear HH HN
        go_wp2_with (go_at_call 62; refine HC.out.mono ?_; rintro e w1 ⟨rfl, rfl⟩)
        go_roundw
        case rel => exact ⟨k + 1, by omega, by go_num, HE.out, by first | rfl | trivial⟩
        case measure => simp [intOf]; omega
      · have HE := Lib.hid (HH.out rfl)
        clear HH HN
        go_wp2_with (go_at_call 62; refine HC.out.mono ?_; rintro e w1 ⟨rfl, rfl⟩)
        go_ret
        exact ⟨ret_int HE.out.symm, rfl⟩
    · obtain rfl : k = t := by omega
      have HE := Lib.hid (idx_none (f := f) (fun j hj => HB.out j hj (by rw [HT.out]; exact hj)))
      clear hlt
      go_wp2_with fail
      go_ret
      exact ⟨ret_int HE.out.symm, rfl⟩
set_option maxHeartbeats 800000 in
theorem hpHasUnused_any (f : Int → Bool) (kb : Nat) (S : Option Addr) (l : List Int) (t d : Nat) (w : World) (ht : t = l.length) (hS : Sl w S t d (l.map iv))
    (hF : ∀ p, Calls Try.prog 62 #[.int .i64 p, .pointer (some ⟨kb, 0, none⟩)] w fun e w' => e = .returned (.bool (f p)) ∧ w = w') :
    Calls Try.prog 57 #[.slice S t d, .func (.func 62) #[] #[.pointer (some ⟨kb, 0, none⟩)]] w fun e w' => e = .returned (.bool (l.any f)) ∧ w = w' := by
  have HI := Lib.hid (hpIdxUnused_any f kb S l t d w ht hS hF)
  rw [← idx_any f l]
  generalize idxBy f l = z at *
  clear ht hS hF
  go_enter Try.func57, Try.ntmps57
  go_wp2_with (go_at_call 68; refine HI.out.mono ?_; rintro e w1 ⟨rfl, rfl⟩)
  go_ret
  exact ⟨by first | rfl | simp, rfl⟩
set_option maxRecDepth 100000 in
set_option maxHeartbeats 1600000 in
theorem hpIdxGone_any (f : Int → Bool) (kb : Nat) (S : Option Addr) (l : List Int) (t d : Nat) (w : World) (ht : t = l.length) (hS : Sl w S t d (l.map iv))
    (hF : ∀ p, Calls Try.prog 66 #[.int .i64 p, .pointer (some ⟨kb, 0, none⟩)] w fun e w' => e = .returned (.bool (f p)) ∧ w = w') :
    Calls Try.prog 68 #[.slice S t d, .func (.func 66) #[] #[.pointer (some ⟨kb, 0, none⟩)]] w fun e w' => e = .returned (.int .i64 (idxBy f l)) ∧ w = w' := by
  have hl := hS.len
  unfold maxLen at hl
  have HT := Lib.hid ht
  have HS := Lib.hid hS.cells
  have HF := Lib.hid hF
  clear ht hS hF
  go_enter Try.func68, Try.ntmps68
  go_wp2_with fail
  go_loopw [8] (fun i wr => ∃ k : Nat, k ≤ t ∧ i = .int .i64 k ∧ (∀ j (hj : j < l.length), j < k → f l[j] = false) ∧ w = wr) (fun i _ => t - (intOf i).toNat)
  case atStart => exact ⟨0, Nat.zero_le _, rfl, fun _ _ h => by omega, rfl⟩
  case round =>
    obtain ⟨k, hk, rfl, hb, rfl⟩ := hrel
    have HB := Lib.hid hb
    clear hb
    rcases Nat.lt_or_ge k t with hlt | hlt
    · have hkl : k < l.length := by rw [← HT.out]; exact hlt
      obtain ⟨b, off, rfl, hbl, hc⟩ := HS.out.num hkl
      have hck := hc k hkl
      have hki : (k : Int) < (t : Int) := by omega
      have HH := Lib.hid (fun h => idx_hit (f := f) hkl h HB.out)
      have HN := Lib.hid (fun (h : f l[k] = false) => (show ∀ j (hj : j < l.length), j < k + 1 → f l[j] = false from fun j hj hjk => by
        rcases Nat.lt_or_ge j k with h' | h'
        · exact HB.out j hj h'
        · obtain rfl : j = k := by omega
          exact h))
      have HC := Lib.hid (HF.out l[k])
      clear hc HB
      generalize l[k] = y at *
      generalize f y = fy at *
      cases fy
      · have HE := Lib.hid (HN.out rfl)
        clear HH HN
        go_wp2_with (go_at_call 66; refine HC.out.mono ?_; rintro e w1 ⟨rfl, rfl⟩)
        go_roundw
        case rel => exact ⟨k + 1, by omega, by go_num, HE.out, by first | rfl | trivial⟩
        case measure => simp [intOf]; omega
      · have HE := Lib.hid (HH.out rfl)
        clear HH HN
        go_wp2_with (go_at_call 66; refine HC.out.mono ?_; rintro e w1 ⟨rfl, rfl⟩)
        go_ret
        exact ⟨ret_int HE.out.symm, rfl⟩
    · obtain rfl : k = t := by omega
      have HE := Lib.hid (idx_none (f := f) (fun j hj => HB.out j hj (by rw [HT.out]; exact hj)))
      clear hlt
      go_wp2_with fail
      go_ret
      exact ⟨ret_int HE.out.symm, rfl⟩
set_option maxHeartbeats 800000 in
theorem hpAllUsed_any (R : Option Addr) (l : List HC) (n q : Nat) (S : Option Addr) (ps : List Int) (t d : Nat) (w : World) (hA : HcSl w R n q l) (ht : t = ps.length) (hS : Sl w S t d (ps.map iv)) :
    Calls Try.prog 41 #[.slice R n q, .slice S t d] w fun e w' => e = .returned (.bool (ps.all (usedC l))) ∧ Ext w w' := by
  have hx := (Ext.refl w).alloc (.cells #[.slice R n q] 76)
  have HX := Lib.hid hx
  have hb := Bx.new w #[.slice R n q] 76
  have HI := Lib.hid (hpHasUnused_any (fun p => !usedC l p) w.heap.size S ps t d _ ht (hS.ext hx) (fun p => hpUnused_any p w.heap.size R l n q _ (hb.at 0 _ rfl) (hA.ext hx)))
  have he : ps.all (usedC l) = !(ps.any (fun p => !usedC l p)) := by rw [List.all_eq_not_any_not]
  rw [he]
  generalize ps.any _ = z at *
  clear he ht hS hA hb hx
  go_enter Try.func41, Try.ntmps41
  go_wp2_with (go_at_call 57; refine HI.out.mono ?_; rintro e w1 ⟨rfl, rfl⟩)
  go_ret
  exact ⟨by first | rfl | simp, HX.out⟩
end Go.Proofs.Ytclpeeemnmhdcaa
