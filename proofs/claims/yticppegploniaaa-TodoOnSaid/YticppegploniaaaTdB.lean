/- Walks of package todo's Right and what it calls: whole numbers, the closure, the search. -/
import Derived.Test.YticppegploniaaaTdA
import Derived.Deep.AppendLies
import Derived.Deep.RegionHeld3
import Derived.Deep.DeepCutAuto
import Derived.Deep.DrawnRows
import Derived.RegionTactic
namespace Go.Proofs.Yticppegploniaaa
open Go.RowKit
attribute [local go_sem ↓] Go.wp_at_zero Go.wp_at_succ

/-- What is asked of a whole number above nought, that isn't above another one (or is). -/
def WholeC (x : Nat) (m : Int) (b : Bool) : Prop := ∃ i : Int, FloatKind.f64.format.order x 0 = some .gt ∧ (FloatKind.f64.format.order x (floatOfInt .f64 m) == some .lt || FloatKind.f64.format.order x (floatOfInt .f64 m) == some .eq) = b ∧ floatToIntVal .f64 x .i64 = some i ∧ (FloatKind.f64.format.order x (floatOfInt .f64 i) == some .eq) = true
theorem isWhole_c {x : Nat} {m : Int} {b : Bool} (h : WholeC x m b) (w : World) :
    Calls Try.prog 23 #[.float .f64 x, .int .i64 m] w fun e w' => e = .returned (.bool b) ∧ w = w' := by
  obtain ⟨i, h1, h2, h3, h4⟩ := h
  have hrun := fun w => run_convert_float_int (P := Try.prog) w 30 3 .f64 .i64 x i (by rw [Try.underlying30]; rfl) Try.underlying3 h3
  go_enter Try.func23, Try.ntmps23
  cases b
  · go_wp2
    go_ret
    exact ⟨rfl, rfl⟩
  · go_wp2
    go_ret
    exact ⟨rfl, rfl⟩
theorem isRight_c {x y : Nat} {n : Int} {b : Bool} (hx : WholeC x (n - 1) b) (hy : WholeC y 5 true) (h0 : 0 ≤ n) (h1 : n ≤ 2000) (w : World) :
    Calls Try.prog 18 #[.complex .f64 x y, .int .i64 n] w fun e w' => e = .returned (.bool b) ∧ w = w' := by
  have HX := Lib.hid (fun w => isWhole_c hx w)
  have HY := Lib.hid (fun w => isWhole_c hy w)
  clear hx hy
  go_enter Try.func18, Try.ntmps18
  cases b
  · go_wp2_with (go_at_call 23; (first | (with_reducible refine (HX.out _).mono ?_) | (with_reducible refine (HY.out _).mono ?_)); rintro e w' ⟨rfl, rfl⟩)
    go_ret
    exact ⟨rfl, rfl⟩
  · go_wp2_with (go_at_call 23; (first | (with_reducible refine (HX.out _).mono ?_) | (with_reducible refine (HY.out _).mono ?_)); rintro e w' ⟨rfl, rfl⟩)
    go_ret
    exact ⟨rfl, rfl⟩
theorem rightF_c {x y : Nat} {n : Int} {b : Bool} (hx : WholeC x (n - 1) b) (hy : WholeC y 5 true) (h0 : 0 ≤ n) (h1 : n ≤ 2000) (w : World) (kb : Nat) (hb : w.cell? ⟨kb, 0, none⟩ = some (.int .i64 n)) :
    Calls Try.prog 17 #[.complex .f64 x y, .pointer (some ⟨kb, 0, none⟩)] w fun e w' => e = .returned (.bool !b) ∧ w = w' := by
  have HX := Lib.hid (fun w => isRight_c hx hy h0 h1 w)
  clear hx hy
  go_enter Try.func17, Try.ntmps17
  go_wp2_with (go_at_call 18; refine (HX.out _).mono ?_; rintro e w' ⟨rfl, rfl⟩)
  go_ret
  exact ⟨rfl, rfl⟩

/-- The first place at which f holds, or -1. -/
def idxBy {α : Type} (f : α → Bool) (l : List α) : Int := if l.any f then (l.findIdx f : Nat) else -1
theorem idx_hit {α : Type} {f : α → Bool} {l : List α} {k : Nat} (hk : k < l.length) (h : f l[k] = true) (hb : ∀ j (hj : j < l.length), j < k → f l[j] = false) : idxBy f l = (k : Int) := by
  unfold idxBy
  rw [if_pos (by rw [List.any_eq_true]; exact ⟨l[k], List.getElem_mem hk, h⟩), (List.findIdx_eq hk).2 ⟨h, fun j hj => hb j (by omega) hj⟩]
theorem idx_none {α : Type} {f : α → Bool} {l : List α} (hb : ∀ j (hj : j < l.length), f l[j] = false) : idxBy f l = -1 := by
  unfold idxBy
  have h : l.any f = false := by
    rw [List.any_eq_false]
    intro y hy
    obtain ⟨i, hi, rfl⟩ := List.mem_iff_getElem.1 hy
    simpa using hb i hi
  rw [h]; rfl
theorem idx_any {α : Type} (f : α → Bool) (l : List α) : decide (0 ≤ idxBy f l) = l.any f := by
  unfold idxBy
  cases h : l.any f
  · rfl
  · simp
set_option maxRecDepth 100000 in
set_option maxHeartbeats 1600000 in
theorem tdIdx_any (f : Tk → Bool) (kb : Nat) (S : Option Addr) (l : List Tk) (t d : Nat) (w : World) (ht : t = l.length) (hS : Sl w S t d (l.map cxv))
    (hF : ∀ k (hk : k < l.length), Calls Try.prog 17 #[.complex .f64 l[k].1 l[k].2, .pointer (some ⟨kb, 0, none⟩)] w fun e w' => e = .returned (.bool (f l[k])) ∧ w = w') :
    Calls Try.prog 22 #[.slice S t d, .func (.func 17) #[] #[.pointer (some ⟨kb, 0, none⟩)]] w fun e w' => e = .returned (.int .i64 (idxBy f l)) ∧ w = w' := by
  have hl := hS.len
  unfold maxLen at hl
  have HT := Lib.hid ht
  have HS := Lib.hid hS.cells
  have HF := Lib.hid hF
  clear ht hS hF
  go_enter Try.func22, Try.ntmps22
  go_wp2_with fail
  go_loopw [8] (fun i wr => ∃ k : Nat, k ≤ t ∧ i = .int .i64 k ∧ (∀ j (hj : j < l.length), j < k → f l[j] = false) ∧ w = wr) (fun i _ => t - (intOf i).toNat)
  case atStart => exact ⟨0, Nat.zero_le _, rfl, fun _ _ h => by omega, rfl⟩
  case round =>
    obtain ⟨k, hk, rfl, hb, rfl⟩ := hrel
    have HB := Lib.hid hb
    clear hb
    rcases Nat.lt_or_ge k t with hlt | hlt
    · have hkl : k < l.length := by rw [← HT.out]; exact hlt
      obtain ⟨b, off, rfl, hbl, hc⟩ := HS.out.tk hkl
      have hck := hc k hkl
      have hki : (k : Int) < (t : Int) := by omega
      have HH := Lib.hid (fun h => idx_hit (f := f) hkl h HB.out)
      have HN := Lib.hid (fun (h : f l[k] = false) => (show ∀ j (hj : j < l.length), j < k + 1 → f l[j] = false from fun j hj hjk => by
        rcases Nat.lt_or_ge j k with h' | h'
        · exact HB.out j hj h'
        · obtain rfl : j = k := by omega
          exact h))
      have HC := Lib.hid (HF.out k hkl)
      clear hc HB
      generalize f l[k] = fy at *
      generalize l[k] = y at *
      obtain ⟨y1, y2⟩ := y
      simp only at hck HC
      cases fy
      · have HE := Lib.hid (HN.out rfl)
        clear HH HN
        go_wp2_with (go_at_call 17; refine HC.out.mono ?_; rintro e w1 ⟨rfl, rfl⟩)
        go_roundw
        case rel => exact ⟨k + 1, by omega, by go_num, HE.out, by first | rfl | trivial⟩
        case measure => simp [intOf]; omega
      · have HE := Lib.hid (HH.out rfl)
        clear HH HN
        go_wp2_with (go_at_call 17; refine HC.out.mono ?_; rintro e w1 ⟨rfl, rfl⟩)
        go_ret
        exact ⟨ret_int HE.out.symm, rfl⟩
    · obtain rfl : k = t := by omega
      have HE := Lib.hid (idx_none (f := f) (fun j hj => HB.out j hj (by rw [HT.out]; exact hj)))
      clear hlt
      go_wp2_with fail
      go_ret
      exact ⟨ret_int HE.out.symm, rfl⟩
set_option maxHeartbeats 800000 in
theorem tdHas_any (f : Tk → Bool) (kb : Nat) (S : Option Addr) (l : List Tk) (t d : Nat) (w : World) (ht : t = l.length) (hS : Sl w S t d (l.map cxv))
    (hF : ∀ k (hk : k < l.length), Calls Try.prog 17 #[.complex .f64 l[k].1 l[k].2, .pointer (some ⟨kb, 0, none⟩)] w fun e w' => e = .returned (.bool (f l[k])) ∧ w = w') :
    Calls Try.prog 16 #[.slice S t d, .func (.func 17) #[] #[.pointer (some ⟨kb, 0, none⟩)]] w fun e w' => e = .returned (.bool (l.any f)) ∧ w = w' := by
  have HI := Lib.hid (tdIdx_any f kb S l t d w ht hS hF)
  rw [← idx_any f l]
  generalize idxBy f l = z at *
  clear ht hS hF
  go_enter Try.func16, Try.ntmps16
  go_wp2_with (go_at_call 22; refine HI.out.mono ?_; rintro e w1 ⟨rfl, rfl⟩)
  go_ret
  exact ⟨by first | rfl | simp, rfl⟩
set_option maxHeartbeats 800000 in
theorem todoRight_c (n : Int) (b : Bool) (S : Option Addr) (l : List Tk) (t d : Nat) (w : World) (h0 : 0 ≤ n) (h1 : n ≤ 2000) (hpos : 0 < l.length) (ht : t = l.length) (ht5 : t ≤ 500) (hS : Sl w S t d (l.map cxv))
    (hx : ∀ k (hk : k < l.length), WholeC l[k].1 (n - 1) b) (hy : ∀ k (hk : k < l.length), WholeC l[k].2 5 true) :
    Calls Try.prog 12 #[.slice S t d, .int .i64 n] w fun e w' => e = .returned (.bool b) ∧ Ext w w' := by
  obtain ⟨W, hW⟩ : ∃ W, w.alloc (.cells #[.int .i64 n] 3) = W := ⟨_, rfl⟩
  have HX := Lib.hid (show Ext w W from hW ▸ Ext.alloc (Ext.refl _) _)
  have hb : W.cell? ⟨w.heap.size, 0, none⟩ = some (.int .i64 n) := by subst hW; exact Cells.at_ (sl_lit w 3 1 [.int .i64 n] (by unfold maxLen; omega)).cells _ rfl 0 _ rfl
  have hany : (l.any fun _ => !b) = !b := by
    cases b
    · simp only [Bool.not_false]; rw [List.any_eq_true]; exact ⟨l[0], List.getElem_mem hpos, rfl⟩
    · simp
  have HC := Lib.hid (tdHas_any (fun _ => !b) w.heap.size S l t d W ht (hS.ext HX.out) (fun k hk => rightF_c (hx k hk) (hy k hk) h0 h1 W w.heap.size hb))
  rw [hany] at HC
  clear hx hy hS ht hany hpos
  subst hW
  go_enter Try.func12, Try.ntmps12
  go_wp2_with (go_at_call 16; refine HC.out.mono ?_; rintro e w1 ⟨rfl, rfl⟩)
  go_ret
  exact ⟨by first | rfl | simp, HX.out⟩
end Go.Proofs.Yticppegploniaaa
