/- Walks of isWhole, isRight and takenOne of package todo, of any whole numbers. Walks of package todo's Right and what it calls: whole numbers, the closure, the search. The walk of Right of package todo, of any whole numbers. Walks of takenOne, taken and Parse of package todo, of any bytes. Items, and right nodes, as plain lists; slices of items. No program in sight. Walks of Items, Right and Same of the reference, of nodes. -/
import Derived.Test.YtpcimjccngidgaaK03
import Derived.Test.YtpcimjccngidgaaK10
import Derived.Deep.RegionHeld3
import Derived.Deep.AppendLies
import Derived.Deep.DeepCutAuto
import Derived.Deep.DrawnRows
import Derived.RegionTactic
import Derived.Test.YtpcimjccngidgaaK01
import Derived.Test.YtpcimjccngidgaaK05
import Derived.Test.YtpcimjccngidgaaRows
import Derived.WalkKit
import Derived.Deep.QuietTactic
import Derived.BigQuiet
import Derived.ChangeSame
namespace Go.Proofs.Ytpcimjccngidgaa
set_option maxRecDepth 20000
open Go.RowKit

theorem cmp_lt {a b : Int} (h : a < b) : compare a b = .lt := by
  show compareOfLessAndEq a b = _
  unfold compareOfLessAndEq; rw [if_pos h]
theorem cmp_eq (a : Int) : compare a a = .eq := by
  show compareOfLessAndEq a a = _
  unfold compareOfLessAndEq; rw [if_neg (by omega), if_pos rfl]
theorem cmp_gt {a b : Int} (h : b < a) : compare a b = .gt := by
  show compareOfLessAndEq a b = _
  unfold compareOfLessAndEq; rw [if_neg (by omega), if_neg (by omega)]
/-- How a whole number's float stands to a whole number's. -/
theorem fN_cmp {p : Nat} {m : Int} (hp : p < 2 ^ 53) (h1 : -1 ≤ m) (h2 : m < 2 ^ 53) : FloatKind.f64.format.order (fN p) (floatOfInt .f64 m) = some (compare (p : Int) m) := by
  rcases Int.lt_or_le m 0 with h | h
  · obtain rfl : m = -1 := by omega
    rw [fN_below hp, cmp_gt (by omega)]
  · obtain ⟨k, rfl⟩ := Int.eq_ofNat_of_zero_le h
    exact fN_order hp (by omega)
set_option maxHeartbeats 800000 in
theorem tdWhole_any (p : Nat) (m : Int) (w : World) (hp : p < 65536) (h1 : -1 ≤ m) (h2 : m < 65536) :
    Calls Try.prog 91 #[.float .f64 (fN p), .int .i64 m] w fun e w' => e = .returned (.bool (decide ((p : Int) ≤ m))) ∧ w = w' := by
  have hi := fN_toInt (n := p) (by omega)
  have hrun := fun w => run_convert_float_int (P := Try.prog) w 147 3 .f64 .i64 (fN p) p (by rw [Try.underlying147]; rfl) Try.underlying3 hi
  have o1 := fN_cmp (p := p) (m := m) (by omega) h1 (by omega)
  have o2 : FloatKind.f64.format.order (fN p) (floatOfInt .f64 (p : Int)) = some .eq := by
    rw [fN_cmp (p := p) (m := (p : Int)) (by omega) (by omega) (by omega), cmp_eq]
  have o3 : FloatKind.f64.format.order (fN p) 0 = some (compare (p : Int) 0) := by
    have := fN_cmp (p := p) (m := 0) (by omega) (by omega) (by omega)
    rw [show floatOfInt .f64 0 = 0 from fN_zero] at this
    exact this
  generalize fN p = x at *
  have o4 : (compare (p : Int) 0 = .gt ∧ 0 < p) ∨ (compare (p : Int) 0 = .eq ∧ p = 0) := by
    rcases Nat.eq_zero_or_pos p with h | h
    · subst h; exact .inr ⟨rfl, rfl⟩
    · exact .inl ⟨cmp_gt (by omega), h⟩
  have o5 : (compare (p : Int) m = .gt ∧ m < p) ∨ (compare (p : Int) m = .eq ∧ (p : Int) = m) ∨ (compare (p : Int) m = .lt ∧ (p : Int) < m) := by
    rcases Int.lt_trichotomy (p : Int) m with h | h | h
    · exact .inr (.inr ⟨cmp_lt h, h⟩)
    · exact .inr (.inl ⟨by rw [h, cmp_eq], h⟩)
    · exact .inl ⟨cmp_gt h, h⟩
  have HQ := Lib.hid (And.intro o4 o5)
  rcases o4 with ⟨c1, -⟩ | ⟨c1, -⟩ <;> rcases o5 with ⟨c2, c3⟩ | ⟨c2, c3⟩ | ⟨c2, c3⟩
  all_goals
    rw [c1] at o3
    rw [c2] at o1
    have HC := Lib.hid c3
    clear c1 c2 c3 hi
    go_enter Try.func91, Try.ntmps91
    go_wp2
    go_ret
    exact ⟨ret_bool (by
      have h := HC.out
      first
        | exact (decide_eq_true (by omega)).symm
        | exact (decide_eq_false (by omega)).symm), rfl⟩
/-- May there be such a task of a heap of n cells? -/
def okP (n : Int) (t : Nat × Nat) : Bool := decide ((t.1 : Int) ≤ n - 1) && decide ((t.2 : Int) ≤ 5)
def tkB2 (t : Nat × Nat) : Tk := (fN t.1, fN t.2)
set_option maxHeartbeats 800000 in
theorem tdIsRight_any (p k : Nat) (n : Int) (w : World) (hp : p < 65536) (hk : k < 65536) (h1 : 0 ≤ n) (h2 : n ≤ 2000) :
    Calls Try.prog 88 #[.complex .f64 (fN p) (fN k), .int .i64 n] w fun e w' => e = .returned (.bool (okP n (p, k))) ∧ w = w' := by
  unfold okP
  obtain ⟨m, hm⟩ : ∃ m, n - 1 = m := ⟨_, rfl⟩
  have HX := Lib.hid (fun w => tdWhole_any p m w hp (by omega) (by omega))
  have HY := Lib.hid (fun w => (show Calls Try.prog 91 #[.float .f64 (fN k), .int .i64 5] w fun e w' => e = .returned (.bool (decide ((k : Int) ≤ 5))) ∧ w = w' from tdWhole_any k 5 w hk (by omega) (by omega)))
  have v1 : IntKind.i64.wrap (n - 1) = m := by rw [IntKind.wrap_i64]; omega
  simp only
  rw [hm]
  generalize decide ((k : Int) ≤ 5) = y at *
  generalize fN p = a at *
  generalize fN k = b at *
  generalize decide ((p : Int) ≤ m) = x at *
  clear hm
  cases x
  · go_enter Try.func88, Try.ntmps88
    go_wp2_with (go_at_call 91; (first | (with_reducible refine (HX.out _).mono ?_) | (with_reducible refine (HY.out _).mono ?_)); rintro e w' ⟨rfl, rfl⟩)
    go_ret
    exact ⟨rfl, rfl⟩
  · go_enter Try.func88, Try.ntmps88
    go_wp2_with (go_at_call 91; (first | (with_reducible refine (HY.out _).mono ?_) | (with_reducible refine (HX.out _).mono ?_)); rintro e w' ⟨rfl, rfl⟩)
    go_ret
    exact ⟨ret_bool (Bool.true_and _).symm, rfl⟩
end Go.Proofs.Ytpcimjccngidgaa
namespace Go.Proofs.Ytpcimjccngidgaa
set_option maxRecDepth 20000
open Go.RowKit
attribute [local go_sem ↓] Go.wp_at_zero Go.wp_at_succ

/-- What is asked of a whole number above nought, that isn't above another one (or is). -/
def WholeC (x : Nat) (m : Int) (b : Bool) : Prop := ∃ i : Int, FloatKind.f64.format.order x 0 = some .gt ∧ (FloatKind.f64.format.order x (floatOfInt .f64 m) == some .lt || FloatKind.f64.format.order x (floatOfInt .f64 m) == some .eq) = b ∧ floatToIntVal .f64 x .i64 = some i ∧ (FloatKind.f64.format.order x (floatOfInt .f64 i) == some .eq) = true
theorem isWhole_c {x : Nat} {m : Int} {b : Bool} (h : WholeC x m b) (w : World) :
    Calls Try.prog 91 #[.float .f64 x, .int .i64 m] w fun e w' => e = .returned (.bool b) ∧ w = w' := by
  obtain ⟨i, h1, h2, h3, h4⟩ := h
  have hrun := fun w => run_convert_float_int (P := Try.prog) w 147 3 .f64 .i64 x i (by rw [Try.underlying147]; rfl) Try.underlying3 h3
  go_enter Try.func91, Try.ntmps91
  cases b
  · go_wp2
    go_ret
    exact ⟨rfl, rfl⟩
  · go_wp2
    go_ret
    exact ⟨rfl, rfl⟩
theorem isRight_c {x y : Nat} {n : Int} {b : Bool} (hx : WholeC x (n - 1) b) (hy : WholeC y 5 true) (h0 : 0 ≤ n) (h1 : n ≤ 2000) (w : World) :
    Calls Try.prog 88 #[.complex .f64 x y, .int .i64 n] w fun e w' => e = .returned (.bool b) ∧ w = w' := by
  have HX := Lib.hid (fun w => isWhole_c hx w)
  have HY := Lib.hid (fun w => isWhole_c hy w)
  clear hx hy
  go_enter Try.func88, Try.ntmps88
  cases b
  · go_wp2_with (go_at_call 91; (first | (with_reducible refine (HX.out _).mono ?_) | (with_reducible refine (HY.out _).mono ?_)); rintro e w' ⟨rfl, rfl⟩)
    go_ret
    exact ⟨rfl, rfl⟩
  · go_wp2_with (go_at_call 91; (first | (with_reducible refine (HX.out _).mono ?_) | (with_reducible refine (HY.out _).mono ?_)); rintro e w' ⟨rfl, rfl⟩)
    go_ret
    exact ⟨rfl, rfl⟩
theorem rightF_c {x y : Nat} {n : Int} {b : Bool} (hx : WholeC x (n - 1) b) (hy : WholeC y 5 true) (h0 : 0 ≤ n) (h1 : n ≤ 2000) (w : World) (kb : Nat) (hb : w.cell? ⟨kb, 0, none⟩ = some (.int .i64 n)) :
    Calls Try.prog 87 #[.complex .f64 x y, .pointer (some ⟨kb, 0, none⟩)] w fun e w' => e = .returned (.bool !b) ∧ w = w' := by
  have HX := Lib.hid (fun w => isRight_c hx hy h0 h1 w)
  clear hx hy
  go_enter Try.func87, Try.ntmps87
  go_wp2_with (go_at_call 88; refine (HX.out _).mono ?_; rintro e w' ⟨rfl, rfl⟩)
  go_ret
  exact ⟨rfl, rfl⟩

/-- The first place at which f holds, or -1. -/
def idxBy {α : Type} (f : α → Bool) (l : List α) : Int := if l.any f then (l.findIdx f : Nat) else -1
theorem idx_hit {α : Type} {f : α → Bool} {l : List α} {k : Nat} (hk : k < l.length) (h : f l[k] = true) (hb : ∀ j (hj : j < l.length), j < k → f l[j] = false) : idxBy f l = (k : Int) := by
  unfold idxBy
  rw [if_pos (by rw [List.any_eq_true]; exact ⟨l[k], List.getElem_mem hk, h⟩), (List.findIdx_eq hk).2 ⟨h, fun j hj => hb j (by omega) hj⟩]
theorem idx_none {α : Type} {f : α → Bool} {l : List α} (hb : ∀ j (hj : j < l.length), f l[j] = false) : idxBy f l = -1 := by
  unfold idxBy
  have h : l.any f = false := by
    rw [List.any_eq_false]
    intro y hy
    obtain ⟨i, hi, rfl⟩ := List.mem_iff_getElem.1 hy
    simpa using hb i hi
  rw [h]; rfl
theorem idx_any {α : Type} (f : α → Bool) (l : List α) : decide (0 ≤ idxBy f l) = l.any f := by
  unfold idxBy
  cases h : l.any f
  · rfl
  · simp
set_option maxRecDepth 100000 in
set_option maxHeartbeats 1600000 in
theorem tdIdx_any (f : Tk → Bool) (kb : Nat) (S : Option Addr) (l : List Tk) (t d : Nat) (w : World) (ht : t = l.length) (hS : Sl w S t d (l.map cxv))
    (hF : ∀ k (hk : k < l.length), Calls Try.prog 87 #[.complex .f64 l[k].1 l[k].2, .pointer (some ⟨kb, 0, none⟩)] w fun e w' => e = .returned (.bool (f l[k])) ∧ w = w') :
    Calls Try.prog 90 #[.slice S t d, .func (.func 87) #[] #[.pointer (some ⟨kb, 0, none⟩)]] w fun e w' => e = .returned (.int .i64 (idxBy f l)) ∧ w = w' := by
  have hl := hS.len
  unfold maxLen at hl
  have HT := Lib.hid ht
  have HS := Lib.hid hS.cells
  have HF := Lib.hid hF
  clear ht hS hF
  go_enter Try.func90, Try.ntmps90
  go_wp2_with fail
  go_loopw [8] (fun i wr => ∃ k : Nat, k ≤ t ∧ i = .int .i64 k ∧ (∀ j (hj : j < l.length), j < k → f l[j] = false) ∧ w = wr) (fun i _ => t - (intOf i).toNat)
  case atStart => exact ⟨0, Nat.zero_le _, rfl, fun _ _ h => by omega, rfl⟩
  case round =>
    obtain ⟨k, hk, rfl, hb, rfl⟩ := hrel
    have HB := Lib.hid hb
    clear hb
    rcases Nat.lt_or_ge k t with hlt | hlt
    · have hkl : k < l.length := by rw [← HT.out]; exact hlt
      obtain ⟨b, off, rfl, hbl, hc⟩ := HS.out.tk hkl
      have hck := hc k hkl
      have hki : (k : Int) < (t : Int) := by omega
      have HH := Lib.hid (fun h => idx_hit (f := f) hkl h HB.out)
      have HN := Lib.hid (fun (h : f l[k] = false) => (show ∀ j (hj : j < l.length), j < k + 1 → f l[j] = false from fun j hj hjk => by
        rcases Nat.lt_or_ge j k with h' | h'
        · exact HB.out j hj h'
        · obtain rfl : j = k := by omega
          exact h))
      have HC := Lib.hid (HF.out k hkl)
      clear hc HB
      generalize f l[k] = fy at *
      generalize l[k] = y at *
      obtain ⟨y1, y2⟩ := y
      simp only at hck HC
      cases fy
      · have HE := Lib.hid (HN.out rfl)
        clear HH HN
        go_wp2_with (go_at_call 87; refine HC.out.mono ?_; rintro e w1 ⟨rfl, rfl⟩)
        go_roundw
        case rel => exact ⟨k + 1, by omega, by go_num, HE.out, by first | rfl | trivial⟩
        case measure => simp [intOf]; omega
      · have HE := Lib.hid (HH.out rfl)
        clear HH HN
        go_wp2_with (go_at_call 87; refine HC.out.mono ?_; rintro e w1 ⟨rfl, rfl⟩)
        go_ret
        exact ⟨ret_int HE.out.symm, rfl⟩
    · obtain rfl : k = t := by omega
      have HE := Lib.hid (idx_none (f := f) (fun j hj => HB.out j hj (by rw [HT.out]; exact hj)))
      clear hlt
      go_wp2_with fail
      go_ret
      exact ⟨ret_int HE.out.symm, rfl⟩
set_option maxHeartbeats 800000 in
theorem tdHas_any (f : Tk → Bool) (kb : Nat) (S : Option Addr) (l : List Tk) (t d : Nat) (w : World) (ht : t = l.length) (hS : Sl w S t d (l.map cxv))
    (hF : ∀ k (hk : k < l.length), Calls Try.prog 87 #[.complex .f64 l[k].1 l[k].2, .pointer (some ⟨kb, 0, none⟩)] w fun e w' => e = .returned (.bool (f l[k])) ∧ w = w') :
    Calls Try.prog 86 #[.slice S t d, .func (.func 87) #[] #[.pointer (some ⟨kb, 0, none⟩)]] w fun e w' => e = .returned (.bool (l.any f)) ∧ w = w' := by
  have HI := Lib.hid (tdIdx_any f kb S l t d w ht hS hF)
  rw [← idx_any f l]
  generalize idxBy f l = z at *
  clear ht hS hF
  go_enter Try.func86, Try.ntmps86
  go_wp2_with (go_at_call 90; refine HI.out.mono ?_; rintro e w1 ⟨rfl, rfl⟩)
  go_ret
  exact ⟨by first | rfl | simp, rfl⟩
set_option maxHeartbeats 800000 in
theorem todoRight_c (n : Int) (b : Bool) (S : Option Addr) (l : List Tk) (t d : Nat) (w : World) (h0 : 0 ≤ n) (h1 : n ≤ 2000) (hpos : 0 < l.length) (ht : t = l.length) (ht5 : t ≤ 500) (hS : Sl w S t d (l.map cxv))
    (hx : ∀ k (hk : k < l.length), WholeC l[k].1 (n - 1) b) (hy : ∀ k (hk : k < l.length), WholeC l[k].2 5 true) :
    Calls Try.prog 77 #[.slice S t d, .int .i64 n] w fun e w' => e = .returned (.bool b) ∧ Ext w w' := by
  obtain ⟨W, hW⟩ : ∃ W, w.alloc (.cells #[.int .i64 n] 3) = W := ⟨_, rfl⟩
  have HX := Lib.hid (show Ext w W from hW ▸ Ext.alloc (Ext.refl _) _)
  have hb : W.cell? ⟨w.heap.size, 0, none⟩ = some (.int .i64 n) := by subst hW; exact Cells.at_ (sl_lit w 3 1 [.int .i64 n] (by unfold maxLen; omega)).cells _ rfl 0 _ rfl
  have hany : (l.any fun _ => !b) = !b := by
    cases b
    · simp only [Bool.not_false]; rw [List.any_eq_true]; exact ⟨l[0], List.getElem_mem hpos, rfl⟩
    · simp
  have HC := Lib.hid (tdHas_any (fun _ => !b) w.heap.size S l t d W ht (hS.ext HX.out) (fun k hk => rightF_c (hx k hk) (hy k hk) h0 h1 W w.heap.size hb))
  rw [hany] at HC
  clear hx hy hS ht hany hpos
  subst hW
  go_enter Try.func77, Try.ntmps77
  go_wp2_with (go_at_call 86; refine HC.out.mono ?_; rintro e w1 ⟨rfl, rfl⟩)
  go_ret
  exact ⟨by first | rfl | simp, HX.out⟩
end Go.Proofs.Ytpcimjccngidgaa
namespace Go.Proofs.Ytpcimjccngidgaa
set_option maxRecDepth 20000
open Go.RowKit

/-- P6.1: which rows are right, of whole numbers. -/
def rightP (l : List (Nat × Nat)) (n : Int) : Bool := decide (0 ≤ n) && decide (n ≤ 2000) && decide (l.length ≤ 500) && l.all (okP n)
set_option maxHeartbeats 800000 in
theorem tdRightF_any (t : Nat × Nat) (n : Int) (w : World) (kb : Nat) (hb : w.cell? ⟨kb, 0, none⟩ = some (.int .i64 n)) (hp : t.1 < 65536) (hk : t.2 < 65536) (h1 : 0 ≤ n) (h2 : n ≤ 2000) :
    Calls Try.prog 87 #[.complex .f64 (tkB2 t).1 (tkB2 t).2, .pointer (some ⟨kb, 0, none⟩)] w fun e w' => e = .returned (.bool (!okP n t)) ∧ w = w' := by
  have HX := Lib.hid (fun w => tdIsRight_any t.1 t.2 n w hp hk h1 h2)
  unfold tkB2
  simp only
  obtain ⟨a, b⟩ := t
  simp only at HX ⊢
  clear h1 h2 hp hk
  generalize okP n (a, b) = r at *
  go_enter Try.func87, Try.ntmps87
  go_wp2_with (go_at_call 88; refine (HX.out _).mono ?_; rintro e w' ⟨rfl, rfl⟩)
  go_ret
  exact ⟨rfl, rfl⟩
/-- The whole number that a float is. -/
def deFN (x : Nat) : Nat := ((floatToIntVal .f64 x .i64).getD 0).toNat
theorem deFN_fN {p : Nat} (h : p < 65536) : deFN (fN p) = p := by
  unfold deFN
  rw [fN_toInt (by omega)]
  simp
def badF (n : Int) (x : Tk) : Bool := !okP n (deFN x.1, deFN x.2)
theorem bad_is (n : Int) {t : Nat × Nat} (h1 : t.1 < 65536) (h2 : t.2 < 65536) : badF n (tkB2 t) = !okP n t := by
  unfold badF tkB2
  simp only
  rw [deFN_fN h1, deFN_fN h2]
theorem any_bad (n : Int) : ∀ (l : List (Nat × Nat)), (∀ x ∈ l, x.1 < 65536 ∧ x.2 < 65536) → (l.map tkB2).any (badF n) = !l.all (okP n)
  | [], _ => rfl
  | t :: l, h => by
    have h1 := h t (List.mem_cons_self ..)
    rw [List.map_cons, List.any_cons, List.all_cons, any_bad n l (fun x hx => h x (List.mem_cons_of_mem _ hx)), bad_is n h1.1 h1.2, Bool.not_and]
set_option maxHeartbeats 800000 in
theorem tdRight_any (S : Option Addr) (l : List (Nat × Nat)) (t d : Nat) (n : Int) (w : World) (ht : t = l.length) (hall : ∀ x ∈ l, x.1 < 65536 ∧ x.2 < 65536) (hS : Sl w S t d ((l.map tkB2).map cxv)) :
    Calls Try.prog 77 #[.slice S t d, .int .i64 n] w fun e w' => e = .returned (.bool (rightP l n)) ∧ Ext w w' := by
  unfold rightP
  rw [← ht]
  have HX := Lib.hid ((Ext.refl w).alloc (.cells #[.int .i64 n] 3))
  rcases Int.lt_or_le n 0 with h0 | h0
  · have d0 : decide (n < 0) = true := decide_eq_true h0
    rw [decide_eq_false (show ¬ 0 ≤ n by omega)]
    simp only [Bool.false_and]
    go_enter Try.func77, Try.ntmps77
    go_wp2
    go_ret
    exact ⟨rfl, HX.out⟩
  have d0 : decide (n < 0) = false := decide_eq_false (by omega)
  rcases Int.lt_or_le 2000 n with h1' | h1'
  · have d1 : decide (2000 < n) = true := decide_eq_true h1'
    rw [decide_eq_false (show ¬ n ≤ 2000 by omega)]
    simp only [Bool.false_and, Bool.and_false]
    go_enter Try.func77, Try.ntmps77
    go_wp2
    go_ret
    exact ⟨rfl, HX.out⟩
  have d1 : decide (2000 < n) = false := decide_eq_false (by omega)
  rcases Nat.lt_or_ge 500 t with h2 | h2
  · have d2 : decide ((500 : Int) < (t : Int)) = true := decide_eq_true (by omega)
    have d3 : decide (500 < t) = true := decide_eq_true h2
    rw [decide_eq_false (show ¬ t ≤ 500 by omega)]
    simp only [Bool.false_and, Bool.and_false]
    clear ht hall hS
    go_enter Try.func77, Try.ntmps77
    go_wp2
    go_ret
    exact ⟨rfl, HX.out⟩
  have d2 : decide ((500 : Int) < (t : Int)) = false := decide_eq_false (by omega)
  have d3 : decide (500 < t) = false := decide_eq_false (by omega)
  rw [decide_eq_true h0, decide_eq_true h1', decide_eq_true h2]
  simp only [Bool.true_and]
  obtain ⟨W, hW⟩ : ∃ W, w.alloc (.cells #[.int .i64 n] 3) = W := ⟨_, rfl⟩
  rw [hW] at HX
  have hb : W.cell? ⟨w.heap.size, 0, none⟩ = some (.int .i64 n) := by subst hW; exact Cells.at_ (sl_lit w 3 1 [.int .i64 n] (by unfold maxLen; omega)).cells _ rfl 0 _ rfl
  have HC := Lib.hid (tdHas_any (badF n) w.heap.size S (l.map tkB2) t d W (by rw [List.length_map]; exact ht) (hS.ext HX.out) (fun k hk => by
    have hk' : k < l.length := by rw [List.length_map] at hk; exact hk
    have h1 := hall _ (List.getElem_mem hk')
    rw [List.getElem_map, bad_is n h1.1 h1.2]
    exact tdRightF_any l[k] n W w.heap.size hb h1.1 h1.2 h0 h1'))
  rw [any_bad n l hall] at HC
  generalize l.all (okP n) = r at *
  clear hS ht hall hb
  subst hW
  go_enter Try.func77, Try.ntmps77
  go_wp2_with (go_at_call 86; refine HC.out.mono ?_; rintro e w1 ⟨rfl, rfl⟩)
  go_ret
  exact ⟨ret_bool (by cases r <;> rfl), HX.out⟩
end Go.Proofs.Ytpcimjccngidgaa
namespace Go.Proofs.Ytpcimjccngidgaa
set_option maxRecDepth 20000
open Go.RowKit

/-- The task whose bytes stand at a place. -/
def oneP (l : List UInt8) (a : Int) : Option (Nat × Nat) :=
  match takeS l a 2 with
  | none => none
  | some p => match takeS l (a + 2) 1 with
    | none => none
    | some k => some (p, k)
theorem takeS_at {l : List UInt8} {a w : Int} {n : Nat} (h : takeS l a w = some n) : 0 ≤ a ∧ a + w ≤ l.length ∧ 1 ≤ w ∧ w ≤ 4 ∧ n = leNat ((l.drop a.toNat).take w.toNat) := by
  unfold takeS at h
  split at h
  · rename_i hc
    cases h
    exact ⟨hc.2.2.1, hc.2.2.2, hc.1, hc.2.1, rfl⟩
  · cases h
theorem takeS_small {l : List UInt8} {a w : Int} {n : Nat} (h : takeS l a w = some n) (hw : w ≤ 2) : n < 65536 := by
  obtain ⟨h1, h2, h3, h4, rfl⟩ := takeS_at h
  have h5 := leNat_lt ((l.drop a.toNat).take w.toNat)
  have h6 : ((l.drop a.toNat).take w.toNat).length ≤ 2 := by rw [List.length_take]; omega
  have h7 : 256 ^ ((l.drop a.toNat).take w.toNat).length ≤ 256 ^ 2 := Nat.pow_le_pow_right (by omega) h6
  omega
theorem oneP_small {l : List UInt8} {a : Int} {x : Nat × Nat} (h : oneP l a = some x) : x.1 < 65536 ∧ x.2 < 65536 ∧ 0 ≤ a ∧ a + 3 ≤ l.length := by
  unfold oneP at h
  split at h
  · cases h
  · rename_i p h1
    split at h
    · cases h
    · rename_i k h2
      cases h
      have := (takeS_at h1).1
      have := (takeS_at h2).2.1
      exact ⟨takeS_small h1 (by omega), takeS_small h2 (by omega), by omega, by omega⟩
theorem takeV_is {l : List UInt8} {a w z : Int} {n : Nat} (h : takeS l a w = some n) : takeV l a w z = .tuple #[.int .i64 n, .int .i64 (a + w), .int .i64 0] := by unfold takeV; rw [h]
theorem takeV_no {l : List UInt8} {a w z : Int} (h : takeS l a w = none) : takeV l a w z = .tuple #[.int .i64 0, .int .i64 0, .int .i64 z] := by unfold takeV; rw [h]
theorem infoC1 : (Try.prog.info? 139).map (fun i => (i.zero, i.size, i.bytes)) = some (some (.complex .f64 0 0), 1, 16) := by kernel_rfl
theorem app_tk1 (w : World) {ops : Array Oper} {rest : List Oper} {o : Oper} {a : Act} {Q : Exit → Act → World → Prop} (hgd : o.guard = none) (s x : Operand)
    (ho : o.op = .call { callee := .builtin .append, args := #[s, x], argTypes := #[40, 40] })
    (B : Nat) (v : Value) (n : Nat) (l : List Tk) (hs : a.eval s = v) (hown : w.ownsRow B 139 1 v n (l.map cxv))
    (A : Option Addr) (m c : Nat) (k : List Tk) (hx : a.eval x = .slice A m c) (hl : k.length = m) (hS : Sl w A m c (k.map cxv))
    (hsz : n + m ≤ 1000000) (hB : B ≤ w.heap.size)
    (h : ∀ A' c' w', w'.ownsRow B 139 1 (.slice A' (n + m) c') (n + m) ((l ++ k).map cxv) → w.grownBy w' v.ownBlock → wpList Try.prog ops Q rest (a.put o.dst (.slice A' (n + m) c')) w') : wpList Try.prog ops Q (o :: rest) a w := by
  refine wpList_app_sl w hgd s x 40 ho B 139 (.complex .f64 0 0) 1 16 Try.underlying40 infoC1 rfl (by omega) v n (l.map cxv) hs hown A m c (k.map cxv) hx (by simp [hl]) hS (cxv_one k) (by unfold maxLen; omega) (by omega) hB ?_
  intro A' c' w' h1 h2
  rw [← List.map_append] at h1
  exact h A' c' w' h1 h2
/-- So many tasks whose bytes stand from a place on. -/
def rowP2 (l : List UInt8) : Nat → Int → Option (List (Nat × Nat))
  | 0, _ => some []
  | m + 1, a => match oneP l a with
    | none => none
    | some x => (rowP2 l m (a + 3)).map (x :: ·)
def takenP (l : List UInt8) (a : Int) : Option (List (Nat × Nat) × Int) :=
  match takeS l a 2 with
  | none => none
  | some m => (rowP2 l m (a + 2)).map (fun r => (r, a + 2 + 3 * m))
theorem rowP2_len {l : List UInt8} : ∀ {m : Nat} {a : Int} {r : List (Nat × Nat)}, rowP2 l m a = some r → r.length = m ∧ ∀ x ∈ r, x.1 < 65536 ∧ x.2 < 65536
  | 0, a, r, h => by cases h; exact ⟨rfl, fun x hx => by cases hx⟩
  | m + 1, a, r, h => by
    rw [rowP2] at h
    split at h
    · cases h
    · rename_i x hx
      cases hr : rowP2 l m (a + 3) with
      | none => rw [hr] at h; cases h
      | some q =>
        rw [hr] at h
        cases h
        obtain ⟨h1, h2⟩ := rowP2_len hr
        have h3 := oneP_small hx
        refine ⟨by rw [List.length_cons, h1], fun y hy => ?_⟩
        rcases List.mem_cons.1 hy with rfl | hy
        · exact ⟨h3.1, h3.2.1⟩
        · exact h2 y hy
/-- P6.2: the tasks that stand there, of a heap of n cells. -/
def tasksP (l : List UInt8) (a n : Int) : Option (List (Nat × Nat) × Int) :=
  match takenP l a with
  | none => none
  | some x => if rightP x.1 n then some x else none
theorem takenP_small {l : List UInt8} {a : Int} {x : List (Nat × Nat) × Int} (h : takenP l a = some x) : ∀ y ∈ x.1, y.1 < 65536 ∧ y.2 < 65536 := by
  unfold takenP at h
  split at h
  · cases h
  · rename_i m hm
    cases hr : rowP2 l m (a + 2) with
    | none => rw [hr] at h; cases h
    | some r =>
      rw [hr] at h
      cases h
      exact (rowP2_len hr).2
end Go.Proofs.Ytpcimjccngidgaa
namespace Go.Proofs.Ytpcimjccngidgaa
set_option maxRecDepth 20000
open Go.RowKit

/-- An item: its key, and what it tells. -/
abbrev It := Int × Int
def ivs : List It → List Value
  | [] => []
  | x :: l => .int .i64 x.1 :: .int .i64 x.2 :: ivs l
theorem ivs_length (l : List It) : (ivs l).length = l.length * 2 := by
  induction l with
  | nil => rfl
  | cons x l ih => simp only [ivs, List.length_cons, ih]; omega
theorem ivs_append (l m : List It) : ivs (l ++ m) = ivs l ++ ivs m := by
  induction l with
  | nil => rfl
  | cons x l ih => simp [ivs, ih]
theorem ivs_at (l : List It) : ∀ (k : Nat) (h : k < l.length), (ivs l)[k * 2]? = some (.int .i64 l[k].1) ∧ (ivs l)[k * 2 + 1]? = some (.int .i64 l[k].2) := by
  induction l with
  | nil => intro k h; simp at h
  | cons x l ih =>
    intro k h
    match k with
    | 0 => exact ⟨rfl, rfl⟩
    | k + 1 =>
      have := ih k (by simpa using h)
      have e1 : (k + 1) * 2 = k * 2 + 1 + 1 := by omega
      rw [e1]
      simpa [ivs] using this
theorem ivs_oneCell (l : List It) : ∀ u ∈ ivs l, u.oneCell' = true := by
  induction l with
  | nil => intro u h; simp [ivs] at h
  | cons x l ih =>
    intro u h
    simp only [ivs, List.mem_cons] at h
    rcases h with rfl | rfl | h
    · rfl
    · rfl
    · exact ih u h
theorem flat_ivs (l : List It) : ∀ u ∈ ivs l, flat u = true := by
  induction l with
  | nil => intro u h; simp [ivs] at h
  | cons x l ih =>
    intro u h
    simp only [ivs, List.mem_cons] at h
    rcases h with rfl | rfl | h
    · rfl
    · rfl
    · exact ih u h
theorem ivs_drop (l : List It) : ∀ k, (ivs l).drop (k * 2) = ivs (l.drop k) := by
  induction l with
  | nil => intro k; simp [ivs]
  | cons x l ih =>
    intro k
    match k with
    | 0 => rfl
    | k + 1 => rw [show (k + 1) * 2 = k * 2 + 1 + 1 by omega]; simp only [ivs, List.drop_succ_cons]; exact ih k
theorem ivs_take (l : List It) : ∀ k, (ivs l).take (k * 2) = ivs (l.take k) := by
  induction l with
  | nil => intro k; simp [ivs]
  | cons x l ih =>
    intro k
    match k with
    | 0 => simp [ivs]
    | k + 1 => rw [show (k + 1) * 2 = k * 2 + 1 + 1 by omega]; simp only [ivs, List.take_succ_cons]; rw [ih k]
theorem ivs_nil {l : List It} (h : ivs l = []) : l = [] := by
  cases l with
  | nil => rfl
  | cons x l => simp [ivs] at h
/-- Where an item stands. -/
theorem Cells.it {w : World} {A : Option Addr} {l : List It} (h : Cells w A (ivs l)) {k : Nat} (hk : k < l.length) :
    ∃ b off, A = some ⟨b, off, none⟩ ∧ b < w.heap.size ∧ ∀ j (hj : j < l.length), w.cell? ⟨b, off + j * 2, none⟩ = some (.int .i64 l[j].1) ∧ w.cell? ⟨b, off + j * 2 + 1, none⟩ = some (.int .i64 l[j].2) := by
  obtain ⟨b, off, rfl, hlt, hc⟩ := h (by intro e; have := ivs_length l; rw [e] at this; simp at this; omega)
  exact ⟨b, off, rfl, hlt, fun j hj => ⟨hc _ _ (ivs_at l j hj).1, by rw [Nat.add_assoc]; exact hc _ _ (ivs_at l j hj).2⟩⟩
/-- A piece of a slice. -/
theorem Sl.cut {w : World} {A : Option Addr} {n c size : Nat} {xs : List Value} (h : Sl w A n c xs) (hx : xs.length = n * size) (lo hi : Nat) (h1 : lo ≤ hi) (h2 : hi ≤ n) :
    Sl w (if c = lo then A else A.map (fun p => p.add (lo * size))) (hi - lo) (c - lo) ((xs.drop (lo * size)).take ((hi - lo) * size)) := by
  obtain ⟨ha, hb, hc, hd⟩ := h
  refine ⟨fun e => ?_, by omega, by omega, fun hne => ?_⟩
  · by_cases hcl : c = lo
    · omega
    · rw [if_neg hcl] at e
      cases A with
      | none => have := ha rfl; omega
      | some a => simp at e
  · have hlh : lo < hi := by
      rcases Nat.lt_or_ge lo hi with h | h
      · exact h
      · have : hi - lo = 0 := by omega
        rw [this] at hne; simp at hne
    have hsz : 0 < size := by
      rcases Nat.eq_zero_or_pos size with h | h
      · subst h; simp at hne
      · exact h
    have hne2 : xs ≠ [] := by intro e; subst e; simp at hne
    obtain ⟨b, off, rfl, hlt, hcell⟩ := hd hne2
    rw [if_neg (by omega)]
    refine ⟨b, off + lo * size, by simp [Addr.add_lit], hlt, fun j u hu => ?_⟩
    rw [Nat.add_assoc]
    refine hcell _ _ ?_
    rw [List.getElem?_take] at hu
    split at hu
    · rwa [List.getElem?_drop] at hu
    · cases hu
theorem Sl.items {w : World} {A : Option Addr} {n c : Nat} {l : List It} (h : Sl w A n c (ivs l)) (hn : n = l.length) (lo hi : Nat) (h1 : lo ≤ hi) (h2 : hi ≤ n) :
    Sl w (if c = lo then A else A.map (fun p => p.add (lo * 2))) (hi - lo) (c - lo) (ivs ((l.drop lo).take (hi - lo))) := by
  have k := h.cut (size := 2) (by rw [ivs_length, hn]) lo hi h1 h2
  rw [ivs_drop, ivs_take] at k
  exact k

theorem Bx.read2 {w : World} {k : Nat} {a b : Value} (h : Bx w k #[a, b]) : w.cell? ⟨k, 0, none⟩ = some a ∧ w.cell? ⟨k, 1, none⟩ = some b ∧ k < w.heap.size := ⟨h.at 0 _ rfl, h.at 1 _ rfl, h.lt⟩
/-- P4.1: which are right. -/
def okIt (x : It) : Prop := (0 ≤ x.1 ∧ x.1 ≤ 2147483647) ∧ (0 ≤ x.2 ∧ x.2 ≤ 2147483647)
instance (x : It) : Decidable (okIt x) := by unfold okIt; infer_instance
def NdK (l : List It) (k : Nat) : Prop := ∀ i (h : i < l.length), i < k → okIt l[i] ∧ (∀ h0 : 0 < i, l[i - 1].1 < l[i].1)
def NdR (l : List It) : Prop := (1 ≤ l.length ∧ l.length ≤ 4) ∧ ∀ i (h : i < l.length), okIt l[i] ∧ (∀ h0 : 0 < i, l[i - 1].1 < l[i].1)
instance (l : List It) : Decidable (NdR l) := by unfold NdR; infer_instance
def ndR (l : List It) : Bool := decide (NdR l)
theorem ndR_iff (l : List It) : ndR l = true ↔ NdR l := by unfold ndR; simp
theorem ndR_no {l : List It} (h : ¬ NdR l) : ndR l = false := by unfold ndR; simpa using h
theorem NdK.zero (l : List It) : NdK l 0 := fun _ _ h => by omega
theorem NdK.succ {l : List It} {k : Nat} (h : NdK l k) (hk : k < l.length) (h1 : okIt l[k]) (h2 : ∀ h0 : 0 < k, l[k - 1].1 < l[k].1) : NdK l (k + 1) := fun i hi hik => by
  rcases Nat.lt_or_ge i k with h' | h'
  · exact h i hi h'
  · obtain rfl : i = k := by omega
    exact ⟨h1, h2⟩
theorem NdK.all {l : List It} (h : NdK l l.length) (h1 : 1 ≤ l.length ∧ l.length ≤ 4) : NdR l := ⟨h1, fun i hi => h i hi hi⟩
/-- Keys rise. -/
theorem NdR.rise {l : List It} (h : NdR l) : ∀ (j i : Nat) (hj : j < l.length) (hi : i < j), (l[i]'(by omega)).1 < l[j].1
  | 0, i, hj, hi => by omega
  | j + 1, i, hj, hi => by
    have h1 := (h.2 (j + 1) hj).2 (by omega)
    simp only [Nat.add_sub_cancel] at h1
    rcases Nat.lt_or_ge i j with h' | h'
    · have := NdR.rise h j i (by omega) h'; omega
    · obtain rfl : i = j := by omega
      exact h1

theorem NdR.ok {l : List It} (h : NdR l) : ∀ x ∈ l, okIt x := fun x hx => by
  obtain ⟨i, hi, rfl⟩ := List.mem_iff_getElem.1 hx
  exact (h.2 i hi).1
end Go.Proofs.Ytpcimjccngidgaa
namespace Go.Proofs.Ytpcimjccngidgaa
set_option maxRecDepth 20000
open Go.RowKit

theorem Bx.grown {w w' : World} {k : Nat} {cs : Array Value} {row : Option Nat} (h : Bx w k cs) (hg : w.grownBy w' row) (hne : row ≠ some k) : Bx w' k cs := by
  have hk := h.lt
  obtain ⟨t, h⟩ := h
  obtain ⟨_, _, _, _, hh⟩ := hg
  exact ⟨t, (hh k hk (Ne.symm hne)).trans h⟩
/-- A box that is older than a row isn't its block. -/
theorem own_old {w : World} {B e s n : Nat} {v : Value} {xs : List Value} {k : Nat} (h : w.ownsRow B e s v n xs) (hk : k < B) : v.ownBlock ≠ some k := fun e => by
  have := (h.lt k e).1
  omega
theorem Bx.set {w : World} {k : Nat} {cs : Array Value} (h : Bx w k cs) (i : Nat) (v : Value) : Bx (w.setCell ⟨k, i, none⟩ v) k (cs.setIfInBounds i v) := by
  obtain ⟨t, h⟩ := h
  refine ⟨t, ?_⟩
  simp [World.setCell, Array.getElem?_modify, h]
theorem Bx.set_other {w : World} {k : Nat} {cs : Array Value} (h : Bx w k cs) {p : Addr} (hp : p.block ≠ k) (v : Value) : Bx (w.setCell p v) k cs := by
  obtain ⟨t, h⟩ := h
  exact ⟨t, by rw [Below.heap_setCell _ _ _ _ (by simpa using Ne.symm hp), h]⟩
theorem Bx.set2 {w : World} {k : Nat} {a b : Value} (h : Bx w k #[a, b]) (x y : Value) : Bx ((w.setCell ⟨k, 0, none⟩ x).setCell ⟨k, 1, none⟩ y) k #[x, y] := (h.set 0 x).set 1 y
/-- A function's end whose result lies in a box of two. -/
theorem ret2_cell {P : Program} {fn : Func} {R : Ending → World → Prop} {a : Act} {W : World} {v : Value} {k : Nat} {x y : Value} (hb : Bx W k #[x, y])
    (h : W.cell? ⟨k, 0, none⟩ = some x → W.cell? ⟨k, 1, none⟩ = some y → (results fn a.tmps).run P W = .ok v W) (hd : a.defers = []) (hR : R (.returned v) W) : bodyPost P fn R .ret a W :=
  bodyPost_ret (h hb.read2.1 hb.read2.2.1) hd hR
theorem Bx.free2 {w : World} {k : Nat} {a b : Value} (h : Bx w k #[a, b]) : w.frozen? ⟨k, 0, none⟩ = false ∧ w.frozen? ⟨k, 1, none⟩ = false := ⟨h.free 0, h.free 1⟩
theorem infoIt : (Try.prog.info? 119).map (fun i => (i.zero, i.size, i.bytes)) = some (some (.agg #[.int .i64 0, .int .i64 0]), 2, 16) := by kernel_rfl
/-- append of items onto a row of the call's own. -/
theorem app_items (w : World) {ops : Array Oper} {rest : List Oper} {o : Oper} {a : Act} {Q : Exit → Act → World → Prop} (hgd : o.guard = none) (s x : Operand)
    (ho : o.op = .call { callee := .builtin .append, args := #[s, x], argTypes := #[88, 88] })
    (B : Nat) (v : Value) (n : Nat) (l : List It) (hs : a.eval s = v) (hown : w.ownsRow B 119 2 v n (ivs l))
    (A : Option Addr) (m c : Nat) (k : List It) (hx : a.eval x = .slice A m c) (hl : k.length = m) (hS : Sl w A m c (ivs k))
    (hsz : n + m ≤ 100000) (hB : B ≤ w.heap.size)
    (h : ∀ A' c' w', w'.ownsRow B 119 2 (.slice A' (n + m) c') (n + m) (ivs (l ++ k)) → w.grownBy w' v.ownBlock → wpList Try.prog ops Q rest (a.put o.dst (.slice A' (n + m) c')) w') : wpList Try.prog ops Q (o :: rest) a w := by
  refine wpList_app_sl w hgd s x 88 ho B 119 (.agg #[.int .i64 0, .int .i64 0]) 2 16 Try.underlying88 infoIt rfl (by omega) v n (ivs l) hs hown A m c (ivs k) hx (by rw [ivs_length, hl]) hS (ivs_oneCell k) (by unfold maxLen; omega) (by omega) hB ?_
  intro A' c' w' h1 h2
  rw [← ivs_append] at h1
  exact h A' c' w' h1 h2

theorem Sl.pre {w : World} {A : Option Addr} {n c : Nat} {l : List It} (h : Sl w A n c (ivs l)) (hn : n = l.length) (k : Nat) (hk : k ≤ n) : Sl w A k c (ivs (l.take k)) := by
  obtain ⟨ha, hb, hc, hd⟩ := h
  refine ⟨ha, by omega, hc, fun hne => ?_⟩
  obtain ⟨b, off, e, hlt, hcell⟩ := hd (by intro e; have := ivs_nil e; subst this; simp [ivs] at hne)
  refine ⟨b, off, e, hlt, fun j u hu => hcell j u ?_⟩
  rw [← ivs_take, List.getElem?_take] at hu
  split at hu
  · exact hu
  · cases hu
theorem Sl.post {w : World} {A : Option Addr} {n c : Nat} {l : List It} (h : Sl w A n c (ivs l)) (hn : n = l.length) (k : Nat) (hk : k ≤ n) : Sl w (if c = k then A else A.map (fun x => x.add (k * 2))) (n - k) (c - k) (ivs (l.drop k)) := by
  have h1 := h.items hn k n hk (Nat.le_refl _)
  rwa [List.take_of_length_le (by simp; omega)] at h1
/-- How two items are compared. -/
theorem eq_it (a b c d : Int) (w : World) : (Op.equalIn 10000 119 (.agg #[.int .i64 a, .int .i64 b]) (.agg #[.int .i64 c, .int .i64 d])).run Try.prog w = .ok (decide ((a, b) = (c, d))) w := by
  have u3 := Try.underlying3
  have a3 := Try.isAgg3
  have z3 := Try.sizeOf3
  have hS : Try.prog.underlying 119 = some (.struct (Try.prog.fieldsOf 119)) := by kernel_rfl
  have hp : Try.prog.stoodInHeld 119 = false := by kernel_rfl
  rw [show (10000 : Nat) = 9999 + 1 from rfl, run_equalIn_agg w 9999 119 _ _ hS hp]
  simp only [Program.fieldsOf, Try.underlying119]
  go_simp
  by_cases h1 : a = c <;> by_cases h2 : b = d <;> simp [h1, h2]

def sameI (a b : List It) : Bool := decide (a = b)
def sameN (f : Bool) (a : List It) (g : Bool) (b : List It) : Bool := (f == g) && sameI a b
end Go.Proofs.Ytpcimjccngidgaa
