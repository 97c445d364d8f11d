/- Walks of isWhole, isRight and takenOne of package todo, of any whole numbers. Walks of package todo's Right and what it calls: whole numbers, the closure, the search. The walk of Right of package todo, of any whole numbers. Walks of takenOne, taken and Parse of package todo, of any bytes. Walks of isNumber, Right and Same of package node. Boxes of states (as CmD has them, for seats without the reference's layers). The walks of must, number and tasks of package book's reader: what they tell, and where they panic. -/
import Derived.Test.YtnlkakbpcdfgfaaGreatK01
import Derived.Test.YtnlkakbpcdfgfaaGreatK17
import Derived.Deep.RegionHeld3
import Derived.Deep.AppendLies
import Derived.Deep.DeepCutAuto
import Derived.Deep.DrawnRows
import Derived.RegionTactic
import Derived.Test.YtnlkakbpcdfgfaaGreatK04
import Derived.Test.YtnlkakbpcdfgfaaGreatK12
import Derived.WalkLawsBesides
namespace Go.Proofs.YtnlkakbpcdfgfaaGreat
set_option maxRecDepth 20000
open Go.RowKit

theorem cmp_lt {a b : Int} (h : a < b) : compare a b = .lt := by
  show compareOfLessAndEq a b = _
  unfold compareOfLessAndEq; rw [if_pos h]
theorem cmp_eq (a : Int) : compare a a = .eq := by
  show compareOfLessAndEq a a = _
  unfold compareOfLessAndEq; rw [if_neg (by omega), if_pos rfl]
theorem cmp_gt {a b : Int} (h : b < a) : compare a b = .gt := by
  show compareOfLessAndEq a b = _
  unfold compareOfLessAndEq; rw [if_neg (by omega), if_neg (by omega)]
/-- How a whole number's float stands to a whole number's. -/
theorem fN_cmp {p : Nat} {m : Int} (hp : p < 2 ^ 53) (h1 : -1 ≤ m) (h2 : m < 2 ^ 53) : FloatKind.f64.format.order (fN p) (floatOfInt .f64 m) = some (compare (p : Int) m) := by
  rcases Int.lt_or_le m 0 with h | h
  · obtain rfl : m = -1 := by omega
    rw [fN_below hp, cmp_gt (by omega)]
  · obtain ⟨k, rfl⟩ := Int.eq_ofNat_of_zero_le h
    exact fN_order hp (by omega)
set_option maxHeartbeats 800000 in
theorem tdWhole_any (p : Nat) (m : Int) (w : World) (hp : p < 65536) (h1 : -1 ≤ m) (h2 : m < 65536) :
    Calls Tryz.prog 152 #[.float .f64 (fN p), .int .i64 m] w fun e w' => e = .returned (.bool (decide ((p : Int) ≤ m))) ∧ w = w' := by
  have hi := fN_toInt (n := p) (by omega)
  have hrun := fun w => run_convert_float_int (P := Tryz.prog) w 192 3 .f64 .i64 (fN p) p (by rw [Tryz.underlying192]; rfl) Tryz.underlying3 hi
  have o1 := fN_cmp (p := p) (m := m) (by omega) h1 (by omega)
  have o2 : FloatKind.f64.format.order (fN p) (floatOfInt .f64 (p : Int)) = some .eq := by
    rw [fN_cmp (p := p) (m := (p : Int)) (by omega) (by omega) (by omega), cmp_eq]
  have o3 : FloatKind.f64.format.order (fN p) 0 = some (compare (p : Int) 0) := by
    have := fN_cmp (p := p) (m := 0) (by omega) (by omega) (by omega)
    rw [show floatOfInt .f64 0 = 0 from fN_zero] at this
    exact this
  generalize fN p = x at *
  have o4 : (compare (p : Int) 0 = .gt ∧ 0 < p) ∨ (compare (p : Int) 0 = .eq ∧ p = 0) := by
    rcases Nat.eq_zero_or_pos p with h | h
    · subst h; exact .inr ⟨rfl, rfl⟩
    · exact .inl ⟨cmp_gt (by omega), h⟩
  have o5 : (compare (p : Int) m = .gt ∧ m < p) ∨ (compare (p : Int) m = .eq ∧ (p : Int) = m) ∨ (compare (p : Int) m = .lt ∧ (p : Int) < m) := by
    rcases Int.lt_trichotomy (p : Int) m with h | h | h
    · exact .inr (.inr ⟨cmp_lt h, h⟩)
    · exact .inr (.inl ⟨by rw [h, cmp_eq], h⟩)
    · exact .inl ⟨cmp_gt h, h⟩
  have HQ := Lib.hid (And.intro o4 o5)
  rcases o4 with ⟨c1, -⟩ | ⟨c1, -⟩ <;> rcases o5 with ⟨c2, c3⟩ | ⟨c2, c3⟩ | ⟨c2, c3⟩
  all_goals
    rw [c1] at o3
    rw [c2] at o1
    have HC := Lib.hid c3
    clear c1 c2 c3 hi
    go_enter Tryz.func152, Tryz.ntmps152
    go_wp2
    go_ret
    exact ⟨ret_bool (by
      have h := HC.out
      first
        | exact (decide_eq_true (by omega)).symm
        | exact (decide_eq_false (by omega)).symm), rfl⟩
/-- May there be such a task of a heap of n cells? -/
def okP (n : Int) (t : Nat × Nat) : Bool := decide ((t.1 : Int) ≤ n - 1) && decide ((t.2 : Int) ≤ 5)
def tkB2 (t : Nat × Nat) : Tk := (fN t.1, fN t.2)
set_option maxHeartbeats 800000 in
theorem tdIsRight_any (p k : Nat) (n : Int) (w : World) (hp : p < 65536) (hk : k < 65536) (h1 : 0 ≤ n) (h2 : n ≤ 2000) :
    Calls Tryz.prog 148 #[.complex .f64 (fN p) (fN k), .int .i64 n] w fun e w' => e = .returned (.bool (okP n (p, k))) ∧ w = w' := by
  unfold okP
  obtain ⟨m, hm⟩ : ∃ m, n - 1 = m := ⟨_, rfl⟩
  have HX := Lib.hid (fun w => tdWhole_any p m w hp (by omega) (by omega))
  have HY := Lib.hid (fun w => (show Calls Tryz.prog 152 #[.float .f64 (fN k), .int .i64 5] w fun e w' => e = .returned (.bool (decide ((k : Int) ≤ 5))) ∧ w = w' from tdWhole_any k 5 w hk (by omega) (by omega)))
  have v1 : IntKind.i64.wrap (n - 1) = m := by rw [IntKind.wrap_i64]; omega
  simp only
  rw [hm]
  generalize decide ((k : Int) ≤ 5) = y at *
  generalize fN p = a at *
  generalize fN k = b at *
  generalize decide ((p : Int) ≤ m) = x at *
  clear hm
  cases x
  · go_enter Tryz.func148, Tryz.ntmps148
    go_wp2_with (go_at_call 152; (first | (with_reducible refine (HX.out _).mono ?_) | (with_reducible refine (HY.out _).mono ?_)); rintro e w' ⟨rfl, rfl⟩)
    go_ret
    exact ⟨rfl, rfl⟩
  · go_enter Tryz.func148, Tryz.ntmps148
    go_wp2_with (go_at_call 152; (first | (with_reducible refine (HY.out _).mono ?_) | (with_reducible refine (HX.out _).mono ?_)); rintro e w' ⟨rfl, rfl⟩)
    go_ret
    exact ⟨ret_bool (Bool.true_and _).symm, rfl⟩
end Go.Proofs.YtnlkakbpcdfgfaaGreat
namespace Go.Proofs.YtnlkakbpcdfgfaaGreat
set_option maxRecDepth 20000
open Go.RowKit
attribute [local go_sem ↓] Go.wp_at_zero Go.wp_at_succ

/-- What is asked of a whole number above nought, that isn't above another one (or is). -/
def WholeC (x : Nat) (m : Int) (b : Bool) : Prop := ∃ i : Int, FloatKind.f64.format.order x 0 = some .gt ∧ (FloatKind.f64.format.order x (floatOfInt .f64 m) == some .lt || FloatKind.f64.format.order x (floatOfInt .f64 m) == some .eq) = b ∧ floatToIntVal .f64 x .i64 = some i ∧ (FloatKind.f64.format.order x (floatOfInt .f64 i) == some .eq) = true
theorem isWhole_c {x : Nat} {m : Int} {b : Bool} (h : WholeC x m b) (w : World) :
    Calls Tryz.prog 152 #[.float .f64 x, .int .i64 m] w fun e w' => e = .returned (.bool b) ∧ w = w' := by
  obtain ⟨i, h1, h2, h3, h4⟩ := h
  have hrun := fun w => run_convert_float_int (P := Tryz.prog) w 192 3 .f64 .i64 x i (by rw [Tryz.underlying192]; rfl) Tryz.underlying3 h3
  go_enter Tryz.func152, Tryz.ntmps152
  cases b
  · go_wp2
    go_ret
    exact ⟨rfl, rfl⟩
  · go_wp2
    go_ret
    exact ⟨rfl, rfl⟩
theorem isRight_c {x y : Nat} {n : Int} {b : Bool} (hx : WholeC x (n - 1) b) (hy : WholeC y 5 true) (h0 : 0 ≤ n) (h1 : n ≤ 2000) (w : World) :
    Calls Tryz.prog 148 #[.complex .f64 x y, .int .i64 n] w fun e w' => e = .returned (.bool b) ∧ w = w' := by
  have HX := Lib.hid (fun w => isWhole_c hx w)
  have HY := Lib.hid (fun w => isWhole_c hy w)
  clear hx hy
  go_enter Tryz.func148, Tryz.ntmps148
  cases b
  · go_wp2_with (go_at_call 152; (first | (with_reducible refine (HX.out _).mono ?_) | (with_reducible refine (HY.out _).mono ?_)); rintro e w' ⟨rfl, rfl⟩)
    go_ret
    exact ⟨rfl, rfl⟩
  · go_wp2_with (go_at_call 152; (first | (with_reducible refine (HX.out _).mono ?_) | (with_reducible refine (HY.out _).mono ?_)); rintro e w' ⟨rfl, rfl⟩)
    go_ret
    exact ⟨rfl, rfl⟩
theorem rightF_c {x y : Nat} {n : Int} {b : Bool} (hx : WholeC x (n - 1) b) (hy : WholeC y 5 true) (h0 : 0 ≤ n) (h1 : n ≤ 2000) (w : World) (kb : Nat) (hb : w.cell? ⟨kb, 0, none⟩ = some (.int .i64 n)) :
    Calls Tryz.prog 147 #[.complex .f64 x y, .pointer (some ⟨kb, 0, none⟩)] w fun e w' => e = .returned (.bool !b) ∧ w = w' := by
  have HX := Lib.hid (fun w => isRight_c hx hy h0 h1 w)
  clear hx hy
  go_enter Tryz.func147, Tryz.ntmps147
  go_wp2_with (go_at_call 148; refine (HX.out _).mono ?_; rintro e w' ⟨rfl, rfl⟩)
  go_ret
  exact ⟨rfl, rfl⟩

/-- The first place at which f holds, or -1. -/
def idxBy {α : Type} (f : α → Bool) (l : List α) : Int := if l.any f then (l.findIdx f : Nat) else -1
theorem idx_hit {α : Type} {f : α → Bool} {l : List α} {k : Nat} (hk : k < l.length) (h : f l[k] = true) (hb : ∀ j (hj : j < l.length), j < k → f l[j] = false) : idxBy f l = (k : Int) := by
  unfold idxBy
  rw [if_pos (by rw [List.any_eq_true]; exact ⟨l[k], List.getElem_mem hk, h⟩), (List.findIdx_eq hk).2 ⟨h, fun j hj => hb j (by omega) hj⟩]
theorem idx_none {α : Type} {f : α → Bool} {l : List α} (hb : ∀ j (hj : j < l.length), f l[j] = false) : idxBy f l = -1 := by
  unfold idxBy
  have h : l.any f = false := by
    rw [List.any_eq_false]
    intro y hy
    obtain ⟨i, hi, rfl⟩ := List.mem_iff_getElem.1 hy
    simpa using hb i hi
  rw [h]; rfl
theorem idx_any {α : Type} (f : α → Bool) (l : List α) : decide (0 ≤ idxBy f l) = l.any f := by
  unfold idxBy
  cases h : l.any f
  · rfl
  · simp
set_option maxRecDepth 100000 in
set_option maxHeartbeats 1600000 in
theorem tdIdx_any (f : Tk → Bool) (kb : Nat) (S : Option Addr) (l : List Tk) (t d : Nat) (w : World) (ht : t = l.length) (hS : Sl w S t d (l.map cxv))
    (hF : ∀ k (hk : k < l.length), Calls Tryz.prog 147 #[.complex .f64 l[k].1 l[k].2, .pointer (some ⟨kb, 0, none⟩)] w fun e w' => e = .returned (.bool (f l[k])) ∧ w = w') :
    Calls Tryz.prog 151 #[.slice S t d, .func (.func 147) #[] #[.pointer (some ⟨kb, 0, none⟩)]] w fun e w' => e = .returned (.int .i64 (idxBy f l)) ∧ w = w' := by
  have hl := hS.len
  unfold maxLen at hl
  have HT := Lib.hid ht
  have HS := Lib.hid hS.cells
  have HF := Lib.hid hF
  clear ht hS hF
  go_enter Tryz.func151, Tryz.ntmps151
  go_wp2_with fail
  go_loopw [8] (fun i wr => ∃ k : Nat, k ≤ t ∧ i = .int .i64 k ∧ (∀ j (hj : j < l.length), j < k → f l[j] = false) ∧ w = wr) (fun i _ => t - (intOf i).toNat)
  case atStart => exact ⟨0, Nat.zero_le _, rfl, fun _ _ h => by omega, rfl⟩
  case round =>
    obtain ⟨k, hk, rfl, hb, rfl⟩ := hrel
    have HB := Lib.hid hb
    clear hb
    rcases Nat.lt_or_ge k t with hlt | hlt
    · have hkl : k < l.length := by rw [← HT.out]; exact hlt
      obtain ⟨b, off, rfl, hbl, hc⟩ := HS.out.tk hkl
      have hck := hc k hkl
      have hki : (k : Int) < (t : Int) := by omega
      have HH := Lib.hid (fun h => idx_hit (f := f) hkl h HB.out)
      have HN := Lib.hid (fun (h : f l[k] = false) => (show ∀ j (hj : j < l.length), j < k + 1 → f l[j] = false from fun j hj hjk => by
        rcases Nat.lt_or_ge j k with h' | h'
        · exact HB.out j hj h'
        · obtain rfl : j = k := by omega
          exact h))
      have HC := Lib.hid (HF.out k hkl)
      clear hc HB
      generalize f l[k] = fy at *
      generalize l[k] = y at *
      obtain ⟨y1, y2⟩ := y
      simp only at hck HC
      cases fy
      · have HE := Lib.hid (HN.out rfl)
        clear HH HN
        go_wp2_with (go_at_call 147; refine HC.out.mono ?_; rintro e w1 ⟨rfl, rfl⟩)
        go_roundw
        case rel => exact ⟨k + 1, by omega, by go_num, HE.out, by first | rfl | trivial⟩
        case measure => simp [intOf]; omega
      · have HE := Lib.hid (HH.out rfl)
        clear HH HN
        go_wp2_with (go_at_call 147; refine HC.out.mono ?_; rintro e w1 ⟨rfl, rfl⟩)
        go_ret
        exact ⟨ret_int HE.out.symm, rfl⟩
    · obtain rfl : k = t := by omega
      have HE := Lib.hid (idx_none (f := f) (fun j hj => HB.out j hj (by rw [HT.out]; exact hj)))
      clear hlt
      go_wp2_with fail
      go_ret
      exact ⟨ret_int HE.out.symm, rfl⟩
set_option maxHeartbeats 800000 in
theorem tdHas_any (f : Tk → Bool) (kb : Nat) (S : Option Addr) (l : List Tk) (t d : Nat) (w : World) (ht : t = l.length) (hS : Sl w S t d (l.map cxv))
    (hF : ∀ k (hk : k < l.length), Calls Tryz.prog 147 #[.complex .f64 l[k].1 l[k].2, .pointer (some ⟨kb, 0, none⟩)] w fun e w' => e = .returned (.bool (f l[k])) ∧ w = w') :
    Calls Tryz.prog 146 #[.slice S t d, .func (.func 147) #[] #[.pointer (some ⟨kb, 0, none⟩)]] w fun e w' => e = .returned (.bool (l.any f)) ∧ w = w' := by
  have HI := Lib.hid (tdIdx_any f kb S l t d w ht hS hF)
  rw [← idx_any f l]
  generalize idxBy f l = z at *
  clear ht hS hF
  go_enter Tryz.func146, Tryz.ntmps146
  go_wp2_with (go_at_call 151; refine HI.out.mono ?_; rintro e w1 ⟨rfl, rfl⟩)
  go_ret
  exact ⟨by first | rfl | simp, rfl⟩
set_option maxHeartbeats 800000 in
theorem todoRight_c (n : Int) (b : Bool) (S : Option Addr) (l : List Tk) (t d : Nat) (w : World) (h0 : 0 ≤ n) (h1 : n ≤ 2000) (hpos : 0 < l.length) (ht : t = l.length) (ht5 : t ≤ 500) (hS : Sl w S t d (l.map cxv))
    (hx : ∀ k (hk : k < l.length), WholeC l[k].1 (n - 1) b) (hy : ∀ k (hk : k < l.length), WholeC l[k].2 5 true) :
    Calls Tryz.prog 136 #[.slice S t d, .int .i64 n] w fun e w' => e = .returned (.bool b) ∧ Ext w w' := by
  obtain ⟨W, hW⟩ : ∃ W, w.alloc (.cells #[.int .i64 n] 3) = W := ⟨_, rfl⟩
  have HX := Lib.hid (show Ext w W from hW ▸ Ext.alloc (Ext.refl _) _)
  have hb : W.cell? ⟨w.heap.size, 0, none⟩ = some (.int .i64 n) := by subst hW; exact Cells.at_ (sl_lit w 3 1 [.int .i64 n] (by unfold maxLen; omega)).cells _ rfl 0 _ rfl
  have hany : (l.any fun _ => !b) = !b := by
    cases b
    · simp only [Bool.not_false]; rw [List.any_eq_true]; exact ⟨l[0], List.getElem_mem hpos, rfl⟩
    · simp
  have HC := Lib.hid (tdHas_any (fun _ => !b) w.heap.size S l t d W ht (hS.ext HX.out) (fun k hk => rightF_c (hx k hk) (hy k hk) h0 h1 W w.heap.size hb))
  rw [hany] at HC
  clear hx hy hS ht hany hpos
  subst hW
  go_enter Tryz.func136, Tryz.ntmps136
  go_wp2_with (go_at_call 146; refine HC.out.mono ?_; rintro e w1 ⟨rfl, rfl⟩)
  go_ret
  exact ⟨by first | rfl | simp, HX.out⟩
end Go.Proofs.YtnlkakbpcdfgfaaGreat
namespace Go.Proofs.YtnlkakbpcdfgfaaGreat
set_option maxRecDepth 20000
open Go.RowKit

/-- P6.1: which rows are right, of whole numbers. -/
def rightP (l : List (Nat × Nat)) (n : Int) : Bool := decide (0 ≤ n) && decide (n ≤ 2000) && decide (l.length ≤ 500) && l.all (okP n)
set_option maxHeartbeats 800000 in
theorem tdRightF_any (t : Nat × Nat) (n : Int) (w : World) (kb : Nat) (hb : w.cell? ⟨kb, 0, none⟩ = some (.int .i64 n)) (hp : t.1 < 65536) (hk : t.2 < 65536) (h1 : 0 ≤ n) (h2 : n ≤ 2000) :
    Calls Tryz.prog 147 #[.complex .f64 (tkB2 t).1 (tkB2 t).2, .pointer (some ⟨kb, 0, none⟩)] w fun e w' => e = .returned (.bool (!okP n t)) ∧ w = w' := by
  have HX := Lib.hid (fun w => tdIsRight_any t.1 t.2 n w hp hk h1 h2)
  unfold tkB2
  simp only
  obtain ⟨a, b⟩ := t
  simp only at HX ⊢
  clear h1 h2 hp hk
  generalize okP n (a, b) = r at *
  go_enter Tryz.func147, Tryz.ntmps147
  go_wp2_with (go_at_call 148; refine (HX.out _).mono ?_; rintro e w' ⟨rfl, rfl⟩)
  go_ret
  exact ⟨rfl, rfl⟩
/-- The whole number that a float is. -/
def deFN (x : Nat) : Nat := ((floatToIntVal .f64 x .i64).getD 0).toNat
theorem deFN_fN {p : Nat} (h : p < 65536) : deFN (fN p) = p := by
  unfold deFN
  rw [fN_toInt (by omega)]
  simp
def badF (n : Int) (x : Tk) : Bool := !okP n (deFN x.1, deFN x.2)
theorem bad_is (n : Int) {t : Nat × Nat} (h1 : t.1 < 65536) (h2 : t.2 < 65536) : badF n (tkB2 t) = !okP n t := by
  unfold badF tkB2
  simp only
  rw [deFN_fN h1, deFN_fN h2]
theorem any_bad (n : Int) : ∀ (l : List (Nat × Nat)), (∀ x ∈ l, x.1 < 65536 ∧ x.2 < 65536) → (l.map tkB2).any (badF n) = !l.all (okP n)
  | [], _ => rfl
  | t :: l, h => by
    have h1 := h t (List.mem_cons_self ..)
    rw [List.map_cons, List.any_cons, List.all_cons, any_bad n l (fun x hx => h x (List.mem_cons_of_mem _ hx)), bad_is n h1.1 h1.2, Bool.not_and]
set_option maxHeartbeats 800000 in
theorem tdRight_any (S : Option Addr) (l : List (Nat × Nat)) (t d : Nat) (n : Int) (w : World) (ht : t = l.length) (hall : ∀ x ∈ l, x.1 < 65536 ∧ x.2 < 65536) (hS : Sl w S t d ((l.map tkB2).map cxv)) :
    Calls Tryz.prog 136 #[.slice S t d, .int .i64 n] w fun e w' => e = .returned (.bool (rightP l n)) ∧ Ext w w' := by
  unfold rightP
  rw [← ht]
  have HX := Lib.hid ((Ext.refl w).alloc (.cells #[.int .i64 n] 3))
  rcases Int.lt_or_le n 0 with h0 | h0
  · have d0 : decide (n < 0) = true := decide_eq_true h0
    rw [decide_eq_false (show ¬ 0 ≤ n by omega)]
    simp only [Bool.false_and]
    go_enter Tryz.func136, Tryz.ntmps136
    go_wp2
    go_ret
    exact ⟨rfl, HX.out⟩
  have d0 : decide (n < 0) = false := decide_eq_false (by omega)
  rcases Int.lt_or_le 2000 n with h1' | h1'
  · have d1 : decide (2000 < n) = true := decide_eq_true h1'
    rw [decide_eq_false (show ¬ n ≤ 2000 by omega)]
    simp only [Bool.false_and, Bool.and_false]
    go_enter Tryz.func136, Tryz.ntmps136
    go_wp2
    go_ret
    exact ⟨rfl, HX.out⟩
  have d1 : decide (2000 < n) = false := decide_eq_false (by omega)
  rcases Nat.lt_or_ge 500 t with h2 | h2
  · have d2 : decide ((500 : Int) < (t : Int)) = true := decide_eq_true (by omega)
    have d3 : decide (500 < t) = true := decide_eq_true h2
    rw [decide_eq_false (show ¬ t ≤ 500 by omega)]
    simp only [Bool.false_and, Bool.and_false]
    clear ht hall hS
    go_enter Tryz.func136, Tryz.ntmps136
    go_wp2
    go_ret
    exact ⟨rfl, HX.out⟩
  have d2 : decide ((500 : Int) < (t : Int)) = false := decide_eq_false (by omega)
  have d3 : decide (500 < t) = false := decide_eq_false (by omega)
  rw [decide_eq_true h0, decide_eq_true h1', decide_eq_true h2]
  simp only [Bool.true_and]
  obtain ⟨W, hW⟩ : ∃ W, w.alloc (.cells #[.int .i64 n] 3) = W := ⟨_, rfl⟩
  rw [hW] at HX
  have hb : W.cell? ⟨w.heap.size, 0, none⟩ = some (.int .i64 n) := by subst hW; exact Cells.at_ (sl_lit w 3 1 [.int .i64 n] (by unfold maxLen; omega)).cells _ rfl 0 _ rfl
  have HC := Lib.hid (tdHas_any (badF n) w.heap.size S (l.map tkB2) t d W (by rw [List.length_map]; exact ht) (hS.ext HX.out) (fun k hk => by
    have hk' : k < l.length := by rw [List.length_map] at hk; exact hk
    have h1 := hall _ (List.getElem_mem hk')
    rw [List.getElem_map, bad_is n h1.1 h1.2]
    exact tdRightF_any l[k] n W w.heap.size hb h1.1 h1.2 h0 h1'))
  rw [any_bad n l hall] at HC
  generalize l.all (okP n) = r at *
  clear hS ht hall hb
  subst hW
  go_enter Tryz.func136, Tryz.ntmps136
  go_wp2_with (go_at_call 146; refine HC.out.mono ?_; rintro e w1 ⟨rfl, rfl⟩)
  go_ret
  exact ⟨ret_bool (by cases r <;> rfl), HX.out⟩
end Go.Proofs.YtnlkakbpcdfgfaaGreat
namespace Go.Proofs.YtnlkakbpcdfgfaaGreat
set_option maxRecDepth 20000
open Go.RowKit

/-- The task whose bytes stand at a place. -/
def oneP (l : List UInt8) (a : Int) : Option (Nat × Nat) :=
  match takeS l a 2 with
  | none => none
  | some p => match takeS l (a + 2) 1 with
    | none => none
    | some k => some (p, k)
theorem takeS_at {l : List UInt8} {a w : Int} {n : Nat} (h : takeS l a w = some n) : 0 ≤ a ∧ a + w ≤ l.length ∧ 1 ≤ w ∧ w ≤ 4 ∧ n = leNat ((l.drop a.toNat).take w.toNat) := by
  unfold takeS at h
  split at h
  · rename_i hc
    cases h
    exact ⟨hc.2.2.1, hc.2.2.2, hc.1, hc.2.1, rfl⟩
  · cases h
theorem takeS_small {l : List UInt8} {a w : Int} {n : Nat} (h : takeS l a w = some n) (hw : w ≤ 2) : n < 65536 := by
  obtain ⟨h1, h2, h3, h4, rfl⟩ := takeS_at h
  have h5 := leNat_lt ((l.drop a.toNat).take w.toNat)
  have h6 : ((l.drop a.toNat).take w.toNat).length ≤ 2 := by rw [List.length_take]; omega
  have h7 : 256 ^ ((l.drop a.toNat).take w.toNat).length ≤ 256 ^ 2 := Nat.pow_le_pow_right (by omega) h6
  omega
theorem oneP_small {l : List UInt8} {a : Int} {x : Nat × Nat} (h : oneP l a = some x) : x.1 < 65536 ∧ x.2 < 65536 ∧ 0 ≤ a ∧ a + 3 ≤ l.length := by
  unfold oneP at h
  split at h
  · cases h
  · rename_i p h1
    split at h
    · cases h
    · rename_i k h2
      cases h
      have := (takeS_at h1).1
      have := (takeS_at h2).2.1
      exact ⟨takeS_small h1 (by omega), takeS_small h2 (by omega), by omega, by omega⟩
theorem takeV_is {l : List UInt8} {a w z : Int} {n : Nat} (h : takeS l a w = some n) : takeV l a w z = .tuple #[.int .i64 n, .int .i64 (a + w), .int .i64 0] := by unfold takeV; rw [h]
theorem takeV_no {l : List UInt8} {a w z : Int} (h : takeS l a w = none) : takeV l a w z = .tuple #[.int .i64 0, .int .i64 0, .int .i64 z] := by unfold takeV; rw [h]
theorem infoC1 : (Tryz.prog.info? 92).map (fun i => (i.zero, i.size, i.bytes)) = some (some (.complex .f64 0 0), 1, 16) := by kernel_rfl
theorem app_tk1 (w : World) {ops : Array Oper} {rest : List Oper} {o : Oper} {a : Act} {Q : Exit → Act → World → Prop} (hgd : o.guard = none) (s x : Operand)
    (ho : o.op = .call { callee := .builtin .append, args := #[s, x], argTypes := #[31, 31] })
    (B : Nat) (v : Value) (n : Nat) (l : List Tk) (hs : a.eval s = v) (hown : w.ownsRow B 92 1 v n (l.map cxv))
    (A : Option Addr) (m c : Nat) (k : List Tk) (hx : a.eval x = .slice A m c) (hl : k.length = m) (hS : Sl w A m c (k.map cxv))
    (hsz : n + m ≤ 1000000) (hB : B ≤ w.heap.size)
    (h : ∀ A' c' w', w'.ownsRow B 92 1 (.slice A' (n + m) c') (n + m) ((l ++ k).map cxv) → w.grownBy w' v.ownBlock → wpList Tryz.prog ops Q rest (a.put o.dst (.slice A' (n + m) c')) w') : wpList Tryz.prog ops Q (o :: rest) a w := by
  refine wpList_app_sl w hgd s x 31 ho B 92 (.complex .f64 0 0) 1 16 Tryz.underlying31 infoC1 rfl (by omega) v n (l.map cxv) hs hown A m c (k.map cxv) hx (by simp [hl]) hS (cxv_one k) (by unfold maxLen; omega) (by omega) hB ?_
  intro A' c' w' h1 h2
  rw [← List.map_append] at h1
  exact h A' c' w' h1 h2
/-- So many tasks whose bytes stand from a place on. -/
def rowP2 (l : List UInt8) : Nat → Int → Option (List (Nat × Nat))
  | 0, _ => some []
  | m + 1, a => match oneP l a with
    | none => none
    | some x => (rowP2 l m (a + 3)).map (x :: ·)
def takenP (l : List UInt8) (a : Int) : Option (List (Nat × Nat) × Int) :=
  match takeS l a 2 with
  | none => none
  | some m => (rowP2 l m (a + 2)).map (fun r => (r, a + 2 + 3 * m))
theorem rowP2_len {l : List UInt8} : ∀ {m : Nat} {a : Int} {r : List (Nat × Nat)}, rowP2 l m a = some r → r.length = m ∧ ∀ x ∈ r, x.1 < 65536 ∧ x.2 < 65536
  | 0, a, r, h => by cases h; exact ⟨rfl, fun x hx => by cases hx⟩
  | m + 1, a, r, h => by
    rw [rowP2] at h
    split at h
    · cases h
    · rename_i x hx
      cases hr : rowP2 l m (a + 3) with
      | none => rw [hr] at h; cases h
      | some q =>
        rw [hr] at h
        cases h
        obtain ⟨h1, h2⟩ := rowP2_len hr
        have h3 := oneP_small hx
        refine ⟨by rw [List.length_cons, h1], fun y hy => ?_⟩
        rcases List.mem_cons.1 hy with rfl | hy
        · exact ⟨h3.1, h3.2.1⟩
        · exact h2 y hy
/-- P6.2: the tasks that stand there, of a heap of n cells. -/
def tasksP (l : List UInt8) (a n : Int) : Option (List (Nat × Nat) × Int) :=
  match takenP l a with
  | none => none
  | some x => if rightP x.1 n then some x else none
theorem takenP_small {l : List UInt8} {a : Int} {x : List (Nat × Nat) × Int} (h : takenP l a = some x) : ∀ y ∈ x.1, y.1 < 65536 ∧ y.2 < 65536 := by
  unfold takenP at h
  split at h
  · cases h
  · rename_i m hm
    cases hr : rowP2 l m (a + 2) with
    | none => rw [hr] at h; cases h
    | some r =>
      rw [hr] at h
      cases h
      exact (rowP2_len hr).2
end Go.Proofs.YtnlkakbpcdfgfaaGreat
namespace Go.Proofs.YtnlkakbpcdfgfaaGreat
set_option maxRecDepth 20000
open Go.RowKit

def isNum (x : Int) : Bool := decide (0 ≤ x) && decide (x ≤ 2147483647)
set_option maxHeartbeats 400000 in
theorem nodeIsNumber_any (x : Int) (w : World) :
    Calls Tryz.prog 119 #[.int .i64 x] w fun e w' => e = .returned (.bool (isNum x)) ∧ w = w' := by
  unfold isNum
  by_cases h0 : 0 ≤ x
  · by_cases h1 : x ≤ 2147483647
    · have d0 : decide (0 ≤ x) = true := decide_eq_true h0
      have d1 : decide (x ≤ 2147483647) = true := decide_eq_true h1
      go_enter Tryz.func119, Tryz.ntmps119
      go_wp2
      go_ret
      exact ⟨ret_bool (by first | rfl | (rw [d0, d1]; rfl)), rfl⟩
    · have d0 : decide (0 ≤ x) = true := decide_eq_true h0
      have d1 : decide (x ≤ 2147483647) = false := decide_eq_false h1
      go_enter Tryz.func119, Tryz.ntmps119
      go_wp2
      go_ret
      exact ⟨ret_bool (by first | rfl | (rw [d0, d1]; rfl)), rfl⟩
  · have d0 : decide (0 ≤ x) = false := decide_eq_false h0
    go_enter Tryz.func119, Tryz.ntmps119
    go_wp2
    go_ret
    exact ⟨ret_bool (by first | rfl | (rw [d0]; rfl)), rfl⟩
theorem isNum_iff (x : Int) : isNum x = true ↔ 0 ≤ x ∧ x ≤ 2147483647 := by unfold isNum; simp
theorem isNum_ok {x : It} (h1 : isNum x.1 = true) (h2 : isNum x.2 = true) : okIt x := ⟨(isNum_iff _).1 h1, (isNum_iff _).1 h2⟩
theorem isNum_no {x : It} (h : isNum x.1 = false ∨ isNum x.2 = false) : ¬ okIt x := fun e => by
  have h1 := (isNum_iff _).2 e.1
  have h2 := (isNum_iff _).2 e.2
  rw [h1, h2] at h
  simp at h
set_option maxRecDepth 100000 in
set_option maxHeartbeats 800000 in
theorem nodeRight_any (leaf : Bool) (A : Option Addr) (l : List It) (n c : Nat) (w : World) (hn : n = l.length) (hA : Sl w A n c (ivs l)) :
    Calls Tryz.prog 95 #[.agg #[.bool leaf, .slice A n c]] w fun e w' => e = .returned (.bool (ndR l)) ∧ Ext w w' := by
  subst hn
  have hl := hA.len
  unfold maxLen at hl
  have HX := Lib.hid ((Ext.refl w).alloc (.cells #[.bool leaf, .slice A l.length c] 70))
  have HB := Lib.hid (Bx.new w #[.bool leaf, .slice A l.length c] 70)
  have HA := Lib.hid (hA.cells.ext HX.out)
  clear hA
  by_cases h1 : l.length < 1
  · go_enter Tryz.func95, Tryz.ntmps95
    go_wp2
    go_ret
    exact ⟨ret_bool (ndR_no (fun h => by have := h.1; omega)).symm, HX.out⟩
  by_cases h4 : 4 < l.length
  · go_enter Tryz.func95, Tryz.ntmps95
    go_wp2
    go_ret
    exact ⟨ret_bool (ndR_no (fun h => by have := h.1; omega)).symm, HX.out⟩
  go_enter Tryz.func95, Tryz.ntmps95
  go_wp2
  generalize hW : World.alloc w _ = W at *
  clear hW
  go_loopw [18] (fun i wr => ∃ k : Nat, k ≤ l.length ∧ i = .int .i64 k ∧ NdK l k ∧ Ext W wr) (fun i _ => l.length - (intOf i).toNat)
  case atStart => exact ⟨0, Nat.zero_le _, rfl, NdK.zero l, Ext.refl _⟩
  case round =>
    obtain ⟨k, hk, rfl, hnk, hx⟩ := hrel
    have HK := Lib.hid hnk
    have HXR := Lib.hid hx
    obtain ⟨b0, b1, b2⟩ := (HB.out.ext hx).read2
    clear hnk
    by_cases hlt : k < l.length
    · obtain ⟨bb, off, rfl, hbb, hc⟩ := (HA.out.ext hx).it hlt
      obtain ⟨hck, hcv⟩ := hc k hlt
      have HNO := Lib.hid (fun (h : ¬ okIt l[k]) => ndR_no (l := l) (fun e => h (e.2 k hlt).1))
      have HS := Lib.hid (fun h h2 => HK.out.succ hlt h h2)
      have HNR := Lib.hid (fun (h0 : 0 < k) (h : ¬ l[k - 1].1 < l[k].1) => ndR_no (l := l) (fun e => h ((e.2 k hlt).2 h0)))
      have HPV := Lib.hid (fun (h0 : 0 < k) (h : k - 1 < l.length) => (hc (k - 1) h).1)
      have hki : (k : Int) < (l.length : Int) := by omega
      clear hc
      generalize hq : l[k] = q at *
      clear hq
      obtain ⟨K, V⟩ := q
      simp only at hck hcv
      have HXA := Lib.hid (hx.alloc (.cells #[.int .i64 K, .int .i64 V] 146))
      have HBI := Lib.hid (Bx.new wr #[.int .i64 K, .int .i64 V] 146)
      obtain ⟨x0, x1, x2⟩ := HBI.out.read2
      have HN1 := Lib.hid (nodeIsNumber_any K)
      have HN2 := Lib.hid (nodeIsNumber_any V)
      clear hx
      cases h0 : isNum K
      · rw [h0] at HN1
        go_wp2_with (go_at_call 119; refine (HN1.out _).mono ?_; rintro e w' ⟨rfl, rfl⟩)
        go_ret
        exact ⟨ret_bool (HNO.out (isNum_no (.inl h0))).symm, HX.out.trans HXA.out⟩
      rw [h0] at HN1
      cases h5 : isNum V
      · rw [h5] at HN2
        go_wp2_with (go_at_call 119; (first | (with_reducible refine (HN1.out _).mono ?_) | (with_reducible refine (HN2.out _).mono ?_)); rintro e w' ⟨rfl, rfl⟩)
        go_ret
        exact ⟨ret_bool (HNO.out (isNum_no (.inr h5))).symm, HX.out.trans HXA.out⟩
      rw [h5] at HN2
      have HOK := Lib.hid (isNum_ok (x := (K, V)) h0 h5)
      clear h0 h5
      rcases Nat.eq_zero_or_pos k with h0 | h0
      · subst h0
        simp only [Nat.zero_mul, Nat.add_zero] at hck hcv
        have HS1 := Lib.hid (HS.out HOK.out (fun h => absurd h (by omega)))
        have d0 : decide ((0 : Int) < ((0 : Nat) : Int)) = false := decide_eq_false (by omega)
        clear HS HK HNR HPV
        go_wp2_with (go_at_call 119; (first | (with_reducible refine (HN1.out _).mono ?_) | (with_reducible refine (HN2.out _).mono ?_)); rintro e w' ⟨rfl, rfl⟩)
        go_quiet (fail)
        go_wp2
        go_roundw
        case rel => exact ⟨1, by omega, by go_num, HS1.out, HXA.out.drewN _⟩
        case measure => simp [intOf]; omega
      · obtain ⟨j, rfl⟩ : ∃ j, k = j + 1 := ⟨k - 1, by omega⟩
        have hj := HPV.out h0 (by omega)
        have HNR2 := Lib.hid (HNR.out h0)
        simp only [Nat.add_sub_cancel] at hj HNR2
        have hj9 : j < l.length := by omega
        have HS2 := Lib.hid (show l[j].1 < K → NdK l (j + 1 + 1) from fun h => HS.out HOK.out (fun _ => h))
        clear HS HK HNR HPV
        have hj1 : (wr.alloc (.cells #[.int .i64 K, .int .i64 V] 146)).cell? ⟨bb, off + j * 2, none⟩ = some (.int .i64 l[j].1) := by
          exact (((Ext.refl wr).alloc _).cell (p := ⟨bb, off + j * 2, none⟩) (World.block_lt_of_cell? _ _ hj)).trans hj
        generalize l[j].1 = PK at *
        have hk0 : decide ((0 : Int) < ((j + 1 : Nat) : Int)) = true := decide_eq_true (by omega)
        have e1 : ((j + 1 : Nat) : Int) - 1 = (j : Int) := by omega
        have e2 : (j : Int) < (l.length : Int) := by omega
        rcases Decidable.em (K ≤ PK) with hp | hp
        · have HE := Lib.hid (HNR2.out (by omega))
          have hp' : decide (K ≤ PK) = true := decide_eq_true hp
          clear hp
          go_wp2_with (go_at_call 119; (first | (with_reducible refine (HN1.out _).mono ?_) | (with_reducible refine (HN2.out _).mono ?_)); rintro e w' ⟨rfl, rfl⟩)
          go_quiet (fail)
          go_wp2
          go_ret
          exact ⟨ret_bool HE.out.symm, HX.out.trans (HXA.out.drewN _)⟩
        · have hp' : decide (K ≤ PK) = false := decide_eq_false hp
          have HE := Lib.hid (HS2.out (by omega))
          clear hp
          go_wp2_with (go_at_call 119; (first | (with_reducible refine (HN1.out _).mono ?_) | (with_reducible refine (HN2.out _).mono ?_)); rintro e w' ⟨rfl, rfl⟩)
          go_quiet (fail)
          go_wp2
          go_roundw
          case rel => exact ⟨j + 1 + 1, by omega, by go_num, HE.out, HXA.out.drewN _⟩
          case measure => simp [intOf]; omega
    · obtain rfl : k = l.length := by omega
      have HE := Lib.hid ((ndR_iff l).2 (HK.out.all (by omega)))
      clear hx
      go_wp2
      go_ret
      exact ⟨ret_bool HE.out.symm, HX.out.trans HXR.out⟩
set_option maxHeartbeats 2000000 in
theorem equalI_any (A B : Option Addr) (a b : List It) (n m c c' : Nat) (w : World) (hn : n = a.length) (hm : m = b.length) (hA : Sl w A n c (ivs a)) (hB : Sl w B m c' (ivs b)) :
    Calls Tryz.prog 76 #[.slice A n c, .slice B m c'] w fun e w' => e = .returned (.bool (sameI a b)) ∧ Ext w w' := by
  subst hn hm
  have ha := hA.len
  unfold maxLen at ha
  unfold sameI
  have HA := Lib.hid hA.cells
  have HB := Lib.hid hB.cells
  clear hA hB
  by_cases hl : a.length = b.length
  · have HL := Lib.hid hl
    have hl1 : ((a.length : Int) != (b.length : Int)) = false := by simp [hl]
    have hl2 : a.length ≤ b.length := by omega
    have hl3 : b.length ≤ a.length := by omega
    clear hl
    go_enter Tryz.func76, Tryz.ntmps76
    go_wp2
    go_loopw [13] (fun i wr => ∃ k : Nat, k ≤ a.length ∧ i = .int .i64 k ∧ a.take k = b.take k ∧ Ext w wr) (fun i _ => a.length - (intOf i).toNat)
    case atStart => exact ⟨0, Nat.zero_le _, rfl, rfl, Ext.refl _⟩
    case round =>
      obtain ⟨k, hk, rfl, hal, hX⟩ := hrel
      have HT := Lib.hid hal
      have HX := Lib.hid hX
      clear hal
      by_cases hlt : k < a.length
      · have hlt2 : k < b.length := by omega
        obtain ⟨ba, offa, rfl, _, hca⟩ := (HA.out.ext hX).it hlt
        obtain ⟨bb, offb, rfl, _, hcb⟩ := (HB.out.ext hX).it hlt2
        obtain ⟨hcka, hckas⟩ := hca k hlt
        obtain ⟨hckb, hckbs⟩ := hcb k hlt2
        have hki : (k : Int) < (a.length : Int) := by omega
        have hki2 : (k : Int) < (b.length : Int) := by omega
        have HF := Lib.hid (ne_at (a := a) (b := b) k hlt hlt2)
        have HS := Lib.hid (eq_step (a := a) (b := b) k hlt hlt2 HT.out)
        clear hca hcb HT hX
        generalize hq : a[k] = qa at *
        generalize hq2 : b[k] = qb at *
        clear hq hq2
        obtain ⟨qaa, qas⟩ := qa
        obtain ⟨qba, qbs⟩ := qb
        simp only at hcka hckas hckb hckbs
        have HQ := eq_it qaa qas qba qbs
        rcases Decidable.em ((qaa, qas) = (qba, qbs)) with he | he
        rotate_left
        · have HZ := Lib.hid he
          rw [decide_eq_false he] at HQ
          clear he
          go_wp2_with fail
          go_quiet (fail)
          go_wp2
          go_ret
          exact ⟨ret_bool (by rw [decide_eq_false (HF.out HZ.out)]), HX.out.drewN _⟩
        · have HZ := Lib.hid he
          rw [decide_eq_true he] at HQ
          clear he
          go_wp2_with fail
          go_quiet (fail)
          go_wp2
          go_roundw
          case rel => exact ⟨k + 1, by omega, by go_num, HS.out HZ.out, HX.out.drewN _⟩
          case measure => simp [intOf]; omega
      · obtain rfl : k = a.length := by omega
        have HE := Lib.hid (eq_end HL.out HT.out)
        clear HT hX
        go_wp2
        go_ret
        exact ⟨ret_bool (by rw [decide_eq_true HE.out]), HX.out⟩
  · have HL := Lib.hid (show ¬ a = b from fun e => hl (by rw [e]))
    have hl1 : ((a.length : Int) != (b.length : Int)) = true := by simp; omega
    clear hl
    go_enter Tryz.func76, Tryz.ntmps76
    go_wp2
    go_ret
    exact ⟨ret_bool (by rw [decide_eq_false HL.out]), Ext.refl _⟩

set_option maxHeartbeats 2000000 in
theorem nodeSame_any (f g : Bool) (A B : Option Addr) (a b : List It) (n m c c' : Nat) (w : World) (hn : n = a.length) (hm : m = b.length) (_ha : ndR a = true) (_hb : ndR b = true) (hA : Sl w A n c (ivs a)) (hB : Sl w B m c' (ivs b)) :
    Calls Tryz.prog 44 #[.agg #[.bool f, .slice A n c], .agg #[.bool g, .slice B m c']] w fun e w' => e = .returned (.bool (sameN f a g b)) ∧ Ext w w' := by
  obtain ⟨W, hW⟩ : ∃ W, (w.alloc (.cells #[.bool f, .slice A n c] 70)).alloc (.cells #[.bool g, .slice B m c'] 70) = W := ⟨_, rfl⟩
  obtain ⟨hx, hb0, hb1⟩ := allocs2 hW
  have HX := Lib.hid hx
  have HI := Lib.hid (equalI_any A B a b n m c c' W hn hm (hA.ext hx) (hB.ext hx))
  obtain ⟨p0, p1, p2⟩ := hb0.read2
  obtain ⟨q0, q1, q2⟩ := hb1.read2
  clear hA hB hn hm hx hb0 hb1
  unfold sameN
  cases f <;> cases g
  all_goals
    go_enter Tryz.func44, Tryz.ntmps44
    go_wp2_with ((go_at_call 76; refine HI.out.mono ?_; rintro e w1 ⟨rfl, hx⟩; have HX := Lib.hid (HX.out.trans hx); clear hx))
    go_ret
    exact ⟨ret_bool (by simp), HX.out⟩
end Go.Proofs.YtnlkakbpcdfgfaaGreat
namespace Go.Proofs.YtnlkakbpcdfgfaaGreat
set_option maxRecDepth 20000
open Go.RowKit

end Go.Proofs.YtnlkakbpcdfgfaaGreat
namespace Go.Proofs.YtnlkakbpcdfgfaaGreat
set_option maxRecDepth 20000
open Go.RowKit
attribute [local go_sem ↓] Go.wp_at_zero Go.wp_at_succ

/-- What the reader's panic bears. -/
def rdPanic : List PanicEntry := [{ v := .iface 34 (.int .i64 2), recovered := false }]
/-- All blocks but one are as they were. -/
structure Rx (b : Nat) (w w' : World) : Prop where
  os : w'.os = w.os
  tape : w'.tape = w.tape
  output : w'.output = w.output
  size : w.heap.size ≤ w'.heap.size
  block : ∀ k, k < w.heap.size → k ≠ b → w'.heap[k]? = w.heap[k]?
theorem Rx.refl (b : Nat) (w : World) : Rx b w w := ⟨rfl, rfl, rfl, Nat.le_refl _, fun _ _ _ => rfl⟩
theorem Rx.trans {b : Nat} {u v w : World} (h : Rx b u v) (k : Rx b v w) : Rx b u w :=
  ⟨k.os.trans h.os, k.tape.trans h.tape, k.output.trans h.output, Nat.le_trans h.size k.size, fun i hi hb => (k.block i (Nat.lt_of_lt_of_le hi h.size) hb).trans (h.block i hi hb)⟩
theorem Rx.of_ext {b : Nat} {w w' : World} (hx : Ext w w') : Rx b w w' := ⟨hx.os, hx.tape, hx.output, hx.size, fun k hk _ => hx.block k hk⟩
theorem Rx.ext {b : Nat} {u v w : World} (h : Rx b u v) (hx : Ext v w) : Rx b u w := h.trans (Rx.of_ext hx)
theorem Rx.over {b : Nat} {v w w' : World} (h : Rx b w w') (hx : Ext v w) (hb : v.heap.size ≤ b) : Ext v w' :=
  ⟨h.os.trans hx.os, h.tape.trans hx.tape, h.output.trans hx.output, Nat.le_trans hx.size h.size, fun k hk => (h.block k (Nat.lt_of_lt_of_le hk hx.size) (by omega)).trans (hx.block k hk)⟩
theorem Rx.set {b : Nat} {w w' : World} (h : Rx b w w') (i : Nat) (v : Value) : Rx b w (w'.setCell ⟨b, i, none⟩ v) :=
  ⟨h.os, h.tape, h.output, by simpa [World.setCell] using h.size, fun k hk hne => by rw [Below.heap_setCell _ _ _ _ (by simpa using hne)]; exact h.block k hk hne⟩
theorem Rx.put {b k : Nat} {w w' : World} (h : Rx b w w') (hk : w.heap.size ≤ k) (i : Nat) (v : Value) : Rx b w (w'.setCell ⟨k, i, none⟩ v) :=
  ⟨h.os, h.tape, h.output, by simpa [World.setCell] using h.size, fun j hj hne => by rw [Below.heap_setCell _ _ _ _ (by simp; omega)]; exact h.block j hj hne⟩
theorem Rx.app {b : Nat} {u v w : World} {B e s n : Nat} {x : Value} {xs : List Value} (h : Rx b u v) (o : v.ownsRow B e s x n xs) (hB : u.heap.size ≤ B) (hg : v.grownBy w x.ownBlock) : Rx b u w :=
  ⟨hg.os.trans h.os, hg.tape.trans h.tape, hg.output.trans h.output, Nat.le_trans h.size hg.size, fun j hj hne => (hg.block j (Nat.lt_of_lt_of_le hj h.size) (fun e => by have := (o.lt j e.symm).1; omega)).trans (h.block j hj hne)⟩
theorem Rx.bx {b k : Nat} {w w' : World} {cs : Array Value} (h : Rx b w w') (hk : Bx w k cs) (hne : k ≠ b) : Bx w' k cs := by
  have hl := hk.lt
  obtain ⟨t, hk⟩ := hk
  exact ⟨t, (h.block k hl hne).trans hk⟩
theorem Rx.own {b : Nat} {w w' : World} {B e s n : Nat} {v : Value} {xs : List Value} (h : Rx b w w') (ho : w.ownsRow B e s v n xs) (hb : b < B) : w'.ownsRow B e s v n xs :=
  ho.kept (row := some b) ⟨h.os, h.tape, h.output, h.size, fun k hk hne => h.block k hk (fun e => hne (by rw [e]))⟩ (.inr (own_old ho hb))
theorem Rx.cell {b : Nat} {w w' : World} {p : Addr} {v : Value} (h : Rx b w w') (hv : w.cell? p = some v) (hne : p.block ≠ b) : w'.cell? p = some v :=
  (World.cell?_of_block (h.block p.block (World.block_lt_of_cell? w _ hv) hne)).trans hv
/-- A reader: its box, at a place of the bytes that lie in an elder world. -/
structure Rd (v : World) (R : Nat) (A : Option Addr) (m c : Nat) (a : Int) (w : World) : Prop where
  ext : Ext v w
  new : v.heap.size ≤ R
  box : Bx w R #[.slice A m c, .int .i64 a]
theorem Rd.on {v : World} {R : Nat} {A : Option Addr} {m c : Nat} {a : Int} {w w' : World} (h : Rd v R A m c a w) (hx : Ext w w') : Rd v R A m c a w' := ⟨h.ext.trans hx, h.new, h.box.ext hx⟩
theorem Rd.at {v : World} {R : Nat} {A : Option Addr} {m c : Nat} {a : Int} {w : World} (h : Rd v R A m c a w) (b : Int) : Rd v R A m c b (w.setCell ⟨R, 1, none⟩ (.int .i64 b)) :=
  ⟨((Rx.refl R w).set 1 _).over h.ext h.new, h.new, h.box.set 1 (.int .i64 b)⟩
theorem Bx.get {w : World} {k o : Nat} {cs : Array Value} {v : Value} (hb : Bx w k cs) (hv : w.cell? ⟨k, o, none⟩ = some v) : cs[o]? = some v := by
  obtain ⟨t, hb⟩ := hb
  unfold World.cell? at hv
  rw [show w.heap[(⟨k, o, none⟩ : Addr).block]? = _ from hb] at hv
  simpa using hv
/-- A box of slices and numbers alone. -/
def NumBox (cs : Array Value) : Prop := ∀ v ∈ cs.toList, (∃ S n d, v = .slice S n d) ∨ ∃ z, v = .int .i64 z
/-- What is neither a slice nor a number lies in no such box. -/
theorem rd_apart {w : World} {R k o : Nat} {cs : Array Value} {v : Value} (hb : Bx w R cs) (hN : NumBox cs) (hv : w.cell? ⟨k, o, none⟩ = some v) (h1 : ∀ S n d, v ≠ .slice S n d) (h2 : ∀ z, v ≠ .int .i64 z) : k ≠ R := fun e => by
  subst e
  have h := hb.get hv
  rcases hN v (by rw [Array.mem_toList_iff]; exact Array.mem_of_getElem? h) with ⟨S, n, d, h3⟩ | ⟨z, h3⟩
  · exact h1 _ _ _ h3
  · exact h2 _ h3
theorem rd_row {w w' : World} {R : Nat} {cs : Array Value} {S : Option Addr} {n d : Nat} {xs : List Value} (hb : Bx w R cs) (hN : NumBox cs) (hx : Rx R w w') (hs : Sl w S n d xs) (hne : ∀ u ∈ xs, (∀ S n d, u ≠ .slice S n d) ∧ (∀ z, u ≠ .int .i64 z)) : Sl w' S n d xs := by
  refine ⟨hs.1, hs.2.1, hs.2.2.1, fun h => ?_⟩
  obtain ⟨k, off, rfl, hlt, hc⟩ := hs.cells h
  refine ⟨k, off, rfl, Nat.lt_of_lt_of_le hlt hx.size, fun j u hu => ?_⟩
  have h1 := hne u (List.mem_of_getElem? hu)
  exact hx.cell (hc j u hu) (rd_apart hb hN (hc j u hu) h1.1 h1.2)
theorem numBox2 (A : Option Addr) (m c : Nat) (a : Int) : NumBox #[.slice A m c, .int .i64 a] := by
  intro v hv
  simp only [List.mem_cons, List.not_mem_nil, or_false] at hv
  rcases hv with rfl | rfl
  · exact .inl ⟨_, _, _, rfl⟩
  · exact .inr ⟨_, rfl⟩
theorem numBox1 (a : Int) : NumBox #[.int .i64 a] := by
  intro v hv
  simp only [List.mem_cons, List.not_mem_nil, or_false] at hv
  exact .inr ⟨a, hv⟩
theorem numBox6 (A1 A2 A3 : Option Addr) (n1 c1 n2 c2 n3 c3 : Nat) (x y z : Int) : NumBox #[.slice A1 n1 c1, .int .i64 x, .slice A2 n2 c2, .slice A3 n3 c3, .int .i64 y, .int .i64 z] := by
  intro v hv
  simp only [List.mem_cons, List.not_mem_nil, or_false] at hv
  rcases hv with rfl | rfl | rfl | rfl | rfl | rfl
  · exact .inl ⟨_, _, _, rfl⟩
  · exact .inr ⟨_, rfl⟩
  · exact .inl ⟨_, _, _, rfl⟩
  · exact .inl ⟨_, _, _, rfl⟩
  · exact .inr ⟨_, rfl⟩
  · exact .inr ⟨_, rfl⟩
theorem cxv_apart (l : List Tk) : ∀ u ∈ l.map cxv, (∀ S n d, u ≠ .slice S n d) ∧ (∀ z, u ≠ .int .i64 z) := by
  intro u hu
  obtain ⟨x, _, rfl⟩ := List.mem_map.1 hu
  exact ⟨fun _ _ _ h => (by cases h), fun _ h => (by cases h)⟩
theorem Rd.app {v : World} {R : Nat} {A : Option Addr} {m c : Nat} {a : Int} {u w : World} {B e s n : Nat} {x : Value} {xs : List Value} (h : Rd v R A m c a u) (o : u.ownsRow B e s x n xs) (hB : R < B) (hg : u.grownBy w x.ownBlock) : Rd v R A m c a w :=
  ⟨h.ext.app o (Nat.le_trans h.new (Nat.le_of_lt hB)) hg, h.new, h.box.grown hg (own_old o hB)⟩
end Go.Proofs.YtnlkakbpcdfgfaaGreat
