/- Walks of isWhole, isRight and takenOne of package todo, of any whole numbers. The walk of Right of package todo, of any whole numbers. Walks of takenOne, taken and Parse of package todo, of any bytes. -/
import Derived.Test.YtjbfopnkeclfgaaGreatK01
import Derived.Test.YtjbfopnkeclfgaaGreatK23
import Derived.Test.YtjbfopnkeclfgaaGreatK21
import Derived.Deep.RegionHeld3
namespace Go.Proofs.YtjbfopnkeclfgaaGreat
set_option maxRecDepth 20000
open Go.RowKit

theorem cmp_lt {a b : Int} (h : a < b) : compare a b = .lt := by
  show compareOfLessAndEq a b = _
  unfold compareOfLessAndEq; rw [if_pos h]
theorem cmp_eq (a : Int) : compare a a = .eq := by
  show compareOfLessAndEq a a = _
  unfold compareOfLessAndEq; rw [if_neg (by omega), if_pos rfl]
theorem cmp_gt {a b : Int} (h : b < a) : compare a b = .gt := by
  show compareOfLessAndEq a b = _
  unfold compareOfLessAndEq; rw [if_neg (by omega), if_neg (by omega)]
/-- How a whole number's float stands to a whole number's. -/
theorem fN_cmp {p : Nat} {m : Int} (hp : p < 2 ^ 53) (h1 : -1 ≤ m) (h2 : m < 2 ^ 53) : FloatKind.f64.format.order (fN p) (floatOfInt .f64 m) = some (compare (p : Int) m) := by
  rcases Int.lt_or_le m 0 with h | h
  · obtain rfl : m = -1 := by omega
    rw [fN_below hp, cmp_gt (by omega)]
  · obtain ⟨k, rfl⟩ := Int.eq_ofNat_of_zero_le h
    exact fN_order hp (by omega)
set_option maxHeartbeats 800000 in
theorem tdWhole_any (p : Nat) (m : Int) (w : World) (hp : p < 65536) (h1 : -1 ≤ m) (h2 : m < 65536) :
    Calls Tryz.prog 86 #[.float .f64 (fN p), .int .i64 m] w fun e w' => e = .returned (.bool (decide ((p : Int) ≤ m))) ∧ w = w' := by
  have hi := fN_toInt (n := p) (by omega)
  have hrun := fun w => run_convert_float_int (P := Tryz.prog) w 142 3 .f64 .i64 (fN p) p (by rw [Tryz.underlying142]; rfl) Tryz.underlying3 hi
  have o1 := fN_cmp (p := p) (m := m) (by omega) h1 (by omega)
  have o2 : FloatKind.f64.format.order (fN p) (floatOfInt .f64 (p : Int)) = some .eq := by
    rw [fN_cmp (p := p) (m := (p : Int)) (by omega) (by omega) (by omega), cmp_eq]
  have o3 : FloatKind.f64.format.order (fN p) 0 = some (compare (p : Int) 0) := by
    have := fN_cmp (p := p) (m := 0) (by omega) (by omega) (by omega)
    rw [show floatOfInt .f64 0 = 0 from fN_zero] at this
    exact this
  generalize fN p = x at *
  have o4 : (compare (p : Int) 0 = .gt ∧ 0 < p) ∨ (compare (p : Int) 0 = .eq ∧ p = 0) := by
    rcases Nat.eq_zero_or_pos p with h | h
    · subst h; exact .inr ⟨rfl, rfl⟩
    · exact .inl ⟨cmp_gt (by omega), h⟩
  have o5 : (compare (p : Int) m = .gt ∧ m < p) ∨ (compare (p : Int) m = .eq ∧ (p : Int) = m) ∨ (compare (p : Int) m = .lt ∧ (p : Int) < m) := by
    rcases Int.lt_trichotomy (p : Int) m with h | h | h
    · exact .inr (.inr ⟨cmp_lt h, h⟩)
    · exact .inr (.inl ⟨by rw [h, cmp_eq], h⟩)
    · exact .inl ⟨cmp_gt h, h⟩
  have HQ := Lib.hid (And.intro o4 o5)
  rcases o4 with ⟨c1, -⟩ | ⟨c1, -⟩ <;> rcases o5 with ⟨c2, c3⟩ | ⟨c2, c3⟩ | ⟨c2, c3⟩
  all_goals
    rw [c1] at o3
    rw [c2] at o1
    have HC := Lib.hid c3
    clear c1 c2 c3 hi
    go_enter Tryz.func86, Tryz.ntmps86
    go_wp2
    go_ret
    exact ⟨ret_bool (by
      have h := HC.out
      first
        | exact (decide_eq_true (by omega)).symm
        | exact (decide_eq_false (by omega)).symm), rfl⟩
/-- May there be such a task of a heap of n cells? -/
def okP (n : Int) (t : Nat × Nat) : Bool := decide ((t.1 : Int) ≤ n - 1) && decide ((t.2 : Int) ≤ 5)
def tkB2 (t : Nat × Nat) : Tk := (fN t.1, fN t.2)
set_option maxHeartbeats 800000 in
theorem tdIsRight_any (p k : Nat) (n : Int) (w : World) (hp : p < 65536) (hk : k < 65536) (h1 : 0 ≤ n) (h2 : n ≤ 2000) :
    Calls Tryz.prog 55 #[.complex .f64 (fN p) (fN k), .int .i64 n] w fun e w' => e = .returned (.bool (okP n (p, k))) ∧ w = w' := by
  unfold okP
  obtain ⟨m, hm⟩ : ∃ m, n - 1 = m := ⟨_, rfl⟩
  have HX := Lib.hid (fun w => tdWhole_any p m w hp (by omega) (by omega))
  have HY := Lib.hid (fun w => (show Calls Tryz.prog 86 #[.float .f64 (fN k), .int .i64 5] w fun e w' => e = .returned (.bool (decide ((k : Int) ≤ 5))) ∧ w = w' from tdWhole_any k 5 w hk (by omega) (by omega)))
  have v1 : IntKind.i64.wrap (n - 1) = m := by rw [IntKind.wrap_i64]; omega
  simp only
  rw [hm]
  generalize decide ((k : Int) ≤ 5) = y at *
  generalize fN p = a at *
  generalize fN k = b at *
  generalize decide ((p : Int) ≤ m) = x at *
  clear hm
  cases x
  · go_enter Tryz.func55, Tryz.ntmps55
    go_wp2_with (go_at_call 86; (first | (with_reducible refine (HX.out _).mono ?_) | (with_reducible refine (HY.out _).mono ?_)); rintro e w' ⟨rfl, rfl⟩)
    go_ret
    exact ⟨rfl, rfl⟩
  · go_enter Tryz.func55, Tryz.ntmps55
    go_wp2_with (go_at_call 86; (first | (with_reducible refine (HY.out _).mono ?_) | (with_reducible refine (HX.out _).mono ?_)); rintro e w' ⟨rfl, rfl⟩)
    go_ret
    exact ⟨ret_bool (Bool.true_and _).symm, rfl⟩
end Go.Proofs.YtjbfopnkeclfgaaGreat
namespace Go.Proofs.YtjbfopnkeclfgaaGreat
set_option maxRecDepth 20000
open Go.RowKit

/-- P6.1: which rows are right, of whole numbers. -/
def rightP (l : List (Nat × Nat)) (n : Int) : Bool := decide (0 ≤ n) && decide (n ≤ 2000) && decide (l.length ≤ 500) && l.all (okP n)
set_option maxHeartbeats 800000 in
theorem tdRightF_any (t : Nat × Nat) (n : Int) (w : World) (kb : Nat) (hb : w.cell? ⟨kb, 0, none⟩ = some (.int .i64 n)) (hp : t.1 < 65536) (hk : t.2 < 65536) (h1 : 0 ≤ n) (h2 : n ≤ 2000) :
    Calls Tryz.prog 54 #[.complex .f64 (tkB2 t).1 (tkB2 t).2, .pointer (some ⟨kb, 0, none⟩)] w fun e w' => e = .returned (.bool (!okP n t)) ∧ w = w' := by
  have HX := Lib.hid (fun w => tdIsRight_any t.1 t.2 n w hp hk h1 h2)
  unfold tkB2
  simp only
  obtain ⟨a, b⟩ := t
  simp only at HX ⊢
  clear h1 h2 hp hk
  generalize okP n (a, b) = r at *
  go_enter Tryz.func54, Tryz.ntmps54
  go_wp2_with (go_at_call 55; refine (HX.out _).mono ?_; rintro e w' ⟨rfl, rfl⟩)
  go_ret
  exact ⟨rfl, rfl⟩
/-- The whole number that a float is. -/
def deFN (x : Nat) : Nat := ((floatToIntVal .f64 x .i64).getD 0).toNat
theorem deFN_fN {p : Nat} (h : p < 65536) : deFN (fN p) = p := by
  unfold deFN
  rw [fN_toInt (by omega)]
  simp
def badF (n : Int) (x : Tk) : Bool := !okP n (deFN x.1, deFN x.2)
theorem bad_is (n : Int) {t : Nat × Nat} (h1 : t.1 < 65536) (h2 : t.2 < 65536) : badF n (tkB2 t) = !okP n t := by
  unfold badF tkB2
  simp only
  rw [deFN_fN h1, deFN_fN h2]
theorem any_bad (n : Int) : ∀ (l : List (Nat × Nat)), (∀ x ∈ l, x.1 < 65536 ∧ x.2 < 65536) → (l.map tkB2).any (badF n) = !l.all (okP n)
  | [], _ => rfl
  | t :: l, h => by
    have h1 := h t (List.mem_cons_self ..)
    rw [List.map_cons, List.any_cons, List.all_cons, any_bad n l (fun x hx => h x (List.mem_cons_of_mem _ hx)), bad_is n h1.1 h1.2, Bool.not_and]
set_option maxHeartbeats 800000 in
theorem tdRight_any (S : Option Addr) (l : List (Nat × Nat)) (t d : Nat) (n : Int) (w : World) (ht : t = l.length) (hall : ∀ x ∈ l, x.1 < 65536 ∧ x.2 < 65536) (hS : Sl w S t d ((l.map tkB2).map cxv)) :
    Calls Tryz.prog 26 #[.slice S t d, .int .i64 n] w fun e w' => e = .returned (.bool (rightP l n)) ∧ Ext w w' := by
  unfold rightP
  rw [← ht]
  have HX := Lib.hid ((Ext.refl w).alloc (.cells #[.int .i64 n] 3))
  rcases Int.lt_or_le n 0 with h0 | h0
  · have d0 : decide (n < 0) = true := decide_eq_true h0
    rw [decide_eq_false (show ¬ 0 ≤ n by omega)]
    simp only [Bool.false_and]
    go_enter Tryz.func26, Tryz.ntmps26
    go_wp2
    go_ret
    exact ⟨rfl, HX.out⟩
  have d0 : decide (n < 0) = false := decide_eq_false (by omega)
  rcases Int.lt_or_le 2000 n with h1' | h1'
  · have d1 : decide (2000 < n) = true := decide_eq_true h1'
    rw [decide_eq_false (show ¬ n ≤ 2000 by omega)]
    simp only [Bool.false_and, Bool.and_false]
    go_enter Tryz.func26, Tryz.ntmps26
    go_wp2
    go_ret
    exact ⟨rfl, HX.out⟩
  have d1 : decide (2000 < n) = false := decide_eq_false (by omega)
  rcases Nat.lt_or_ge 500 t with h2 | h2
  · have d2 : decide ((500 : Int) < (t : Int)) = true := decide_eq_true (by omega)
    have d3 : decide (500 < t) = true := decide_eq_true h2
    rw [decide_eq_false (show ¬ t ≤ 500 by omega)]
    simp only [Bool.false_and, Bool.and_false]
    clear ht hall hS
    go_enter Tryz.func26, Tryz.ntmps26
    go_wp2
    go_ret
    exact ⟨rfl, HX.out⟩
  have d2 : decide ((500 : Int) < (t : Int)) = false := decide_eq_false (by omega)
  have d3 : decide (500 < t) = false := decide_eq_false (by omega)
  rw [decide_eq_true h0, decide_eq_true h1', decide_eq_true h2]
  simp only [Bool.true_and]
  obtain ⟨W, hW⟩ : ∃ W, w.alloc (.cells #[.int .i64 n] 3) = W := ⟨_, rfl⟩
  rw [hW] at HX
  have hb : W.cell? ⟨w.heap.size, 0, none⟩ = some (.int .i64 n) := by subst hW; exact Cells.at_ (sl_lit w 3 1 [.int .i64 n] (by unfold maxLen; omega)).cells _ rfl 0 _ rfl
  have HC := Lib.hid (tdHas_any (badF n) w.heap.size S (l.map tkB2) t d W (by rw [List.length_map]; exact ht) (hS.ext HX.out) (fun k hk => by
    have hk' : k < l.length := by rw [List.length_map] at hk; exact hk
    have h1 := hall _ (List.getElem_mem hk')
    rw [List.getElem_map, bad_is n h1.1 h1.2]
    exact tdRightF_any l[k] n W w.heap.size hb h1.1 h1.2 h0 h1'))
  rw [any_bad n l hall] at HC
  generalize l.all (okP n) = r at *
  clear hS ht hall hb
  subst hW
  go_enter Tryz.func26, Tryz.ntmps26
  go_wp2_with (go_at_call 53; refine HC.out.mono ?_; rintro e w1 ⟨rfl, rfl⟩)
  go_ret
  exact ⟨ret_bool (by cases r <;> rfl), HX.out⟩
end Go.Proofs.YtjbfopnkeclfgaaGreat
namespace Go.Proofs.YtjbfopnkeclfgaaGreat
set_option maxRecDepth 20000
open Go.RowKit

/-- The task whose bytes stand at a place. -/
def oneP (l : List UInt8) (a : Int) : Option (Nat × Nat) :=
  match takeS l a 2 with
  | none => none
  | some p => match takeS l (a + 2) 1 with
    | none => none
    | some k => some (p, k)
theorem takeS_at {l : List UInt8} {a w : Int} {n : Nat} (h : takeS l a w = some n) : 0 ≤ a ∧ a + w ≤ l.length ∧ 1 ≤ w ∧ w ≤ 4 ∧ n = leNat ((l.drop a.toNat).take w.toNat) := by
  unfold takeS at h
  split at h
  · rename_i hc
    cases h
    exact ⟨hc.2.2.1, hc.2.2.2, hc.1, hc.2.1, rfl⟩
  · cases h
theorem takeS_small {l : List UInt8} {a w : Int} {n : Nat} (h : takeS l a w = some n) (hw : w ≤ 2) : n < 65536 := by
  obtain ⟨h1, h2, h3, h4, rfl⟩ := takeS_at h
  have h5 := leNat_lt ((l.drop a.toNat).take w.toNat)
  have h6 : ((l.drop a.toNat).take w.toNat).length ≤ 2 := by rw [List.length_take]; omega
  have h7 : 256 ^ ((l.drop a.toNat).take w.toNat).length ≤ 256 ^ 2 := Nat.pow_le_pow_right (by omega) h6
  omega
theorem oneP_small {l : List UInt8} {a : Int} {x : Nat × Nat} (h : oneP l a = some x) : x.1 < 65536 ∧ x.2 < 65536 ∧ 0 ≤ a ∧ a + 3 ≤ l.length := by
  unfold oneP at h
  split at h
  · cases h
  · rename_i p h1
    split at h
    · cases h
    · rename_i k h2
      cases h
      have := (takeS_at h1).1
      have := (takeS_at h2).2.1
      exact ⟨takeS_small h1 (by omega), takeS_small h2 (by omega), by omega, by omega⟩
theorem takeV_is {l : List UInt8} {a w z : Int} {n : Nat} (h : takeS l a w = some n) : takeV l a w z = .tuple #[.int .i64 n, .int .i64 (a + w), .int .i64 0] := by unfold takeV; rw [h]
theorem takeV_no {l : List UInt8} {a w z : Int} (h : takeS l a w = none) : takeV l a w z = .tuple #[.int .i64 0, .int .i64 0, .int .i64 z] := by unfold takeV; rw [h]
set_option maxHeartbeats 800000 in
theorem tdOne_any (A : Option Addr) (l : List UInt8) (n c : Nat) (a : Int) (w : World) (hn : n = l.length) (ha1 : -9223372036854775808 ≤ a) (ha2 : a ≤ 9223372036854775807) (hA : Sl w A n c (l.map bv)) :
    Calls Tryz.prog 158 #[.slice A n c, .int .i64 a] w fun e w' => ((∃ x, oneP l a = some x ∧ e = .returned (.tuple #[.complex .f64 (tkB2 x).1 (tkB2 x).2, .int .i64 (a + 3), .int .i64 0])) ∨ (oneP l a = none ∧ ∃ x y z, e = .returned (.tuple #[.complex .f64 x y, .int .i64 z, .int .i64 2]))) ∧ w = w' := by
  subst hn
  have hlen := hA.len
  have HT := Lib.hid (fun a' w_ h1 h2 => numTake_any A l c a' w_ w hlen hA.cells h1 h2)
  have HO := Lib.hid (fun p k w' => todoOf_any p k w')
  unfold maxLen at hlen
  cases h1 : takeS l a 2 with
  | none =>
    have HP := Lib.hid (show oneP l a = none from by unfold oneP; rw [h1])
    have H1 := Lib.hid (HT.out a 2 ha1 ha2)
    rw [takeV_no h1] at H1
    clear h1 HT hA
    go_enter Tryz.func158, Tryz.ntmps158
    go_wp2_with (go_at_call 119; refine H1.out.mono ?_; rintro e w' ⟨rfl, rfl⟩)
    go_ret3
    exact ⟨.inr ⟨HP.out, 0, 0, 0, rfl⟩, rfl⟩
  | some p =>
    have hb := takeS_at h1
    have H1 := Lib.hid (HT.out a 2 ha1 ha2)
    rw [takeV_is h1] at H1
    have H2 := Lib.hid (HT.out (a + 2) 1 (by omega) (by omega))
    cases h2 : takeS l (a + 2) 1 with
    | none =>
      have HP := Lib.hid (show oneP l a = none from by unfold oneP; rw [h1]; simp only [h2])
      have HO := Lib.hid (fun w' => (show Calls Tryz.prog 161 #[.int .i64 p, .int .i64 0] w' fun e w'' => e = .returned (.complex .f64 (fN p) (fN 0)) ∧ w' = w'' from HO.out p 0 w'))
      rw [takeV_no h2] at H2
      clear h1 h2 HT hA hb
      go_enter Tryz.func158, Tryz.ntmps158
      go_wp2_with (first
        | (go_at_call 119; (first | (with_reducible refine H1.out.mono ?_) | (with_reducible refine H2.out.mono ?_)); rintro e w' ⟨rfl, rfl⟩)
        | (go_at_call 161; with_reducible refine (HO.out _).mono ?_; rintro e w' ⟨rfl, rfl⟩))
      go_ret3
      exact ⟨.inr ⟨HP.out, _, _, _, rfl⟩, rfl⟩
    | some k =>
      have HP := Lib.hid (show oneP l a = some (p, k) from by unfold oneP; rw [h1]; simp only [h2])
      rw [takeV_is h2] at H2
      have e3 : a + 2 + 1 = a + 3 := by omega
      clear h1 h2 HT hA hb
      go_enter Tryz.func158, Tryz.ntmps158
      go_wp2_with (first
        | (go_at_call 119; (first | (with_reducible refine H1.out.mono ?_) | (with_reducible refine H2.out.mono ?_)); rintro e w' ⟨rfl, rfl⟩)
        | (go_at_call 161; with_reducible refine (HO.out _ _ _).mono ?_; rintro e w' ⟨rfl, rfl⟩))
      go_ret3
      exact ⟨.inl ⟨_, HP.out, by first | rfl | (rw [← e3]; rfl)⟩, rfl⟩
theorem infoC1 : (Tryz.prog.info? 104).map (fun i => (i.zero, i.size, i.bytes)) = some (some (.complex .f64 0 0), 1, 16) := by kernel_rfl
theorem app_tk1 (w : World) {ops : Array Oper} {rest : List Oper} {o : Oper} {a : Act} {Q : Exit → Act → World → Prop} (hgd : o.guard = none) (s x : Operand)
    (ho : o.op = .call { callee := .builtin .append, args := #[s, x], argTypes := #[32, 32] })
    (B : Nat) (v : Value) (n : Nat) (l : List Tk) (hs : a.eval s = v) (hown : w.ownsRow B 104 1 v n (l.map cxv))
    (A : Option Addr) (m c : Nat) (k : List Tk) (hx : a.eval x = .slice A m c) (hl : k.length = m) (hS : Sl w A m c (k.map cxv))
    (hsz : n + m ≤ 1000000) (hB : B ≤ w.heap.size)
    (h : ∀ A' c' w', w'.ownsRow B 104 1 (.slice A' (n + m) c') (n + m) ((l ++ k).map cxv) → w.grownBy w' v.ownBlock → wpList Tryz.prog ops Q rest (a.put o.dst (.slice A' (n + m) c')) w') : wpList Tryz.prog ops Q (o :: rest) a w := by
  refine wpList_app_sl w hgd s x 32 ho B 104 (.complex .f64 0 0) 1 16 Tryz.underlying32 infoC1 rfl (by omega) v n (l.map cxv) hs hown A m c (k.map cxv) hx (by simp [hl]) hS (cxv_one k) (by unfold maxLen; omega) (by omega) hB ?_
  intro A' c' w' h1 h2
  rw [← List.map_append] at h1
  exact h A' c' w' h1 h2
/-- So many tasks whose bytes stand from a place on. -/
def rowP2 (l : List UInt8) : Nat → Int → Option (List (Nat × Nat))
  | 0, _ => some []
  | m + 1, a => match oneP l a with
    | none => none
    | some x => (rowP2 l m (a + 3)).map (x :: ·)
def takenP (l : List UInt8) (a : Int) : Option (List (Nat × Nat) × Int) :=
  match takeS l a 2 with
  | none => none
  | some m => (rowP2 l m (a + 2)).map (fun r => (r, a + 2 + 3 * m))
theorem rowP2_len {l : List UInt8} : ∀ {m : Nat} {a : Int} {r : List (Nat × Nat)}, rowP2 l m a = some r → r.length = m ∧ ∀ x ∈ r, x.1 < 65536 ∧ x.2 < 65536
  | 0, a, r, h => by cases h; exact ⟨rfl, fun x hx => by cases hx⟩
  | m + 1, a, r, h => by
    rw [rowP2] at h
    split at h
    · cases h
    · rename_i x hx
      cases hr : rowP2 l m (a + 3) with
      | none => rw [hr] at h; cases h
      | some q =>
        rw [hr] at h
        cases h
        obtain ⟨h1, h2⟩ := rowP2_len hr
        have h3 := oneP_small hx
        refine ⟨by rw [List.length_cons, h1], fun y hy => ?_⟩
        rcases List.mem_cons.1 hy with rfl | hy
        · exact ⟨h3.1, h3.2.1⟩
        · exact h2 y hy
set_option maxRecDepth 100000 in
set_option maxHeartbeats 1600000 in
theorem tdTaken_any (A : Option Addr) (l : List UInt8) (n c : Nat) (a : Int) (w : World) (hn : n = l.length) (ha1 : -9223372036854775808 ≤ a) (ha2 : a ≤ 9223372036854775807) (hA : Sl w A n c (l.map bv)) :
    Calls Tryz.prog 151 #[.slice A n c, .int .i64 a] w fun e w' => ((∃ r b S d, takenP l a = some (r, b) ∧ e = .returned (.tuple #[.slice S r.length d, .int .i64 b, .int .i64 0]) ∧ w'.ownsRow w.heap.size 104 1 (.slice S r.length d) r.length ((r.map tkB2).map cxv)) ∨ (takenP l a = none ∧ e = .returned (.tuple #[.slice none 0 0, .int .i64 0, .int .i64 2]))) ∧ Ext w w' := by
  have hlen := hA.len
  have HA := Lib.hid hA
  have HN := Lib.hid hn
  have HT := Lib.hid (by subst hn; exact numTake_any A l c a 2 w hlen hA.cells ha1 ha2)
  rw [← hn] at HT
  unfold maxLen at hlen
  cases h1 : takeS l a 2 with
  | none =>
    have HP := Lib.hid (show takenP l a = none from by unfold takenP; rw [h1])
    rw [takeV_no h1] at HT
    clear h1 hA hn
    go_enter Tryz.func151, Tryz.ntmps151
    go_wp2_with (go_at_call 119; refine HT.out.mono ?_; rintro e w' ⟨rfl, rfl⟩)
    go_ret3
    exact ⟨.inr ⟨HP.out, rfl⟩, Ext.refl _⟩
  | some m =>
    have hb := takeS_at h1
    have hm := takeS_small h1 (by omega)
    have HP := Lib.hid (show takenP l a = (rowP2 l m (a + 2)).map (fun r => (r, a + 2 + 3 * m)) from by unfold takenP; rw [h1])
    rw [takeV_is h1] at HT
    rw [← hn] at hb
    have hb1 := hb.1
    have hb2 := hb.2.1
    clear h1 hA hn hb
    generalize takenP l a = res at *
    go_enter Tryz.func151, Tryz.ntmps151
    go_wp2_with (go_at_call 119; refine HT.out.mono ?_; rintro e w' ⟨rfl, rfl⟩)
    go_loopw [1, 9, 22] (fun at_ s i wr => ∃ (k : Nat) (ys : List (Nat × Nat)) (z : Int) (S : Option Addr) (d : Nat), k ≤ m ∧ i = .int .i64 k ∧ at_ = .int .i64 z ∧ z = a + 2 + 3 * k ∧ z ≤ n ∧ s = .slice S k d ∧ ys.length = k ∧ rowP2 l m (a + 2) = (rowP2 l (m - k) z).map (ys ++ ·) ∧ wr.ownsRow w.heap.size 104 1 (.slice S k d) k ((ys.map tkB2).map cxv) ∧ Ext w wr) (fun _ _ i _ => m - (intOf i).toNat)
    case atStart => exact ⟨0, [], a + 2, none, 0, Nat.zero_le _, rfl, rfl, by omega, by omega, rfl, rfl, by cases rowP2 l m (a + 2) <;> simp, World.ownsRow_nil _ _ _ _, Ext.refl _⟩
    case round =>
      obtain ⟨k, ys, z, S, d, hk, rfl, rfl, hz, hzn, rfl, hys, hrow, ho, hx⟩ := hrel
      have HO := Lib.hid ho
      have HX := Lib.hid hx
      have HZ := Lib.hid hz
      have HYS := Lib.hid hys
      have HRW := Lib.hid hrow
      have hz0 : 0 ≤ z := by omega
      clear ho hx hz hys hrow
      rcases Nat.lt_or_ge k m with hlt | hge
      · have hki : (k : Int) < (m : Int) := by omega
        have H1 := Lib.hid (tdOne_any A l n c z wr HN.out (by omega) (by omega) (HA.out.ext HX.out))
        obtain ⟨j, hj⟩ : ∃ j, m - k = j + 1 := ⟨m - k - 1, by omega⟩
        have HJ := Lib.hid hj
        clear hj
        go_wp2_with (go_at_call 158; refine stop_here ?_)
        refine stop_on ?_
        refine H1.out.mono ?_
        rintro e w5 ⟨(⟨x, hx1, rfl⟩ | ⟨hx1, x1, y1, z1, rfl⟩), rfl⟩
        · have hb3 := oneP_small hx1
          rw [← HN.out] at hb3
          have hb4 := hb3.2.2.2
          have HNX := Lib.hid (show rowP2 l m (a + 2) = (rowP2 l (m - (k + 1)) (z + 3)).map ((ys ++ [x]) ++ ·) from by
            rw [HRW.out, HJ.out, show m - (k + 1) = j by have := HJ.out; omega, rowP2, hx1]
            simp only [Option.map_map]
            congr 1
            funext r
            simp)
          clear hx1 hb3
          go_wp2_with (at_builtin; refine stop_here ?_)
          refine stop_on ?_
          have Y := Lib.hid (HX.out.alloc (.cells #[.complex .f64 (tkB2 x).1 (tkB2 x).2] 104))
          refine app_tk1 _ rfl _ _ rfl w.heap.size (.slice S k d) k (ys.map tkB2) rfl (own_ext HO.out ((Ext.refl _).alloc _)) (some ⟨wr.heap.size, 0, none⟩) 1 1 [tkB2 x] rfl rfl (sl_lit wr _ 1 ([tkB2 x].map cxv) (by unfold maxLen; omega)) (by omega) Y.out.size ?_
          intro S2 d2 w6 hown hg
          have X6 := Lib.hid (Y.out.app (own_ext HO.out ((Ext.refl _).alloc _)) (Nat.le_refl _) hg)
          have O6 := Lib.hid (show w6.ownsRow w.heap.size 104 1 (.slice S2 (k + 1) d2) (k + 1) (((ys ++ [x]).map tkB2).map cxv) from by rw [List.map_append]; exact hown)
          clear hown hg
          go_wp2
          go_roundw
          case rel => exact ⟨k + 1, ys ++ [x], z + 3, S2, d2, by omega, by go_num, rfl, by have := HZ.out; omega, by omega, rfl, by rw [List.length_append, HYS.out]; rfl, HNX.out, O6.out, X6.out⟩
          case measure => simp [intOf]; omega
        · have HE := Lib.hid (show res = none from by
            rw [HP.out, HRW.out, HJ.out, rowP2, hx1]
            rfl)
          clear hx1
          go_wp2
          go_ret3
          exact ⟨.inr ⟨HE.out, rfl⟩, HX.out⟩
      · obtain rfl : m = k := by omega
        have HE := Lib.hid (show res = some (ys, z) from by
          have h1 := HZ.out
          rw [HP.out, HRW.out, Nat.sub_self]
          simp [rowP2]
          omega)
        clear hge
        go_wp2
        go_ret3
        exact ⟨.inl ⟨ys, z, S, d, HE.out, by rw [HYS.out]; rfl, by rw [HYS.out]; exact HO.out⟩, HX.out⟩
/-- P6.2: the tasks that stand there, of a heap of n cells. -/
def tasksP (l : List UInt8) (a n : Int) : Option (List (Nat × Nat) × Int) :=
  match takenP l a with
  | none => none
  | some x => if rightP x.1 n then some x else none
theorem takenP_small {l : List UInt8} {a : Int} {x : List (Nat × Nat) × Int} (h : takenP l a = some x) : ∀ y ∈ x.1, y.1 < 65536 ∧ y.2 < 65536 := by
  unfold takenP at h
  split at h
  · cases h
  · rename_i m hm
    cases hr : rowP2 l m (a + 2) with
    | none => rw [hr] at h; cases h
    | some r =>
      rw [hr] at h
      cases h
      exact (rowP2_len hr).2
set_option maxHeartbeats 1600000 in
theorem tdParse_any (A : Option Addr) (l : List UInt8) (m c : Nat) (a n : Int) (w : World) (hm : m = l.length) (ha1 : -9223372036854775808 ≤ a) (ha2 : a ≤ 9223372036854775807) (hA : Sl w A m c (l.map bv)) :
    Calls Tryz.prog 138 #[.slice A m c, .int .i64 a, .int .i64 n] w fun e w' => ((∃ r b S d, tasksP l a n = some (r, b) ∧ e = .returned (.tuple #[.slice S r.length d, .int .i64 b, .int .i64 0]) ∧ Sl w' S r.length d ((r.map tkB2).map cxv)) ∨ (tasksP l a n = none ∧ e = .returned (.tuple #[.slice none 0 0, .int .i64 0, .int .i64 2]))) ∧ Ext w w' := by
  have H1 := Lib.hid (tdTaken_any A l m c a w hm ha1 ha2 hA)
  have HP := Lib.hid (show tasksP l a n = (match takenP l a with | none => none | some x => if rightP x.1 n then some x else none) from rfl)
  have HS := Lib.hid (fun x h => takenP_small (l := l) (a := a) (x := x) h)
  clear hA hm
  generalize tasksP l a n = res at *
  generalize takenP l a = tk at *
  go_enter Tryz.func138, Tryz.ntmps138
  go_wp2_with (go_at_call 151; refine stop_here ?_)
  refine stop_on ?_
  refine H1.out.mono ?_
  rintro e w2 ⟨(⟨r, b, S, d, hx1, rfl, ho⟩ | ⟨hx1, rfl⟩), hx⟩
  · have HX := Lib.hid hx
    have HO := Lib.hid (own_sl ho)
    have HR := Lib.hid (tdRight_any S r r.length d n w2 rfl (HS.out _ hx1) HO.out)
    have HE := Lib.hid (show res = if rightP r n then some (r, b) else none from by rw [HP.out, hx1])
    clear hx ho hx1
    generalize rightP r n = q at *
    obtain ⟨t, ht⟩ : ∃ t, r.length = t := ⟨_, rfl⟩
    have HTL := Lib.hid ht
    rw [ht] at HR HO ⊢
    clear ht
    cases q
    · go_wp2_with (go_at_call 26; refine HR.out.mono ?_; rintro e w3 ⟨rfl, hx⟩; have X3 := Lib.hid (HX.out.trans hx); clear hx)
      go_ret3
      exact ⟨.inr ⟨by rw [HE.out]; rfl, rfl⟩, X3.out⟩
    · go_wp2_with (go_at_call 26; refine HR.out.mono ?_; rintro e w3 ⟨rfl, hx⟩; have X3 := Lib.hid (HX.out.trans hx); have O3 := Lib.hid (HO.out.ext hx); clear hx)
      go_ret3
      exact ⟨.inl ⟨r, b, S, d, by rw [HE.out]; rfl, by rw [HTL.out]; rfl, by rw [HTL.out]; exact O3.out⟩, X3.out⟩
  · have HX := Lib.hid hx
    have HE := Lib.hid (show res = none from by rw [HP.out, hx1])
    clear hx hx1
    go_wp2
    go_ret3
    exact ⟨.inr ⟨HE.out, rfl⟩, HX.out⟩
end Go.Proofs.YtjbfopnkeclfgaaGreat
