/- The walk of Do. The walk of the reference's Put. -/
import Derived.Test.YtnlkakbpcdfgfaaGreatK06
import Derived.Test.YtnlkakbpcdfgfaaGreatK07
import Derived.Deep.DeepCutAuto
import Derived.Test.YtnlkakbpcdfgfaaGreatK05
namespace Go.Proofs.YtnlkakbpcdfgfaaGreat
set_option maxRecDepth 20000
open Go.RowKit Go.Shelf
attribute [local go_sem] Oper.semAt_some
attribute [local go_sem ↓] Go.wp_at_zero Go.wp_at_succ

/-- How many steps of a plan are asked for. -/
def planLen (n : Nat) (stop : Int) : Nat := if 0 ≤ stop ∧ stop < n then stop.toNat else n
theorem planLen_le (n : Nat) (stop : Int) : planLen n stop ≤ n := by unfold planLen; split <;> omega

set_option maxHeartbeats 1000000 in
theorem steps_any (A : Option Addr) (l : List Wr) (c : Nat) (stop : Int) (w : World) (hS : Sl w A l.length c (wvs l)) :
    Calls Tryz.prog 71 #[.slice A l.length c, .int .i64 stop] w fun e w' => e = .returned (.func (.func 130) #[] #[.pointer (some ⟨w.heap.size, 0, none⟩)]) ∧ w' = w.alloc (.cells #[.slice A (planLen l.length stop) c] 24) := by
  have hlc := hS.2.1
  have hcm := hS.2.2.1
  unfold maxLen at hcm
  have HV := Lib.hid (fun n => callsIn_wide.1 (vals_in Fence.wide 1 trivial rfl A n c w))
  clear hS
  by_cases h1 : 0 ≤ stop
  · by_cases h2 : stop < l.length
    · have HP := Lib.hid (show planLen l.length stop = stop.toNat by unfold planLen; rw [if_pos ⟨h1, h2⟩])
      obtain ⟨n, rfl⟩ := Int.eq_ofNat_of_zero_le h1
      rw [Int.toNat_natCast] at HP
      go_enter Tryz.func71, Tryz.ntmps71
      go_wp2_with (go_at_call 105; refine (HV.out _).mono ?_; rintro e w' ⟨rfl, rfl⟩)
      go_ret
      rw [HP.out]
      exact ⟨rfl, rfl⟩
    · have HP := Lib.hid (show planLen l.length stop = l.length by unfold planLen; rw [if_neg (by omega)])
      go_enter Tryz.func71, Tryz.ntmps71
      go_wp2_with (go_at_call 105; refine (HV.out _).mono ?_; rintro e w' ⟨rfl, rfl⟩)
      go_ret
      rw [HP.out]
      exact ⟨rfl, rfl⟩
  · have HP := Lib.hid (show planLen l.length stop = l.length by unfold planLen; rw [if_neg (by omega)])
    go_enter Tryz.func71, Tryz.ntmps71
    go_wp2_with (go_at_call 105; refine (HV.out _).mono ?_; rintro e w' ⟨rfl, rfl⟩)
    go_ret
    rw [HP.out]
    exact ⟨rfl, rfl⟩

/-- P2.4: a plan that is done as far as it can be. -/
def doS : List ByteArray → List Wr → List Wr → (List ByteArray × List Wr) × Nat
  | b, l, [] => ((b, l), 0)
  | b, l, x :: p => match step1 b l x with
    | none => ((b, l), 0)
    | some s => ((doS s.1 s.2 p).1, (doS s.1 s.2 p).2 + 1)
def stepsS : List ByteArray → List Wr → List Wr → Option (List ByteArray × List Wr)
  | b, l, [] => some (b, l)
  | b, l, x :: p => match step1 b l x with
    | none => none
    | some s => stepsS s.1 s.2 p
theorem stepsS_snoc (p : List Wr) (x : Wr) : ∀ b l, stepsS b l (p ++ [x]) = (stepsS b l p).bind fun s => step1 s.1 s.2 x := by
  induction p with
  | nil =>
    intro b l
    simp only [List.nil_append, stepsS, Option.bind_some]
    cases step1 b l x <;> rfl
  | cons y p ih =>
    intro b l
    simp only [List.cons_append, stepsS]
    cases step1 b l y with
    | none => rfl
    | some s => exact ih s.1 s.2
theorem doS_all (p : List Wr) : ∀ b l s, stepsS b l p = some s → doS b l p = (s, p.length) := by
  induction p with
  | nil => intro b l s h; simp [stepsS] at h; simp [doS, h]
  | cons y p ih =>
    intro b l s h
    simp only [stepsS] at h
    simp only [doS]
    cases hq : step1 b l y with
    | none => rw [hq] at h; cases h
    | some t =>
      rw [hq] at h
      have := ih t.1 t.2 s h
      simp [this]
theorem doS_cut (p : List Wr) (x : Wr) (r : List Wr) : ∀ b l s, stepsS b l p = some s → step1 s.1 s.2 x = none → doS b l (p ++ x :: r) = (s, p.length) := by
  induction p with
  | nil => intro b l s h h2; simp [stepsS] at h; subst h; simp [doS, h2]
  | cons y p ih =>
    intro b l s h h2
    simp only [stepsS] at h
    simp only [doS, List.cons_append]
    cases hq : step1 b l y with
    | none => rw [hq] at h; cases h
    | some t =>
      rw [hq] at h
      have := ih t.1 t.2 s h h2
      simp [this]
theorem step1_lengths {b : List ByteArray} {l : List Wr} {x : Wr} {s : List ByteArray × List Wr} (h : step1 b l x = some s) : s.1.length = b.length ∧ s.2.length ≤ l.length + 1 := by
  unfold step1 at h
  split at h
  · cases h; exact ⟨writeL_length _ _, by simp⟩
  · split at h
    · cases h; exact ⟨rfl, by simp⟩
    · cases h
theorem stepsS_lengths (p : List Wr) : ∀ b l s, stepsS b l p = some s → s.1.length = b.length ∧ s.2.length ≤ l.length + p.length := by
  induction p with
  | nil => intro b l s h; simp [stepsS] at h; subst h; simp
  | cons y p ih =>
    intro b l s h
    simp only [stepsS] at h
    cases hq : step1 b l y with
    | none => rw [hq] at h; cases h
    | some t =>
      rw [hq] at h
      obtain ⟨h1, h2⟩ := step1_lengths hq
      obtain ⟨h3, h4⟩ := ih t.1 t.2 s h
      exact ⟨h3.trans h1, by simp; omega⟩
theorem step1_all {b : List ByteArray} {l : List Wr} {x : Wr} {s : List ByteArray × List Wr} (hl : l.all (takesS b.length) = true) (h : step1 b l x = some s) : s.2.all (takesS s.1.length) = true := by
  unfold step1 at h
  split at h
  · cases h; rfl
  · split at h
    · cases h
      rw [List.all_append, hl]
      simpa using ‹takesS b.length x = true›
    · cases h

theorem own_mono {w : World} {B B' e size n : Nat} {v : Value} {xs : List Value} (h : w.ownsRow B e size v n xs) (hB : B' ≤ B) : w.ownsRow B' e size v n xs := by
  refine ⟨h.1, ?_⟩
  rcases h.2 with h' | ⟨g, cap, cur, h1, h2, h3⟩
  · exact .inl h'
  · exact .inr ⟨g, cap, cur, h1, Nat.le_trans hB h2, h3⟩

theorem box_store {w : World} {k : Nat} {a b : Value} {t : TypeId} (h : w.heap[k]? = some (.cells #[a, b] t (0, 0))) (x y : Value) : ((w.setCell ⟨k, 0, none⟩ x).setCell ⟨k, 1, none⟩ y).heap[k]? = some (.cells #[x, y] t (0, 0)) :=
  heap_setCell_same _ k 1 _ t y (heap_setCell_same w k 0 #[a, b] t x h)
theorem doSt_store {w : World} {B0 X g g' : Nat} {u1 u2 : Value} {b : List ByteArray} {l : List Wr} {cb cl : Nat} (hX : w.heap[X]? = some (.cells #[u1, u2] 26 (0, 0))) (hB : B0 ≤ X)
    (h2 : w.ownsRow B0 9 1 (.slice (some ⟨g, 0, none⟩) b.length cb) b.length (b.map sv)) (h3 : w.ownsRow B0 58 2 (.slice (some ⟨g', 0, none⟩) l.length cl) l.length (wvs l)) :
    DoSt B0 ((w.setCell ⟨X, 0, none⟩ (.slice (some ⟨g, 0, none⟩) b.length cb)).setCell ⟨X, 1, none⟩ (.slice (some ⟨g', 0, none⟩) l.length cl)) X b l := by
  obtain ⟨c1, e1⟩ := own_obj h2
  obtain ⟨c2, e2⟩ := own_obj h3
  exact ⟨g, cb, _, cl, box_store hX _ _, own_store2 h2 (ne_of_type e1 hX (by decide)) _ _, own_store2 h3 (ne_of_type e2 hX (by decide)) _ _, hB⟩

theorem Keeps3.from {W W' : World} (h : Keeps3 W W') (B : Nat) : KeepsFrom B W W' := ⟨h.1, fun k o _ hk ho => h.2 k o hk (fun cs t fr e => by subst e; cases ho)⟩
theorem Keeps3.boxed {W W' : World} {k : Nat} {v : Value} (h : Keeps3 W W') (hb : Boxed W k 3 v) : Boxed W' k 3 v := h.2 k _ hb (fun cs t fr e => by cases e; exact ⟨by decide, by decide, by decide⟩)
theorem doSt_own (B0 X : Nat) (b : List ByteArray) (l : List Wr) : ∀ (W W' : World) (row : Option Nat), DoSt B0 W X b l → W.grownBy W' row → (∀ r, row = some r → ∃ o : Obj, W.heap[r]? = some o ∧ o.isCells = false) → DoSt B0 W' X b l := by
  intro W W' row h hg hr
  obtain ⟨g, cb, A', cl, h1, h2, h3, h4⟩ := h
  have no : ∀ {e size n : Nat} {v : Value} {xs : List Value}, W.ownsRow B0 e size v n xs → v.ownBlock = none ∨ v.ownBlock ≠ row := fun ho => by
    rcases own_type ho with hn | ⟨g, cur, hs, hgg⟩
    · exact .inl hn
    · refine .inr (fun e => ?_)
      rw [hs] at e
      obtain ⟨o, hq, hc⟩ := hr g e.symm
      rw [hgg] at hq
      cases hq
      cases hc
  refine ⟨g, cb, A', cl, (hg.block X (Array.getElem?_eq_some_iff.1 h1).1 (fun e => ?_)).trans h1, h2.kept hg (no h2), h3.kept hg (no h3), h4⟩
  obtain ⟨o, hq, hc⟩ := hr X e.symm
  rw [h1] at hq
  cases hq
  cases hc

theorem doSt_set {B0 X Y : Nat} {W : World} {b : List ByteArray} {l : List Wr} {v : Value} (h : DoSt B0 W X b l) (hY : Boxed W Y 3 v) (u : Value) : DoSt B0 (W.setCell ⟨Y, 0, none⟩ u) X b l := by
  obtain ⟨g, cb, A', cl, h1, h2, h3, h4⟩ := h
  have hY' : W.heap[Y]? = some (.cells #[v] 3 (0, 0)) := hY
  have hne : X ≠ Y := ne_of_type h1 hY' (by decide)
  exact ⟨g, cb, A', cl, (Below.heap_setCell _ _ _ _ hne).trans h1, ownsRow_setCell_other h2 (a := ⟨Y, 0, none⟩) (own_ne h2 hY' (by decide)) u, ownsRow_setCell_other h3 (a := ⟨Y, 0, none⟩) (own_ne h3 hY' (by decide)) u, h4⟩

theorem Sl.putObj {W : World} {A : Option Addr} {n c : Nat} {xs : List Value} (h : Sl W A n c xs) {D : Nat} {ob : Obj} (hK : W.heap[D]? = some ob) (hob : ob.isCells = false) (o' : Obj) : Sl (W.putObj D o') A n c xs :=
  h.grown (grownBy_putObj' W D o') (fun hx p hp e => by
    obtain ⟨b, off, e', _, hc⟩ := h.cells hx
    rw [hp] at e'
    cases e'
    cases e
    cases xs with
    | nil => exact hx rfl
    | cons u r =>
      obtain ⟨o, ho, hcc⟩ := cells_of_cell (hc 0 u rfl)
      rw [show W.heap[(⟨b, off + 0, none⟩ : Addr).block]? = W.heap[b]? from rfl, hK] at ho
      cases ho
      rw [hob] at hcc
      cases hcc)

/-- The plan goes on. -/
def Going (B0 X Y : Nat) (b : List ByteArray) (l : List Wr) (pre : List Wr) (W : World) : Prop :=
  ∃ s, stepsS b l pre = some s ∧ DoSt B0 W X s.1 s.2 ∧ Boxed W Y 3 (.int .i64 (pre.length : Int))
/-- The plan has come to a step that can't be done. -/
def Halted (B0 X Y : Nat) (b : List ByteArray) (l : List Wr) (pre : List Wr) (W : World) : Prop :=
  ∃ ini x s, pre = ini ++ [x] ∧ stepsS b l ini = some s ∧ step1 s.1 s.2 x = none ∧ DoSt B0 W X s.1 s.2 ∧ Boxed W Y 3 (.int .i64 (ini.length : Int))
theorem going_own (B0 X Y : Nat) (b : List ByteArray) (l : List Wr) : Own (fun pre W => Going B0 X Y b l pre W) := fun pre W W' row h hg hr => by
  obtain ⟨s, h1, h2, h3⟩ := h
  exact ⟨s, h1, doSt_own B0 X _ _ W W' row h2 hg hr, boxed_own _ _ (fun (_ : Unit) => Value.int .i64 (pre.length : Int)) () W W' row h3 hg hr⟩
theorem halted_own (B0 X Y : Nat) (b : List ByteArray) (l : List Wr) (c : Code) (c0 : Code) : Own (fun pre W => c = c0 ∧ Halted B0 X Y b l pre W) := fun pre W W' row h hg hr => by
  obtain ⟨hc, ini, x, s, h0, h1, h1', h2, h3⟩ := h
  exact ⟨hc, ini, x, s, h0, h1, h1', doSt_own B0 X _ _ W W' row h2 hg hr, boxed_own _ _ (fun (_ : Unit) => Value.int .i64 (ini.length : Int)) () W W' row h3 hg hr⟩
theorem WrsAt.take {n₀ : Nat} {W : World} {A : Option Addr} {l : List Wr} (h : WrsAt n₀ W A l) (k : Nat) : WrsAt n₀ W A (l.take k) := fun hne => by
  obtain ⟨b, off, e, hb, hc⟩ := h (by intro e; subst e; simp at hne)
  refine ⟨b, off, e, hb, fun j hj => ?_⟩
  have hj' : j < l.length := by simp at hj; omega
  have e : (l.take k)[j] = l[j] := List.getElem_take
  rw [e]
  exact hc j hj'
theorem WrsAt.mono {n₀ n₁ : Nat} {W : World} {A : Option Addr} {l : List Wr} (h : WrsAt n₀ W A l) (hn : n₀ ≤ n₁) : WrsAt n₁ W A l := fun hne => by
  obtain ⟨b, off, e, hb, hc⟩ := h hne
  exact ⟨b, off, e, Nat.lt_of_lt_of_le hb hn, hc⟩

set_option maxRecDepth 100000 in
set_option maxHeartbeats 4000000 in
theorem doD_in (A A' P : Option Addr) (b : List ByteArray) (l p : List Wr) (c c' cp : Nat) (stop : Int) (w : World) (hb : b.length ≤ 1000000) (hl : l.length ≤ 400000) (hp : p.length ≤ 400000)
    (hA : Sl w A b.length c (b.map sv)) (hA' : Sl w A' l.length c' (wvs l)) (hP : Sl w P p.length cp (wvs p)) :
    CallsIn Fence.wide 3 Tryz.prog 42 #[.agg #[.slice A b.length c, .slice A' l.length c'], .slice P p.length cp, .int .i64 stop] w fun e w' => ∃ v, e = .returned (.tuple #[v, .int .i64 (doS b l (p.take (planLen p.length stop))).2]) ∧
      IsDisk w' v (doS b l (p.take (planLen p.length stop))).1.1 (doS b l (p.take (planLen p.length stop))).1.2 ∧ Ext w w' := by
  obtain ⟨q, hq⟩ : ∃ q, q = p.take (planLen p.length stop) := ⟨_, rfl⟩
  rw [← hq]
  have HQ := Lib.hid hq
  clear hq
  have HA := Lib.hid hA
  have HA' := Lib.hid hA'
  have HP := Lib.hid hP
  clear hA hA' hP
  refine callsIn_of_wp_marks Tryz.func42 rfl trivial ?_ rfl
  simp only [Tryz.ntmps42, List.size_toArray, List.length_cons, List.length_nil, Nat.reduceAdd, Nat.reduceSub, Array.replicate_succ, Array.replicate_zero, List.push_toArray, List.append_toArray, List.nil_append, List.cons_append]
  refine wpIn_wide.2 ?_
  go_wp2_with fail
  obtain ⟨W1, hW1⟩ : ∃ W1, W1 = ((w.alloc (.cells #[.slice A b.length c, .slice A' l.length c'] 26)).alloc (.cells #[.slice none 0 0, .slice none 0 0] 26)) := ⟨_, rfl⟩
  have hb0 := (Box2.new w (.slice A b.length c) (.slice A' l.length c') 26).ext (by simp) ((Ext.refl _).alloc (.cells #[.slice none 0 0, .slice none 0 0] 26))
  have hb1 := Box2.new (w.alloc (.cells #[.slice A b.length c, .slice A' l.length c'] 26)) (.slice none 0 0) (.slice none 0 0) 26
  rw [World.size_alloc] at hb1
  have HX1 := Lib.hid (((Ext.refl w).alloc (.cells #[.slice A b.length c, .slice A' l.length c'] 26)).alloc (.cells #[.slice none 0 0, .slice none 0 0] 26))
  have hz1 : w.heap.size + 1 < W1.heap.size := by rw [hW1]; simp
  rw [← hW1] at hb0 hb1 HX1 ⊢
  obtain ⟨c0, c1, _, _⟩ := hb0.read
  have HB0 := Lib.hid hb0
  have HB1 := Lib.hid hb1
  have HKS := Lib.hid (fun w' (hx : Ext W1 w') => (show w'.cell? ⟨w.heap.size, 0, none⟩ = some (.slice A b.length c) ∧ w'.cell? ⟨w.heap.size, 1, none⟩ = some (.slice A' l.length c') from ⟨(hb0.ext (by omega) hx).read.1, (hb0.ext (by omega) hx).read.2.1⟩))
  clear hW1 hb0 hb1
  go_cut [8] from 11 to 17 (fun s8 wx => ∃ X, s8 = .pointer (some ⟨X, 0, none⟩) ∧ X < wx.heap.size ∧ DoSt W1.heap.size wx X b l ∧ Ext W1 wx)
  case first =>
    go_region_held3 (fun w' => w'.cell? ⟨w.heap.size, 0, none⟩ = some (.slice A b.length c) ∧ w'.cell? ⟨w.heap.size, 1, none⟩ = some (.slice A' l.length c'))
      (first | exact HKS.out _ (hE6'.out _ _) | exact HKS.out _ hE4.out | exact HKS.out _ (hE4.out.alloc _) | exact HKS.out _ hE3.out | exact HKS.out _ (hE3.out.alloc _) | exact HKS.out _ (Ext.refl W1).drew | exact HKS.out _ ((Ext.refl W1).alloc _).drew)
      (first
        | ((go_at_call 69
            refine (copiedB0 A b c _ hb HA.out.1 ?_).mono ?_
            · (first | exact HA.out.cells.ext HX1.out.drew | exact HA.out.cells.ext (HX1.out.alloc _).drew)
            rintro e w3 ⟨rfl, hoB, hxB⟩
            have hE3 := Lib.hid (show Ext W1 w3 from by first | exact (Ext.refl W1).drew.trans hxB | exact ((Ext.refl W1).alloc _).drew.trans hxB)
            (first
              | have hoB3 := Lib.hid (show w3.ownsRow W1.heap.size 9 1 (.slice (some ⟨W1.heap.size, 0, none⟩) b.length b.length) b.length (b.map sv) from hoB)
              | have hoB3 := Lib.hid (show w3.ownsRow W1.heap.size 9 1 (.slice (some ⟨W1.heap.size + 1, 0, none⟩) b.length b.length) b.length (b.map sv) from own_mono (show w3.ownsRow (W1.heap.size + 1) 9 1 (.slice (some ⟨W1.heap.size + 1, 0, none⟩) b.length b.length) b.length (b.map sv) from (World.size_alloc W1 _) ▸ hoB) (Nat.le_succ _)))
            (try have hX3 := Lib.hid (show w3.heap[W1.heap.size]? = some (.cells #[.slice none 0 0, .slice none 0 0] 26 (0, 0)) from (hxB.block _ (by simp)).trans (heap_alloc_new W1 _)))
            clear hoB hxB))
        | ((go_at_call 70
            refine (copiedW0 A' l c' _ (by omega) HA'.out.1 ?_).mono ?_
            · (first | exact HA'.out.cells.ext (HX1.out.trans hE3.out) | exact HA'.out.cells.ext ((HX1.out.trans hE3.out).alloc _))
            rintro e w4 ⟨rfl, hoW, hxW⟩
            have hE4 := Lib.hid (show Ext W1 w4 from by first | exact hE3.out.trans hxW | exact (hE3.out.alloc _).trans hxW)
            have hoB4 := Lib.hid (by first | exact own_ext hoB3.out hxW | exact own_ext (own_ext hoB3.out ((Ext.refl _).alloc _)) hxW)
            (first
              | have hoW4 := Lib.hid (show w4.ownsRow W1.heap.size 58 2 (.slice (some ⟨w3.heap.size, 0, none⟩) l.length l.length) l.length (wvs l) from own_mono hoW hE3.out.size)
              | have hoW4 := Lib.hid (show w4.ownsRow W1.heap.size 58 2 (.slice (some ⟨w3.heap.size + 1, 0, none⟩) l.length l.length) l.length (wvs l) from own_mono (show w4.ownsRow (w3.heap.size + 1) 58 2 (.slice (some ⟨w3.heap.size + 1, 0, none⟩) l.length l.length) l.length (wvs l) from (World.size_alloc w3 _) ▸ hoW) (Nat.le_succ_of_le hE3.out.size)))
            (first
              | (have hX4 := Lib.hid (show w4.heap[W1.heap.size]? = some (.cells #[.slice none 0 0, .slice none 0 0] 26 (0, 0)) from (hxW.block _ (Array.getElem?_eq_some_iff.1 hX3.out).1).trans hX3.out)
                 have hE6' := Lib.hid (fun x y => hE4.out.store2 (k := W1.heap.size) (Nat.le_refl _) x y)
                 obtain ⟨r0, r1, f0, f1⟩ := box_read hX4.out)
              | (have hX4 := Lib.hid (show w4.heap[w3.heap.size]? = some (.cells #[.slice none 0 0, .slice none 0 0] 26 (0, 0)) from (hxW.block _ (by simp)).trans (heap_alloc_new w3 _))
                 have hE6' := Lib.hid (fun x y => hE4.out.store2 (k := w3.heap.size) hE3.out.size x y)
                 obtain ⟨r0, r1, f0, f1⟩ := box_read hX4.out)
              | skip)
            clear hoW hxW)))
    all_goals
      go_wp2_with fail
      go_meet
      first
        | exact ⟨w4.heap.size, rfl, by simp, ⟨_, _, _, _, heap_alloc_new w4 _, hoB4.out.alloc _, hoW4.out.alloc _, hE4.out.size⟩, hE4.out.alloc _⟩
        | exact ⟨w3.heap.size, rfl, Nat.lt_of_lt_of_le (Array.getElem?_eq_some_iff.1 hX4.out).1 (by simp [World.setCell]), doSt_store hX4.out hE3.out.size hoB4.out hoW4.out, hE6'.out _ _⟩
        | exact ⟨W1.heap.size, rfl, Nat.lt_of_lt_of_le (Array.getElem?_eq_some_iff.1 hX4.out).1 (by simp [World.setCell]), doSt_store hX4.out (Nat.le_refl _) hoB4.out hoW4.out, hE6'.out _ _⟩
  case rest =>
    obtain ⟨X, rfl, hXl, hD, hE⟩ := hcut
    have HE := Lib.hid hE
    have HD := Lib.hid hD
    have hzc := hE.size
    have HST := Lib.hid (steps_any P p cp stop (wc.alloc (.cells #[.int .i64 0] 3)) (HP.out.ext ((HX1.out.trans hE).alloc _)))
    clear hE hD
    go_wp2_with (go_at_call 71; refine stop_here ?_)
    refine stop_on ?_
    refine HST.out.mono ?_
    clear HST
    rintro e w5 ⟨rfl, rfl⟩
    go_wp2
    have hq := HQ.out
    have hql : planLen p.length stop = q.length := by rw [hq, List.length_take]; have := planLen_le p.length stop; omega
    have hqp : q.length ≤ p.length := by rw [← hql]; exact planLen_le _ _
    have hW : WrsAt w.heap.size w P q := by rw [hq]; exact (WrsAt.of HP.out.cells).take _
    clear hq
    rw [hql]
    have bY := Boxed.new wc 3 (.int .i64 0)
    have bV := Boxed.new (wc.alloc (.cells #[.int .i64 0] 3)) 24 (.slice P q.length cp)
    rw [World.size_alloc] at bV
    have hX0 := ((HE.out.alloc (.cells #[.int .i64 0] 3)).alloc (.cells #[.slice P q.length cp] 24))
    have bY := bY.alloc (.cells #[.slice P q.length cp] 24)
    have hD0 := HD.out.ext (((Ext.refl wc).alloc (.cells #[.int .i64 0] 3)).alloc (.cells #[.slice P q.length cp] 24))
    have hz0 : ((wc.alloc (.cells #[.int .i64 0] 3)).alloc (.cells #[.slice P q.length cp] 24)).heap.size = wc.heap.size + 1 + 1 := by simp
    generalize hW0 : ((wc.alloc (.cells #[.int .i64 0] 3)).alloc (.cells #[.slice P q.length cp] 24)) = W0 at *
    clear hW0
    have hY0 : wc.heap.size < W0.heap.size := by omega
    have hY1 : wc.heap.size + 1 < W0.heap.size := by omega
    have hWI : WrsAt W1.heap.size W0 P q := (WrsAt.below (Below.mono (HX1.out.trans hX0) (Nat.le_refl _)) hW).mono (Nat.le_of_lt (Nat.lt_of_succ_lt hz1))
    refine (wpIn_wide (n := 3)).1 ?_
    refine wpIn_rangeFunc_ownH rfl (by omega) (gf := 130) (lb := #[.pointer (some ⟨wc.heap.size + 1, 0, none⟩)]) rfl trivial (enters_of Tryz.func130 (by kernel_rfl) rfl)
      (vals_stops Fence.wide 2 trivial rfl (by omega) (wc.heap.size + 1) W1.heap.size P cp q (by omega) W0 hY1 hX0.size bV.cell hWI) belowK_t (belowK_b hX0.size) (Below.refl _ _) (fun _ => rfl)
      (fun pre W => Going W1.heap.size X wc.heap.size b l pre W ∧ Below W1.heap.size W0 W)
      (fun c pre W => (c = .exit 0 ∧ Halted W1.heap.size X wc.heap.size b l pre W) ∧ Below W1.heap.size W0 W)
      (OwnFrom.and (Own.from (going_own _ _ _ _ _) _) (ownFrom_below hX0.size hX0.size))
      (fun c => OwnFrom.and (Own.from (halted_own _ _ _ _ _ c _) _) (ownFrom_below hX0.size hX0.size))
      ⟨⟨(b, l), rfl, hD0, bY⟩, Below.refl _ _⟩
      (fun x a' W => ∃ Bx, W0.heap.size ≤ Bx ∧ Bx < W.heap.size ∧ Box2 W Bx (.int .i64 x.1) (.string x.2) ∧ a' = { tmps := #[.agg #[.slice A b.length c, .slice A' l.length c'], .slice P p.length cp, .int .i64 stop, .pointer (some ⟨w.heap.size, 0, none⟩), undef, undef, .pointer (some ⟨w.heap.size + 1, 0, none⟩), .int .i64 0, .pointer (some ⟨X, 0, none⟩), .pointer (some ⟨wc.heap.size, 0, none⟩), .pointer (some ⟨Bx, 0, none⟩), u11, u12, u13, u14, u15, u16, u17, .slice P p.length cp, .int .i64 stop, .func (.func 130) #[] #[.pointer (some ⟨wc.heap.size + 1, 0, none⟩)], .agg #[.int .i64 x.1, .string x.2], undef, undef, undef, undef, undef, undef, undef], defers := [] })
      (fun x a' _ X Y row hs hg hr => by
        obtain ⟨Bx, h1, h2, h3, h4⟩ := hs
        exact ⟨Bx, h1, Nat.lt_of_lt_of_le h2 hg.size, box2_own Bx (fun (_ : Unit) => Value.int .i64 x.1) (fun _ => .string x.2) () X Y row h3 hg (fun r e => (hr r e).2), h4⟩)
      ?assign ?body ?done ?stop
    case assign =>
      rintro l2 pre ⟨xa, xs⟩ W K ⟨⟨s, hs, hD, hY⟩, hB⟩ hK
      have hbz := Nat.le_trans hX0.size hB.size
      have HDD := Lib.hid hD
      have HYY := Lib.hid hY
      have HBB := Lib.hid hB
      have HSS := Lib.hid hs
      clear hD hY hB hs
      gi_wp2
      exact hK _ _ ((KeepsOthers.alloc _ _).from _) ((Below.refl _ W).alloc hbz _) ⟨⟨s, HSS.out, HDD.out.ext ((Ext.refl W).alloc _), HYY.out.alloc _⟩, HBB.out.alloc hbz _⟩ ⟨W.heap.size, HBB.out.size, by simp, Box2.new W _ _ _, rfl⟩
    case body =>
      rintro l2 pre ⟨xa, xs⟩ a' W hl2 ⟨r, hr⟩ ⟨⟨s, hs, hD, hY⟩, hB⟩ ⟨Bx, hBx, hBx2, bX, rfl⟩ hlt
      have hbz := Nat.le_trans hX0.size hB.size
      obtain ⟨e1, e2⟩ := stepsS_lengths pre b l s hs
      have HSTEP := Lib.hid (step_any W1.heap.size X s.1 s.2 xa xs W (by omega) (by omega) hbz hD)
      obtain ⟨cX0, cX1, _, _⟩ := bX.read
      have HDD := Lib.hid hD
      have HYY := Lib.hid hY
      have HBB := Lib.hid hB
      have HSS := Lib.hid hs
      clear hD hY hB hs bX
      gi_wp2_with (gi_at_call 72; refine stop_here ?_)
      refine ⟨trivial, ?_⟩
      refine (CallsIn.inRound l2 (callsIn_wide.2 HSTEP.out)).mono ?_
      rintro e W3 ⟨hb3, hk3, hm⟩
      have hY3 := hk3.boxed HYY.out
      have cY := hY3.cell
      have fY := hY3.frozen
      have hB3 := HBB.out.trans hb3
      cases hst : step1 s.1 s.2 (xa, xs) with
      | none =>
        rw [hst] at hm
        obtain ⟨rfl, hd3⟩ := hm
        have HK3 := Lib.hid hk3
        have HB3 := Lib.hid hB3
        have HD3 := Lib.hid hd3
        have HY3 := Lib.hid hY3
        have HS3 := Lib.hid hst
        clear hk3 hb3 hB3 hd3 hY3 hst
        gi_wp2
        exact ⟨HK3.out.from _, ⟨rfl, pre, (xa, xs), s, rfl, HSS.out, HS3.out, HD3.out, HY3.out⟩, HB3.out⟩
      | some t =>
        rw [hst] at hm
        obtain ⟨rfl, hd3⟩ := hm
        have HK3 := Lib.hid hk3
        have HB3 := Lib.hid hB3
        have Hb3 := Lib.hid hb3
        have HD3 := Lib.hid hd3
        have HY3 := Lib.hid hY3
        have HS3 := Lib.hid (show stepsS b l (pre ++ [(xa, xs)]) = some t by rw [stepsS_snoc, HSS.out]; exact hst)
        clear hk3 hb3 hB3 hd3 hY3 hst
        have hpl : pre.length < 400000 := by omega
        gi_wp2
        exact ⟨(HK3.out.from _).trans ((KeepsOthers.setCell _ _ _).from _), Hb3.out.setCell (p := ⟨wc.heap.size, 0, none⟩) hzc _,
          ⟨t, HS3.out, doSt_set HD3.out HY3.out _, by have := HY3.out.set (.int .i64 ((pre.length : Int) + 1)); rw [List.length_append]; simpa using this⟩, HB3.out.setCell (p := ⟨wc.heap.size, 0, none⟩) hzc _⟩
    case done =>
      rintro D ys W hD rfl ⟨⟨s, hs, hDo, hY⟩, hB⟩ hK
      obtain ⟨e1, e2⟩ := stepsS_lengths _ b l s hs
      have hdo := doS_all _ b l s hs
      have hE1 : Ext W1 W := Below.trans hX0 hB
      have hzW := hE1.size
      obtain ⟨g, cb, A2, cl, h1, h2, h3, h4⟩ := hDo
      obtain ⟨x0, x1, _, _⟩ := box_read h1
      have y0 := hY.cell
      have hb1 := HB1.out.ext hz1 hE1
      obtain ⟨r0, r1, f0, f1⟩ := hb1.read
      have HDS := Lib.hid hdo
      have HKD := Lib.hid hK
      have HEW := Lib.hid (HX1.out.trans hE1)
      have H2 := Lib.hid ((own_sl h2).store2 (flat_svs _) hb1)
      have H3 := Lib.hid ((own_sl h3).store2 (flat_wvs _) hb1)
      have HBS := Lib.hid (fun x y => hb1.store x y)
      have HKX := Lib.hid (fun x y => (show ((W.setCell ⟨w.heap.size + 1, 0, none⟩ x).setCell ⟨w.heap.size + 1, 1, none⟩ y).cell? ⟨X, 0, none⟩ = some (.slice (some ⟨g, 0, none⟩) s.1.length cb) ∧ ((W.setCell ⟨w.heap.size + 1, 0, none⟩ x).setCell ⟨w.heap.size + 1, 1, none⟩ y).cell? ⟨X, 1, none⟩ = some (.slice A2 s.2.length cl) ∧ ((W.setCell ⟨w.heap.size + 1, 0, none⟩ x).setCell ⟨w.heap.size + 1, 1, none⟩ y).cell? ⟨wc.heap.size, 0, none⟩ = some (.int .i64 (ys.length : Int)) from
        ⟨(World.cell?_of_block (a := ⟨X, 0, none⟩) ((grown_store2 W (w.heap.size + 1) x y).block X (Array.getElem?_eq_some_iff.1 h1).1 (by simp; omega))).trans x0,
         (World.cell?_of_block (a := ⟨X, 1, none⟩) ((grown_store2 W (w.heap.size + 1) x y).block X (Array.getElem?_eq_some_iff.1 h1).1 (by simp; omega))).trans x1,
         (World.cell?_of_block (a := ⟨wc.heap.size, 0, none⟩) ((grown_store2 W (w.heap.size + 1) x y).block wc.heap.size hY.lt (by simp; omega))).trans y0⟩))
      clear hdo hK hE1 h1 h2 h3 hb1 hB e1 e2
      go_wp2_with fail
      go_region_held3 (fun w' => w'.cell? ⟨X, 0, none⟩ = some (.slice (some ⟨g, 0, none⟩) s.1.length cb) ∧ w'.cell? ⟨X, 1, none⟩ = some (.slice A2 s.2.length cl) ∧ w'.cell? ⟨wc.heap.size, 0, none⟩ = some (.int .i64 (ys.length : Int)))
        (first | exact ⟨x0, x1, y0⟩ | exact HKX.out _ _)
        (fail)
      go_wp2
      have hK' := (KeepsOthers.setCell (W.setCell ⟨w.heap.size + 1, 0, none⟩ (.slice (some ⟨g, 0, none⟩) s.1.length cb)) ⟨w.heap.size + 1, 1, none⟩ (.slice A2 s.2.length cl)).same D _ ((KeepsOthers.setCell W ⟨w.heap.size + 1, 0, none⟩ (.slice (some ⟨g, 0, none⟩) s.1.length cb)).same D _ HKD.out rfl) rfl
      have hK2 : ((W.setCell ⟨w.heap.size + 1, 0, none⟩ (.slice (some ⟨g, 0, none⟩) s.1.length cb)).setCell ⟨w.heap.size + 1, 1, none⟩ (.slice A2 s.2.length cl)).drew.heap[D]? = some (.deferred (some [])) := hK'
      refine ⟨by simp, .inl ⟨_, _, rfl, run_takeDeferred hK2, ?_⟩⟩
      obtain ⟨q0, q1, _, _⟩ := (HBS.out (.slice (some ⟨g, 0, none⟩) s.1.length cb) (.slice A2 s.2.length cl)).read
      have c5 := cell_kept (show ((W.setCell ⟨w.heap.size + 1, 0, none⟩ (.slice (some ⟨g, 0, none⟩) s.1.length cb)).setCell ⟨w.heap.size + 1, 1, none⟩ (.slice A2 s.2.length cl)).drew.cell? ⟨w.heap.size + 1, 0, none⟩ = _ from q0) (grownBy_putObj' _ D (.deferred none)) (fun r e => by cases e; exact ⟨_, hK2, rfl⟩)
      have c6 := cell_kept (show ((W.setCell ⟨w.heap.size + 1, 0, none⟩ (.slice (some ⟨g, 0, none⟩) s.1.length cb)).setCell ⟨w.heap.size + 1, 1, none⟩ (.slice A2 s.2.length cl)).drew.cell? ⟨w.heap.size + 1, 1, none⟩ = _ from q1) (grownBy_putObj' _ D (.deferred none)) (fun r e => by cases e; exact ⟨_, hK2, rfl⟩)
      refine ⟨.tuple #[.agg #[.slice (some ⟨g, 0, none⟩) s.1.length cb, .slice A2 s.2.length cl], .int .i64 (ys.length : Int)], ?_, ?_⟩
      · simp [results, Tryz.f42, go_sem, c5, c6]
      · rw [HDS.out]
        refine ⟨_, rfl, ⟨_, _, _, _, rfl, (((H2.out _ _).ext (Ext.refl _).drew).putObj hK2 rfl _), (((H3.out _ _).ext (Ext.refl _).drew).putObj hK2 rfl _)⟩, ?_⟩
        have hEE := (HEW.out.store2 (k := w.heap.size + 1) (by omega) (.slice (some ⟨g, 0, none⟩) s.1.length cb) (.slice A2 s.2.length cl)).drew
        exact Below.trans hEE (belowK_b (w := w) (Nat.le_refl _) _ D _ _ (by have := HX1.out.size; have := hX0.size; omega) hK2 rfl rfl)
    case stop =>
      rintro D c pre W hD ⟨k, hk, rfl⟩ ⟨⟨rfl, ini, x, s, e0, f1, f2, hDo, hY⟩, hB⟩ hK
      obtain ⟨e1, e2⟩ := stepsS_lengths _ b l s f1
      have hdo : doS b l q = (s, ini.length) := by
        have hqq : q = ini ++ x :: q.drop k := by
          have := (List.take_append_drop k q).symm
          rw [e0] at this
          simpa using this
        rw [hqq]
        exact doS_cut ini x _ b l s f1 f2
      clear e0 f1 f2
      refine wpIn_wide.2 ?_
      have hE1 : Ext W1 W := Below.trans hX0 hB
      have hzW := hE1.size
      obtain ⟨g, cb, A2, cl, h1, h2, h3, h4⟩ := hDo
      obtain ⟨x0, x1, _, _⟩ := box_read h1
      have y0 := hY.cell
      have hb1 := HB1.out.ext hz1 hE1
      obtain ⟨r0, r1, g0, g1⟩ := hb1.read
      have HDS := Lib.hid hdo
      have HKD := Lib.hid hK
      have HEW := Lib.hid (HX1.out.trans hE1)
      have H2 := Lib.hid ((own_sl h2).store2 (flat_svs _) hb1)
      have H3 := Lib.hid ((own_sl h3).store2 (flat_wvs _) hb1)
      have HBS := Lib.hid (fun x y => hb1.store x y)
      have HKX := Lib.hid (fun x y => (show ((W.setCell ⟨w.heap.size + 1, 0, none⟩ x).setCell ⟨w.heap.size + 1, 1, none⟩ y).cell? ⟨X, 0, none⟩ = some (.slice (some ⟨g, 0, none⟩) s.1.length cb) ∧ ((W.setCell ⟨w.heap.size + 1, 0, none⟩ x).setCell ⟨w.heap.size + 1, 1, none⟩ y).cell? ⟨X, 1, none⟩ = some (.slice A2 s.2.length cl) ∧ ((W.setCell ⟨w.heap.size + 1, 0, none⟩ x).setCell ⟨w.heap.size + 1, 1, none⟩ y).cell? ⟨wc.heap.size, 0, none⟩ = some (.int .i64 (ini.length : Int)) from
        ⟨(World.cell?_of_block (a := ⟨X, 0, none⟩) ((grown_store2 W (w.heap.size + 1) x y).block X (Array.getElem?_eq_some_iff.1 h1).1 (by simp; omega))).trans x0,
         (World.cell?_of_block (a := ⟨X, 1, none⟩) ((grown_store2 W (w.heap.size + 1) x y).block X (Array.getElem?_eq_some_iff.1 h1).1 (by simp; omega))).trans x1,
         (World.cell?_of_block (a := ⟨wc.heap.size, 0, none⟩) ((grown_store2 W (w.heap.size + 1) x y).block wc.heap.size hY.lt (by simp; omega))).trans y0⟩))
      clear hdo hK hE1 h1 h2 h3 hb1 hB e1 e2
      go_wp2_with fail
      go_region_held3 (fun w' => w'.cell? ⟨X, 0, none⟩ = some (.slice (some ⟨g, 0, none⟩) s.1.length cb) ∧ w'.cell? ⟨X, 1, none⟩ = some (.slice A2 s.2.length cl) ∧ w'.cell? ⟨wc.heap.size, 0, none⟩ = some (.int .i64 (ini.length : Int)))
        (first | exact ⟨x0, x1, y0⟩ | exact HKX.out _ _)
        (fail)
      go_wp2
      have hK' := (KeepsOthers.setCell (W.setCell ⟨w.heap.size + 1, 0, none⟩ (.slice (some ⟨g, 0, none⟩) s.1.length cb)) ⟨w.heap.size + 1, 1, none⟩ (.slice A2 s.2.length cl)).same D _ ((KeepsOthers.setCell W ⟨w.heap.size + 1, 0, none⟩ (.slice (some ⟨g, 0, none⟩) s.1.length cb)).same D _ HKD.out rfl) rfl
      have hK2 : ((W.setCell ⟨w.heap.size + 1, 0, none⟩ (.slice (some ⟨g, 0, none⟩) s.1.length cb)).setCell ⟨w.heap.size + 1, 1, none⟩ (.slice A2 s.2.length cl)).drew.heap[D]? = some (.deferred (some [])) := hK'
      refine ⟨by simp, .inl ⟨_, _, rfl, run_takeDeferred hK2, ?_⟩⟩
      obtain ⟨q0, q1, _, _⟩ := (HBS.out (.slice (some ⟨g, 0, none⟩) s.1.length cb) (.slice A2 s.2.length cl)).read
      have c5 := cell_kept (show ((W.setCell ⟨w.heap.size + 1, 0, none⟩ (.slice (some ⟨g, 0, none⟩) s.1.length cb)).setCell ⟨w.heap.size + 1, 1, none⟩ (.slice A2 s.2.length cl)).drew.cell? ⟨w.heap.size + 1, 0, none⟩ = _ from q0) (grownBy_putObj' _ D (.deferred none)) (fun r e => by cases e; exact ⟨_, hK2, rfl⟩)
      have c6 := cell_kept (show ((W.setCell ⟨w.heap.size + 1, 0, none⟩ (.slice (some ⟨g, 0, none⟩) s.1.length cb)).setCell ⟨w.heap.size + 1, 1, none⟩ (.slice A2 s.2.length cl)).drew.cell? ⟨w.heap.size + 1, 1, none⟩ = _ from q1) (grownBy_putObj' _ D (.deferred none)) (fun r e => by cases e; exact ⟨_, hK2, rfl⟩)
      refine ⟨.tuple #[.agg #[.slice (some ⟨g, 0, none⟩) s.1.length cb, .slice A2 s.2.length cl], .int .i64 (ini.length : Int)], ?_, ?_⟩
      · simp [results, Tryz.f42, go_sem, c5, c6]
      · rw [HDS.out]
        refine ⟨_, rfl, ⟨_, _, _, _, rfl, (((H2.out _ _).ext (Ext.refl _).drew).putObj hK2 rfl _), (((H3.out _ _).ext (Ext.refl _).drew).putObj hK2 rfl _)⟩, ?_⟩
        have hEE := (HEW.out.store2 (k := w.heap.size + 1) (by omega) (.slice (some ⟨g, 0, none⟩) s.1.length cb) (.slice A2 s.2.length cl)).drew
        exact Below.trans hEE (belowK_b (w := w) (Nat.le_refl _) _ D _ _ (by have := HX1.out.size; have := hX0.size; omega) hK2 rfl rfl)
end Go.Proofs.YtnlkakbpcdfgfaaGreat
namespace Go.Proofs.YtnlkakbpcdfgfaaGreat
set_option maxRecDepth 20000
open Go.RowKit
attribute [local go_sem ↓] Go.wp_at_zero Go.wp_at_succ

set_option maxHeartbeats 4000000 in
set_option maxRecDepth 100000 in
theorem putR_any (A A' : Option Addr) (b : List ByteArray) (l : List Wr) (c c' : Nat) (xa : Int) (xs : ByteArray) (w : World) (_hb : b.length ≤ 1000000) (hl : l.length ≤ 900000)
    (hA0 : Sl w A b.length c (b.map sv)) (hA0' : Sl w A' l.length c' (wvs l)) :
    Calls Tryz.prog 60 #[.agg #[.slice A b.length c, .slice A' l.length c'], .int .i64 xa, .string xs] w fun e w' => ∃ v, e = .returned (.tuple #[v, .int .i64 (putE b (xa, xs))]) ∧ IsDisk w' v b (putW b l (xa, xs)) ∧ Ext w w' := by
  have HA := Lib.hid hA0
  have HA' := Lib.hid hA0'
  clear hA0 hA0'
  have HX := Lib.hid (((Ext.refl w).alloc (.cells #[.slice A b.length c, .slice A' l.length c'] 26)).alloc (.cells #[.slice none 0 0, .slice none 0 0] 26))
  have hb1 := (Box2.new w (.slice A b.length c) (.slice A' l.length c') 26).ext (by simp) ((Ext.refl _).alloc (.cells #[.slice none 0 0, .slice none 0 0] 26))
  have hb2 := Box2.new (w.alloc (.cells #[.slice A b.length c, .slice A' l.length c'] 26)) (.slice none 0 0) (.slice none 0 0) 26
  rw [World.size_alloc] at hb2
  have HT := Lib.hid (may_any A A' b.length c l.length c' xa xs ((w.alloc (.cells #[.slice A b.length c, .slice A' l.length c'] 26)).alloc (.cells #[.slice none 0 0, .slice none 0 0] 26)))
  obtain ⟨w1, hw1⟩ : ∃ w1, w1 = ((w.alloc (.cells #[.slice A b.length c, .slice A' l.length c'] 26)).alloc (.cells #[.slice none 0 0, .slice none 0 0] 26)) := ⟨_, rfl⟩
  have hs1 : w1.heap.size = w.heap.size + 1 + 1 := by rw [hw1]; simp
  rw [← hw1] at hb1 hb2 HX HT
  have HB0 := Lib.hid hb1
  have HB1 := Lib.hid hb2
  have HW1 := Lib.hid hw1
  clear hb1 hb2 hw1
  cases ht : takesS b.length (xa, xs)
  · have HZ := Lib.hid ht
    have HP := Lib.hid (show putW b l (xa, xs) = l by unfold putW; rw [ht]; rfl)
    have HE := Lib.hid (show putE b (xa, xs) = 1 by unfold putE; rw [ht]; rfl)
    clear ht
    go_enter Tryz.func60, Tryz.ntmps60
    go_wp2_with (go_at_call 24; refine stop_here ?_)
    refine stop_on ?_
    rw [← HW1.out]
    refine HT.out.mono ?_
    clear HT
    rintro e w2 ⟨rfl, hx2⟩
    rw [HZ.out]
    have hs2 := hx2.size
    have b0 := HB0.out.ext (by omega) hx2
    have b1 := HB1.out.ext (by omega) hx2
    obtain ⟨c0, c1, _, _⟩ := b0.read
    obtain ⟨c4, c5, f4, f5⟩ := b1.read
    have hX2 := HX.out.trans hx2
    have H3 := Lib.hid ((HA.out.ext hX2).store2 (flat_svs b) b1 (.slice A b.length c) (.slice A' l.length c'))
    have H4 := Lib.hid ((HA'.out.ext hX2).store2 (flat_wvs l) b1 (.slice A b.length c) (.slice A' l.length c'))
    have HBS := Lib.hid (b1.store (.slice A b.length c) (.slice A' l.length c'))
    have HXE := Lib.hid (hX2.store2 (k := w.heap.size + 1) (by omega) (.slice A b.length c) (.slice A' l.length c'))
    clear b0 b1 hx2 hX2
    go_wp2
    clear c0 c1 c4 c5 f4 f5
    obtain ⟨r0, r1, _, _⟩ := HBS.out.read
    refine bodyPost_ret (v := .tuple #[.agg #[.slice A b.length c, .slice A' l.length c'], .int .i64 1]) (by simp [results, Tryz.results60, go_sem, r0, r1]) rfl ?_
    rw [HP.out, HE.out]
    exact ⟨_, rfl, ⟨_, _, _, _, rfl, H3.out, H4.out⟩, HXE.out⟩
  · have HZ := Lib.hid ht
    have HP := Lib.hid (show putW b l (xa, xs) = l ++ [(xa, xs)] by unfold putW; rw [if_pos ht])
    have HE := Lib.hid (show putE b (xa, xs) = 0 by unfold putE; rw [if_pos ht])
    clear ht
    go_enter Tryz.func60, Tryz.ntmps60
    go_wp2_with (go_at_call 24; refine stop_here ?_)
    refine stop_on ?_
    rw [← HW1.out]
    refine HT.out.mono ?_
    clear HT
    rintro e w2 ⟨rfl, hx2⟩
    rw [HZ.out]
    have hs2 := hx2.size
    have b0 := HB0.out.ext (by omega) hx2
    have b1 := HB1.out.ext (by omega) hx2
    obtain ⟨c0, c1, _, _⟩ := b0.read
    obtain ⟨c4, c5, f4, f5⟩ := b1.read
    have HB0 := Lib.hid b0
    have HB1 := Lib.hid b1
    have HX2 := Lib.hid (HX.out.trans hx2)
    clear b0 b1 hx2
    have KS : ∀ w', Ext w2 w' → (w'.cell? ⟨w.heap.size, 0, none⟩ = some (.slice A b.length c) ∧ w'.cell? ⟨w.heap.size, 1, none⟩ = some (.slice A' l.length c')) := by
      intro w' hx
      obtain ⟨c0, c1, _, _⟩ := (HB0.out.ext (by omega) hx).read
      exact ⟨c0, c1⟩
    have KS2 : ∀ w3 x y, Ext w2 w3 → ∀ w', w' = (w3.setCell ⟨w.heap.size + 1, 0, none⟩ x).setCell ⟨w.heap.size + 1, 1, none⟩ y → (w'.cell? ⟨w.heap.size, 0, none⟩ = some (.slice A b.length c) ∧ w'.cell? ⟨w.heap.size, 1, none⟩ = some (.slice A' l.length c')) := by
      rintro w3 x y hx w' rfl
      have hz := hx.size
      obtain ⟨c0, c1, _, _⟩ := ((HB0.out.ext (by omega) hx).grown (by omega) (grown_store2 _ (w.heap.size + 1) x y) (by omega)).read
      exact ⟨c0, c1⟩
    have HKS := Lib.hid KS
    have HKS2 := Lib.hid KS2
    clear KS KS2
    have HSL := Lib.hid (fun wx : World => sl_lit wx 58 1 [.int .i64 xa, .string xs] (by unfold maxLen; omega))
    have hoe1 := own_empty (w2.alloc (.cells #[.int .i64 xa, .string xs] 58)) 58 2
    rw [World.size_alloc] at hoe1
    have HOE0 := Lib.hid (own_empty w2 58 2)
    have HOE1 := Lib.hid hoe1
    have hsl1 := HSL.out (w2.alloc (.cells #[] 58))
    rw [World.size_alloc] at hsl1
    have HSL1 := Lib.hid hsl1
    clear hoe1 hsl1
    have HML := Lib.hid (show l.length + 1 ≤ maxLen by unfold maxLen; omega)
    have HML0 := Lib.hid (show 0 + l.length ≤ maxLen by unfold maxLen; omega)
    have HWL := Lib.hid (wvs_length l)
    have HFL := Lib.hid (show ∀ u ∈ [Value.int .i64 xa, .string xs], u.oneCell' = true by intro u hu; simp at hu; rcases hu with rfl | rfl <;> rfl)
    go_wp2_with fail
    go_region_held3 (fun w' => w'.cell? ⟨w.heap.size, 0, none⟩ = some (.slice A b.length c) ∧ w'.cell? ⟨w.heap.size, 1, none⟩ = some (.slice A' l.length c'))
      (first | exact HKS.out _ hE5.out | exact HKS.out _ hE4.out | exact HKS.out _ (hE4.out.alloc _) | exact HKS.out _ (Ext.refl w2).drew | exact HKS.out _ ((Ext.refl w2).alloc _).drew | exact HKS.out _ (((Ext.refl w2).alloc _).alloc _).drew | exact HKS2.out _ _ _ hE5.out _ rfl)
      (first
        | ((refine step_app_sl ?_ ?_ ?_ 24 ?_ ?_ 58 (.agg #[.int .i64 0, .string (ByteArray.mk #[])]) 2 24 Tryz.underlying24 infoW rfl Nat.two_pos ?_ 0 [] ?_ ?_ A' l.length c' (wvs l) ?_ HWL.out ?_ (wvs_oneCell l) HML0.out ?_ ?_ ?_
            rfl
            rotate_left 2
            rfl
            rotate_left 2
            rfl
            (first | exact HOE0.out.drew | exact (HOE0.out.alloc _).drew | exact HOE1.out.drew)
            rfl
            (first | exact HA'.out.ext (HX2.out.alloc _).drew | exact HA'.out.ext ((HX2.out.alloc _).alloc _).drew)
            omega
            (first | exact Nat.le_succ _ | exact Nat.le_trans (Nat.le_succ _) (Nat.le_succ _) | (simp only [World.size_alloc]; omega) | (simp; omega) | simp)
            intro A4 q4 w4 hoA hgA
            rw [Nat.zero_add, List.nil_append] at hoA
            rw [Nat.zero_add]
            have hE4 := Lib.hid (show Ext w2 w4 from by first
              | exact Below.grown ((Ext.refl w2).alloc _).drew hgA ((Ext.refl w2).alloc _).size (fun q hq => (HOE0.out.lt q hq).1)
              | exact Below.grown (((Ext.refl w2).alloc _).alloc _).drew hgA (((Ext.refl w2).alloc _).alloc _).size (fun q hq => (HOE0.out.lt q hq).1)
              | exact Below.grown (((Ext.refl w2).alloc _).alloc _).drew hgA (((Ext.refl w2).alloc _).alloc _).size (fun q hq => Nat.le_of_lt (HOE1.out.lt q hq).1))
            have hz4 : w2.heap.size + 1 ≤ w4.heap.size := by
              have hz := hgA.size
              simp at hz
              omega
            (first
              | have hSX4 := Lib.hid (show Sl w4 (some ⟨w2.heap.size + 1, 0, none⟩) 1 1 [.int .i64 xa, .string xs] from (HSL1.out.ext (Ext.refl _).drew).grown hgA (apart_num (Nat.ne_of_lt (Nat.lt_succ_self _))))
              | have hSX4 := Lib.hid (show Sl w4 (some ⟨w2.heap.size, 0, none⟩) 1 1 [.int .i64 xa, .string xs] from ((HSL.out w2).ext ((Ext.refl _).alloc _).drew).grown hgA (apart_num (Nat.succ_ne_self _)))
              | skip)
            have hOW4 := Lib.hid hoA
            clear hoA hgA))
        | ((refine step_app_sl ?_ ?_ ?_ 24 ?_ ?_ 58 (.agg #[.int .i64 0, .string (ByteArray.mk #[])]) 2 24 Tryz.underlying24 infoW rfl Nat.two_pos ?_ l.length (wvs l) ?_ ?_ ?_ 1 1 [.int .i64 xa, .string xs] ?_ rfl ?_ ?_ ?_ ?_ ?_ ?_
            rfl
            rotate_left 2
            rfl
            rotate_left 2
            rfl
            (first | exact hOW4.out | exact hOW4.out.alloc _)
            rotate_left 1
            rfl
            (first | exact HSL.out w4 | exact hSX4.out)
            exact HFL.out
            exact HML.out
            omega
            (first | omega | (simp; omega))
            intro A5 q5 w5 hoA hgA
            have hE5 := Lib.hid (show Ext w2 w5 from by first
              | exact Below.grown hE4.out hgA hE4.out.size (fun q hq => (hOW4.out.lt q hq).1)
              | exact Below.grown hE4.out hgA hE4.out.size (fun q hq => Nat.le_of_succ_le (hOW4.out.lt q hq).1)
              | exact Below.grown (hE4.out.alloc _) hgA (hE4.out.alloc _).size (fun q hq => (hOW4.out.lt q hq).1)
              | exact Below.grown (hE4.out.alloc _) hgA (hE4.out.alloc _).size (fun q hq => Nat.le_of_succ_le (hOW4.out.lt q hq).1))
            have hSW5 := Lib.hid (own_sl hoA)
            clear hoA hgA
            obtain ⟨r0, r1, f0, f1⟩ := (HB1.out.ext (by omega) hE5.out).read)))
    all_goals
      go_wp2
      have hbe := HB1.out.ext (by omega) hE5.out
      have H4 := Lib.hid (hSW5.out.store2 (by rw [show wvs l ++ [Value.int .i64 xa, .string xs] = wvs (l ++ [(xa, xs)]) by rw [wvs_append]; rfl]; exact flat_wvs _) hbe)
      have H3 := Lib.hid ((HA.out.ext (HX2.out.trans hE5.out)).store2 (flat_svs b) hbe)
      have HBS := Lib.hid (fun x y => hbe.store x y)
      have HXE := Lib.hid (fun x y => (HX2.out.trans hE5.out).store2 (k := w.heap.size + 1) (by omega) x y)
      clear r0 r1 f0 f1 c0 c1 c4 c5 f4 f5 hbe
      obtain ⟨r0, r1, _, _⟩ := (HBS.out (.slice A b.length c) (.slice A5 (l.length + 1) q5)).read
      refine bodyPost_ret (v := .tuple #[.agg #[.slice A b.length c, .slice A5 (l.length + 1) q5], .int .i64 0]) (by simp [results, Tryz.results60, go_sem, r0, r1]) rfl ?_
      rw [HP.out, HE.out]
      exact ⟨_, rfl, ⟨_, _, A5, q5, by rw [List.length_append]; rfl, H3.out _ _, by rw [List.length_append, wvs_append]; exact H4.out _ _⟩, HXE.out _ _⟩
end Go.Proofs.YtnlkakbpcdfgfaaGreat
