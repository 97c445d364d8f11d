/- Walks of isSize, isPlace, isFree, used, hold and settle of package heap. -/
import Derived.Test.YtclpeeemnmhdcaaHeapW10
import Derived.Test.YtclpeeemnmhdcaaItO
namespace Go.Proofs.Ytclpeeemnmhdcaa
open Go.RowKit
attribute [local go_sem ↓] Go.wp_at_zero Go.wp_at_succ

set_option maxHeartbeats 800000 in
theorem hpIsSize_any (n keep : Int) (w : World) :
    Calls Try.prog 34 #[.int .i64 n, .int .i64 keep] w fun e w' => e = .returned (.bool (decide (newOk n keep))) ∧ w = w' := by
  have hc : n < 1 ∨ (1 ≤ n ∧ 2000 < n) ∨ (1 ≤ n ∧ n ≤ 2000 ∧ keep < 0) ∨ (1 ≤ n ∧ n ≤ 2000 ∧ 0 ≤ keep ∧ n < keep) ∨ (1 ≤ n ∧ n ≤ 2000 ∧ 0 ≤ keep ∧ keep ≤ n) := by omega
  rcases hc with h | ⟨h, h1⟩ | ⟨h, h1, h2⟩ | ⟨h, h1, h2, h3⟩ | ⟨h, h1, h2, h3⟩
  · rw [decide_eq_false (by unfold newOk; omega)]
    have d0 : decide (1 ≤ n) = false := decide_eq_false (by omega)
    go_enter Try.func34, Try.ntmps34
    go_wp2
    go_ret
    exact ⟨rfl, rfl⟩
  · rw [decide_eq_false (by unfold newOk; omega)]
    have d0 : decide (1 ≤ n) = true := decide_eq_true (by omega)
    have d1 : decide (n ≤ 2000) = false := decide_eq_false (by omega)
    go_enter Try.func34, Try.ntmps34
    go_wp2
    go_ret
    exact ⟨rfl, rfl⟩
  · rw [decide_eq_false (by unfold newOk; omega)]
    have d0 : decide (1 ≤ n) = true := decide_eq_true (by omega)
    have d1 : decide (n ≤ 2000) = true := decide_eq_true (by omega)
    have d2 : decide (0 ≤ keep) = false := decide_eq_false (by omega)
    go_enter Try.func34, Try.ntmps34
    go_wp2
    go_ret
    exact ⟨rfl, rfl⟩
  · rw [decide_eq_false (by unfold newOk; omega)]
    have d0 : decide (1 ≤ n) = true := decide_eq_true (by omega)
    have d1 : decide (n ≤ 2000) = true := decide_eq_true (by omega)
    have d2 : decide (0 ≤ keep) = true := decide_eq_true (by omega)
    have d3 : decide (keep ≤ n) = false := decide_eq_false (by omega)
    go_enter Try.func34, Try.ntmps34
    go_wp2
    go_ret
    exact ⟨rfl, rfl⟩
  · rw [decide_eq_true (by unfold newOk; omega)]
    have d0 : decide (1 ≤ n) = true := decide_eq_true (by omega)
    have d1 : decide (n ≤ 2000) = true := decide_eq_true (by omega)
    have d2 : decide (0 ≤ keep) = true := decide_eq_true (by omega)
    have d3 : decide (keep ≤ n) = true := decide_eq_true (by omega)
    go_enter Try.func34, Try.ntmps34
    go_wp2
    go_ret
    exact ⟨rfl, rfl⟩
def isPl (p n : Int) : Bool := decide (0 ≤ p) && decide (p < n)
set_option maxHeartbeats 800000 in
theorem hpIsPlace_any (p n : Int) (w : World) :
    Calls Try.prog 59 #[.int .i64 p, .int .i64 n] w fun e w' => e = .returned (.bool (isPl p n)) ∧ w = w' := by
  unfold isPl
  have hc : p < 0 ∨ (0 ≤ p ∧ n ≤ p) ∨ (0 ≤ p ∧ p < n) := by omega
  rcases hc with h | ⟨h, h1⟩ | ⟨h, h1⟩
  · have d0 : decide (0 ≤ p) = false := decide_eq_false (by omega)
    rw [d0]
    go_enter Try.func59, Try.ntmps59
    go_wp2
    go_ret
    exact ⟨rfl, rfl⟩
  · have d0 : decide (0 ≤ p) = true := decide_eq_true (by omega)
    have d1 : decide (p < n) = false := decide_eq_false (by omega)
    rw [d0, d1]
    go_enter Try.func59, Try.ntmps59
    go_wp2
    go_ret
    exact ⟨rfl, rfl⟩
  · have d0 : decide (0 ≤ p) = true := decide_eq_true (by omega)
    have d1 : decide (p < n) = true := decide_eq_true (by omega)
    rw [d0, d1]
    go_enter Try.func59, Try.ntmps59
    go_wp2
    go_ret
    exact ⟨rfl, rfl⟩
set_option maxHeartbeats 800000 in
theorem hpIsFree_any (r : Int) (pn lf : Bool) (A : Option Addr) (m c : Nat) (it : List It) (w : World) :
    Calls Try.prog 39 #[.agg #[.int .i64 r, .bool pn, .bool lf, .slice A m c]] w fun e w' => e = .returned (.bool (freeC ⟨r, pn, lf, it⟩)) ∧ Ext w w' := by
  have HX := Lib.hid ((Ext.refl w).alloc (.cells #[.int .i64 r, .bool pn, .bool lf, .slice A m c] 54))
  have hb := Bx.new w #[.int .i64 r, .bool pn, .bool lf, .slice A m c] 54
  obtain ⟨p0, p1, p2, p3⟩ := hb.read4
  clear hb
  unfold freeC
  by_cases h : r = 0
  · subst h
    cases pn
    · go_enter Try.func39, Try.ntmps39
      go_wp2
      go_ret
      exact ⟨by first | rfl | simp, HX.out⟩
    · go_enter Try.func39, Try.ntmps39
      go_wp2
      go_ret
      exact ⟨by first | rfl | simp, HX.out⟩
  · have d0 : decide (r = 0) = false := decide_eq_false h
    rw [d0]
    go_enter Try.func39, Try.ntmps39
    go_wp2
    go_ret
    exact ⟨by first | rfl | simp, HX.out⟩
set_option maxHeartbeats 800000 in
theorem hpUsed_any (R : Option Addr) (l : List HC) (n q : Nat) (p : Int) (w : World) (hA : HcSl w R n q l) :
    Calls Try.prog 63 #[.slice R n q, .int .i64 p] w fun e w' => e = .returned (.bool (usedC l p)) ∧ w = w' := by
  have hn := hA.1
  have HP := Lib.hid (hpIsPlace_any p n w)
  rcases Int.lt_or_le p 0 with h0 | h0
  · rw [usedC_neg h0]
    rw [show isPl p n = false by unfold isPl; rw [decide_eq_false (by omega)]; rfl] at HP
    clear hA hn
    go_enter Try.func63, Try.ntmps63
    go_wp2_with (go_at_call 59; refine HP.out.mono ?_; rintro e w1 ⟨rfl, rfl⟩)
    go_ret
    exact ⟨rfl, rfl⟩
  rcases Int.lt_or_le p n with h1 | h1
  · obtain ⟨k, rfl⟩ := Int.eq_ofNat_of_zero_le h0
    have hk : k < l.length := by omega
    rw [usedC_at hk]
    rw [show isPl (k : Int) n = true by unfold isPl; rw [decide_eq_true h0, decide_eq_true h1]; rfl] at HP
    obtain ⟨b, off, rfl, hbl, A, c, r0, r1, r2, r3, _⟩ := hA.cell hk
    have hki : (k : Int) < (n : Int) := h1
    clear hA hn h0 r1 r2 r3
    generalize l[k].ref = rf at *
    rcases Int.lt_or_le 0 rf with h | h
    · have d0 : decide (0 < rf) = true := decide_eq_true h
      rw [d0]
      go_enter Try.func63, Try.ntmps63
      go_wp2_with (go_at_call 59; refine HP.out.mono ?_; rintro e w1 ⟨rfl, rfl⟩)
      go_ret
      exact ⟨rfl, rfl⟩
    · have d0 : decide (0 < rf) = false := decide_eq_false (by omega)
      rw [d0]
      go_enter Try.func63, Try.ntmps63
      go_wp2_with (go_at_call 59; refine HP.out.mono ?_; rintro e w1 ⟨rfl, rfl⟩)
      go_ret
      exact ⟨rfl, rfl⟩
  · rw [usedC_big (by omega)]
    rw [show isPl p n = false by unfold isPl; rw [decide_eq_false (show ¬ p < n by omega)]; simp] at HP
    clear hA hn
    go_enter Try.func63, Try.ntmps63
    go_wp2_with (go_at_call 59; refine HP.out.mono ?_; rintro e w1 ⟨rfl, rfl⟩)
    go_ret
    exact ⟨rfl, rfl⟩

/-- A row of cells of the call's own: it was made behind the world v, in which the nodes of its cells lie. -/
def Own (v w : World) (g cap : Nat) (l : List HC) : Prop := ∃ cs, w.ownsRow v.heap.size 54 4 (.slice (some ⟨g, 0, none⟩) l.length cap) l.length cs ∧ HcAt v cs l ∧ Ext v w
theorem Own.ext {v w w' : World} {g cap : Nat} {l : List HC} (h : Own v w g cap l) (hx : Ext w w') : Own v w' g cap l := by
  obtain ⟨cs, h1, h2, h3⟩ := h
  exact ⟨cs, own_ext h1 hx, h2, h3.trans hx⟩
theorem Own.sl {v w : World} {g cap : Nat} {l : List HC} (h : Own v w g cap l) : HcSl w (some ⟨g, 0, none⟩) l.length cap l := by
  obtain ⟨cs, h1, h2, h3⟩ := h
  exact ⟨rfl, cs, own_sl h1, h2.ext h3⟩
theorem Own.ge {v w : World} {g cap : Nat} {l : List HC} (h : Own v w g cap l) : v.heap.size ≤ g ∧ g < w.heap.size := by
  obtain ⟨cs, h1, h2, h3⟩ := h
  exact h1.lt g rfl
theorem Own.free {v w : World} {g cap : Nat} {l : List HC} (h : Own v w g cap l) (j : Nat) : w.frozen? ⟨g, j, none⟩ = false := by
  obtain ⟨cs, h1, h2, h3⟩ := h
  exact own_free h1 j
theorem Own.cell {v w : World} {g cap : Nat} {l : List HC} (h : Own v w g cap l) {k : Nat} (hk : k < l.length) :
    ∃ A c, w.cell? ⟨g, k * 4, none⟩ = some (.int .i64 l[k].ref) ∧ w.cell? ⟨g, k * 4 + 1, none⟩ = some (.bool l[k].pin) ∧ w.cell? ⟨g, k * 4 + 2, none⟩ = some (.bool l[k].leaf) ∧ w.cell? ⟨g, k * 4 + 3, none⟩ = some (.slice A l[k].it.length c) ∧ Sl v A l[k].it.length c (ivs l[k].it) := by
  obtain ⟨cs, h1, h2, h3⟩ := h
  obtain ⟨A, c, e1, e2, e3, e4, h5⟩ := h2.2 k hk
  have hl := h1.1
  exact ⟨A, c, (h1.cellAt (k * 4) (by omega)).trans e1, (h1.cellAt (k * 4 + 1) (by omega)).trans e2, (h1.cellAt (k * 4 + 2) (by omega)).trans e3, (h1.cellAt (k * 4 + 3) (by omega)).trans e4, h5⟩
theorem set_same {α : Type} {l : List α} {k : Nat} {x : α} (h : l[k]? = some x) : l.set k x = l := by
  obtain ⟨hk, rfl⟩ := List.getElem?_eq_some_iff.1 h
  exact List.set_getElem_self hk
/-- One number of a cell is written. -/
theorem Own.ref {v w : World} {g cap : Nat} {l : List HC} (h : Own v w g cap l) {k : Nat} (hk : k < l.length) (r : Int) :
    Own v (w.setCell ⟨g, k * 4, none⟩ (.int .i64 r)) g cap (l.set k ⟨r, l[k].pin, l[k].leaf, l[k].it⟩) := by
  have hg := h.ge
  obtain ⟨cs, h1, h2, h3⟩ := h
  obtain ⟨A, c, e1, e2, e3, e4, h5⟩ := h2.2 k hk
  have hs := h2.set hk ⟨r, l[k].pin, l[k].leaf, l[k].it⟩ h5
  have hl := h2.1
  simp only at hs
  rw [set_same (l := (((cs.set (k * 4) _).set (k * 4 + 1) _).set (k * 4 + 2) _)) (by rw [List.getElem?_set_ne (by omega), List.getElem?_set_ne (by omega), List.getElem?_set_ne (by omega)]; exact e4)] at hs
  rw [set_same (l := ((cs.set (k * 4) _).set (k * 4 + 1) _)) (by rw [List.getElem?_set_ne (by omega), List.getElem?_set_ne (by omega)]; exact e3)] at hs
  rw [set_same (l := (cs.set (k * 4) _)) (by rw [List.getElem?_set_ne (by omega)]; exact e2)] at hs
  refine ⟨_, ?_, hs, h3.set hg.1 _⟩
  rw [List.length_set]
  exact own_set h1 (by omega) _
theorem Own.pin {v w : World} {g cap : Nat} {l : List HC} (h : Own v w g cap l) {k : Nat} (hk : k < l.length) (b : Bool) :
    Own v (w.setCell ⟨g, k * 4 + 1, none⟩ (.bool b)) g cap (l.set k ⟨l[k].ref, b, l[k].leaf, l[k].it⟩) := by
  have hg := h.ge
  obtain ⟨cs, h1, h2, h3⟩ := h
  obtain ⟨A, c, e1, e2, e3, e4, h5⟩ := h2.2 k hk
  have hs := h2.set hk ⟨l[k].ref, b, l[k].leaf, l[k].it⟩ h5
  have hl := h2.1
  simp only at hs
  rw [set_same (l := (((cs.set (k * 4) _).set (k * 4 + 1) _).set (k * 4 + 2) _)) (by rw [List.getElem?_set_ne (by omega), List.getElem?_set_ne (by omega), List.getElem?_set_ne (by omega)]; exact e4)] at hs
  rw [set_same (l := ((cs.set (k * 4) _).set (k * 4 + 1) _)) (by rw [List.getElem?_set_ne (by omega), List.getElem?_set_ne (by omega)]; exact e3)] at hs
  rw [set_same (l := cs) e1] at hs
  refine ⟨_, ?_, hs, h3.set hg.1 _⟩
  rw [List.length_set]
  exact own_set h1 (by omega) _
/-- A whole cell is written. -/
theorem Own.set {v w : World} {g cap : Nat} {l : List HC} (h : Own v w g cap l) {k : Nat} (hk : k < l.length) (x : HC) {A : Option Addr} {c : Nat} (hs : Sl v A x.it.length c (ivs x.it)) :
    Own v ((((w.setCell ⟨g, k * 4, none⟩ (.int .i64 x.ref)).setCell ⟨g, k * 4 + 1, none⟩ (.bool x.pin)).setCell ⟨g, k * 4 + 2, none⟩ (.bool x.leaf)).setCell ⟨g, k * 4 + 3, none⟩ (.slice A x.it.length c)) g cap (l.set k x) := by
  have hg := h.ge
  obtain ⟨cs, h1, h2, h3⟩ := h
  refine ⟨_, ?_, h2.set hk x hs, (((h3.set hg.1 _).set hg.1 _).set hg.1 _).set hg.1 _⟩
  rw [List.length_set]
  exact own_hc h1 hk _ _ _ _

theorem grown_set (w : World) (g j : Nat) (u : Value) : w.grownBy (w.setCell ⟨g, j, none⟩ u) (some g) :=
  ⟨rfl, rfl, rfl, by simp [World.setCell], fun i _ hi => Below.heap_setCell _ _ _ _ (by simpa using hi)⟩
set_option maxRecDepth 100000 in
set_option maxHeartbeats 800000 in
theorem hpHold_at (v : World) (g cap k : Nat) (l : List HC) (n : Nat) (w : World) (hn : n = l.length) (hk : k < l.length) (hr : -9000000000000000000 ≤ l[k].ref ∧ l[k].ref ≤ 9000000000000000000) (hO : Own v w g cap l) :
    Calls Try.prog 45 #[.slice (some ⟨g, 0, none⟩) n cap, .int .i64 k] w fun e w' => e = .returned (.tuple #[]) ∧ Own v w' g cap (l.set k l[k].more) ∧ w.grownBy w' (some g) := by
  subst hn
  obtain ⟨A, c, r0, r1, r2, r3, _⟩ := hO.cell hk
  have f0 := hO.free (k * 4)
  have HO := Lib.hid (hO.ref hk (l[k].ref + 1))
  have hki : (k : Int) < (l.length : Int) := by omega
  clear hO
  unfold HC.more
  generalize l.set k _ = l' at *
  generalize l[k].ref = rf at *
  go_enter Try.func45, Try.ntmps45
  go_wp2_with fail
  go_end0
  exact ⟨rfl, HO.out, grown_set _ _ _ _⟩
set_option maxRecDepth 100000 in
set_option maxHeartbeats 800000 in
theorem hpSettle_at (v : World) (g cap k : Nat) (l : List HC) (n : Nat) (w : World) (hn : n = l.length) (hk : k < l.length) (hO : Own v w g cap l) :
    Calls Try.prog 53 #[.slice (some ⟨g, 0, none⟩) n cap, .int .i64 k] w fun e w' => e = .returned (.tuple #[]) ∧ Own v w' g cap (l.set k (stC l[k])) ∧ w.grownBy w' (some g) := by
  subst hn
  obtain ⟨A, c, r0, r1, r2, r3, _⟩ := hO.cell hk
  have f0 := hO.free (k * 4 + 1)
  have HO := Lib.hid (hO.pin hk false)
  have hki : (k : Int) < (l.length : Int) := by omega
  clear hO
  unfold stC
  generalize l.set k _ = l' at *
  generalize l[k].pin = pn at *
  go_enter Try.func53, Try.ntmps53
  go_wp2_with fail
  go_end0
  exact ⟨rfl, HO.out, grown_set _ _ _ _⟩
end Go.Proofs.Ytclpeeemnmhdcaa
