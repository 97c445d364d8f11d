/- Heaps as plain lists of cells; where they lie. No program in sight. Walks of Used, In, Free, Fits and Small of the reference. Walks of leads, places, cell and Right of the reference. Walks of Right and May of the reference. Walks of set, more and Hold of the reference. Walks of Same, New and Settle of the reference. -/
import Derived.Test.YtjbfopnkeclfgaaGreatK05
import Derived.Deep.AppendLies
import Derived.Deep.RegionHeld3
import Derived.Deep.DeepCutAuto
import Derived.Deep.DrawnRows
import Derived.RegionTactic
import Derived.StillTailTactics
namespace Go.Proofs.YtjbfopnkeclfgaaGreat
set_option maxRecDepth 20000
open Go.RowKit

/-- A cell: how many refer to it, whether it waits, and its node. -/
structure HC where
  ref : Int
  pin : Bool
  leaf : Bool
  it : List It
deriving DecidableEq
/-- A heap: its cells, and how many are kept. -/
structure Hp where
  c : List HC
  keep : Int
deriving DecidableEq
def HC.none : HC := ⟨0, false, false, []⟩
/-- Values that are cells. -/
def HcAt (w : World) (cs : List Value) (l : List HC) : Prop := cs.length = l.length * 4 ∧ ∀ i (h : i < l.length), ∃ A c, cs[i * 4]? = some (.int .i64 l[i].ref) ∧ cs[i * 4 + 1]? = some (.bool l[i].pin) ∧ cs[i * 4 + 2]? = some (.bool l[i].leaf) ∧ cs[i * 4 + 3]? = some (.slice A l[i].it.length c) ∧ Sl w A l[i].it.length c (ivs l[i].it)
theorem HcAt.ext {w w' : World} {cs : List Value} {l : List HC} (h : HcAt w cs l) (hx : Ext w w') : HcAt w' cs l :=
  ⟨h.1, fun i hi => by obtain ⟨A, c, h1, h2, h3, h4, h5⟩ := h.2 i hi; exact ⟨A, c, h1, h2, h3, h4, h5.ext hx⟩⟩
theorem HcAt.nil (w : World) : HcAt w [] [] := ⟨rfl, fun i hi => by simp at hi⟩
theorem HcAt.one {w : World} {A : Option Addr} {c : Nat} (x : HC) (h : Sl w A x.it.length c (ivs x.it)) : HcAt w [.int .i64 x.ref, .bool x.pin, .bool x.leaf, .slice A x.it.length c] [x] :=
  ⟨rfl, fun i hi => by
    have : i = 0 := by simpa using hi
    subst this
    exact ⟨A, c, rfl, rfl, rfl, rfl, h⟩⟩
theorem HcAt.app {w : World} {cs ds : List Value} {l m : List HC} (h : HcAt w cs l) (k : HcAt w ds m) : HcAt w (cs ++ ds) (l ++ m) := by
  refine ⟨by rw [List.length_append, List.length_append, h.1, k.1]; omega, fun i hi => ?_⟩
  rcases Nat.lt_or_ge i l.length with h1 | h1
  · obtain ⟨A, c, e1, e2, e3, e4, hs⟩ := h.2 i h1
    have hl := h.1
    rw [List.getElem_append_left h1]
    exact ⟨A, c, by rw [List.getElem?_append_left (by omega)]; exact e1, by rw [List.getElem?_append_left (by omega)]; exact e2, by rw [List.getElem?_append_left (by omega)]; exact e3, by rw [List.getElem?_append_left (by omega)]; exact e4, hs⟩
  · obtain ⟨A, c, e1, e2, e3, e4, hs⟩ := k.2 (i - l.length) (by rw [List.length_append] at hi; omega)
    have hl := h.1
    rw [List.getElem_append_right h1]
    exact ⟨A, c, by rw [List.getElem?_append_right (by omega), show i * 4 - cs.length = (i - l.length) * 4 by omega]; exact e1, by rw [List.getElem?_append_right (by omega), show i * 4 + 1 - cs.length = (i - l.length) * 4 + 1 by omega]; exact e2, by rw [List.getElem?_append_right (by omega), show i * 4 + 2 - cs.length = (i - l.length) * 4 + 2 by omega]; exact e3, by rw [List.getElem?_append_right (by omega), show i * 4 + 3 - cs.length = (i - l.length) * 4 + 3 by omega]; exact e4, hs⟩
theorem hc_one {w : World} {cs : List Value} {l : List HC} (h : HcAt w cs l) : ∀ u ∈ cs, u.oneCell' = true := fun u hu => by
  obtain ⟨i, hi, rfl⟩ := List.mem_iff_getElem.1 hu
  have hl := h.1
  obtain ⟨A, c, e1, e2, e3, e4, _⟩ := h.2 (i / 4) (by omega)
  have hm : i = i / 4 * 4 ∨ i = i / 4 * 4 + 1 ∨ i = i / 4 * 4 + 2 ∨ i = i / 4 * 4 + 3 := by omega
  have he := List.getElem?_eq_getElem hi
  rcases hm with hm | hm | hm | hm
  · rw [← hm, he] at e1; have e := Option.some.inj e1; rw [e]; rfl
  · rw [← hm, he] at e2; have e := Option.some.inj e2; rw [e]; rfl
  · rw [← hm, he] at e3; have e := Option.some.inj e3; rw [e]; rfl
  · rw [← hm, he] at e4; have e := Option.some.inj e4; rw [e]; rfl
theorem HcAt.set {w : World} {cs : List Value} {l : List HC} (h : HcAt w cs l) {p : Nat} (hp : p < l.length) (x : HC) {A : Option Addr} {c : Nat} (hs : Sl w A x.it.length c (ivs x.it)) :
    HcAt w ((((cs.set (p * 4) (.int .i64 x.ref)).set (p * 4 + 1) (.bool x.pin)).set (p * 4 + 2) (.bool x.leaf)).set (p * 4 + 3) (.slice A x.it.length c)) (l.set p x) := by
  have hl := h.1
  refine ⟨by simp [hl], fun i hi => ?_⟩
  rw [List.length_set] at hi
  by_cases hip : p = i
  · subst hip
    rw [List.getElem_set_self]
    refine ⟨A, c, ?_, ?_, ?_, ?_, hs⟩ <;> simp [List.getElem?_set] <;> omega
  · rw [List.getElem_set_ne hip]
    obtain ⟨B, d, e1, e2, e3, e4, h5⟩ := h.2 i hi
    refine ⟨B, d, ?_, ?_, ?_, ?_, h5⟩
    · rw [List.getElem?_set_ne (by omega), List.getElem?_set_ne (by omega), List.getElem?_set_ne (by omega), List.getElem?_set_ne (by omega)]; exact e1
    · rw [List.getElem?_set_ne (by omega), List.getElem?_set_ne (by omega), List.getElem?_set_ne (by omega), List.getElem?_set_ne (by omega)]; exact e2
    · rw [List.getElem?_set_ne (by omega), List.getElem?_set_ne (by omega), List.getElem?_set_ne (by omega), List.getElem?_set_ne (by omega)]; exact e3
    · rw [List.getElem?_set_ne (by omega), List.getElem?_set_ne (by omega), List.getElem?_set_ne (by omega), List.getElem?_set_ne (by omega)]; exact e4
/-- A slice of cells. -/
def HcSl (w : World) (R : Option Addr) (m q : Nat) (l : List HC) : Prop := m = l.length ∧ ∃ cs, Sl w R m q cs ∧ HcAt w cs l
theorem HcSl.ext {w w' : World} {R : Option Addr} {m q : Nat} {l : List HC} (h : HcSl w R m q l) (hx : Ext w w') : HcSl w' R m q l := by
  obtain ⟨h1, cs, h2, h3⟩ := h
  exact ⟨h1, cs, h2.ext hx, h3.ext hx⟩
/-- Where a cell stands. -/
theorem HcSl.cell {w : World} {R : Option Addr} {m q : Nat} {l : List HC} (h : HcSl w R m q l) {k : Nat} (hk : k < l.length) :
    ∃ b off, R = some ⟨b, off, none⟩ ∧ b < w.heap.size ∧ ∃ A c, w.cell? ⟨b, off + k * 4, none⟩ = some (.int .i64 l[k].ref) ∧ w.cell? ⟨b, off + k * 4 + 1, none⟩ = some (.bool l[k].pin) ∧ w.cell? ⟨b, off + k * 4 + 2, none⟩ = some (.bool l[k].leaf) ∧ w.cell? ⟨b, off + k * 4 + 3, none⟩ = some (.slice A l[k].it.length c) ∧ Sl w A l[k].it.length c (ivs l[k].it) := by
  obtain ⟨h1, cs, h2, h3⟩ := h
  obtain ⟨A, c, e1, e2, e3, e4, h5⟩ := h3.2 k hk
  have hne : cs ≠ [] := by intro e; subst e; simp at e1
  obtain ⟨b, off, rfl, hb, hc⟩ := h2.cells hne
  exact ⟨b, off, rfl, hb, A, c, hc _ _ e1, by rw [Nat.add_assoc]; exact hc _ _ e2, by rw [Nat.add_assoc]; exact hc _ _ e3, by rw [Nat.add_assoc]; exact hc _ _ e4, h5⟩
/-- Rows of items, and of cells, lie in no box of a slice and a number. -/
theorem no_box {w : World} {b off k : Nat} {A1 : Option Addr} {n1 c1 : Nat} {z : Int} (hb : Bx w k #[.slice A1 n1 c1, .int .i64 z]) {r : Int} {u : Value} (h0 : w.cell? ⟨b, off, none⟩ = some (.int .i64 r)) (h1 : w.cell? ⟨b, off + 1, none⟩ = some u) : k ≠ b := fun e => by
  subst e
  obtain ⟨t, hb⟩ := hb
  unfold World.cell? at h0 h1
  rw [show w.heap[(⟨k, off, none⟩ : Addr).block]? = _ from hb] at h0
  rw [show w.heap[(⟨k, off + 1, none⟩ : Addr).block]? = _ from hb] at h1
  match off, h0, h1 with
  | 0, h0, _ => simp at h0
  | 1, _, h1 => simp at h1
  | n + 2, h0, _ => simp at h0
theorem Sl.boxed2 {w : World} {A : Option Addr} {n c : Nat} {l : List It} (h : Sl w A n c (ivs l)) {k : Nat} {A1 : Option Addr} {n1 c1 : Nat} {z : Int} (hb : Bx w k #[.slice A1 n1 c1, .int .i64 z]) (x y : Value) :
    Sl ((w.setCell ⟨k, 0, none⟩ x).setCell ⟨k, 1, none⟩ y) A n c (ivs l) := by
  refine h.grown (grown_store2 w k x y) (fun hx p hp e => ?_)
  obtain ⟨b, off, e', hlt, hc⟩ := h.cells hx
  rw [hp] at e'
  cases e'
  cases l with
  | nil => exact hx rfl
  | cons u r =>
    have h0 := hc 0 _ rfl
    have h1 := hc 1 _ rfl
    rw [Nat.add_zero] at h0
    exact no_box hb h0 h1 (Option.some.inj e)
theorem HcSl.boxed2 {w : World} {R : Option Addr} {m q : Nat} {l : List HC} (h : HcSl w R m q l) {k : Nat} {A1 : Option Addr} {n1 c1 : Nat} {z : Int} (hb : Bx w k #[.slice A1 n1 c1, .int .i64 z]) (x y : Value) :
    HcSl ((w.setCell ⟨k, 0, none⟩ x).setCell ⟨k, 1, none⟩ y) R m q l := by
  obtain ⟨h1, cs, h2, h3⟩ := h
  refine ⟨h1, cs, ?_, h3.1, fun i hi => ?_⟩
  · refine h2.grown (grown_store2 w k x y) (fun hx p hp e => ?_)
    obtain ⟨b, off, e', hlt, hc⟩ := h2.cells hx
    rw [hp] at e'
    cases e'
    have hl := h3.1
    have hpos : 0 < l.length := by
      rcases Nat.eq_zero_or_pos l.length with h0 | h0
      · rw [h0] at hl; exact absurd (List.eq_nil_of_length_eq_zero hl) hx
      · exact h0
    obtain ⟨A, c, e1, e2, _⟩ := h3.2 0 hpos
    have g0 := hc _ _ e1
    have g1 := hc _ _ e2
    simp only [Nat.zero_mul, Nat.add_zero, Nat.zero_add] at g0 g1
    exact no_box hb g0 g1 (Option.some.inj e)
  · obtain ⟨A, c, e1, e2, e3, e4, h5⟩ := h3.2 i hi
    exact ⟨A, c, e1, e2, e3, e4, h5.boxed2 hb x y⟩
/-- A row of the call's own, with one of its cells written. -/
theorem own_set {w : World} {B e s n g cap : Nat} {xs : List Value} (h : w.ownsRow B e s (.slice (some ⟨g, 0, none⟩) n cap) n xs) {j : Nat} (_hj : j < n * s) (u : Value) :
    (w.setCell ⟨g, j, none⟩ u).ownsRow B e s (.slice (some ⟨g, 0, none⟩) n cap) n (xs.set j u) := by
  refine ⟨by rw [List.length_set]; exact h.1, ?_⟩
  rcases h.2 with ⟨e0, _⟩ | ⟨g', cap', cur, e0, hg, hh, hnc, hcm, hsz, ht⟩
  · cases e0
  · cases e0
    refine .inr ⟨g, cap, _, rfl, hg, heap_setCell_same w g j cur e u hh, hnc, hcm, by simp [hsz], ?_⟩
    rw [Array.toList_setIfInBounds, List.take_set, ht]
theorem own_free {w : World} {B e s n g cap : Nat} {xs : List Value} (h : w.ownsRow B e s (.slice (some ⟨g, 0, none⟩) n cap) n xs) (j : Nat) : w.frozen? ⟨g, j, none⟩ = false := by
  rcases h.2 with ⟨e0, _⟩ | ⟨g', cap', cur, e0, hg, hh, _⟩
  · cases e0
  · cases e0
    exact Bx.free ⟨_, hh⟩ j
/-- A row of the call's own, with a whole cell of the heap written. -/
theorem own_hc {w : World} {B e g n cap : Nat} {cs : List Value} (h : w.ownsRow B e 4 (.slice (some ⟨g, 0, none⟩) n cap) n cs) {p : Nat} (hp : p < n) (a b c d : Value) :
    ((((w.setCell ⟨g, p * 4, none⟩ a).setCell ⟨g, p * 4 + 1, none⟩ b).setCell ⟨g, p * 4 + 2, none⟩ c).setCell ⟨g, p * 4 + 3, none⟩ d).ownsRow B e 4 (.slice (some ⟨g, 0, none⟩) n cap) n ((((cs.set (p * 4) a).set (p * 4 + 1) b).set (p * 4 + 2) c).set (p * 4 + 3) d) :=
  own_set (own_set (own_set (own_set h (by omega) a) (by omega) b) (by omega) c) (by omega) d

/-- P5.1 to P5.4, on plain lists. -/
def usedC (l : List HC) (p : Int) : Bool := decide (0 ≤ p) && (decide (p < l.length) && decide (0 < (l.getD p.toNat HC.none).ref))
abbrev usedH (h : Hp) (p : Int) : Bool := usedC h.c p
def placesC (n : Nat) (leaf : Bool) (it : List It) : Bool := leaf || it.all (fun x => decide (0 ≤ x.2) && decide (x.2 < n))
def cellR (n : Nat) (c : HC) : Bool := if c.ref = 0 then !c.leaf && decide (c.it.length = 0) else decide (0 < c.ref) && (decide (c.ref ≤ 2147483647) && (!c.pin && (ndR c.it && placesC n c.leaf c.it)))
def rightH (h : Hp) : Bool := decide ((1 ≤ h.c.length ∧ h.c.length ≤ 2000) ∧ (0 ≤ h.keep ∧ h.keep ≤ h.c.length)) && h.c.all (cellR h.c.length)
theorem usedC_neg {l : List HC} {p : Int} (h : p < 0) : usedC l p = false := by unfold usedC; rw [decide_eq_false (by omega)]; rfl
theorem usedC_big {l : List HC} {p : Int} (h : (l.length : Int) ≤ p) : usedC l p = false := by unfold usedC; rw [decide_eq_false (show ¬ p < l.length by omega)]; simp
theorem usedC_at {l : List HC} {k : Nat} (h : k < l.length) : usedC l (k : Int) = decide (0 < l[k].ref) := by
  unfold usedC
  rw [decide_eq_true (show (0 : Int) ≤ k by omega), decide_eq_true (show (k : Int) < l.length by omega), Int.toNat_natCast, List.getD_eq_getElem?_getD, List.getElem?_eq_getElem h]
  rfl
theorem usedC_iff {l : List HC} {p : Int} (h : usedC l p = true) : ∃ k : Nat, ∃ hk : k < l.length, p = (k : Int) ∧ 0 < l[k].ref := by
  rcases Int.lt_or_le p 0 with h0 | h0
  · rw [usedC_neg h0] at h; cases h
  rcases Int.lt_or_le p l.length with h1 | h1
  · obtain ⟨k, rfl⟩ := Int.eq_ofNat_of_zero_le h0
    have hk : k < l.length := by omega
    rw [usedC_at hk] at h
    exact ⟨k, hk, rfl, by simpa using h⟩
  · rw [usedC_big h1] at h; cases h
/-- Numbers as values; is one among them? -/
def iv (x : Int) : Value := .int .i64 x
theorem Cells.num {w : World} {A : Option Addr} {l : List Int} (h : Cells w A (l.map iv)) {k : Nat} (hk : k < l.length) :
    ∃ b off, A = some ⟨b, off, none⟩ ∧ b < w.heap.size ∧ ∀ j (hj : j < l.length), w.cell? ⟨b, off + j, none⟩ = some (.int .i64 l[j]) := by
  obtain ⟨b, off, rfl, hlt, hc⟩ := h (by intro e; rw [List.map_eq_nil_iff] at e; subst e; simp at hk)
  exact ⟨b, off, rfl, hlt, fun j hj => hc j _ (by simp [hj, iv])⟩
/-- One Ref more. -/
def HC.more (x : HC) : HC := ⟨x.ref + 1, x.pin, x.leaf, x.it⟩
def settleH (h : Hp) : Hp := ⟨h.c.map (fun c => ⟨c.ref, false, c.leaf, c.it⟩), h.keep⟩
def smallH (h : Hp) (most : Int) : Bool := decide ((h.c.length : Int) ≤ most) && h.c.all (fun c => decide (c.it.length ≤ 10) && decide (c.ref ≤ 1000000))
/-- A value that is a heap. -/
def IsHeap (w : World) (v : Value) (h : Hp) : Prop := ∃ R q, v = .agg #[.slice R h.c.length q, .int .i64 h.keep] ∧ HcSl w R h.c.length q h.c
theorem IsHeap.ext {w w' : World} {v : Value} {h : Hp} (k : IsHeap w v h) (hx : Ext w w') : IsHeap w' v h := by
  obtain ⟨R, q, e, h1⟩ := k
  exact ⟨R, q, e, h1.ext hx⟩
end Go.Proofs.YtjbfopnkeclfgaaGreat
namespace Go.Proofs.YtjbfopnkeclfgaaGreat
set_option maxRecDepth 20000
open Go.RowKit
attribute [local go_sem ↓] Go.wp_at_zero Go.wp_at_succ

end Go.Proofs.YtjbfopnkeclfgaaGreat
namespace Go.Proofs.YtjbfopnkeclfgaaGreat
set_option maxRecDepth 20000
open Go.RowKit
attribute [local go_sem ↓] Go.wp_at_zero Go.wp_at_succ

theorem Bx.read4 {w : World} {k : Nat} {a b c d : Value} (h : Bx w k #[a, b, c, d]) : w.cell? ⟨k, 0, none⟩ = some a ∧ w.cell? ⟨k, 1, none⟩ = some b ∧ w.cell? ⟨k, 2, none⟩ = some c ∧ w.cell? ⟨k, 3, none⟩ = some d :=
  ⟨h.at 0 _ rfl, h.at 1 _ rfl, h.at 2 _ rfl, h.at 3 _ rfl⟩
end Go.Proofs.YtjbfopnkeclfgaaGreat
namespace Go.Proofs.YtjbfopnkeclfgaaGreat
set_option maxRecDepth 20000
open Go.RowKit
attribute [local go_sem ↓] Go.wp_at_zero Go.wp_at_succ

theorem rightH_no {l : List HC} {keep : Int} (h : ¬ ((1 ≤ l.length ∧ l.length ≤ 2000) ∧ (0 ≤ keep ∧ keep ≤ l.length))) : rightH ⟨l, keep⟩ = false := by
  unfold rightH; simp only; rw [decide_eq_false h]; rfl
theorem rightH_bad {l : List HC} {keep : Int} {k : Nat} (hk : k < l.length) (h : cellR l.length l[k] = false) : rightH ⟨l, keep⟩ = false := by
  unfold rightH; simp only
  rw [show l.all (cellR l.length) = false from by rw [List.all_eq_false]; exact ⟨l[k], List.getElem_mem hk, by simp [h]⟩]
  simp
theorem rightH_yes {l : List HC} {keep : Int} (h : (1 ≤ l.length ∧ l.length ≤ 2000) ∧ (0 ≤ keep ∧ keep ≤ l.length)) (h2 : ∀ k (hk : k < l.length), cellR l.length l[k] = true) : rightH ⟨l, keep⟩ = true := by
  unfold rightH; simp only
  rw [decide_eq_true h, show l.all (cellR l.length) = true from by
    rw [List.all_eq_true]; intro x hx
    obtain ⟨j, hj, rfl⟩ := List.mem_iff_getElem.1 hx
    exact h2 j hj]
  rfl
end Go.Proofs.YtjbfopnkeclfgaaGreat
namespace Go.Proofs.YtjbfopnkeclfgaaGreat
set_option maxRecDepth 20000
open Go.RowKit
attribute [local go_sem ↓] Go.wp_at_zero Go.wp_at_succ

theorem infoHc : (Tryz.prog.info? 61).map (fun i => (i.zero, i.size, i.bytes)) = some (some (.agg #[.int .i64 0, .bool false, .bool false, .slice none 0 0]), 4, 48) := by kernel_rfl
/-- append of cells onto a row of the call's own. -/
theorem app_hcs (w : World) {ops : Array Oper} {rest : List Oper} {o : Oper} {a : Act} {Q : Exit → Act → World → Prop} (hgd : o.guard = none) (s x : Operand)
    (ho : o.op = .call { callee := .builtin .append, args := #[s, x], argTypes := #[28, 28] })
    (B : Nat) (v : Value) (n : Nat) (xs : List Value) (hs : a.eval s = v) (hown : w.ownsRow B 61 4 v n xs)
    (A : Option Addr) (m c : Nat) (ys : List Value) (hx : a.eval x = .slice A m c) (hl : ys.length = m * 4) (hS : Sl w A m c ys) (h1 : ∀ u ∈ ys, u.oneCell' = true)
    (hsz : n + m ≤ 100000) (hB : B ≤ w.heap.size)
    (h : ∀ A' c' w', w'.ownsRow B 61 4 (.slice A' (n + m) c') (n + m) (xs ++ ys) → w.grownBy w' v.ownBlock → wpList Tryz.prog ops Q rest (a.put o.dst (.slice A' (n + m) c')) w') : wpList Tryz.prog ops Q (o :: rest) a w :=
  wpList_app_sl w hgd s x 28 ho B 61 (.agg #[.int .i64 0, .bool false, .bool false, .slice none 0 0]) 4 48 Tryz.underlying28 infoHc rfl (by omega) v n xs hs hown A m c ys hx hl hS h1 (by unfold maxLen; omega) (by omega) hB h

theorem own_hc_read {w : World} {B e g n cap : Nat} {cs : List Value} {l : List HC} (h : w.ownsRow B e 4 (.slice (some ⟨g, 0, none⟩) n cap) n cs) (hn : n = l.length) {w0 : World} (ha : HcAt w0 cs l) {k : Nat} (hk : k < n) :
    ∃ a b c d, w.cell? ⟨g, k * 4, none⟩ = some a ∧ w.cell? ⟨g, k * 4 + 1, none⟩ = some b ∧ w.cell? ⟨g, k * 4 + 2, none⟩ = some c ∧ w.cell? ⟨g, k * 4 + 3, none⟩ = some d := by
  obtain ⟨A, c, e1, e2, e3, e4, _⟩ := ha.2 k (by omega)
  have hl := h.1
  exact ⟨_, _, _, _, (h.cellAt (k * 4) (by omega)).trans e1, (h.cellAt (k * 4 + 1) (by omega)).trans e2, (h.cellAt (k * 4 + 2) (by omega)).trans e3, (h.cellAt (k * 4 + 3) (by omega)).trans e4⟩
set_option maxRecDepth 100000 in
set_option maxHeartbeats 1600000 in
theorem ref05set_any (R : Option Addr) (l : List HC) (n q k : Nat) (keep : Int) (x : HC) (A : Option Addr) (m c : Nat) (w : World) (hk : k < n) (hb : n ≤ 90000) (hA : HcSl w R n q l) (hm : m = x.it.length) (hI : Sl w A m c (ivs x.it)) :
    Calls Tryz.prog 137 #[.agg #[.slice R n q, .int .i64 keep], .int .i64 k, .agg #[.int .i64 x.ref, .bool x.pin, .bool x.leaf, .slice A m c]] w fun e w' => ∃ S d, e = .returned (.agg #[.slice S n d, .int .i64 keep]) ∧ HcSl w' S n d (l.set k x) ∧ Ext w w' := by
  obtain ⟨hn, cs, hsl, hat⟩ := hA
  have HX3 := Lib.hid ((((Ext.refl w).alloc (.cells #[.slice R n q, .int .i64 keep] 30)).alloc (.cells #[.int .i64 x.ref, .bool x.pin, .bool x.leaf, .slice A m c] 61)).alloc (.cells #[.slice none 0 0, .int .i64 0] 30))
  obtain ⟨W, hW⟩ : ∃ W, W = ((w.alloc (.cells #[.slice R n q, .int .i64 keep] 30)).alloc (.cells #[.int .i64 x.ref, .bool x.pin, .bool x.leaf, .slice A m c] 61)).alloc (.cells #[.slice none 0 0, .int .i64 0] 30) := ⟨_, rfl⟩
  obtain ⟨_, hb0, hb1, hb2⟩ := allocs3 hW.symm
  have hsz : W.heap.size = w.heap.size + 1 + 1 + 1 := by rw [hW]; simp
  rw [← hW] at HX3
  have HB0 := Lib.hid hb0
  have HB1 := Lib.hid hb1
  have HB2 := Lib.hid hb2
  have HSZ := Lib.hid hsz
  have HN := Lib.hid hn
  have HAT := Lib.hid hat
  have HSL := Lib.hid hsl
  have HSET := Lib.hid (hat.set (p := k) (by omega) x (A := A) (c := c) (by rw [← hm]; exact hI))
  rw [← hm] at HSET
  have h1 := hc_one hat
  have H1 := Lib.hid h1
  have hcl := hat.1
  have HCL := Lib.hid hcl
  obtain ⟨rf, pn, lf, it⟩ := x
  simp only at HB1 HSET ⊢
  clear hb0 hb1 hb2 hsz hn hat hsl h1 hcl hm hI
  obtain ⟨p0, p1, p2⟩ := HB0.out.read2
  subst hW
  go_enter Tryz.func137, Tryz.ntmps137
  go_wp2_with (at_builtin; refine stop_here ?_)
  refine stop_on ?_
  generalize hW : World.alloc (World.alloc (World.alloc w _) _) _ = W at *
  clear hW
  have hoe := own_empty W 61 4
  rw [HSZ.out] at hoe
  refine app_hcs _ rfl _ _ rfl (w.heap.size + 1 + 1 + 1) _ 0 [] rfl hoe R n q cs rfl (by rw [HCL.out, ← HN.out]) (HSL.out.ext (HX3.out.alloc _)) H1.out (by omega) (by have := HSZ.out; simp; omega) ?_
  clear hoe
  intro A1 c1 w1 hown hg
  rw [List.nil_append, Nat.zero_add] at hown
  rw [Nat.zero_add]
  have HX1 := Lib.hid (show Ext W w1 from Below.grown ((Ext.refl W).alloc _) hg (by simp) (by intro q hq; cases hq; exact Nat.le_of_eq HSZ.out))
  obtain ⟨g, rfl, hgB⟩ := own_some hown (by omega)
  have HO1 := Lib.hid hown
  clear hown hg p0 p1 p2
  obtain ⟨p0, p1, p2⟩ := (HB0.out.ext HX1.out).read2
  obtain ⟨q0, q1, q2, q3⟩ := (HB1.out.ext HX1.out).read4
  have q4 := (HB1.out.ext HX1.out).lt
  obtain ⟨v0, v1, v2, v3, z0, z1, z2, z3⟩ := own_hc_read HO1.out HN.out HAT.out hk
  have f0 := own_free HO1.out (k * 4)
  have f1 := own_free HO1.out (k * 4 + 1)
  have f2 := own_free HO1.out (k * 4 + 2)
  have f3 := own_free HO1.out (k * 4 + 3)
  have hki : (k : Int) < (n : Int) := by omega
  have hne : ¬ g = w.heap.size := by omega
  have hne1 : ¬ g = w.heap.size + 1 := by omega
  have hne2 : ¬ w.heap.size = g := by omega
  have hne3 : ¬ w.heap.size + 1 = g := by omega
  have hne4 : ¬ w.heap.size + 1 + 1 = g := by omega
  have hne5 : ¬ g = w.heap.size + 1 + 1 := by omega
  obtain ⟨t0, t1, t2⟩ := (HB2.out.ext HX1.out).read2
  obtain ⟨y0, y1⟩ := (HB2.out.ext HX1.out).free2
  go_wp2_with fail
  have HXA := Lib.hid (HX3.out.trans HX1.out)
  have hgw : w.heap.size ≤ g := by omega
  have HO5 := Lib.hid (own_hc HO1.out hk (.int .i64 rf) (.bool pn) (.bool lf) (.slice A m c))
  have HX5 := Lib.hid ((((HXA.out.set (p := ⟨g, k * 4, none⟩) hgw (.int .i64 rf)).set (p := ⟨g, k * 4 + 1, none⟩) hgw (.bool pn)).set (p := ⟨g, k * 4 + 2, none⟩) hgw (.bool lf)).set (p := ⟨g, k * 4 + 3, none⟩) hgw (.slice A m c))
  have HB5 := Lib.hid (((((HB2.out.ext HX1.out).set_other (p := ⟨g, k * 4, none⟩) hne5 (.int .i64 rf)).set_other (p := ⟨g, k * 4 + 1, none⟩) hne5 (.bool pn)).set_other (p := ⟨g, k * 4 + 2, none⟩) hne5 (.bool lf)).set_other (p := ⟨g, k * 4 + 3, none⟩) hne5 (.slice A m c))
  clear p0 p1 p2 q0 q1 q2 q3 q4 z0 z1 z2 z3 f0 f1 f2 f3 t0 t1 t2 y0 y1
  generalize World.setCell (World.setCell (World.setCell (World.setCell w1 _ _) _ _) _ _) _ _ = w5 at *
  refine ret2_cell (k := w.heap.size + 1 + 1) (x := .slice (some ⟨g, 0, none⟩) n c1) (y := .int .i64 keep) (v := .agg #[.slice (some ⟨g, 0, none⟩) n c1, .int .i64 keep]) ?hb3 (fun r0 r1 => by simp [results, Tryz.results137, go_sem, r0, r1]) rfl ?hx3
  case hb3 => exact HB5.out.set2 _ _
  case hx3 =>
    have hx6 := (HX5.out.set (p := ⟨w.heap.size + 1 + 1, 0, none⟩) (by simp; omega) (.slice (some ⟨g, 0, none⟩) n c1)).set (p := ⟨w.heap.size + 1 + 1, 1, none⟩) (by simp; omega) (.int .i64 keep)
    refine ⟨_, _, rfl, ⟨by rw [List.length_set]; exact HN.out, _, own_sl (ownsRow_setCell_other (ownsRow_setCell_other HO5.out (a := ⟨w.heap.size + 1 + 1, 0, none⟩) ?_ _) (a := ⟨w.heap.size + 1 + 1, 1, none⟩) ?_ _), HSET.out.ext hx6⟩, hx6⟩
    · simp [Value.ownBlock, hne5]
    · simp [Value.ownBlock, hne5]

end Go.Proofs.YtjbfopnkeclfgaaGreat
namespace Go.Proofs.YtjbfopnkeclfgaaGreat
set_option maxRecDepth 20000
open Go.RowKit
attribute [local go_sem ↓] Go.wp_at_zero Go.wp_at_succ

def sameH (a b : Hp) : Bool := decide (a = b)
theorem sameN_iff {f g : Bool} {a b : List It} : sameN f a g b = true ↔ f = g ∧ a = b := by unfold sameN sameI; simp
theorem hc_same {x y : HC} (h1 : sameN x.leaf x.it y.leaf y.it = true) (h2 : x.ref = y.ref) (h3 : x.pin = y.pin) : x = y := by
  obtain ⟨e1, e2⟩ := sameN_iff.1 h1
  cases x; cases y; simp_all
theorem hc_node {x y : HC} (h1 : sameN x.leaf x.it y.leaf y.it = false) : x ≠ y := fun e => by
  subst e; unfold sameN sameI at h1; simp at h1
set_option maxRecDepth 100000 in
set_option maxHeartbeats 3200000 in
theorem ref05Same_any (R S : Option Addr) (a b : List HC) (n m q q' : Nat) (ka kb : Int) (w : World) (hA : HcSl w R n q a) (hB : HcSl w S m q' b) :
    Calls Tryz.prog 22 #[.agg #[.slice R n q, .int .i64 ka], .agg #[.slice S m q', .int .i64 kb]] w fun e w' => e = .returned (.bool (sameH ⟨a, ka⟩ ⟨b, kb⟩)) ∧ Ext w w' := by
  have hn := hA.1
  have hm := hB.1
  have hml : n ≤ maxLen := by obtain ⟨_, cs, h, _⟩ := hA; exact h.len
  unfold maxLen at hml
  obtain ⟨W, hW⟩ : ∃ W, W = (w.alloc (.cells #[.slice R n q, .int .i64 ka] 30)).alloc (.cells #[.slice S m q', .int .i64 kb] 30) := ⟨_, rfl⟩
  obtain ⟨hx, hb0, hb1⟩ := allocs2 hW.symm
  have HX := Lib.hid hx
  have HB0 := Lib.hid hb0
  have HB1 := Lib.hid hb1
  have HA := Lib.hid (hA.ext hx)
  have HB := Lib.hid (hB.ext hx)
  have HNA := Lib.hid hn
  have HNB := Lib.hid hm
  obtain ⟨p0, p1, p2⟩ := hb0.read2
  obtain ⟨q0, q1, q2⟩ := hb1.read2
  clear hx hb0 hb1 hA hB hn hm
  by_cases hk : ka = kb
  rotate_left
  · have HE := Lib.hid (show sameH ⟨a, ka⟩ ⟨b, kb⟩ = false from decide_eq_false (fun e => hk (congrArg Hp.keep e)))
    have e1 : (ka != kb) = true := bne_iff_ne.2 hk
    clear hk
    subst hW
    go_enter Tryz.func22, Tryz.ntmps22
    go_wp2_with fail
    go_ret
    exact ⟨ret_bool HE.out.symm, HX.out⟩
  subst hk
  by_cases hl : n = m
  rotate_left
  · have HE := Lib.hid (show sameH ⟨a, ka⟩ ⟨b, ka⟩ = false from decide_eq_false (fun e => hl (by rw [HNA.out, HNB.out, show a = b from congrArg Hp.c e])))
    have e2 : ((n : Int) != (m : Int)) = true := bne_iff_ne.2 (by omega)
    clear hl
    subst hW
    go_enter Tryz.func22, Tryz.ntmps22
    go_wp2_with fail
    go_ret
    exact ⟨ret_bool HE.out.symm, HX.out⟩
  subst hl
  have HLL := Lib.hid (show a.length = b.length by rw [← HNA.out, ← HNB.out])
  subst hW
  go_enter Tryz.func22, Tryz.ntmps22
  go_wp2_with fail
  generalize hW : World.alloc (World.alloc w _) _ = W at *
  clear hW
  go_loopw [5] (fun i wr => ∃ k : Nat, k ≤ n ∧ i = .int .i64 k ∧ Ext W wr ∧ a.take k = b.take k) (fun i _ => n - (intOf i).toNat)
  case atStart => exact ⟨0, Nat.zero_le _, rfl, Ext.refl _, rfl⟩
  case round =>
    obtain ⟨k, hk, rfl, hx, ht⟩ := hrel
    have HT := Lib.hid ht
    have HXR := Lib.hid hx
    clear ht p0 p1 p2 q0 q1 q2
    obtain ⟨p0, p1, p2⟩ := (HB0.out.ext hx).read2
    obtain ⟨q0, q1, q2⟩ := (HB1.out.ext hx).read2
    rcases Nat.lt_or_ge k n with hlt | hlt
    · have hka : k < a.length := by rw [← HNA.out]; exact hlt
      have hkb : k < b.length := by rw [← HNB.out]; exact hlt
      obtain ⟨ba, oa, rfl, hba, Aa, ca, r0, r1, r2, r3, hI⟩ := (HA.out.ext hx).cell hka
      obtain ⟨bb, ob, rfl, hbb, Ab, cb, s0, s1, s2, s3, hJ⟩ := (HB.out.ext hx).cell hkb
      have hki : (k : Int) < (n : Int) := by omega
      have HF := Lib.hid (ne_at (a := a) (b := b) k hka hkb)
      have HS := Lib.hid (eq_step (a := a) (b := b) k hka hkb HT.out)
      have HCX := Lib.hid (fun w' (hx : Ext wr w') => ref04Same_any a[k].leaf b[k].leaf Aa Ab a[k].it b[k].it a[k].it.length b[k].it.length ca cb w' rfl rfl (hI.ext hx) (hJ.ext hx))
      have HKA := Lib.hid (fun w' (hx : Ext wr w') => (show w'.cell? ⟨ba, oa + k * 4, none⟩ = some (.int .i64 a[k].ref) ∧ w'.cell? ⟨ba, oa + k * 4 + 1, none⟩ = some (.bool a[k].pin) from ⟨(hx.cell (p := ⟨ba, oa + k * 4, none⟩) hba).trans r0, (hx.cell (p := ⟨ba, oa + k * 4 + 1, none⟩) hba).trans r1⟩))
      have HKB := Lib.hid (fun w' (hx : Ext wr w') => (show w'.cell? ⟨bb, ob + k * 4, none⟩ = some (.int .i64 b[k].ref) ∧ w'.cell? ⟨bb, ob + k * 4 + 1, none⟩ = some (.bool b[k].pin) from ⟨(hx.cell (p := ⟨bb, ob + k * 4, none⟩) hbb).trans s0, (hx.cell (p := ⟨bb, ob + k * 4 + 1, none⟩) hbb).trans s1⟩))
      have HBB := Lib.hid (fun w' (hx : Ext wr w') => (show Bx w' w.heap.size #[.slice (some ⟨ba, oa, none⟩) n q, .int .i64 ka] ∧ Bx w' (w.heap.size + 1) #[.slice (some ⟨bb, ob, none⟩) n q', .int .i64 ka] from ⟨HB0.out.ext (HXR.out.trans hx), HB1.out.ext (HXR.out.trans hx)⟩))
      have HSM := Lib.hid (fun (h1 : sameN a[k].leaf a[k].it b[k].leaf b[k].it = true) (h2 : a[k].ref = b[k].ref) (h3 : a[k].pin = b[k].pin) => hc_same h1 h2 h3)
      have HN1 := Lib.hid (fun (h : sameN a[k].leaf a[k].it b[k].leaf b[k].it = false) => hc_node h)
      have HN2 := Lib.hid (fun (h : a[k].ref ≠ b[k].ref) => (show a[k] ≠ b[k] from fun e => h (congrArg HC.ref e)))
      have HN3 := Lib.hid (fun (h : a[k].pin ≠ b[k].pin) => (show a[k] ≠ b[k] from fun e => h (congrArg HC.pin e)))
      have HE0 := Lib.hid (fun (h : a ≠ b) => (show sameH ⟨a, ka⟩ ⟨b, ka⟩ = false from decide_eq_false (fun e => h (congrArg Hp.c e))))
      clear HT hI hJ hx r0 r1 s0 s1
      generalize a[k] = x at *
      generalize b[k] = y at *
      obtain ⟨u, hu⟩ : ∃ u, sameN x.leaf x.it y.leaf y.it = u := ⟨_, rfl⟩
      rw [hu] at HCX HSM HN1
      clear hu
      generalize x.leaf = lf at *
      generalize y.leaf = lf2 at *
      generalize x.it.length = m1 at *
      generalize y.it.length = m2 at *
      obtain ⟨rf, hrf⟩ : ∃ r, x.ref = r := ⟨_, rfl⟩
      obtain ⟨rf2, hrf2⟩ : ∃ r, y.ref = r := ⟨_, rfl⟩
      obtain ⟨pn, hpn⟩ : ∃ r, x.pin = r := ⟨_, rfl⟩
      obtain ⟨pn2, hpn2⟩ : ∃ r, y.pin = r := ⟨_, rfl⟩
      rw [hrf, hpn] at HKA
      rw [hrf2, hpn2] at HKB
      rw [hrf, hrf2] at HSM HN2
      rw [hpn, hpn2] at HSM HN3
      clear hrf hrf2 hpn hpn2
      go_wp2_with fail
      go_cut [6] from 28 to 41 (fun v wx => v = .bool u ∧ Ext wr wx)
      case first =>
        go_region_law
          (first
            | ((go_simp
                go_at_call 50
                refine (HCX.out _ ?_).mono ?_
                (first | exact (Ext.refl _).drew | exact Ext.refl _)
                rintro e w1 ⟨rfl, hx⟩
                have HX1 := Lib.hid (show Ext wr w1 from by first | exact (Ext.refl _).drew.trans hx | exact hx)
                clear hx)))
        all_goals
          go_wp2_with fail
          go_meet
          exact ⟨rfl, HX1.out⟩
      case rest =>
        obtain ⟨rfl, hx⟩ := hcut
        have HX1 := Lib.hid hx
        obtain ⟨k0, k1⟩ := HKA.out _ hx
        obtain ⟨k2, k3⟩ := HKB.out _ hx
        obtain ⟨g0, g1⟩ := HBB.out _ hx
        clear p0 p1 p2 q0 q1 q2 r2 r3 s2 s3 hx
        obtain ⟨p0, p1, p2⟩ := g0.read2
        obtain ⟨q0, q1, q2⟩ := g1.read2
        clear g0 g1
        cases u
        · have HE := Lib.hid (HE0.out (HF.out (HN1.out rfl)))
          go_wp2_with fail
          go_quiet (fail)
          go_wp2
          go_ret
          exact ⟨ret_bool HE.out.symm, HX.out.trans (HXR.out.trans (HX1.out.drewN _))⟩
        by_cases h1 : rf = rf2
        rotate_left
        · have HE := Lib.hid (HE0.out (HF.out (HN2.out h1)))
          have e3 : (rf != rf2) = true := bne_iff_ne.2 h1
          clear h1
          go_wp2_with fail
          go_quiet (fail)
          go_wp2
          go_ret
          exact ⟨ret_bool HE.out.symm, HX.out.trans (HXR.out.trans (HX1.out.drewN _))⟩
        subst h1
        by_cases h2 : pn = pn2
        rotate_left
        · have HE := Lib.hid (HE0.out (HF.out (HN3.out h2)))
          cases pn <;> cases pn2 <;> first | (exact absurd rfl h2) | skip
          all_goals
            clear h2
            go_wp2_with fail
            go_quiet (fail)
            go_wp2
            go_ret
            exact ⟨ret_bool HE.out.symm, HX.out.trans (HXR.out.trans (HX1.out.drewN _))⟩
        subst h2
        have HE := Lib.hid (HS.out (HSM.out rfl rfl rfl))
        cases pn
        all_goals
          go_wp2_with fail
          go_quiet (fail)
          go_wp2
          go_roundw
          case rel => exact ⟨k + 1, by omega, by go_num, HXR.out.trans (HX1.out.drewN _), HE.out⟩
          case measure => simp [intOf]; omega
    · obtain rfl : k = n := by omega
      have HE := Lib.hid (show a = b from by
        have h := HT.out
        rw [HNA.out] at h
        exact eq_end HLL.out h)
      have HE2 := Lib.hid (show sameH ⟨a, ka⟩ ⟨b, ka⟩ = true from decide_eq_true (by rw [HE.out]))
      clear hlt hx
      go_wp2_with fail
      go_ret
      exact ⟨ret_bool HE2.out.symm, HX.out.trans HXR.out⟩
end Go.Proofs.YtjbfopnkeclfgaaGreat
