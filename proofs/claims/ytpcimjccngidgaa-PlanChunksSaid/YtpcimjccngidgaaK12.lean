/- Heaps as plain lists of cells; where they lie. No program in sight. Walks of isNumber, Right and Same of package node. Boxes of states (as CmD has them, for seats without the reference's layers). The walks of must, number and tasks of package book's reader: what they tell, and where they panic. Walks of Used, In, Free, Fits and Small of the reference. Walks of leads, places, cell and Right of the reference. Walks of Right and May of the reference. Walks of set, more and Hold of the reference. -/
import Derived.Test.YtpcimjccngidgaaK11
import Derived.WalkLawsBesides
import Derived.Deep.AppendLies
import Derived.Deep.RegionHeld3
import Derived.Deep.DeepCutAuto
import Derived.Deep.DrawnRows
import Derived.RegionTactic
import Derived.StillTailTactics
namespace Go.Proofs.Ytpcimjccngidgaa
set_option maxRecDepth 20000
open Go.RowKit

/-- A cell: how many refer to it, whether it waits, and its node. -/
structure HC where
  ref : Int
  pin : Bool
  leaf : Bool
  it : List It
deriving DecidableEq
/-- A heap: its cells, and how many are kept. -/
structure Hp where
  c : List HC
  keep : Int
deriving DecidableEq
def HC.none : HC := ⟨0, false, false, []⟩
/-- Values that are cells. -/
def HcAt (w : World) (cs : List Value) (l : List HC) : Prop := cs.length = l.length * 4 ∧ ∀ i (h : i < l.length), ∃ A c, cs[i * 4]? = some (.int .i64 l[i].ref) ∧ cs[i * 4 + 1]? = some (.bool l[i].pin) ∧ cs[i * 4 + 2]? = some (.bool l[i].leaf) ∧ cs[i * 4 + 3]? = some (.slice A l[i].it.length c) ∧ Sl w A l[i].it.length c (ivs l[i].it)
theorem HcAt.ext {w w' : World} {cs : List Value} {l : List HC} (h : HcAt w cs l) (hx : Ext w w') : HcAt w' cs l :=
  ⟨h.1, fun i hi => by obtain ⟨A, c, h1, h2, h3, h4, h5⟩ := h.2 i hi; exact ⟨A, c, h1, h2, h3, h4, h5.ext hx⟩⟩
theorem HcAt.nil (w : World) : HcAt w [] [] := ⟨rfl, fun i hi => by simp at hi⟩
theorem HcAt.one {w : World} {A : Option Addr} {c : Nat} (x : HC) (h : Sl w A x.it.length c (ivs x.it)) : HcAt w [.int .i64 x.ref, .bool x.pin, .bool x.leaf, .slice A x.it.length c] [x] :=
  ⟨rfl, fun i hi => by
    have : i = 0 := by simpa using hi
    subst this
    exact ⟨A, c, rfl, rfl, rfl, rfl, h⟩⟩
theorem HcAt.app {w : World} {cs ds : List Value} {l m : List HC} (h : HcAt w cs l) (k : HcAt w ds m) : HcAt w (cs ++ ds) (l ++ m) := by
  refine ⟨by rw [List.length_append, List.length_append, h.1, k.1]; omega, fun i hi => ?_⟩
  rcases Nat.lt_or_ge i l.length with h1 | h1
  · obtain ⟨A, c, e1, e2, e3, e4, hs⟩ := h.2 i h1
    have hl := h.1
    rw [List.getElem_append_left h1]
    exact ⟨A, c, by rw [List.getElem?_append_left (by omega)]; exact e1, by rw [List.getElem?_append_left (by omega)]; exact e2, by rw [List.getElem?_append_left (by omega)]; exact e3, by rw [List.getElem?_append_left (by omega)]; exact e4, hs⟩
  · obtain ⟨A, c, e1, e2, e3, e4, hs⟩ := k.2 (i - l.length) (by rw [List.length_append] at hi; omega)
    have hl := h.1
    rw [List.getElem_append_right h1]
    exact ⟨A, c, by rw [List.getElem?_append_right (by omega), show i * 4 - cs.length = (i - l.length) * 4 by omega]; exact e1, by rw [List.getElem?_append_right (by omega), show i * 4 + 1 - cs.length = (i - l.length) * 4 + 1 by omega]; exact e2, by rw [List.getElem?_append_right (by omega), show i * 4 + 2 - cs.length = (i - l.length) * 4 + 2 by omega]; exact e3, by rw [List.getElem?_append_right (by omega), show i * 4 + 3 - cs.length = (i - l.length) * 4 + 3 by omega]; exact e4, hs⟩
theorem hc_one {w : World} {cs : List Value} {l : List HC} (h : HcAt w cs l) : ∀ u ∈ cs, u.oneCell' = true := fun u hu => by
  obtain ⟨i, hi, rfl⟩ := List.mem_iff_getElem.1 hu
  have hl := h.1
  obtain ⟨A, c, e1, e2, e3, e4, _⟩ := h.2 (i / 4) (by omega)
  have hm : i = i / 4 * 4 ∨ i = i / 4 * 4 + 1 ∨ i = i / 4 * 4 + 2 ∨ i = i / 4 * 4 + 3 := by omega
  have he := List.getElem?_eq_getElem hi
  rcases hm with hm | hm | hm | hm
  · rw [← hm, he] at e1; have e := Option.some.inj e1; rw [e]; rfl
  · rw [← hm, he] at e2; have e := Option.some.inj e2; rw [e]; rfl
  · rw [← hm, he] at e3; have e := Option.some.inj e3; rw [e]; rfl
  · rw [← hm, he] at e4; have e := Option.some.inj e4; rw [e]; rfl
theorem HcAt.set {w : World} {cs : List Value} {l : List HC} (h : HcAt w cs l) {p : Nat} (hp : p < l.length) (x : HC) {A : Option Addr} {c : Nat} (hs : Sl w A x.it.length c (ivs x.it)) :
    HcAt w ((((cs.set (p * 4) (.int .i64 x.ref)).set (p * 4 + 1) (.bool x.pin)).set (p * 4 + 2) (.bool x.leaf)).set (p * 4 + 3) (.slice A x.it.length c)) (l.set p x) := by
  have hl := h.1
  refine ⟨by simp [hl], fun i hi => ?_⟩
  rw [List.length_set] at hi
  by_cases hip : p = i
  · subst hip
    rw [List.getElem_set_self]
    refine ⟨A, c, ?_, ?_, ?_, ?_, hs⟩ <;> simp [List.getElem?_set] <;> omega
  · rw [List.getElem_set_ne hip]
    obtain ⟨B, d, e1, e2, e3, e4, h5⟩ := h.2 i hi
    refine ⟨B, d, ?_, ?_, ?_, ?_, h5⟩
    · rw [List.getElem?_set_ne (by omega), List.getElem?_set_ne (by omega), List.getElem?_set_ne (by omega), List.getElem?_set_ne (by omega)]; exact e1
    · rw [List.getElem?_set_ne (by omega), List.getElem?_set_ne (by omega), List.getElem?_set_ne (by omega), List.getElem?_set_ne (by omega)]; exact e2
    · rw [List.getElem?_set_ne (by omega), List.getElem?_set_ne (by omega), List.getElem?_set_ne (by omega), List.getElem?_set_ne (by omega)]; exact e3
    · rw [List.getElem?_set_ne (by omega), List.getElem?_set_ne (by omega), List.getElem?_set_ne (by omega), List.getElem?_set_ne (by omega)]; exact e4
/-- A slice of cells. -/
def HcSl (w : World) (R : Option Addr) (m q : Nat) (l : List HC) : Prop := m = l.length ∧ ∃ cs, Sl w R m q cs ∧ HcAt w cs l
theorem HcSl.ext {w w' : World} {R : Option Addr} {m q : Nat} {l : List HC} (h : HcSl w R m q l) (hx : Ext w w') : HcSl w' R m q l := by
  obtain ⟨h1, cs, h2, h3⟩ := h
  exact ⟨h1, cs, h2.ext hx, h3.ext hx⟩
/-- Where a cell stands. -/
theorem HcSl.cell {w : World} {R : Option Addr} {m q : Nat} {l : List HC} (h : HcSl w R m q l) {k : Nat} (hk : k < l.length) :
    ∃ b off, R = some ⟨b, off, none⟩ ∧ b < w.heap.size ∧ ∃ A c, w.cell? ⟨b, off + k * 4, none⟩ = some (.int .i64 l[k].ref) ∧ w.cell? ⟨b, off + k * 4 + 1, none⟩ = some (.bool l[k].pin) ∧ w.cell? ⟨b, off + k * 4 + 2, none⟩ = some (.bool l[k].leaf) ∧ w.cell? ⟨b, off + k * 4 + 3, none⟩ = some (.slice A l[k].it.length c) ∧ Sl w A l[k].it.length c (ivs l[k].it) := by
  obtain ⟨h1, cs, h2, h3⟩ := h
  obtain ⟨A, c, e1, e2, e3, e4, h5⟩ := h3.2 k hk
  have hne : cs ≠ [] := by intro e; subst e; simp at e1
  obtain ⟨b, off, rfl, hb, hc⟩ := h2.cells hne
  exact ⟨b, off, rfl, hb, A, c, hc _ _ e1, by rw [Nat.add_assoc]; exact hc _ _ e2, by rw [Nat.add_assoc]; exact hc _ _ e3, by rw [Nat.add_assoc]; exact hc _ _ e4, h5⟩
/-- Rows of items, and of cells, lie in no box of a slice and a number. -/
theorem no_box {w : World} {b off k : Nat} {A1 : Option Addr} {n1 c1 : Nat} {z : Int} (hb : Bx w k #[.slice A1 n1 c1, .int .i64 z]) {r : Int} {u : Value} (h0 : w.cell? ⟨b, off, none⟩ = some (.int .i64 r)) (h1 : w.cell? ⟨b, off + 1, none⟩ = some u) : k ≠ b := fun e => by
  subst e
  obtain ⟨t, hb⟩ := hb
  unfold World.cell? at h0 h1
  rw [show w.heap[(⟨k, off, none⟩ : Addr).block]? = _ from hb] at h0
  rw [show w.heap[(⟨k, off + 1, none⟩ : Addr).block]? = _ from hb] at h1
  match off, h0, h1 with
  | 0, h0, _ => simp at h0
  | 1, _, h1 => simp at h1
  | n + 2, h0, _ => simp at h0
theorem Sl.boxed2 {w : World} {A : Option Addr} {n c : Nat} {l : List It} (h : Sl w A n c (ivs l)) {k : Nat} {A1 : Option Addr} {n1 c1 : Nat} {z : Int} (hb : Bx w k #[.slice A1 n1 c1, .int .i64 z]) (x y : Value) :
    Sl ((w.setCell ⟨k, 0, none⟩ x).setCell ⟨k, 1, none⟩ y) A n c (ivs l) := by
  refine h.grown (grown_store2 w k x y) (fun hx p hp e => ?_)
  obtain ⟨b, off, e', hlt, hc⟩ := h.cells hx
  rw [hp] at e'
  cases e'
  cases l with
  | nil => exact hx rfl
  | cons u r =>
    have h0 := hc 0 _ rfl
    have h1 := hc 1 _ rfl
    rw [Nat.add_zero] at h0
    exact no_box hb h0 h1 (Option.some.inj e)
theorem HcSl.boxed2 {w : World} {R : Option Addr} {m q : Nat} {l : List HC} (h : HcSl w R m q l) {k : Nat} {A1 : Option Addr} {n1 c1 : Nat} {z : Int} (hb : Bx w k #[.slice A1 n1 c1, .int .i64 z]) (x y : Value) :
    HcSl ((w.setCell ⟨k, 0, none⟩ x).setCell ⟨k, 1, none⟩ y) R m q l := by
  obtain ⟨h1, cs, h2, h3⟩ := h
  refine ⟨h1, cs, ?_, h3.1, fun i hi => ?_⟩
  · refine h2.grown (grown_store2 w k x y) (fun hx p hp e => ?_)
    obtain ⟨b, off, e', hlt, hc⟩ := h2.cells hx
    rw [hp] at e'
    cases e'
    have hl := h3.1
    have hpos : 0 < l.length := by
      rcases Nat.eq_zero_or_pos l.length with h0 | h0
      · rw [h0] at hl; exact absurd (List.eq_nil_of_length_eq_zero hl) hx
      · exact h0
    obtain ⟨A, c, e1, e2, _⟩ := h3.2 0 hpos
    have g0 := hc _ _ e1
    have g1 := hc _ _ e2
    simp only [Nat.zero_mul, Nat.add_zero, Nat.zero_add] at g0 g1
    exact no_box hb g0 g1 (Option.some.inj e)
  · obtain ⟨A, c, e1, e2, e3, e4, h5⟩ := h3.2 i hi
    exact ⟨A, c, e1, e2, e3, e4, h5.boxed2 hb x y⟩
/-- A row of the call's own, with one of its cells written. -/
theorem own_set {w : World} {B e s n g cap : Nat} {xs : List Value} (h : w.ownsRow B e s (.slice (some ⟨g, 0, none⟩) n cap) n xs) {j : Nat} (_hj : j < n * s) (u : Value) :
    (w.setCell ⟨g, j, none⟩ u).ownsRow B e s (.slice (some ⟨g, 0, none⟩) n cap) n (xs.set j u) := by
  refine ⟨by rw [List.length_set]; exact h.1, ?_⟩
  rcases h.2 with ⟨e0, _⟩ | ⟨g', cap', cur, e0, hg, hh, hnc, hcm, hsz, ht⟩
  · cases e0
  · cases e0
    refine .inr ⟨g, cap, _, rfl, hg, heap_setCell_same w g j cur e u hh, hnc, hcm, by simp [hsz], ?_⟩
    rw [Array.toList_setIfInBounds, List.take_set, ht]
theorem own_free {w : World} {B e s n g cap : Nat} {xs : List Value} (h : w.ownsRow B e s (.slice (some ⟨g, 0, none⟩) n cap) n xs) (j : Nat) : w.frozen? ⟨g, j, none⟩ = false := by
  rcases h.2 with ⟨e0, _⟩ | ⟨g', cap', cur, e0, hg, hh, _⟩
  · cases e0
  · cases e0
    exact Bx.free ⟨_, hh⟩ j
/-- A row of the call's own, with a whole cell of the heap written. -/
theorem own_hc {w : World} {B e g n cap : Nat} {cs : List Value} (h : w.ownsRow B e 4 (.slice (some ⟨g, 0, none⟩) n cap) n cs) {p : Nat} (hp : p < n) (a b c d : Value) :
    ((((w.setCell ⟨g, p * 4, none⟩ a).setCell ⟨g, p * 4 + 1, none⟩ b).setCell ⟨g, p * 4 + 2, none⟩ c).setCell ⟨g, p * 4 + 3, none⟩ d).ownsRow B e 4 (.slice (some ⟨g, 0, none⟩) n cap) n ((((cs.set (p * 4) a).set (p * 4 + 1) b).set (p * 4 + 2) c).set (p * 4 + 3) d) :=
  own_set (own_set (own_set (own_set h (by omega) a) (by omega) b) (by omega) c) (by omega) d

/-- P5.1 to P5.4, on plain lists. -/
def usedC (l : List HC) (p : Int) : Bool := decide (0 ≤ p) && (decide (p < l.length) && decide (0 < (l.getD p.toNat HC.none).ref))
abbrev usedH (h : Hp) (p : Int) : Bool := usedC h.c p
def leadsC (l : List HC) (leaf : Bool) (it : List It) : Bool := leaf || it.all (fun x => usedC l x.2)
def placesC (n : Nat) (leaf : Bool) (it : List It) : Bool := leaf || it.all (fun x => decide (0 ≤ x.2) && decide (x.2 < n))
def cellR (n : Nat) (c : HC) : Bool := if c.ref = 0 then !c.leaf && decide (c.it.length = 0) else decide (0 < c.ref) && (decide (c.ref ≤ 2147483647) && (!c.pin && (ndR c.it && placesC n c.leaf c.it)))
def rightH (h : Hp) : Bool := decide ((1 ≤ h.c.length ∧ h.c.length ≤ 2000) ∧ (0 ≤ h.keep ∧ h.keep ≤ h.c.length)) && h.c.all (cellR h.c.length)
theorem usedC_neg {l : List HC} {p : Int} (h : p < 0) : usedC l p = false := by unfold usedC; rw [decide_eq_false (by omega)]; rfl
theorem usedC_big {l : List HC} {p : Int} (h : (l.length : Int) ≤ p) : usedC l p = false := by unfold usedC; rw [decide_eq_false (show ¬ p < l.length by omega)]; simp
theorem usedC_at {l : List HC} {k : Nat} (h : k < l.length) : usedC l (k : Int) = decide (0 < l[k].ref) := by
  unfold usedC
  rw [decide_eq_true (show (0 : Int) ≤ k by omega), decide_eq_true (show (k : Int) < l.length by omega), Int.toNat_natCast, List.getD_eq_getElem?_getD, List.getElem?_eq_getElem h]
  rfl
theorem usedC_iff {l : List HC} {p : Int} (h : usedC l p = true) : ∃ k : Nat, ∃ hk : k < l.length, p = (k : Int) ∧ 0 < l[k].ref := by
  rcases Int.lt_or_le p 0 with h0 | h0
  · rw [usedC_neg h0] at h; cases h
  rcases Int.lt_or_le p l.length with h1 | h1
  · obtain ⟨k, rfl⟩ := Int.eq_ofNat_of_zero_le h0
    have hk : k < l.length := by omega
    rw [usedC_at hk] at h
    exact ⟨k, hk, rfl, by simpa using h⟩
  · rw [usedC_big h1] at h; cases h
def freeC (c : HC) : Bool := decide (c.ref = 0) && !c.pin
def freeH (h : Hp) : Nat := h.c.countP freeC
def fitsH (h : Hp) (n : Int) (deep : Bool) : Bool := decide (n ≤ (freeH h : Int) - (if deep then 0 else h.keep))
def setH (h : Hp) (p : Nat) (x : HC) : Hp := ⟨h.c.set p x, h.keep⟩
def moreH (h : Hp) (p : Nat) : Hp := setH h p ⟨(h.c.getD p HC.none).ref + 1, (h.c.getD p HC.none).pin, (h.c.getD p HC.none).leaf, (h.c.getD p HC.none).it⟩
def holdH (h : Hp) (p : Int) : Hp := if usedH h p then moreH h p.toNat else h
def holdE (h : Hp) (p : Int) : Int := if usedH h p then 0 else 4
/-- Numbers as values; is one among them? -/
def iv (x : Int) : Value := .int .i64 x
theorem Cells.num {w : World} {A : Option Addr} {l : List Int} (h : Cells w A (l.map iv)) {k : Nat} (hk : k < l.length) :
    ∃ b off, A = some ⟨b, off, none⟩ ∧ b < w.heap.size ∧ ∀ j (hj : j < l.length), w.cell? ⟨b, off + j, none⟩ = some (.int .i64 l[j]) := by
  obtain ⟨b, off, rfl, hlt, hc⟩ := h (by intro e; rw [List.map_eq_nil_iff] at e; subst e; simp at hk)
  exact ⟨b, off, rfl, hlt, fun j hj => hc j _ (by simp [hj, iv])⟩
def inL (l : List Int) (x : Int) : Bool := l.any (fun y => decide (y = x))
theorem inL_yes {l : List Int} {x : Int} {k : Nat} (hk : k < l.length) (h : l[k] = x) : inL l x = true := by
  unfold inL; rw [List.any_eq_true]; exact ⟨l[k], List.getElem_mem hk, by simpa using h⟩
theorem inL_no {l : List Int} {x : Int} (h : ∀ j (hj : j < l.length), l[j] ≠ x) : inL l x = false := by
  unfold inL; rw [List.any_eq_false]; intro y hy
  obtain ⟨i, hi, rfl⟩ := List.mem_iff_getElem.1 hy
  simpa using h i hi
/-- One Ref more. -/
def HC.more (x : HC) : HC := ⟨x.ref + 1, x.pin, x.leaf, x.it⟩
/-- P5.2: what a node tells is held once more, for each item, but what is held already. -/
def moreL (held : List Int) (l : List HC) (it : List It) : List HC := it.foldl (fun g x => if inL held x.2 then g else g.set x.2.toNat (g.getD x.2.toNat HC.none).more) l
def stopC (c : HC) : Bool := !(decide (0 < c.ref) || c.pin)
def firstF (l : List HC) : Nat := l.findIdx stopC
def allocE (l : List HC) (leaf : Bool) (it : List It) : Int := if ndR it && leadsC l leaf it then (if firstF l < l.length then 0 else 3) else 1
def allocP (l : List HC) (leaf : Bool) (it : List It) : Nat := if allocE l leaf it = 0 then firstF l else 0
def allocL (l : List HC) (leaf : Bool) (it : List It) (held : List Int) : List HC := if allocE l leaf it = 0 then (if leaf then l else moreL held l it).set (firstF l) ⟨1, false, leaf, it⟩ else l
/-- P5.3: one Ref less; what goes is loosed below, in order. (Fuel: more than there are cells in use.) -/
def looseL : Nat → List HC → Int → List HC
  | 0, l, _ => l
  | f + 1, l, p =>
    if usedC l p then
      if 1 < (l.getD p.toNat HC.none).ref then l.set p.toNat ⟨(l.getD p.toNat HC.none).ref - 1, false, (l.getD p.toNat HC.none).leaf, (l.getD p.toNat HC.none).it⟩
      else if (l.getD p.toNat HC.none).leaf then l.set p.toNat ⟨0, true, false, []⟩
      else (l.getD p.toNat HC.none).it.foldl (fun g x => looseL f g x.2) (l.set p.toNat ⟨0, true, false, []⟩)
    else l
def usedN (l : List HC) : Nat := l.countP (fun c => decide (0 < c.ref))
def looseH (h : Hp) (p : Int) : Hp := ⟨looseL (h.c.length + 1) h.c p, h.keep⟩
def looseE (h : Hp) (p : Int) : Int := if usedH h p then 0 else 4
def settleH (h : Hp) : Hp := ⟨h.c.map (fun c => ⟨c.ref, false, c.leaf, c.it⟩), h.keep⟩
def smallH (h : Hp) (most : Int) : Bool := decide ((h.c.length : Int) ≤ most) && h.c.all (fun c => decide (c.it.length ≤ 10) && decide (c.ref ≤ 1000000))
/-- A value that is a heap. -/
def IsHeap (w : World) (v : Value) (h : Hp) : Prop := ∃ R q, v = .agg #[.slice R h.c.length q, .int .i64 h.keep] ∧ HcSl w R h.c.length q h.c
theorem IsHeap.ext {w w' : World} {v : Value} {h : Hp} (k : IsHeap w v h) (hx : Ext w w') : IsHeap w' v h := by
  obtain ⟨R, q, e, h1⟩ := k
  exact ⟨R, q, e, h1.ext hx⟩
end Go.Proofs.Ytpcimjccngidgaa
namespace Go.Proofs.Ytpcimjccngidgaa
set_option maxRecDepth 20000
open Go.RowKit

def isNum (x : Int) : Bool := decide (0 ≤ x) && decide (x ≤ 2147483647)
set_option maxHeartbeats 400000 in
theorem nodeIsNumber_any (x : Int) (w : World) :
    Calls Try.prog 60 #[.int .i64 x] w fun e w' => e = .returned (.bool (isNum x)) ∧ w = w' := by
  unfold isNum
  by_cases h0 : 0 ≤ x
  · by_cases h1 : x ≤ 2147483647
    · have d0 : decide (0 ≤ x) = true := decide_eq_true h0
      have d1 : decide (x ≤ 2147483647) = true := decide_eq_true h1
      go_enter Try.func60, Try.ntmps60
      go_wp2
      go_ret
      exact ⟨ret_bool (by first | rfl | (rw [d0, d1]; rfl)), rfl⟩
    · have d0 : decide (0 ≤ x) = true := decide_eq_true h0
      have d1 : decide (x ≤ 2147483647) = false := decide_eq_false h1
      go_enter Try.func60, Try.ntmps60
      go_wp2
      go_ret
      exact ⟨ret_bool (by first | rfl | (rw [d0, d1]; rfl)), rfl⟩
  · have d0 : decide (0 ≤ x) = false := decide_eq_false h0
    go_enter Try.func60, Try.ntmps60
    go_wp2
    go_ret
    exact ⟨ret_bool (by first | rfl | (rw [d0]; rfl)), rfl⟩
theorem isNum_iff (x : Int) : isNum x = true ↔ 0 ≤ x ∧ x ≤ 2147483647 := by unfold isNum; simp
theorem isNum_ok {x : It} (h1 : isNum x.1 = true) (h2 : isNum x.2 = true) : okIt x := ⟨(isNum_iff _).1 h1, (isNum_iff _).1 h2⟩
theorem isNum_no {x : It} (h : isNum x.1 = false ∨ isNum x.2 = false) : ¬ okIt x := fun e => by
  have h1 := (isNum_iff _).2 e.1
  have h2 := (isNum_iff _).2 e.2
  rw [h1, h2] at h
  simp at h
set_option maxRecDepth 100000 in
set_option maxHeartbeats 800000 in
theorem nodeRight_any (leaf : Bool) (A : Option Addr) (l : List It) (n c : Nat) (w : World) (hn : n = l.length) (hA : Sl w A n c (ivs l)) :
    Calls Try.prog 40 #[.agg #[.bool leaf, .slice A n c]] w fun e w' => e = .returned (.bool (ndR l)) ∧ Ext w w' := by
  subst hn
  have hl := hA.len
  unfold maxLen at hl
  have HX := Lib.hid ((Ext.refl w).alloc (.cells #[.bool leaf, .slice A l.length c] 90))
  have HB := Lib.hid (Bx.new w #[.bool leaf, .slice A l.length c] 90)
  have HA := Lib.hid (hA.cells.ext HX.out)
  clear hA
  by_cases h1 : l.length < 1
  · go_enter Try.func40, Try.ntmps40
    go_wp2
    go_ret
    exact ⟨ret_bool (ndR_no (fun h => by have := h.1; omega)).symm, HX.out⟩
  by_cases h4 : 4 < l.length
  · go_enter Try.func40, Try.ntmps40
    go_wp2
    go_ret
    exact ⟨ret_bool (ndR_no (fun h => by have := h.1; omega)).symm, HX.out⟩
  go_enter Try.func40, Try.ntmps40
  go_wp2
  generalize hW : World.alloc w _ = W at *
  clear hW
  go_loopw [18] (fun i wr => ∃ k : Nat, k ≤ l.length ∧ i = .int .i64 k ∧ NdK l k ∧ Ext W wr) (fun i _ => l.length - (intOf i).toNat)
  case atStart => exact ⟨0, Nat.zero_le _, rfl, NdK.zero l, Ext.refl _⟩
  case round =>
    obtain ⟨k, hk, rfl, hnk, hx⟩ := hrel
    have HK := Lib.hid hnk
    have HXR := Lib.hid hx
    obtain ⟨b0, b1, b2⟩ := (HB.out.ext hx).read2
    clear hnk
    by_cases hlt : k < l.length
    · obtain ⟨bb, off, rfl, hbb, hc⟩ := (HA.out.ext hx).it hlt
      obtain ⟨hck, hcv⟩ := hc k hlt
      have HNO := Lib.hid (fun (h : ¬ okIt l[k]) => ndR_no (l := l) (fun e => h (e.2 k hlt).1))
      have HS := Lib.hid (fun h h2 => HK.out.succ hlt h h2)
      have HNR := Lib.hid (fun (h0 : 0 < k) (h : ¬ l[k - 1].1 < l[k].1) => ndR_no (l := l) (fun e => h ((e.2 k hlt).2 h0)))
      have HPV := Lib.hid (fun (h0 : 0 < k) (h : k - 1 < l.length) => (hc (k - 1) h).1)
      have hki : (k : Int) < (l.length : Int) := by omega
      clear hc
      generalize hq : l[k] = q at *
      clear hq
      obtain ⟨K, V⟩ := q
      simp only at hck hcv
      have HXA := Lib.hid (hx.alloc (.cells #[.int .i64 K, .int .i64 V] 119))
      have HBI := Lib.hid (Bx.new wr #[.int .i64 K, .int .i64 V] 119)
      obtain ⟨x0, x1, x2⟩ := HBI.out.read2
      have HN1 := Lib.hid (nodeIsNumber_any K)
      have HN2 := Lib.hid (nodeIsNumber_any V)
      clear hx
      cases h0 : isNum K
      · rw [h0] at HN1
        go_wp2_with (go_at_call 60; refine (HN1.out _).mono ?_; rintro e w' ⟨rfl, rfl⟩)
        go_ret
        exact ⟨ret_bool (HNO.out (isNum_no (.inl h0))).symm, HX.out.trans HXA.out⟩
      rw [h0] at HN1
      cases h5 : isNum V
      · rw [h5] at HN2
        go_wp2_with (go_at_call 60; (first | (with_reducible refine (HN1.out _).mono ?_) | (with_reducible refine (HN2.out _).mono ?_)); rintro e w' ⟨rfl, rfl⟩)
        go_ret
        exact ⟨ret_bool (HNO.out (isNum_no (.inr h5))).symm, HX.out.trans HXA.out⟩
      rw [h5] at HN2
      have HOK := Lib.hid (isNum_ok (x := (K, V)) h0 h5)
      clear h0 h5
      rcases Nat.eq_zero_or_pos k with h0 | h0
      · subst h0
        simp only [Nat.zero_mul, Nat.add_zero] at hck hcv
        have HS1 := Lib.hid (HS.out HOK.out (fun h => absurd h (by omega)))
        have d0 : decide ((0 : Int) < ((0 : Nat) : Int)) = false := decide_eq_false (by omega)
        clear HS HK HNR HPV
        go_wp2_with (go_at_call 60; (first | (with_reducible refine (HN1.out _).mono ?_) | (with_reducible refine (HN2.out _).mono ?_)); rintro e w' ⟨rfl, rfl⟩)
        go_quiet (fail)
        go_wp2
        go_roundw
        case rel => exact ⟨1, by omega, by go_num, HS1.out, HXA.out.drewN _⟩
        case measure => simp [intOf]; omega
      · obtain ⟨j, rfl⟩ : ∃ j, k = j + 1 := ⟨k - 1, by omega⟩
        have hj := HPV.out h0 (by omega)
        have HNR2 := Lib.hid (HNR.out h0)
        simp only [Nat.add_sub_cancel] at hj HNR2
        have hj9 : j < l.length := by omega
        have HS2 := Lib.hid (show l[j].1 < K → NdK l (j + 1 + 1) from fun h => HS.out HOK.out (fun _ => h))
        clear HS HK HNR HPV
        have hj1 : (wr.alloc (.cells #[.int .i64 K, .int .i64 V] 119)).cell? ⟨bb, off + j * 2, none⟩ = some (.int .i64 l[j].1) := by
          exact (((Ext.refl wr).alloc _).cell (p := ⟨bb, off + j * 2, none⟩) (World.block_lt_of_cell? _ _ hj)).trans hj
        generalize l[j].1 = PK at *
        have hk0 : decide ((0 : Int) < ((j + 1 : Nat) : Int)) = true := decide_eq_true (by omega)
        have e1 : ((j + 1 : Nat) : Int) - 1 = (j : Int) := by omega
        have e2 : (j : Int) < (l.length : Int) := by omega
        rcases Decidable.em (K ≤ PK) with hp | hp
        · have HE := Lib.hid (HNR2.out (by omega))
          have hp' : decide (K ≤ PK) = true := decide_eq_true hp
          clear hp
          go_wp2_with (go_at_call 60; (first | (with_reducible refine (HN1.out _).mono ?_) | (with_reducible refine (HN2.out _).mono ?_)); rintro e w' ⟨rfl, rfl⟩)
          go_quiet (fail)
          go_wp2
          go_ret
          exact ⟨ret_bool HE.out.symm, HX.out.trans (HXA.out.drewN _)⟩
        · have hp' : decide (K ≤ PK) = false := decide_eq_false hp
          have HE := Lib.hid (HS2.out (by omega))
          clear hp
          go_wp2_with (go_at_call 60; (first | (with_reducible refine (HN1.out _).mono ?_) | (with_reducible refine (HN2.out _).mono ?_)); rintro e w' ⟨rfl, rfl⟩)
          go_quiet (fail)
          go_wp2
          go_roundw
          case rel => exact ⟨j + 1 + 1, by omega, by go_num, HE.out, HXA.out.drewN _⟩
          case measure => simp [intOf]; omega
    · obtain rfl : k = l.length := by omega
      have HE := Lib.hid ((ndR_iff l).2 (HK.out.all (by omega)))
      clear hx
      go_wp2
      go_ret
      exact ⟨ret_bool HE.out.symm, HX.out.trans HXR.out⟩
end Go.Proofs.Ytpcimjccngidgaa
namespace Go.Proofs.Ytpcimjccngidgaa
set_option maxRecDepth 20000
open Go.RowKit

theorem st_at6 {w : World} {k : Nat} {a b c d e f : Value} (h : Bx w k #[a, b, c, d, e, f]) : w.cell? ⟨k, 0, none⟩ = some a ∧ w.cell? ⟨k, 1, none⟩ = some b ∧ w.cell? ⟨k, 2, none⟩ = some c ∧ w.cell? ⟨k, 3, none⟩ = some d ∧ w.cell? ⟨k, 4, none⟩ = some e ∧ w.cell? ⟨k, 5, none⟩ = some f :=
  ⟨h.at 0 _ rfl, h.at 1 _ rfl, h.at 2 _ rfl, h.at 3 _ rfl, h.at 4 _ rfl, h.at 5 _ rfl⟩
theorem st_free6 {w : World} {k : Nat} {cs : Array Value} (h : Bx w k cs) : w.frozen? ⟨k, 0, none⟩ = false ∧ w.frozen? ⟨k, 1, none⟩ = false ∧ w.frozen? ⟨k, 2, none⟩ = false ∧ w.frozen? ⟨k, 3, none⟩ = false ∧ w.frozen? ⟨k, 4, none⟩ = false ∧ w.frozen? ⟨k, 5, none⟩ = false :=
  ⟨h.free 0, h.free 1, h.free 2, h.free 3, h.free 4, h.free 5⟩
/-- A function's end whose first result lies in a box of six. -/
theorem ret6_cell {P : Program} {fn : Func} {R : Ending → World → Prop} {a : Act} {W : World} {v : Value} {k : Nat} {x y z u s t : Value} (hb : Bx W k #[x, y, z, u, s, t])
    (h : W.cell? ⟨k, 0, none⟩ = some x → W.cell? ⟨k, 1, none⟩ = some y → W.cell? ⟨k, 2, none⟩ = some z → W.cell? ⟨k, 3, none⟩ = some u → W.cell? ⟨k, 4, none⟩ = some s → W.cell? ⟨k, 5, none⟩ = some t → (results fn a.tmps).run P W = .ok v W) (hd : a.defers = []) (hR : R (.returned v) W) : bodyPost P fn R .ret a W := by
  obtain ⟨h0, h1, h2, h3, h4, h5⟩ := st_at6 hb
  exact bodyPost_ret (h h0 h1 h2 h3 h4 h5) hd hR
theorem st_set6 {w : World} {k : Nat} {a b c d e f : Value} (h : Bx w k #[a, b, c, d, e, f]) (x y z u s t : Value) : Bx ((((((w.setCell ⟨k, 0, none⟩ x).setCell ⟨k, 1, none⟩ y).setCell ⟨k, 2, none⟩ z).setCell ⟨k, 3, none⟩ u).setCell ⟨k, 4, none⟩ s).setCell ⟨k, 5, none⟩ t) k #[x, y, z, u, s, t] :=
  (((((h.set 0 x).set 1 y).set 2 z).set 3 u).set 4 s).set 5 t
theorem ext_store6 {w0 w : World} (h : Ext w0 w) {k : Nat} (hk : w0.heap.size ≤ k) (x y z u s t : Value) : Ext w0 ((((((w.setCell ⟨k, 0, none⟩ x).setCell ⟨k, 1, none⟩ y).setCell ⟨k, 2, none⟩ z).setCell ⟨k, 3, none⟩ u).setCell ⟨k, 4, none⟩ s).setCell ⟨k, 5, none⟩ t) :=
  (((((h.set (p := ⟨k, 0, none⟩) hk x).set (p := ⟨k, 1, none⟩) hk y).set (p := ⟨k, 2, none⟩) hk z).set (p := ⟨k, 3, none⟩) hk u).set (p := ⟨k, 4, none⟩) hk s).set (p := ⟨k, 5, none⟩) hk t
theorem grown_one (w : World) (k j : Nat) (x : Value) : w.grownBy (w.setCell ⟨k, j, none⟩ x) (some k) :=
  ⟨rfl, rfl, rfl, by simp [World.setCell], fun i _ hi => by rw [Below.heap_setCell _ _ _ _ (by simpa using hi)]⟩
theorem grown_store6 (w : World) (k : Nat) (x y z u s t : Value) : w.grownBy ((((((w.setCell ⟨k, 0, none⟩ x).setCell ⟨k, 1, none⟩ y).setCell ⟨k, 2, none⟩ z).setCell ⟨k, 3, none⟩ u).setCell ⟨k, 4, none⟩ s).setCell ⟨k, 5, none⟩ t) (some k) :=
  grown_trans (grown_trans (grown_trans (grown_trans (grown_trans (grown_one _ _ _ _) (grown_one _ _ _ _)) (grown_one _ _ _ _)) (grown_one _ _ _ _)) (grown_one _ _ _ _)) (grown_one _ _ _ _)
theorem no_box6 {w : World} {b off k : Nat} {A1 A2 A3 : Option Addr} {n1 c1 n2 c2 n3 c3 : Nat} {z y x : Int} (hb : Bx w k #[.slice A1 n1 c1, .int .i64 z, .slice A2 n2 c2, .slice A3 n3 c3, .int .i64 y, .int .i64 x]) {r : Int} {u : Bool} (h0 : w.cell? ⟨b, off, none⟩ = some (.int .i64 r)) (h1 : w.cell? ⟨b, off + 1, none⟩ = some (.bool u)) : k ≠ b := fun e => by
  subst e
  obtain ⟨t, hb⟩ := hb
  unfold World.cell? at h0 h1
  rw [show w.heap[(⟨k, off, none⟩ : Addr).block]? = _ from hb] at h0
  rw [show w.heap[(⟨k, off + 1, none⟩ : Addr).block]? = _ from hb] at h1
  match off, h0, h1 with
  | 0, h0, _ => simp at h0
  | 1, _, h1 => simp at h1
  | 2, h0, _ => simp at h0
  | 3, h0, _ => simp at h0
  | 4, _, h1 => simp at h1
  | 5, _, h1 => simp at h1
  | n + 6, h0, _ => simp at h0
/-- Cells without items lie in no state's box. -/
theorem hcs_boxed6 {w : World} {R : Option Addr} {m q : Nat} {l : List HC} (hit : ∀ y ∈ l, y.it = []) (h : HcSl w R m q l) {k : Nat} {A1 A2 A3 : Option Addr} {n1 c1 n2 c2 n3 c3 : Nat} {z1 y1 x1 : Int} (hb : Bx w k #[.slice A1 n1 c1, .int .i64 z1, .slice A2 n2 c2, .slice A3 n3 c3, .int .i64 y1, .int .i64 x1]) (x y z u s t : Value) :
    HcSl ((((((w.setCell ⟨k, 0, none⟩ x).setCell ⟨k, 1, none⟩ y).setCell ⟨k, 2, none⟩ z).setCell ⟨k, 3, none⟩ u).setCell ⟨k, 4, none⟩ s).setCell ⟨k, 5, none⟩ t) R m q l := by
  obtain ⟨h1, cs, h2, h3⟩ := h
  refine ⟨h1, cs, ?_, h3.1, fun i hi => ?_⟩
  · refine h2.grown (grown_store6 w k x y z u s t) (fun hx p hp e => ?_)
    obtain ⟨b, off, e', hlt, hc⟩ := h2.cells hx
    rw [hp] at e'
    cases e'
    have hl := h3.1
    have hpos : 0 < l.length := by
      rcases Nat.eq_zero_or_pos l.length with h0 | h0
      · rw [h0] at hl; exact absurd (List.eq_nil_of_length_eq_zero hl) hx
      · exact h0
    obtain ⟨A, c, e1, e2, _⟩ := h3.2 0 hpos
    have g0 := hc _ _ e1
    have g1 := hc _ _ e2
    simp only [Nat.zero_mul, Nat.add_zero, Nat.zero_add] at g0 g1
    exact no_box6 hb g0 g1 (Option.some.inj e)
  · obtain ⟨A, c, e1, e2, e3, e4, h5⟩ := h3.2 i hi
    have hn := hit _ (List.getElem_mem hi)
    refine ⟨A, c, e1, e2, e3, e4, h5.1, h5.2.1, h5.2.2.1, ?_⟩
    rw [hn]
    exact Cells.nil _ _
end Go.Proofs.Ytpcimjccngidgaa
namespace Go.Proofs.Ytpcimjccngidgaa
set_option maxRecDepth 20000
open Go.RowKit
attribute [local go_sem ↓] Go.wp_at_zero Go.wp_at_succ

/-- What the reader's panic bears. -/
def rdPanic : List PanicEntry := [{ v := .iface 43 (.int .i64 2), recovered := false }]
/-- All blocks but one are as they were. -/
structure Rx (b : Nat) (w w' : World) : Prop where
  os : w'.os = w.os
  tape : w'.tape = w.tape
  output : w'.output = w.output
  size : w.heap.size ≤ w'.heap.size
  block : ∀ k, k < w.heap.size → k ≠ b → w'.heap[k]? = w.heap[k]?
theorem Rx.refl (b : Nat) (w : World) : Rx b w w := ⟨rfl, rfl, rfl, Nat.le_refl _, fun _ _ _ => rfl⟩
theorem Rx.trans {b : Nat} {u v w : World} (h : Rx b u v) (k : Rx b v w) : Rx b u w :=
  ⟨k.os.trans h.os, k.tape.trans h.tape, k.output.trans h.output, Nat.le_trans h.size k.size, fun i hi hb => (k.block i (Nat.lt_of_lt_of_le hi h.size) hb).trans (h.block i hi hb)⟩
theorem Rx.of_ext {b : Nat} {w w' : World} (hx : Ext w w') : Rx b w w' := ⟨hx.os, hx.tape, hx.output, hx.size, fun k hk _ => hx.block k hk⟩
theorem Rx.ext {b : Nat} {u v w : World} (h : Rx b u v) (hx : Ext v w) : Rx b u w := h.trans (Rx.of_ext hx)
theorem Rx.over {b : Nat} {v w w' : World} (h : Rx b w w') (hx : Ext v w) (hb : v.heap.size ≤ b) : Ext v w' :=
  ⟨h.os.trans hx.os, h.tape.trans hx.tape, h.output.trans hx.output, Nat.le_trans hx.size h.size, fun k hk => (h.block k (Nat.lt_of_lt_of_le hk hx.size) (by omega)).trans (hx.block k hk)⟩
theorem Rx.set {b : Nat} {w w' : World} (h : Rx b w w') (i : Nat) (v : Value) : Rx b w (w'.setCell ⟨b, i, none⟩ v) :=
  ⟨h.os, h.tape, h.output, by simpa [World.setCell] using h.size, fun k hk hne => by rw [Below.heap_setCell _ _ _ _ (by simpa using hne)]; exact h.block k hk hne⟩
theorem Rx.put {b k : Nat} {w w' : World} (h : Rx b w w') (hk : w.heap.size ≤ k) (i : Nat) (v : Value) : Rx b w (w'.setCell ⟨k, i, none⟩ v) :=
  ⟨h.os, h.tape, h.output, by simpa [World.setCell] using h.size, fun j hj hne => by rw [Below.heap_setCell _ _ _ _ (by simp; omega)]; exact h.block j hj hne⟩
theorem Rx.app {b : Nat} {u v w : World} {B e s n : Nat} {x : Value} {xs : List Value} (h : Rx b u v) (o : v.ownsRow B e s x n xs) (hB : u.heap.size ≤ B) (hg : v.grownBy w x.ownBlock) : Rx b u w :=
  ⟨hg.os.trans h.os, hg.tape.trans h.tape, hg.output.trans h.output, Nat.le_trans h.size hg.size, fun j hj hne => (hg.block j (Nat.lt_of_lt_of_le hj h.size) (fun e => by have := (o.lt j e.symm).1; omega)).trans (h.block j hj hne)⟩
theorem Rx.bx {b k : Nat} {w w' : World} {cs : Array Value} (h : Rx b w w') (hk : Bx w k cs) (hne : k ≠ b) : Bx w' k cs := by
  have hl := hk.lt
  obtain ⟨t, hk⟩ := hk
  exact ⟨t, (h.block k hl hne).trans hk⟩
theorem Rx.own {b : Nat} {w w' : World} {B e s n : Nat} {v : Value} {xs : List Value} (h : Rx b w w') (ho : w.ownsRow B e s v n xs) (hb : b < B) : w'.ownsRow B e s v n xs :=
  ho.kept (row := some b) ⟨h.os, h.tape, h.output, h.size, fun k hk hne => h.block k hk (fun e => hne (by rw [e]))⟩ (.inr (own_old ho hb))
theorem Rx.cell {b : Nat} {w w' : World} {p : Addr} {v : Value} (h : Rx b w w') (hv : w.cell? p = some v) (hne : p.block ≠ b) : w'.cell? p = some v :=
  (World.cell?_of_block (h.block p.block (World.block_lt_of_cell? w _ hv) hne)).trans hv
/-- A reader: its box, at a place of the bytes that lie in an elder world. -/
structure Rd (v : World) (R : Nat) (A : Option Addr) (m c : Nat) (a : Int) (w : World) : Prop where
  ext : Ext v w
  new : v.heap.size ≤ R
  box : Bx w R #[.slice A m c, .int .i64 a]
theorem Rd.on {v : World} {R : Nat} {A : Option Addr} {m c : Nat} {a : Int} {w w' : World} (h : Rd v R A m c a w) (hx : Ext w w') : Rd v R A m c a w' := ⟨h.ext.trans hx, h.new, h.box.ext hx⟩
theorem Rd.at {v : World} {R : Nat} {A : Option Addr} {m c : Nat} {a : Int} {w : World} (h : Rd v R A m c a w) (b : Int) : Rd v R A m c b (w.setCell ⟨R, 1, none⟩ (.int .i64 b)) :=
  ⟨((Rx.refl R w).set 1 _).over h.ext h.new, h.new, h.box.set 1 (.int .i64 b)⟩
theorem Bx.get {w : World} {k o : Nat} {cs : Array Value} {v : Value} (hb : Bx w k cs) (hv : w.cell? ⟨k, o, none⟩ = some v) : cs[o]? = some v := by
  obtain ⟨t, hb⟩ := hb
  unfold World.cell? at hv
  rw [show w.heap[(⟨k, o, none⟩ : Addr).block]? = _ from hb] at hv
  simpa using hv
/-- A box of slices and numbers alone. -/
def NumBox (cs : Array Value) : Prop := ∀ v ∈ cs.toList, (∃ S n d, v = .slice S n d) ∨ ∃ z, v = .int .i64 z
/-- What is neither a slice nor a number lies in no such box. -/
theorem rd_apart {w : World} {R k o : Nat} {cs : Array Value} {v : Value} (hb : Bx w R cs) (hN : NumBox cs) (hv : w.cell? ⟨k, o, none⟩ = some v) (h1 : ∀ S n d, v ≠ .slice S n d) (h2 : ∀ z, v ≠ .int .i64 z) : k ≠ R := fun e => by
  subst e
  have h := hb.get hv
  rcases hN v (by rw [Array.mem_toList_iff]; exact Array.mem_of_getElem? h) with ⟨S, n, d, h3⟩ | ⟨z, h3⟩
  · exact h1 _ _ _ h3
  · exact h2 _ h3
theorem rd_row {w w' : World} {R : Nat} {cs : Array Value} {S : Option Addr} {n d : Nat} {xs : List Value} (hb : Bx w R cs) (hN : NumBox cs) (hx : Rx R w w') (hs : Sl w S n d xs) (hne : ∀ u ∈ xs, (∀ S n d, u ≠ .slice S n d) ∧ (∀ z, u ≠ .int .i64 z)) : Sl w' S n d xs := by
  refine ⟨hs.1, hs.2.1, hs.2.2.1, fun h => ?_⟩
  obtain ⟨k, off, rfl, hlt, hc⟩ := hs.cells h
  refine ⟨k, off, rfl, Nat.lt_of_lt_of_le hlt hx.size, fun j u hu => ?_⟩
  have h1 := hne u (List.mem_of_getElem? hu)
  exact hx.cell (hc j u hu) (rd_apart hb hN (hc j u hu) h1.1 h1.2)
theorem numBox2 (A : Option Addr) (m c : Nat) (a : Int) : NumBox #[.slice A m c, .int .i64 a] := by
  intro v hv
  simp only [List.mem_cons, List.not_mem_nil, or_false] at hv
  rcases hv with rfl | rfl
  · exact .inl ⟨_, _, _, rfl⟩
  · exact .inr ⟨_, rfl⟩
theorem numBox1 (a : Int) : NumBox #[.int .i64 a] := by
  intro v hv
  simp only [List.mem_cons, List.not_mem_nil, or_false] at hv
  exact .inr ⟨a, hv⟩
theorem numBox6 (A1 A2 A3 : Option Addr) (n1 c1 n2 c2 n3 c3 : Nat) (x y z : Int) : NumBox #[.slice A1 n1 c1, .int .i64 x, .slice A2 n2 c2, .slice A3 n3 c3, .int .i64 y, .int .i64 z] := by
  intro v hv
  simp only [List.mem_cons, List.not_mem_nil, or_false] at hv
  rcases hv with rfl | rfl | rfl | rfl | rfl | rfl
  · exact .inl ⟨_, _, _, rfl⟩
  · exact .inr ⟨_, rfl⟩
  · exact .inl ⟨_, _, _, rfl⟩
  · exact .inl ⟨_, _, _, rfl⟩
  · exact .inr ⟨_, rfl⟩
  · exact .inr ⟨_, rfl⟩
theorem cxv_apart (l : List Tk) : ∀ u ∈ l.map cxv, (∀ S n d, u ≠ .slice S n d) ∧ (∀ z, u ≠ .int .i64 z) := by
  intro u hu
  obtain ⟨x, _, rfl⟩ := List.mem_map.1 hu
  exact ⟨fun _ _ _ h => (by cases h), fun _ h => (by cases h)⟩
theorem Rd.app {v : World} {R : Nat} {A : Option Addr} {m c : Nat} {a : Int} {u w : World} {B e s n : Nat} {x : Value} {xs : List Value} (h : Rd v R A m c a u) (o : u.ownsRow B e s x n xs) (hB : R < B) (hg : u.grownBy w x.ownBlock) : Rd v R A m c a w :=
  ⟨h.ext.app o (Nat.le_trans h.new (Nat.le_of_lt hB)) hg, h.new, h.box.grown hg (own_old o hB)⟩
end Go.Proofs.Ytpcimjccngidgaa
namespace Go.Proofs.Ytpcimjccngidgaa
set_option maxRecDepth 20000
open Go.RowKit
attribute [local go_sem ↓] Go.wp_at_zero Go.wp_at_succ

theorem countP_take1 {α : Type} (l : List α) (p : α → Bool) (k : Nat) (hk : k < l.length) : (l.take (k + 1)).countP p = (l.take k).countP p + (if p l[k] then 1 else 0) := by
  rw [List.take_succ_eq_append_getElem hk, List.countP_append]; simp [List.countP_cons]
end Go.Proofs.Ytpcimjccngidgaa
namespace Go.Proofs.Ytpcimjccngidgaa
set_option maxRecDepth 20000
open Go.RowKit
attribute [local go_sem ↓] Go.wp_at_zero Go.wp_at_succ

theorem all_no {it : List It} {p : It → Bool} {k : Nat} (hk : k < it.length) (h : p it[k] = false) : it.all p = false := by
  rw [List.all_eq_false]; exact ⟨it[k], List.getElem_mem hk, by simp [h]⟩
theorem all_yes {it : List It} {p : It → Bool} (h : ∀ j (hj : j < it.length), p it[j] = true) : it.all p = true := by
  rw [List.all_eq_true]; intro x hx
  obtain ⟨j, hj, rfl⟩ := List.mem_iff_getElem.1 hx
  exact h j hj
theorem Bx.read4 {w : World} {k : Nat} {a b c d : Value} (h : Bx w k #[a, b, c, d]) : w.cell? ⟨k, 0, none⟩ = some a ∧ w.cell? ⟨k, 1, none⟩ = some b ∧ w.cell? ⟨k, 2, none⟩ = some c ∧ w.cell? ⟨k, 3, none⟩ = some d :=
  ⟨h.at 0 _ rfl, h.at 1 _ rfl, h.at 2 _ rfl, h.at 3 _ rfl⟩
end Go.Proofs.Ytpcimjccngidgaa
namespace Go.Proofs.Ytpcimjccngidgaa
set_option maxRecDepth 20000
open Go.RowKit
attribute [local go_sem ↓] Go.wp_at_zero Go.wp_at_succ

theorem rightH_no {l : List HC} {keep : Int} (h : ¬ ((1 ≤ l.length ∧ l.length ≤ 2000) ∧ (0 ≤ keep ∧ keep ≤ l.length))) : rightH ⟨l, keep⟩ = false := by
  unfold rightH; simp only; rw [decide_eq_false h]; rfl
theorem rightH_bad {l : List HC} {keep : Int} {k : Nat} (hk : k < l.length) (h : cellR l.length l[k] = false) : rightH ⟨l, keep⟩ = false := by
  unfold rightH; simp only
  rw [show l.all (cellR l.length) = false from by rw [List.all_eq_false]; exact ⟨l[k], List.getElem_mem hk, by simp [h]⟩]
  simp
theorem rightH_yes {l : List HC} {keep : Int} (h : (1 ≤ l.length ∧ l.length ≤ 2000) ∧ (0 ≤ keep ∧ keep ≤ l.length)) (h2 : ∀ k (hk : k < l.length), cellR l.length l[k] = true) : rightH ⟨l, keep⟩ = true := by
  unfold rightH; simp only
  rw [decide_eq_true h, show l.all (cellR l.length) = true from by
    rw [List.all_eq_true]; intro x hx
    obtain ⟨j, hj, rfl⟩ := List.mem_iff_getElem.1 hx
    exact h2 j hj]
  rfl
theorem rightH_iff {l : List HC} {keep : Int} (h : rightH ⟨l, keep⟩ = true) : ((1 ≤ l.length ∧ l.length ≤ 2000) ∧ (0 ≤ keep ∧ keep ≤ l.length)) ∧ ∀ k (hk : k < l.length), cellR l.length l[k] = true := by
  unfold rightH at h
  simp only [Bool.and_eq_true, decide_eq_true_eq, List.all_eq_true] at h
  exact ⟨h.1, fun k hk => h.2 _ (List.getElem_mem hk)⟩

def mayH (h : Hp) (most : Int) : Bool := smallH h most && rightH h
end Go.Proofs.Ytpcimjccngidgaa
namespace Go.Proofs.Ytpcimjccngidgaa
set_option maxRecDepth 20000
open Go.RowKit
attribute [local go_sem ↓] Go.wp_at_zero Go.wp_at_succ

theorem infoHc : (Try.prog.info? 92).map (fun i => (i.zero, i.size, i.bytes)) = some (some (.agg #[.int .i64 0, .bool false, .bool false, .slice none 0 0]), 4, 48) := by kernel_rfl
/-- append of cells onto a row of the call's own. -/
theorem app_hcs (w : World) {ops : Array Oper} {rest : List Oper} {o : Oper} {a : Act} {Q : Exit → Act → World → Prop} (hgd : o.guard = none) (s x : Operand)
    (ho : o.op = .call { callee := .builtin .append, args := #[s, x], argTypes := #[36, 36] })
    (B : Nat) (v : Value) (n : Nat) (xs : List Value) (hs : a.eval s = v) (hown : w.ownsRow B 92 4 v n xs)
    (A : Option Addr) (m c : Nat) (ys : List Value) (hx : a.eval x = .slice A m c) (hl : ys.length = m * 4) (hS : Sl w A m c ys) (h1 : ∀ u ∈ ys, u.oneCell' = true)
    (hsz : n + m ≤ 100000) (hB : B ≤ w.heap.size)
    (h : ∀ A' c' w', w'.ownsRow B 92 4 (.slice A' (n + m) c') (n + m) (xs ++ ys) → w.grownBy w' v.ownBlock → wpList Try.prog ops Q rest (a.put o.dst (.slice A' (n + m) c')) w') : wpList Try.prog ops Q (o :: rest) a w :=
  wpList_app_sl w hgd s x 36 ho B 92 (.agg #[.int .i64 0, .bool false, .bool false, .slice none 0 0]) 4 48 Try.underlying36 infoHc rfl (by omega) v n xs hs hown A m c ys hx hl hS h1 (by unfold maxLen; omega) (by omega) hB h

theorem own_hc_read {w : World} {B e g n cap : Nat} {cs : List Value} {l : List HC} (h : w.ownsRow B e 4 (.slice (some ⟨g, 0, none⟩) n cap) n cs) (hn : n = l.length) {w0 : World} (ha : HcAt w0 cs l) {k : Nat} (hk : k < n) :
    ∃ a b c d, w.cell? ⟨g, k * 4, none⟩ = some a ∧ w.cell? ⟨g, k * 4 + 1, none⟩ = some b ∧ w.cell? ⟨g, k * 4 + 2, none⟩ = some c ∧ w.cell? ⟨g, k * 4 + 3, none⟩ = some d := by
  obtain ⟨A, c, e1, e2, e3, e4, _⟩ := ha.2 k (by omega)
  have hl := h.1
  exact ⟨_, _, _, _, (h.cellAt (k * 4) (by omega)).trans e1, (h.cellAt (k * 4 + 1) (by omega)).trans e2, (h.cellAt (k * 4 + 2) (by omega)).trans e3, (h.cellAt (k * 4 + 3) (by omega)).trans e4⟩
theorem holdH_at {l : List HC} {keep : Int} {k : Nat} (hk : k < l.length) (h : usedC l (k : Int) = true) : holdH ⟨l, keep⟩ (k : Int) = ⟨l.set k l[k].more, keep⟩ ∧ holdE ⟨l, keep⟩ (k : Int) = 0 := by
  unfold holdH holdE moreH setH usedH
  simp only [h, if_true, Int.toNat_natCast, List.getD_eq_getElem?_getD, List.getElem?_eq_getElem hk, Option.getD_some]
  first | exact ⟨rfl, rfl⟩ | exact ⟨rfl, trivial⟩ | trivial
theorem holdH_no {l : List HC} {keep p : Int} (h : usedC l p = false) : holdH ⟨l, keep⟩ p = ⟨l, keep⟩ ∧ holdE ⟨l, keep⟩ p = 4 := by
  unfold holdH holdE usedH
  simp only [h]
  first | exact ⟨rfl, rfl⟩ | trivial
theorem hold_len (h : Hp) (p : Int) : (holdH h p).c.length = h.c.length ∧ (holdH h p).keep = h.keep := by
  unfold holdH moreH setH; split <;> simp
end Go.Proofs.Ytpcimjccngidgaa
