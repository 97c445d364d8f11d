/- Heaps as plain lists of cells; where they lie. No program in sight. -/
import Derived.Test.YthlencnlgnbpaaaItR
namespace Go.Proofs.Ythlencnlgnbpaaa
open Go.RowKit

/-- A cell: how many refer to it, whether it waits, and its node. -/
structure HC where
  ref : Int
  pin : Bool
  leaf : Bool
  it : List It
deriving DecidableEq
/-- A heap: its cells, and how many are kept. -/
structure Hp where
  c : List HC
  keep : Int
deriving DecidableEq
def HC.none : HC := ⟨0, false, false, []⟩
/-- Values that are cells. -/
def HcAt (w : World) (cs : List Value) (l : List HC) : Prop := cs.length = l.length * 4 ∧ ∀ i (h : i < l.length), ∃ A c, cs[i * 4]? = some (.int .i64 l[i].ref) ∧ cs[i * 4 + 1]? = some (.bool l[i].pin) ∧ cs[i * 4 + 2]? = some (.bool l[i].leaf) ∧ cs[i * 4 + 3]? = some (.slice A l[i].it.length c) ∧ Sl w A l[i].it.length c (ivs l[i].it)
theorem HcAt.ext {w w' : World} {cs : List Value} {l : List HC} (h : HcAt w cs l) (hx : Ext w w') : HcAt w' cs l :=
  ⟨h.1, fun i hi => by obtain ⟨A, c, h1, h2, h3, h4, h5⟩ := h.2 i hi; exact ⟨A, c, h1, h2, h3, h4, h5.ext hx⟩⟩
theorem HcAt.nil (w : World) : HcAt w [] [] := ⟨rfl, fun i hi => by simp at hi⟩
theorem HcAt.one {w : World} {A : Option Addr} {c : Nat} (x : HC) (h : Sl w A x.it.length c (ivs x.it)) : HcAt w [.int .i64 x.ref, .bool x.pin, .bool x.leaf, .slice A x.it.length c] [x] :=
  ⟨rfl, fun i hi => by
    have : i = 0 := by simpa using hi
    subst this
    exact ⟨A, c, rfl, rfl, rfl, rfl, h⟩⟩
theorem HcAt.app {w : World} {cs ds : List Value} {l m : List HC} (h : HcAt w cs l) (k : HcAt w ds m) : HcAt w (cs ++ ds) (l ++ m) := by
  refine ⟨by rw [List.length_append, List.length_append, h.1, k.1]; omega, fun i hi => ?_⟩
  rcases Nat.lt_or_ge i l.length with h1 | h1
  · obtain ⟨A, c, e1, e2, e3, e4, hs⟩ := h.2 i h1
    have hl := h.1
    rw [List.getElem_append_left h1]
    exact ⟨A, c, by rw [List.getElem?_append_left (by omega)]; exact e1, by rw [List.getElem?_append_left (by omega)]; exact e2, by rw [List.getElem?_append_left (by omega)]; exact e3, by rw [List.getElem?_append_left (by omega)]; exact e4, hs⟩
  · obtain ⟨A, c, e1, e2, e3, e4, hs⟩ := k.2 (i - l.length) (by rw [List.length_append] at hi; omega)
    have hl := h.1
    rw [List.getElem_append_right h1]
    exact ⟨A, c, by rw [List.getElem?_append_right (by omega), show i * 4 - cs.length = (i - l.length) * 4 by omega]; exact e1, by rw [List.getElem?_append_right (by omega), show i * 4 + 1 - cs.length = (i - l.length) * 4 + 1 by omega]; exact e2, by rw [List.getElem?_append_right (by omega), show i * 4 + 2 - cs.length = (i - l.length) * 4 + 2 by omega]; exact e3, by rw [List.getElem?_append_right (by omega), show i * 4 + 3 - cs.length = (i - l.length) * 4 + 3 by omega]; exact e4, hs⟩
theorem hc_one {w : World} {cs : List Value} {l : List HC} (h : HcAt w cs l) : ∀ u ∈ cs, u.oneCell' = true := fun u hu => by
  obtain ⟨i, hi, rfl⟩ := List.mem_iff_getElem.1 hu
  have hl := h.1
  obtain ⟨A, c, e1, e2, e3, e4, _⟩ := h.2 (i / 4) (by omega)
  have hm : i = i / 4 * 4 ∨ i = i / 4 * 4 + 1 ∨ i = i / 4 * 4 + 2 ∨ i = i / 4 * 4 + 3 := by omega
  have he := List.getElem?_eq_getElem hi
  rcases hm with hm | hm | hm | hm
  · rw [← hm, he] at e1; have e := Option.some.inj e1; rw [e]; rfl
  · rw [← hm, he] at e2; have e := Option.some.inj e2; rw [e]; rfl
  · rw [← hm, he] at e3; have e := Option.some.inj e3; rw [e]; rfl
  · rw [← hm, he] at e4; have e := Option.some.inj e4; rw [e]; rfl
theorem HcAt.set {w : World} {cs : List Value} {l : List HC} (h : HcAt w cs l) {p : Nat} (hp : p < l.length) (x : HC) {A : Option Addr} {c : Nat} (hs : Sl w A x.it.length c (ivs x.it)) :
    HcAt w ((((cs.set (p * 4) (.int .i64 x.ref)).set (p * 4 + 1) (.bool x.pin)).set (p * 4 + 2) (.bool x.leaf)).set (p * 4 + 3) (.slice A x.it.length c)) (l.set p x) := by
  have hl := h.1
  refine ⟨by simp [hl], fun i hi => ?_⟩
  rw [List.length_set] at hi
  by_cases hip : p = i
  · subst hip
    rw [List.getElem_set_self]
    refine ⟨A, c, ?_, ?_, ?_, ?_, hs⟩ <;> simp [List.getElem?_set] <;> omega
  · rw [List.getElem_set_ne hip]
    obtain ⟨B, d, e1, e2, e3, e4, h5⟩ := h.2 i hi
    refine ⟨B, d, ?_, ?_, ?_, ?_, h5⟩
    · rw [List.getElem?_set_ne (by omega), List.getElem?_set_ne (by omega), List.getElem?_set_ne (by omega), List.getElem?_set_ne (by omega)]; exact e1
    · rw [List.getElem?_set_ne (by omega), List.getElem?_set_ne (by omega), List.getElem?_set_ne (by omega), List.getElem?_set_ne (by omega)]; exact e2
    · rw [List.getElem?_set_ne (by omega), List.getElem?_set_ne (by omega), List.getElem?_set_ne (by omega), List.getElem?_set_ne (by omega)]; exact e3
    · rw [List.getElem?_set_ne (by omega), List.getElem?_set_ne (by omega), List.getElem?_set_ne (by omega), List.getElem?_set_ne (by omega)]; exact e4
/-- A slice of cells. -/
def HcSl (w : World) (R : Option Addr) (m q : Nat) (l : List HC) : Prop := m = l.length ∧ ∃ cs, Sl w R m q cs ∧ HcAt w cs l
theorem HcSl.ext {w w' : World} {R : Option Addr} {m q : Nat} {l : List HC} (h : HcSl w R m q l) (hx : Ext w w') : HcSl w' R m q l := by
  obtain ⟨h1, cs, h2, h3⟩ := h
  exact ⟨h1, cs, h2.ext hx, h3.ext hx⟩
/-- Where a cell stands. -/
theorem HcSl.cell {w : World} {R : Option Addr} {m q : Nat} {l : List HC} (h : HcSl w R m q l) {k : Nat} (hk : k < l.length) :
    ∃ b off, R = some ⟨b, off, none⟩ ∧ b < w.heap.size ∧ ∃ A c, w.cell? ⟨b, off + k * 4, none⟩ = some (.int .i64 l[k].ref) ∧ w.cell? ⟨b, off + k * 4 + 1, none⟩ = some (.bool l[k].pin) ∧ w.cell? ⟨b, off + k * 4 + 2, none⟩ = some (.bool l[k].leaf) ∧ w.cell? ⟨b, off + k * 4 + 3, none⟩ = some (.slice A l[k].it.length c) ∧ Sl w A l[k].it.length c (ivs l[k].it) := by
  obtain ⟨h1, cs, h2, h3⟩ := h
  obtain ⟨A, c, e1, e2, e3, e4, h5⟩ := h3.2 k hk
  have hne : cs ≠ [] := by intro e; subst e; simp at e1
  obtain ⟨b, off, rfl, hb, hc⟩ := h2.cells hne
  exact ⟨b, off, rfl, hb, A, c, hc _ _ e1, by rw [Nat.add_assoc]; exact hc _ _ e2, by rw [Nat.add_assoc]; exact hc _ _ e3, by rw [Nat.add_assoc]; exact hc _ _ e4, h5⟩
/-- Rows of items, and of cells, lie in no box of a slice and a number. -/
theorem no_box {w : World} {b off k : Nat} {A1 : Option Addr} {n1 c1 : Nat} {z : Int} (hb : Bx w k #[.slice A1 n1 c1, .int .i64 z]) {r : Int} {u : Value} (h0 : w.cell? ⟨b, off, none⟩ = some (.int .i64 r)) (h1 : w.cell? ⟨b, off + 1, none⟩ = some u) : k ≠ b := fun e => by
  subst e
  obtain ⟨t, hb⟩ := hb
  unfold World.cell? at h0 h1
  rw [show w.heap[(⟨k, off, none⟩ : Addr).block]? = _ from hb] at h0
  rw [show w.heap[(⟨k, off + 1, none⟩ : Addr).block]? = _ from hb] at h1
  match off, h0, h1 with
  | 0, h0, _ => simp at h0
  | 1, _, h1 => simp at h1
  | n + 2, h0, _ => simp at h0
theorem Sl.boxed2 {w : World} {A : Option Addr} {n c : Nat} {l : List It} (h : Sl w A n c (ivs l)) {k : Nat} {A1 : Option Addr} {n1 c1 : Nat} {z : Int} (hb : Bx w k #[.slice A1 n1 c1, .int .i64 z]) (x y : Value) :
    Sl ((w.setCell ⟨k, 0, none⟩ x).setCell ⟨k, 1, none⟩ y) A n c (ivs l) := by
  refine h.grown (grown_store2 w k x y) (fun hx p hp e => ?_)
  obtain ⟨b, off, e', hlt, hc⟩ := h.cells hx
  rw [hp] at e'
  cases e'
  cases l with
  | nil => exact hx rfl
  | cons u r =>
    have h0 := hc 0 _ rfl
    have h1 := hc 1 _ rfl
    rw [Nat.add_zero] at h0
    exact no_box hb h0 h1 (Option.some.inj e)
theorem HcSl.boxed2 {w : World} {R : Option Addr} {m q : Nat} {l : List HC} (h : HcSl w R m q l) {k : Nat} {A1 : Option Addr} {n1 c1 : Nat} {z : Int} (hb : Bx w k #[.slice A1 n1 c1, .int .i64 z]) (x y : Value) :
    HcSl ((w.setCell ⟨k, 0, none⟩ x).setCell ⟨k, 1, none⟩ y) R m q l := by
  obtain ⟨h1, cs, h2, h3⟩ := h
  refine ⟨h1, cs, ?_, h3.1, fun i hi => ?_⟩
  · refine h2.grown (grown_store2 w k x y) (fun hx p hp e => ?_)
    obtain ⟨b, off, e', hlt, hc⟩ := h2.cells hx
    rw [hp] at e'
    cases e'
    have hl := h3.1
    have hpos : 0 < l.length := by
      rcases Nat.eq_zero_or_pos l.length with h0 | h0
      · rw [h0] at hl; exact absurd (List.eq_nil_of_length_eq_zero hl) hx
      · exact h0
    obtain ⟨A, c, e1, e2, _⟩ := h3.2 0 hpos
    have g0 := hc _ _ e1
    have g1 := hc _ _ e2
    simp only [Nat.zero_mul, Nat.add_zero, Nat.zero_add] at g0 g1
    exact no_box hb g0 g1 (Option.some.inj e)
  · obtain ⟨A, c, e1, e2, e3, e4, h5⟩ := h3.2 i hi
    exact ⟨A, c, e1, e2, e3, e4, h5.boxed2 hb x y⟩
/-- A row of the call's own, with one of its cells written. -/
theorem own_set {w : World} {B e s n g cap : Nat} {xs : List Value} (h : w.ownsRow B e s (.slice (some ⟨g, 0, none⟩) n cap) n xs) {j : Nat} (_hj : j < n * s) (u : Value) :
    (w.setCell ⟨g, j, none⟩ u).ownsRow B e s (.slice (some ⟨g, 0, none⟩) n cap) n (xs.set j u) := by
  refine ⟨by rw [List.length_set]; exact h.1, ?_⟩
  rcases h.2 with ⟨e0, _⟩ | ⟨g', cap', cur, e0, hg, hh, hnc, hcm, hsz, ht⟩
  · cases e0
  · cases e0
    refine .inr ⟨g, cap, _, rfl, hg, heap_setCell_same w g j cur e u hh, hnc, hcm, by simp [hsz], ?_⟩
    rw [Array.toList_setIfInBounds, List.take_set, ht]
theorem own_free {w : World} {B e s n g cap : Nat} {xs : List Value} (h : w.ownsRow B e s (.slice (some ⟨g, 0, none⟩) n cap) n xs) (j : Nat) : w.frozen? ⟨g, j, none⟩ = false := by
  rcases h.2 with ⟨e0, _⟩ | ⟨g', cap', cur, e0, hg, hh, _⟩
  · cases e0
  · cases e0
    exact Bx.free ⟨_, hh⟩ j
/-- A row of the call's own, with a whole cell of the heap written. -/
theorem own_hc {w : World} {B e g n cap : Nat} {cs : List Value} (h : w.ownsRow B e 4 (.slice (some ⟨g, 0, none⟩) n cap) n cs) {p : Nat} (hp : p < n) (a b c d : Value) :
    ((((w.setCell ⟨g, p * 4, none⟩ a).setCell ⟨g, p * 4 + 1, none⟩ b).setCell ⟨g, p * 4 + 2, none⟩ c).setCell ⟨g, p * 4 + 3, none⟩ d).ownsRow B e 4 (.slice (some ⟨g, 0, none⟩) n cap) n ((((cs.set (p * 4) a).set (p * 4 + 1) b).set (p * 4 + 2) c).set (p * 4 + 3) d) :=
  own_set (own_set (own_set (own_set h (by omega) a) (by omega) b) (by omega) c) (by omega) d

/-- P5.1 to P5.4, on plain lists. -/
def usedC (l : List HC) (p : Int) : Bool := decide (0 ≤ p) && (decide (p < l.length) && decide (0 < (l.getD p.toNat HC.none).ref))
abbrev usedH (h : Hp) (p : Int) : Bool := usedC h.c p
def leadsC (l : List HC) (leaf : Bool) (it : List It) : Bool := leaf || it.all (fun x => usedC l x.2)
def placesC (n : Nat) (leaf : Bool) (it : List It) : Bool := leaf || it.all (fun x => decide (0 ≤ x.2) && decide (x.2 < n))
def cellR (n : Nat) (c : HC) : Bool := if c.ref = 0 then !c.leaf && decide (c.it.length = 0) else decide (0 < c.ref) && (decide (c.ref ≤ 2147483647) && (!c.pin && (ndR c.it && placesC n c.leaf c.it)))
def rightH (h : Hp) : Bool := decide ((1 ≤ h.c.length ∧ h.c.length ≤ 2000) ∧ (0 ≤ h.keep ∧ h.keep ≤ h.c.length)) && h.c.all (cellR h.c.length)
theorem usedC_neg {l : List HC} {p : Int} (h : p < 0) : usedC l p = false := by unfold usedC; rw [decide_eq_false (by omega)]; rfl
theorem usedC_big {l : List HC} {p : Int} (h : (l.length : Int) ≤ p) : usedC l p = false := by unfold usedC; rw [decide_eq_false (show ¬ p < l.length by omega)]; simp
theorem usedC_at {l : List HC} {k : Nat} (h : k < l.length) : usedC l (k : Int) = decide (0 < l[k].ref) := by
  unfold usedC
  rw [decide_eq_true (show (0 : Int) ≤ k by omega), decide_eq_true (show (k : Int) < l.length by omega), Int.toNat_natCast, List.getD_eq_getElem?_getD, List.getElem?_eq_getElem h]
  rfl
theorem usedC_iff {l : List HC} {p : Int} (h : usedC l p = true) : ∃ k : Nat, ∃ hk : k < l.length, p = (k : Int) ∧ 0 < l[k].ref := by
  rcases Int.lt_or_le p 0 with h0 | h0
  · rw [usedC_neg h0] at h; cases h
  rcases Int.lt_or_le p l.length with h1 | h1
  · obtain ⟨k, rfl⟩ := Int.eq_ofNat_of_zero_le h0
    have hk : k < l.length := by omega
    rw [usedC_at hk] at h
    exact ⟨k, hk, rfl, by simpa using h⟩
  · rw [usedC_big h1] at h; cases h
def freeC (c : HC) : Bool := decide (c.ref = 0) && !c.pin
def freeH (h : Hp) : Nat := h.c.countP freeC
def fitsH (h : Hp) (n : Int) (deep : Bool) : Bool := decide (n ≤ (freeH h : Int) - (if deep then 0 else h.keep))
def setH (h : Hp) (p : Nat) (x : HC) : Hp := ⟨h.c.set p x, h.keep⟩
def moreH (h : Hp) (p : Nat) : Hp := setH h p ⟨(h.c.getD p HC.none).ref + 1, (h.c.getD p HC.none).pin, (h.c.getD p HC.none).leaf, (h.c.getD p HC.none).it⟩
def holdH (h : Hp) (p : Int) : Hp := if usedH h p then moreH h p.toNat else h
def holdE (h : Hp) (p : Int) : Int := if usedH h p then 0 else 4
/-- Numbers as values; is one among them? -/
def iv (x : Int) : Value := .int .i64 x
theorem Cells.num {w : World} {A : Option Addr} {l : List Int} (h : Cells w A (l.map iv)) {k : Nat} (hk : k < l.length) :
    ∃ b off, A = some ⟨b, off, none⟩ ∧ b < w.heap.size ∧ ∀ j (hj : j < l.length), w.cell? ⟨b, off + j, none⟩ = some (.int .i64 l[j]) := by
  obtain ⟨b, off, rfl, hlt, hc⟩ := h (by intro e; rw [List.map_eq_nil_iff] at e; subst e; simp at hk)
  exact ⟨b, off, rfl, hlt, fun j hj => hc j _ (by simp [hj, iv])⟩
def inL (l : List Int) (x : Int) : Bool := l.any (fun y => decide (y = x))
theorem inL_yes {l : List Int} {x : Int} {k : Nat} (hk : k < l.length) (h : l[k] = x) : inL l x = true := by
  unfold inL; rw [List.any_eq_true]; exact ⟨l[k], List.getElem_mem hk, by simpa using h⟩
theorem inL_no {l : List Int} {x : Int} (h : ∀ j (hj : j < l.length), l[j] ≠ x) : inL l x = false := by
  unfold inL; rw [List.any_eq_false]; intro y hy
  obtain ⟨i, hi, rfl⟩ := List.mem_iff_getElem.1 hy
  simpa using h i hi
/-- One Ref more. -/
def HC.more (x : HC) : HC := ⟨x.ref + 1, x.pin, x.leaf, x.it⟩
/-- P5.2: what a node tells is held once more, for each item, but what is held already. -/
def moreL (held : List Int) (l : List HC) (it : List It) : List HC := it.foldl (fun g x => if inL held x.2 then g else g.set x.2.toNat (g.getD x.2.toNat HC.none).more) l
def stopC (c : HC) : Bool := !(decide (0 < c.ref) || c.pin)
def firstF (l : List HC) : Nat := l.findIdx stopC
def allocE (l : List HC) (leaf : Bool) (it : List It) : Int := if ndR it && leadsC l leaf it then (if firstF l < l.length then 0 else 3) else 1
def allocP (l : List HC) (leaf : Bool) (it : List It) : Nat := if allocE l leaf it = 0 then firstF l else 0
def allocL (l : List HC) (leaf : Bool) (it : List It) (held : List Int) : List HC := if allocE l leaf it = 0 then (if leaf then l else moreL held l it).set (firstF l) ⟨1, false, leaf, it⟩ else l
/-- P5.3: one Ref less; what goes is loosed below, in order. (Fuel: more than there are cells in use.) -/
def looseL : Nat → List HC → Int → List HC
  | 0, l, _ => l
  | f + 1, l, p =>
    if usedC l p then
      if 1 < (l.getD p.toNat HC.none).ref then l.set p.toNat ⟨(l.getD p.toNat HC.none).ref - 1, false, (l.getD p.toNat HC.none).leaf, (l.getD p.toNat HC.none).it⟩
      else if (l.getD p.toNat HC.none).leaf then l.set p.toNat ⟨0, true, false, []⟩
      else (l.getD p.toNat HC.none).it.foldl (fun g x => looseL f g x.2) (l.set p.toNat ⟨0, true, false, []⟩)
    else l
def usedN (l : List HC) : Nat := l.countP (fun c => decide (0 < c.ref))
def looseH (h : Hp) (p : Int) : Hp := ⟨looseL (h.c.length + 1) h.c p, h.keep⟩
def looseE (h : Hp) (p : Int) : Int := if usedH h p then 0 else 4
def settleH (h : Hp) : Hp := ⟨h.c.map (fun c => ⟨c.ref, false, c.leaf, c.it⟩), h.keep⟩
def smallH (h : Hp) (most : Int) : Bool := decide ((h.c.length : Int) ≤ most) && h.c.all (fun c => decide (c.it.length ≤ 10) && decide (c.ref ≤ 1000000))
/-- A value that is a heap. -/
def IsHeap (w : World) (v : Value) (h : Hp) : Prop := ∃ R q, v = .agg #[.slice R h.c.length q, .int .i64 h.keep] ∧ HcSl w R h.c.length q h.c
theorem IsHeap.ext {w w' : World} {v : Value} {h : Hp} (k : IsHeap w v h) (hx : Ext w w') : IsHeap w' v h := by
  obtain ⟨R, q, e, h1⟩ := k
  exact ⟨R, q, e, h1.ext hx⟩
end Go.Proofs.Ythlencnlgnbpaaa
