/- Plain facts on writes, blocks and cells; no program in sight. -/
import Derived.Test.YtpdeagndandnjaaDoorNumP0
import Derived.Laws.CopyOwn
import Derived.OwnWalk
namespace Go.Proofs.YtpdeagndandnjaaDoor
set_option maxRecDepth 20000
open Go.RowKit

/-- A write: where, and what. -/
abbrev Wr := Int × ByteArray
def sv (s : ByteArray) : Value := .string s
def wvs : List Wr → List Value
  | [] => []
  | x :: l => .int .i64 x.1 :: .string x.2 :: wvs l
theorem wvs_length (l : List Wr) : (wvs l).length = l.length * 2 := by
  induction l with
  | nil => rfl
  | cons x l ih => simp only [wvs, List.length_cons, ih]; omega
theorem wvs_append (l m : List Wr) : wvs (l ++ m) = wvs l ++ wvs m := by
  induction l with
  | nil => rfl
  | cons x l ih => simp [wvs, ih]
theorem wvs_at (l : List Wr) : ∀ (k : Nat) (h : k < l.length), (wvs l)[k * 2]? = some (.int .i64 l[k].1) ∧ (wvs l)[k * 2 + 1]? = some (.string l[k].2) := by
  induction l with
  | nil => intro k h; simp at h
  | cons x l ih =>
    intro k h
    match k with
    | 0 => exact ⟨rfl, rfl⟩
    | k + 1 =>
      have := ih k (by simpa using h)
      have e1 : (k + 1) * 2 = k * 2 + 1 + 1 := by omega
      have e2 : (k + 1) * 2 + 1 = k * 2 + 1 + 1 + 1 := by omega
      rw [e1]
      simpa [wvs] using this
theorem wvs_oneCell (l : List Wr) : ∀ u ∈ wvs l, u.oneCell' = true := by
  induction l with
  | nil => intro u h; simp [wvs] at h
  | cons x l ih =>
    intro u h
    simp only [wvs, List.mem_cons] at h
    rcases h with rfl | rfl | h
    · rfl
    · rfl
    · exact ih u h
theorem svs_oneCell (l : List ByteArray) : ∀ u ∈ l.map sv, u.oneCell' = true := by
  intro u hu
  obtain ⟨_, _, rfl⟩ := List.mem_map.1 hu
  rfl
theorem bools_oneCell (l : List Bool) : ∀ u ∈ l.map Value.bool, u.oneCell' = true := by
  intro u hu
  obtain ⟨_, _, rfl⟩ := List.mem_map.1 hu
  rfl

/-- Where a write stands. -/
theorem Cells.wr {w : World} {A : Option Addr} {l : List Wr} (h : Cells w A (wvs l)) {k : Nat} (hk : k < l.length) :
    ∃ b off, A = some ⟨b, off, none⟩ ∧ b < w.heap.size ∧ ∀ j (hj : j < l.length), w.cell? ⟨b, off + j * 2, none⟩ = some (.int .i64 l[j].1) ∧ w.cell? ⟨b, off + j * 2 + 1, none⟩ = some (.string l[j].2) := by
  obtain ⟨b, off, rfl, hlt, hc⟩ := h (by intro e; have := wvs_length l; rw [e] at this; simp at this; omega)
  exact ⟨b, off, rfl, hlt, fun j hj => ⟨hc _ _ (wvs_at l j hj).1, by rw [Nat.add_assoc]; exact hc _ _ (wvs_at l j hj).2⟩⟩
/-- Where a text stands. -/
theorem Cells.str {w : World} {A : Option Addr} {l : List ByteArray} (h : Cells w A (l.map sv)) {k : Nat} (hk : k < l.length) :
    ∃ b off, A = some ⟨b, off, none⟩ ∧ b < w.heap.size ∧ ∀ j (hj : j < l.length), w.cell? ⟨b, off + j, none⟩ = some (.string l[j]) := by
  obtain ⟨b, off, rfl, hlt, hc⟩ := h (by intro e; rw [List.map_eq_nil_iff] at e; subst e; simp at hk)
  exact ⟨b, off, rfl, hlt, fun j hj => hc j _ (by simp [sv, hj])⟩
theorem Cells.flag {w : World} {A : Option Addr} {l : List Bool} (h : Cells w A (l.map Value.bool)) {k : Nat} (hk : k < l.length) :
    ∃ b off, A = some ⟨b, off, none⟩ ∧ b < w.heap.size ∧ ∀ j (hj : j < l.length), w.cell? ⟨b, off + j, none⟩ = some (.bool l[j]) := by
  obtain ⟨b, off, rfl, hlt, hc⟩ := h (by intro e; rw [List.map_eq_nil_iff] at e; subst e; simp at hk)
  exact ⟨b, off, rfl, hlt, fun j hj => hc j _ (by simp [hj])⟩

/-- Nothing of what w holds is turned in w'. -/
def Ext (w w' : World) : Prop := Below w.heap.size w w'
theorem Ext.refl (w : World) : Ext w w := Below.refl _ _
theorem Ext.trans {a b c : World} (h : Ext a b) (k : Ext b c) : Ext a c := Below.trans h (Below.mono k h.size)
theorem Ext.alloc {a b : World} (h : Ext a b) (o : Obj) : Ext a (b.alloc o) := Below.alloc h h.size o
theorem Ext.set {a b : World} (h : Ext a b) {p : Addr} (hp : a.heap.size ≤ p.block) (u : Value) : Ext a (b.setCell p u) := Below.setCell h hp u
theorem below_drewN {B : Nat} {a w : World} (h : Below B a w) : ∀ n, Below B a (w.drewN n) := fun _ => ⟨h.os, h.tape, h.output, h.size, h.block⟩
theorem Ext.drew {a b : World} (h : Ext a b) : Ext a b.drew := Below.drew h
theorem Ext.drewN {a b : World} (h : Ext a b) (n : Nat) : Ext a (b.drewN n) := below_drewN h n
theorem Ext.app {a b c : World} {B e s n : Nat} {v : Value} {xs : List Value} (h : Ext a b) (o : b.ownsRow B e s v n xs) (hB : a.heap.size ≤ B) (hg : b.grownBy c v.ownBlock) : Ext a c :=
  Below.grown h hg h.size (fun q hq => Nat.le_trans hB (o.lt q hq).1)
theorem Cells.ext {w w' : World} {A : Option Addr} {xs : List Value} (h : Cells w A xs) (hb : Ext w w') : Cells w' A xs := h.below hb

/-- What stands in no block that is written stays. -/
theorem Cells.grown {w w' : World} {A : Option Addr} {xs : List Value} {row : Option Nat} (h : Cells w A xs) (hg : w.grownBy w' row) (hne : xs ≠ [] → ∀ p, A = some p → row ≠ some p.block) : Cells w' A xs := fun hx => by
  have hne := hne hx
  obtain ⟨b, off, rfl, hlt, hc⟩ := h hx
  exact ⟨b, off, rfl, Nat.lt_of_lt_of_le hlt hg.size, fun j u hu => hg.cell (hc j u hu) (fun e => hne _ rfl e.symm)⟩
/-- What lay there lies in no block that was made behind it. -/
theorem Cells.apart {w : World} {A : Option Addr} {xs : List Value} (h : Cells w A xs) {g : Nat} (hg : w.heap.size ≤ g) : xs ≠ [] → ∀ p, A = some p → some g ≠ some p.block := fun hx p hp e => by
  obtain ⟨b, off, e', hlt, _⟩ := h hx
  rw [hp] at e'
  cases e'
  cases e
  exact absurd hlt (Nat.not_lt.2 hg)
theorem grown_trans {a b c : World} {row : Option Nat} (h : a.grownBy b row) (k : b.grownBy c row) : a.grownBy c row :=
  ⟨k.os.trans h.os, k.tape.trans h.tape, k.output.trans h.output, Nat.le_trans h.size k.size, fun i hi hr => (k.block i (Nat.lt_of_lt_of_le hi h.size) hr).trans (h.block i hi hr)⟩

/-- A list's cells, cut. -/
theorem Cells.nil (w : World) (A : Option Addr) : Cells w A [] := fun h => absurd rfl h

end Go.Proofs.YtpdeagndandnjaaDoor
