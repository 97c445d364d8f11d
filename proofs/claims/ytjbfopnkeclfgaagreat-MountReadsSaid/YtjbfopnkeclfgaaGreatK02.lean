/- Plain facts on writes, blocks and cells; no program in sight. Rows that are made and copied onto; no program in sight. Appending onto rows of the call's own; no program in sight. Walks of the small functions of package disk and of the reference: has, takes, isFlush, may. The walks of copied, at both kinds. The walks of both Put. The walk of write. The library's iterators over a slice of writes: Backward and Values. -/
import Derived.Test.YtjbfopnkeclfgaaGreatK01
import Derived.Laws.CopyOwn
import Derived.OwnWalk
import Derived.OneCell
import Derived.Laws.AppendOwnNone
import Derived.Test.YtjbfopnkeclfgaaGreatRows
import Derived.Deep.RegionHeld3
import Derived.Deep.AppendLies
import Derived.Deep.DrawnRows
import Derived.RangeFuncNested
import Derived.RangeFuncBound
import Derived.RangeFuncCalls
import Derived.RangeFuncLeaves
import Derived.Shelf.Abstract
import Derived.Shelf.RegionOpen
import Derived.OwnWalkIn
import Derived.TacticsInMore
import Derived.LoopNIn
import Derived.LoopIn
namespace Go.Proofs.YtjbfopnkeclfgaaGreat
set_option maxRecDepth 20000
open Go.RowKit

/-- A write: where, and what. -/
abbrev Wr := Int × ByteArray
def sv (s : ByteArray) : Value := .string s
def wvs : List Wr → List Value
  | [] => []
  | x :: l => .int .i64 x.1 :: .string x.2 :: wvs l
theorem wvs_length (l : List Wr) : (wvs l).length = l.length * 2 := by
  induction l with
  | nil => rfl
  | cons x l ih => simp only [wvs, List.length_cons, ih]; omega
theorem wvs_append (l m : List Wr) : wvs (l ++ m) = wvs l ++ wvs m := by
  induction l with
  | nil => rfl
  | cons x l ih => simp [wvs, ih]
theorem wvs_at (l : List Wr) : ∀ (k : Nat) (h : k < l.length), (wvs l)[k * 2]? = some (.int .i64 l[k].1) ∧ (wvs l)[k * 2 + 1]? = some (.string l[k].2) := by
  induction l with
  | nil => intro k h; simp at h
  | cons x l ih =>
    intro k h
    match k with
    | 0 => exact ⟨rfl, rfl⟩
    | k + 1 =>
      have := ih k (by simpa using h)
      have e1 : (k + 1) * 2 = k * 2 + 1 + 1 := by omega
      have e2 : (k + 1) * 2 + 1 = k * 2 + 1 + 1 + 1 := by omega
      rw [e1]
      simpa [wvs] using this
theorem wvs_oneCell (l : List Wr) : ∀ u ∈ wvs l, u.oneCell' = true := by
  induction l with
  | nil => intro u h; simp [wvs] at h
  | cons x l ih =>
    intro u h
    simp only [wvs, List.mem_cons] at h
    rcases h with rfl | rfl | h
    · rfl
    · rfl
    · exact ih u h
theorem svs_oneCell (l : List ByteArray) : ∀ u ∈ l.map sv, u.oneCell' = true := by
  intro u hu
  obtain ⟨_, _, rfl⟩ := List.mem_map.1 hu
  rfl
/-- Where a write stands. -/
theorem Cells.wr {w : World} {A : Option Addr} {l : List Wr} (h : Cells w A (wvs l)) {k : Nat} (hk : k < l.length) :
    ∃ b off, A = some ⟨b, off, none⟩ ∧ b < w.heap.size ∧ ∀ j (hj : j < l.length), w.cell? ⟨b, off + j * 2, none⟩ = some (.int .i64 l[j].1) ∧ w.cell? ⟨b, off + j * 2 + 1, none⟩ = some (.string l[j].2) := by
  obtain ⟨b, off, rfl, hlt, hc⟩ := h (by intro e; have := wvs_length l; rw [e] at this; simp at this; omega)
  exact ⟨b, off, rfl, hlt, fun j hj => ⟨hc _ _ (wvs_at l j hj).1, by rw [Nat.add_assoc]; exact hc _ _ (wvs_at l j hj).2⟩⟩
/-- Where a text stands. -/
theorem Cells.str {w : World} {A : Option Addr} {l : List ByteArray} (h : Cells w A (l.map sv)) {k : Nat} (hk : k < l.length) :
    ∃ b off, A = some ⟨b, off, none⟩ ∧ b < w.heap.size ∧ ∀ j (hj : j < l.length), w.cell? ⟨b, off + j, none⟩ = some (.string l[j]) := by
  obtain ⟨b, off, rfl, hlt, hc⟩ := h (by intro e; rw [List.map_eq_nil_iff] at e; subst e; simp at hk)
  exact ⟨b, off, rfl, hlt, fun j hj => hc j _ (by simp [sv, hj])⟩
theorem Cells.flag {w : World} {A : Option Addr} {l : List Bool} (h : Cells w A (l.map Value.bool)) {k : Nat} (hk : k < l.length) :
    ∃ b off, A = some ⟨b, off, none⟩ ∧ b < w.heap.size ∧ ∀ j (hj : j < l.length), w.cell? ⟨b, off + j, none⟩ = some (.bool l[j]) := by
  obtain ⟨b, off, rfl, hlt, hc⟩ := h (by intro e; rw [List.map_eq_nil_iff] at e; subst e; simp at hk)
  exact ⟨b, off, rfl, hlt, fun j hj => hc j _ (by simp [hj])⟩

/-- Nothing of what w holds is turned in w'. -/
def Ext (w w' : World) : Prop := Below w.heap.size w w'
theorem Ext.refl (w : World) : Ext w w := Below.refl _ _
theorem Ext.trans {a b c : World} (h : Ext a b) (k : Ext b c) : Ext a c := Below.trans h (Below.mono k h.size)
theorem Ext.alloc {a b : World} (h : Ext a b) (o : Obj) : Ext a (b.alloc o) := Below.alloc h h.size o
theorem Ext.set {a b : World} (h : Ext a b) {p : Addr} (hp : a.heap.size ≤ p.block) (u : Value) : Ext a (b.setCell p u) := Below.setCell h hp u
theorem below_drewN {B : Nat} {a w : World} (h : Below B a w) : ∀ n, Below B a (w.drewN n) := fun _ => ⟨h.os, h.tape, h.output, h.size, h.block⟩
theorem Ext.drew {a b : World} (h : Ext a b) : Ext a b.drew := Below.drew h
theorem Ext.drewN {a b : World} (h : Ext a b) (n : Nat) : Ext a (b.drewN n) := below_drewN h n
theorem Ext.app {a b c : World} {B e s n : Nat} {v : Value} {xs : List Value} (h : Ext a b) (o : b.ownsRow B e s v n xs) (hB : a.heap.size ≤ B) (hg : b.grownBy c v.ownBlock) : Ext a c :=
  Below.grown h hg h.size (fun q hq => Nat.le_trans hB (o.lt q hq).1)
theorem Cells.ext {w w' : World} {A : Option Addr} {xs : List Value} (h : Cells w A xs) (hb : Ext w w') : Cells w' A xs := h.below hb

/-- What stands in no block that is written stays. -/
theorem Cells.grown {w w' : World} {A : Option Addr} {xs : List Value} {row : Option Nat} (h : Cells w A xs) (hg : w.grownBy w' row) (hne : xs ≠ [] → ∀ p, A = some p → row ≠ some p.block) : Cells w' A xs := fun hx => by
  have hne := hne hx
  obtain ⟨b, off, rfl, hlt, hc⟩ := h hx
  exact ⟨b, off, rfl, Nat.lt_of_lt_of_le hlt hg.size, fun j u hu => hg.cell (hc j u hu) (fun e => hne _ rfl e.symm)⟩
/-- What lay there lies in no block that was made behind it. -/
theorem Cells.apart {w : World} {A : Option Addr} {xs : List Value} (h : Cells w A xs) {g : Nat} (hg : w.heap.size ≤ g) : xs ≠ [] → ∀ p, A = some p → some g ≠ some p.block := fun hx p hp e => by
  obtain ⟨b, off, e', hlt, _⟩ := h hx
  rw [hp] at e'
  cases e'
  cases e
  exact absurd hlt (Nat.not_lt.2 hg)
theorem grown_trans {a b c : World} {row : Option Nat} (h : a.grownBy b row) (k : b.grownBy c row) : a.grownBy c row :=
  ⟨k.os.trans h.os, k.tape.trans h.tape, k.output.trans h.output, Nat.le_trans h.size k.size, fun i hi hr => (k.block i (Nat.lt_of_lt_of_le hi h.size) hr).trans (h.block i hi hr)⟩

/-- A list's cells, cut. -/
theorem Cells.nil (w : World) (A : Option Addr) : Cells w A [] := fun h => absurd rfl h

end Go.Proofs.YtjbfopnkeclfgaaGreat
namespace Go.Proofs.YtjbfopnkeclfgaaGreat
set_option maxRecDepth 20000
open Go.RowKit

/-- make, with a length and a capacity. -/
theorem wpList_make_cap {P : Program} (w : World) {ops : Array Oper} {rest : List Oper} {o : Oper} {a : Act} {Q : Exit → Act → World → Prop}
    (hg : o.guard = none) (l c : Operand) (t : TypeId) (hop : o.op = Op.makeSlice t l c)
    (e : TypeId) (i : TypeInfo) (z : Value) (h1 : P.underlying t = some (.slice e)) (h2 : P.info? e = some i) (h3 : i.zero = some z)
    (kl kc : IntKind) (L C : Int) (n m : Nat) (hl : a.eval l = .int kl L) (hc : a.eval c = .int kc C) (hL : L = (n : Int)) (hC : C = (m : Int)) (hnm : n ≤ m) (b2 : i.bytes * m ≤ 281474976710656) (b3 : m ≤ maxLen)
    (hK : wpList P ops Q rest (a.put o.dst (.slice (some ⟨w.heap.size, 0, none⟩) n m)) (w.alloc (.cells (madeCells z.cells (m * i.size)) e))) :
    wpList P ops Q (o :: rest) a w := by
  refine wpList_plain hg fun K hK' => ?_
  have b3' : (m : Int) ≤ 9223372036854775807 := by
    have h := b3
    simp [maxLen] at h
    omega
  have b2' : (i.bytes : Int) * (m : Int) ≤ 281474976710656 := by
    have h : ((i.bytes * m : Nat) : Int) ≤ 281474976710656 := by omega
    rwa [Int.natCast_mul] at h
  have hrun := run_make (P := P) w t e i z h1 h2 h3 kl kc n m (by omega) (by omega) b2' b3'
  simp only [Int.toNat_natCast] at hrun
  subst hL
  subst hC
  unfold Oper.wp
  simp [execOp, hop, hl, hc, hrun, Result.andThen]
  exact hK' _ _ hK

/-- What is owned of a new row onto whose head xs was copied. -/
theorem own_copied (w : World) (n m size : Nat) (e : TypeId) (cur : Array Value) (xs : List Value) (hm : m ≤ maxLen) (hnm : n ≤ m) (hs : cur.size = m * size) (hx : xs.length = n * size) :
    ((w.alloc (.cells cur e)).setRow w.heap.size (xs ++ cur.toList.drop xs.length).toArray).ownsRow w.heap.size e size (.slice (some ⟨w.heap.size, 0, none⟩) n m) n xs ∧
    Ext w ((w.alloc (.cells cur e)).setRow w.heap.size (xs ++ cur.toList.drop xs.length).toArray) := by
  have hle : n * size ≤ m * size := Nat.mul_le_mul_right _ hnm
  refine ⟨⟨hx, .inr ⟨w.heap.size, m, _, rfl, Nat.le_refl _, setRow_heap _ _ _ _ _ _ (heap_alloc_new w _), hnm, hm, ?_, ?_⟩⟩, below_setRow ((Ext.refl w).alloc _) (Nat.le_refl _) _⟩
  · simp; omega
  · simp [← hx]

theorem Cells.len_none {w : World} {A : Option Addr} {xs : List Value} (h : Cells w A xs) (hA : A = none) : xs.length = 0 := by
  cases xs with
  | nil => rfl
  | cons x r => obtain ⟨b, off, e, _⟩ := h (by simp); rw [hA] at e; cases e
theorem Cells.at_ {w : World} {A : Option Addr} {xs : List Value} (h : Cells w A xs) : ∀ ad, A = some ad → ∀ j u, xs[j]? = some u → w.cell? (ad.add j) = some u := by
  intro ad had j u hu
  obtain ⟨b, off, e, _, hc⟩ := h (by intro e; subst e; simp at hu)
  rw [had] at e
  cases e
  rw [Addr.add_lit]
  exact hc j u hu

/-- copy, whatever the elements' size, onto the head of a row that is known whole. -/
theorem run_copy_head {P : Program} (w : World) (dT sT ty elem : TypeId) (i : TypeInfo) (hu : P.underlying dT = some (.slice elem)) (hi : P.info? elem = some i)
    (g n dCap c : Nat) (A : Option Addr)
    (cur : Array Value) (t : TypeId) (hg : w.heap[g]? = some (.cells cur t (0, 0))) (xs : List Value) (hn : xs.length = n * i.size) (hnil : A = none → c = 0)
    (hc : Cells w A xs) (hfit : xs.length ≤ cur.size) (h1 : ∀ v ∈ xs, v.oneCell' = true) (hn0 : A = none → n = 0) :
    (Builtin.copy_ #[dT, sT] ty #[.slice (some ⟨g, 0, none⟩) n dCap, .slice A n c]).run P w = .ok (goInt n) (w.setRow g (xs ++ cur.toList.drop xs.length).toArray) := by
  have hst := run_storeCells_at P g 0 t xs 0 cur w hg (by simpa using hfit) h1
  simp only [Nat.add_zero, Nat.zero_add, List.take_zero, List.nil_append] at hst
  cases A with
  | some ad =>
    have hf := run_firstCells_some (P := P) w i.size n ad n c xs hn (hc.at_ ad rfl)
    simp [Builtin.copy_, run_underlying hu, Builtin.lenOf, sizeOf, typeInfo, hi, hf, hst]
  | none =>
    obtain rfl := hn0 rfl
    obtain rfl := hnil rfl
    obtain rfl : xs = [] := List.eq_nil_of_length_eq_zero (by simpa using hn)
    simp only [List.length_nil, List.nil_append, List.drop_zero, Array.toArray_toList] at hst ⊢
    simp [Builtin.copy_, run_underlying hu, Builtin.lenOf, Builtin.firstCells, sizeOf, typeInfo, hi, storeCells, setRow_self w g cur t (0, 0) hg]

/-- A slice's address, length and capacity, and the cells that stand there. -/
def Sl (w : World) (A : Option Addr) (n c : Nat) (xs : List Value) : Prop := (A = none → c = 0) ∧ n ≤ c ∧ c ≤ maxLen ∧ Cells w A xs
theorem Sl.cells {w : World} {A : Option Addr} {n c : Nat} {xs : List Value} (h : Sl w A n c xs) : Cells w A xs := h.2.2.2
theorem Sl.ext {w w' : World} {A : Option Addr} {n c : Nat} {xs : List Value} (h : Sl w A n c xs) (hx : Ext w w') : Sl w' A n c xs := ⟨h.1, h.2.1, h.2.2.1, h.2.2.2.ext hx⟩
theorem Sl.len {w : World} {A : Option Addr} {n c : Nat} {xs : List Value} (h : Sl w A n c xs) : n ≤ maxLen := Nat.le_trans h.2.1 h.2.2.1
theorem Sl.nil (w : World) : Sl w none 0 0 [] := ⟨fun _ => rfl, Nat.le_refl _, Nat.zero_le _, Cells.nil _ _⟩

/-- A value that is the disk of these blocks, with these writes. -/
def IsDisk (w : World) (v : Value) (b : List ByteArray) (l : List Wr) : Prop :=
  ∃ A c A' c', v = .agg #[.slice A b.length c, .slice A' l.length c'] ∧ Sl w A b.length c (b.map sv) ∧ Sl w A' l.length c' (wvs l)
theorem IsDisk.ext {w w' : World} {v : Value} {b : List ByteArray} {l : List Wr} (h : IsDisk w v b l) (hx : Ext w w') : IsDisk w' v b l := by
  obtain ⟨A, c, A', c', rfl, h1, h2⟩ := h
  exact ⟨A, c, A', c', rfl, h1.ext hx, h2.ext hx⟩

theorem own_cells1 {w : World} {B e n g cap : Nat} {l : List Value} (h : w.ownsRow B e 1 (.slice (some ⟨g, 0, none⟩) n cap) n l) : Cells w (some ⟨g, 0, none⟩) l := fun _ => by
  refine ⟨g, 0, rfl, (h.lt g rfl).2, fun j u hu => ?_⟩
  have hj := (List.getElem?_eq_some_iff.1 hu).1
  have hl := h.1
  rw [Nat.zero_add, h.cellAt j (by omega), hu]
/-- A box that holds two values, still there. -/
def Box2 (w : World) (k : Nat) (a b : Value) : Prop := ∃ t, w.heap[k]? = some (.cells #[a, b] t (0, 0))
theorem Box2.read {w : World} {k : Nat} {a b : Value} (h : Box2 w k a b) : w.cell? ⟨k, 0, none⟩ = some a ∧ w.cell? ⟨k, 1, none⟩ = some b ∧ w.frozen? ⟨k, 0, none⟩ = false ∧ w.frozen? ⟨k, 1, none⟩ = false := by
  obtain ⟨t, h⟩ := h
  refine ⟨?_, ?_, ?_, ?_⟩
  · unfold World.cell?; rw [h]; rfl
  · unfold World.cell?; rw [h]; rfl
  · unfold World.frozen?; rw [h]; rfl
  · unfold World.frozen?; rw [h]; rfl

theorem cell_new0 (w : World) (a b : Value) (t : TypeId) : (w.alloc (.cells #[a, b] t)).cell? ⟨w.heap.size, 0, none⟩ = some a := by
  have := heap_alloc_new w (.cells #[a, b] t)
  unfold World.cell?; rw [this]; rfl
theorem cell_new1 (w : World) (a b : Value) (t : TypeId) : (w.alloc (.cells #[a, b] t)).cell? ⟨w.heap.size, 1, none⟩ = some b := by
  have := heap_alloc_new w (.cells #[a, b] t)
  unfold World.cell?; rw [this]; rfl
theorem Box2.new (w : World) (a b : Value) (t : TypeId) : Box2 (w.alloc (.cells #[a, b] t)) w.heap.size a b := ⟨t, heap_alloc_new w _⟩
theorem Box2.ext {w w' : World} {k : Nat} {a b : Value} (h : Box2 w k a b) (hk : k < w.heap.size) (hx : Ext w w') : Box2 w' k a b := by
  obtain ⟨t, h⟩ := h
  exact ⟨t, (hx.block k hk).trans h⟩
theorem Box2.grown {w w' : World} {k g : Nat} {a b : Value} (h : Box2 w k a b) (hk : k < w.heap.size) (hg : w.grownBy w' (some g)) (hne : k ≠ g) : Box2 w' k a b := by
  obtain ⟨t, h⟩ := h
  exact ⟨t, (hg.block k hk (by simpa using hne)).trans h⟩
theorem Box2.store {w : World} {k : Nat} {a b : Value} (h : Box2 w k a b) (x y : Value) : Box2 ((w.setCell ⟨k, 0, none⟩ x).setCell ⟨k, 1, none⟩ y) k x y := by
  obtain ⟨t, h⟩ := h
  have h1 := heap_setCell_same w k 0 #[a, b] t x h
  have h2 := heap_setCell_same (w.setCell ⟨k, 0, none⟩ x) k 1 _ t y h1
  exact ⟨t, h2⟩
/-- What is no slice lies in no box of slices. -/
def flat : Value → Bool
  | .slice _ _ _ => false
  | _ => true
theorem Cells.not_box {w : World} {A : Option Addr} {xs : List Value} (h : Cells w A xs) (hf : ∀ u ∈ xs, flat u = true) {k : Nat} {A1 A2 : Option Addr} {n1 c1 n2 c2 : Nat} (hb : Box2 w k (.slice A1 n1 c1) (.slice A2 n2 c2)) :
    xs ≠ [] → ∀ p, A = some p → some k ≠ some p.block := fun hx p hp e => by
  obtain ⟨b, off, e', hlt, hc⟩ := h hx
  rw [hp] at e'
  cases e'
  cases e
  obtain ⟨t, hb⟩ := hb
  cases xs with
  | nil => exact hx rfl
  | cons u r =>
    have h1 := hc 0 u rfl
    have h2 := hf u (by simp)
    unfold World.cell? at h1
    rw [show w.heap[(⟨b, off, none⟩ : Addr).block]? = _ from hb] at h1
    simp only [Nat.add_zero, Option.isSome_none] at h1
    match off, h1 with
    | 0, h1 => simp at h1; subst h1; cases h2
    | 1, h1 => simp at h1; subst h1; cases h2
    | n + 2, h1 => simp at h1
theorem flat_svs (l : List ByteArray) : ∀ u ∈ l.map sv, flat u = true := by
  intro u hu
  obtain ⟨_, _, rfl⟩ := List.mem_map.1 hu
  rfl
theorem flat_wvs (l : List Wr) : ∀ u ∈ wvs l, flat u = true := by
  induction l with
  | nil => intro u h; simp [wvs] at h
  | cons x l ih =>
    intro u h
    simp only [wvs, List.mem_cons] at h
    rcases h with rfl | rfl | h
    · rfl
    · rfl
    · exact ih u h
theorem grown_store2 (w : World) (k : Nat) (x y : Value) : w.grownBy ((w.setCell ⟨k, 0, none⟩ x).setCell ⟨k, 1, none⟩ y) (some k) :=
  ⟨rfl, rfl, rfl, by simp [World.setCell], fun i _ hi => by rw [Below.heap_setCell _ _ _ _ (by simpa using hi), Below.heap_setCell _ _ _ _ (by simpa using hi)]⟩
/-- A store into a box of slices leaves what is no slice. -/
theorem Sl.store2 {w : World} {A : Option Addr} {n c : Nat} {xs : List Value} (h : Sl w A n c xs) (hf : ∀ u ∈ xs, flat u = true) {k : Nat} {A1 A2 : Option Addr} {n1 c1 n2 c2 : Nat} (hb : Box2 w k (.slice A1 n1 c1) (.slice A2 n2 c2)) (x y : Value) :
    Sl ((w.setCell ⟨k, 0, none⟩ x).setCell ⟨k, 1, none⟩ y) A n c xs := ⟨h.1, h.2.1, h.2.2.1, h.cells.grown (grown_store2 w k x y) (h.cells.not_box hf hb)⟩
theorem Ext.store2 {w0 w : World} (h : Ext w0 w) {k : Nat} (hk : w0.heap.size ≤ k) (x y : Value) : Ext w0 ((w.setCell ⟨k, 0, none⟩ x).setCell ⟨k, 1, none⟩ y) := (h.set (p := ⟨k, 0, none⟩) hk x).set (p := ⟨k, 1, none⟩) hk y
theorem own_store2 {w : World} {B e size n g cap : Nat} {xs : List Value} (h : w.ownsRow B e size (.slice (some ⟨g, 0, none⟩) n cap) n xs) {k : Nat} (hk : g ≠ k) (x y : Value) : ((w.setCell ⟨k, 0, none⟩ x).setCell ⟨k, 1, none⟩ y).ownsRow B e size (.slice (some ⟨g, 0, none⟩) n cap) n xs :=
  ownsRow_setCell_other (ownsRow_setCell_other h (a := ⟨k, 0, none⟩) (by simpa [Value.ownBlock] using hk) x) (a := ⟨k, 1, none⟩) (by simpa [Value.ownBlock] using hk) y


theorem own_sl1 {w : World} {B e n g cap : Nat} {l : List Value} (h : w.ownsRow B e 1 (.slice (some ⟨g, 0, none⟩) n cap) n l) : Sl w (some ⟨g, 0, none⟩) n cap l := by
  refine ⟨(fun h => by cases h), ?_, ?_, own_cells1 h⟩
  all_goals
    rcases h.2 with ⟨h', _⟩ | ⟨g', cap', cur, h', _, _, hnc, hcm, _⟩
    · simp at h'
    · simp only [Value.slice.injEq] at h'
      obtain ⟨_, _, rfl⟩ := h'
      assumption
/-- The writes that are kept. -/
def kept : List Wr → List Bool → List Wr
  | x :: l, true :: ks => x :: kept l ks
  | _ :: l, false :: ks => kept l ks
  | [], _ => []
  | _ :: _, [] => []
theorem kept_nil (l : List Wr) : kept l [] = [] := by cases l <;> rfl
theorem kept_step : ∀ (k : Nat) (l : List Wr) (ks : List Bool) (h : k < l.length) (h' : k < ks.length), kept (l.take (k + 1)) (ks.take (k + 1)) = kept (l.take k) (ks.take k) ++ (if ks[k] then [l[k]] else [])
  | 0, x :: l, b :: ks, _, _ => by cases b <;> simp [kept]
  | k + 1, x :: l, b :: ks, h, h' => by
    have ih := kept_step k l ks (by simpa using h) (by simpa using h')
    cases b
    · simpa [kept] using ih
    · simp only [List.take_succ_cons, kept, List.getElem_cons_succ, List.cons_append, List.cons.injEq, true_and] at ih ⊢
      exact ih
theorem kept_end : ∀ (m : Nat) (l : List Wr) (ks : List Bool), (l.length ≤ m ∨ ks.length ≤ m) → kept (l.take m) (ks.take m) = kept l ks
  | 0, l, ks, h => by
    rcases h with h | h
    · obtain rfl : l = [] := List.eq_nil_of_length_eq_zero (by omega)
      simp [kept]
    · obtain rfl : ks = [] := List.eq_nil_of_length_eq_zero (by omega)
      simp [kept_nil]
  | m + 1, [], ks, _ => by simp [kept]
  | m + 1, x :: l, [], _ => by simp [kept]
  | m + 1, x :: l, b :: ks, h => by
    have ih := kept_end m l ks (by simpa using h)
    cases b <;> simp [kept, ih]
end Go.Proofs.YtjbfopnkeclfgaaGreat
namespace Go.Proofs.YtjbfopnkeclfgaaGreat
set_option maxRecDepth 20000
open Go.RowKit

/-- append onto a row of the call's own, whatever is appended: nil, empty or not. -/
theorem wpList_app {P : Program} (w : World) {ops : Array Oper} {rest : List Oper} {o : Oper} {a : Act} {Q : Exit → Act → World → Prop} (hgd : o.guard = none) (s x : Operand) (t : TypeId)
    (ho : o.op = .call { callee := .builtin .append, args := #[s, x], argTypes := #[t, t] })
    (base : Nat) (e : TypeId) (i : TypeInfo) (z : Value) (size bytes : Nat) (ht : P.underlying t = some (.slice e)) (hi : P.info? e = some i) (hz : i.zero = some z)
    (hsize : i.size = size) (hby : i.bytes = bytes) (hzs : z.cells.size = size) (hsz : 0 < size)
    (v : Value) (n : Nat) (xs : List Value) (hs : a.eval s = v) (hown : w.ownsRow base e size v n xs)
    (A : Option Addr) (m c : Nat) (news : List Value) (hx : a.eval x = .slice A m c) (hl : news.length = m * size)
    (hnil : A = none → m = 0 ∧ c = 0) (hnews : ∀ ad, A = some ad → ∀ j u, news[j]? = some u → w.cell? (ad.add j) = some u) (h1 : ∀ u ∈ news, u.oneCell' = true)
    (h63 : n + m ≤ maxLen) (hbytes : (n + m) * bytes ≤ 140737488355328) (hbase : base ≤ w.heap.size)
    (h : ∀ v' w', w'.ownsRow base e size v' (n + m) (xs ++ news) → w.grownBy w' v.ownBlock → wpList P ops Q rest (a.put o.dst v') w') : wpList P ops Q (o :: rest) a w := by
  cases A with
  | some ad => exact wpList_append_own w hgd s x t ho base e i z size bytes ht hi hz hsize hby hzs hsz v n xs hs hown ad m c news hx hl (hnews ad rfl) h1 h63 hbytes hbase fun v' w' h2 h3 _ => h v' w' h2 h3
  | none =>
    obtain ⟨rfl, rfl⟩ := hnil rfl
    obtain rfl : news = [] := List.eq_nil_of_length_eq_zero (by simpa using hl)
    refine wpList_plain hgd fun K hK' => ?_
    have hrun := run_append_owned_none (P := P) w base t o.type e i size ht hi v n xs hown
    unfold Oper.wp
    simp [execOp, ho, resolve, invoke, builtin, hs, hx, hrun, Result.andThen]
    exact hK' _ _ (h v w (by simpa using hown) (World.grownBy.refl _ _))

theorem own_shape {w : World} {B e s n : Nat} {v : Value} {xs : List Value} (h : w.ownsRow B e s v n xs) : ∃ A cap, v = .slice A n cap := by
  rcases h.2 with ⟨rfl, h0⟩ | ⟨g, cap, cur, rfl, _⟩
  · exact ⟨none, 0, by rw [h0]⟩
  · exact ⟨_, cap, rfl⟩
theorem own_some {w : World} {B e s n : Nat} {A : Option Addr} {cap : Nat} {xs : List Value} (h : w.ownsRow B e s (.slice A n cap) n xs) (hn : 1 ≤ n) : ∃ g, A = some ⟨g, 0, none⟩ ∧ B ≤ g := by
  rcases h.2 with ⟨e, h0⟩ | ⟨g, cap, cur, e, hg, _⟩
  · omega
  · cases e; exact ⟨g, rfl, hg⟩
/-- A row of the call's own as a slice. -/
theorem own_sl {w : World} {B e s n : Nat} {A : Option Addr} {cap : Nat} {xs : List Value} (h : w.ownsRow B e s (.slice A n cap) n xs) : Sl w A n cap xs := by
  rcases h.2 with ⟨e, h0⟩ | ⟨g, cap', cur, e, hg, hh, hnc, hcm, _⟩
  · cases e
    obtain rfl : xs = [] := List.eq_nil_of_length_eq_zero (by rw [h.1]; simp)
    exact Sl.nil w
  · cases e
    refine ⟨(fun h => by cases h), hnc, hcm, fun _ => ⟨g, 0, rfl, (Array.getElem?_eq_some_iff.1 hh).1, fun j u hu => ?_⟩⟩
    have hj := (List.getElem?_eq_some_iff.1 hu).1
    rw [Nat.zero_add, h.cellAt j (by have := h.1; omega), hu]

/-- append onto a row of the call's own: what is appended is a slice, or a list written out. -/
theorem wpList_app_sl {P : Program} (w : World) {ops : Array Oper} {rest : List Oper} {o : Oper} {a : Act} {Q : Exit → Act → World → Prop} (hgd : o.guard = none) (s x : Operand) (t : TypeId)
    (ho : o.op = .call { callee := .builtin .append, args := #[s, x], argTypes := #[t, t] })
    (base : Nat) (e : TypeId) (z : Value) (size bytes : Nat) (ht : P.underlying t = some (.slice e)) (hinfo : (P.info? e).map (fun i => (i.zero, i.size, i.bytes)) = some (some z, size, bytes)) (hzs : z.cells.size = size) (hsz : 0 < size)
    (v : Value) (n : Nat) (xs : List Value) (hs : a.eval s = v) (hown : w.ownsRow base e size v n xs)
    (A : Option Addr) (m c : Nat) (news : List Value) (hx : a.eval x = .slice A m c) (hl : news.length = m * size) (hS : Sl w A m c news) (h1 : ∀ u ∈ news, u.oneCell' = true)
    (h63 : n + m ≤ maxLen) (hbytes : (n + m) * bytes ≤ 140737488355328) (hbase : base ≤ w.heap.size)
    (h : ∀ A' c' w', w'.ownsRow base e size (.slice A' (n + m) c') (n + m) (xs ++ news) → w.grownBy w' v.ownBlock → wpList P ops Q rest (a.put o.dst (.slice A' (n + m) c')) w') : wpList P ops Q (o :: rest) a w := by
  obtain ⟨i, hi, hz, hsize, hby⟩ := info_parts hinfo
  refine wpList_app w hgd s x t ho base e i z size bytes ht hi hz hsize hby hzs hsz v n xs hs hown A m c news hx hl (fun e => ?_) hS.cells.at_ h1 h63 hbytes hbase ?_
  · have h0 := hS.cells.len_none e
    rw [hl] at h0
    exact ⟨by rcases Nat.mul_eq_zero.1 h0 with h | h <;> omega, hS.1 e⟩
  · intro v' w' h2 h3
    obtain ⟨A', c', rfl⟩ := own_shape h2
    exact h A' c' w' h2 h3
theorem own_empty (w : World) (e size : Nat) : (w.alloc (.cells #[] e)).ownsRow w.heap.size e size (.slice (some ⟨w.heap.size, 0, none⟩) 0 0) 0 [] :=
  World.ownsRow_lit (base := w.heap.size) (e := e) (size := size) w #[] 0 (Nat.le_refl _) (Nat.zero_le _) (by simp)
/-- A list written out, as a slice. -/
theorem sl_lit (w : World) (e n : Nat) (xs : List Value) (hn : n ≤ maxLen) : Sl (w.alloc (.cells xs.toArray e)) (some ⟨w.heap.size, 0, none⟩) n n xs :=
  ⟨(fun h => by cases h), Nat.le_refl _, hn, fun _ => ⟨w.heap.size, 0, rfl, by simp, fun j u hu => by
    have := heap_alloc_new w (.cells xs.toArray e)
    unfold World.cell?; rw [this]; simpa using hu⟩⟩

theorem Ext.row {a b c : World} {g n cap : Nat} (h : Ext a b) (hg : b.grownBy c (Value.slice (some ⟨g, 0, none⟩) n cap).ownBlock) (hB : a.heap.size ≤ g) : Ext a c :=
  Below.grown h hg h.size (fun k hk => by cases hk; exact hB)
theorem Ext.row' {a b c : World} {g : Nat} (h : Ext a b) (hg : b.grownBy c (some g)) (hB : a.heap.size ≤ g) : Ext a c :=
  Below.grown h hg h.size (fun k hk => by cases hk; exact hB)
theorem grown_drew (w : World) (row : Option Nat) : w.grownBy w.drew row := ⟨rfl, rfl, rfl, Nat.le_refl _, fun _ _ _ => rfl⟩

/-- append at a step of a region that draws its order. -/
theorem step_app_sl {P : Program} {w : World} {ops : Array Oper} {o : Oper} {a : Act} {K : Act → World → Prop} {Q : Exit → Act → World → Prop} {E : Prop} (hgd : o.guard = none) (s x : Operand) (t : TypeId)
    (ho : o.op = .call { callee := .builtin .append, args := #[s, x], argTypes := #[t, t] })
    (base : Nat) (e : TypeId) (z : Value) (size bytes : Nat) (ht : P.underlying t = some (.slice e)) (hinfo : (P.info? e).map (fun i => (i.zero, i.size, i.bytes)) = some (some z, size, bytes)) (hzs : z.cells.size = size) (hsz : 0 < size)
    (v : Value) (n : Nat) (xs : List Value) (hs : a.eval s = v) (hown : w.ownsRow base e size v n xs)
    (A : Option Addr) (m c : Nat) (news : List Value) (hx : a.eval x = .slice A m c) (hl : news.length = m * size) (hS : Sl w A m c news) (h1 : ∀ u ∈ news, u.oneCell' = true)
    (h63 : n + m ≤ maxLen) (hbytes : (n + m) * bytes ≤ 140737488355328) (hbase : base ≤ w.heap.size)
    (h : ∀ A' c' w', w'.ownsRow base e size (.slice A' (n + m) c') (n + m) (xs ++ news) → w.grownBy w' v.ownBlock → K (a.put o.dst (.slice A' (n + m) c')) w') :
    if Region.wanted o (yielded ops a.tmps) = true then Oper.wp P o a w K Q else E := by
  have hw : Region.wanted o (yielded ops a.tmps) = true := by simp [Region.wanted, hgd]
  rw [if_pos hw]
  obtain ⟨i, hi, hz, hsize, hby⟩ := info_parts hinfo
  cases A with
  | some ad =>
    refine wp_append_own w s x t ho base e i z size bytes ht hi hz hsize hby hzs hsz v n xs hs hown ad m c news hx hl (hS.cells.at_ ad rfl) h1 h63 hbytes hbase ?_
    intro v' w' h2 h3 _
    obtain ⟨A', c', rfl⟩ := own_shape h2
    exact h A' c' w' h2 h3
  | none =>
    have h0 := hS.cells.len_none rfl
    rw [hl] at h0
    obtain rfl : m = 0 := by rcases Nat.mul_eq_zero.1 h0 with h | h <;> omega
    obtain rfl := hS.1 rfl
    obtain rfl : news = [] := List.eq_nil_of_length_eq_zero (by simpa using hl)
    have hrun := run_append_owned_none (P := P) w base t o.type e i size ht hi v n xs hown
    obtain ⟨A', c', rfl⟩ := own_shape hown
    unfold Oper.wp
    simp [execOp, ho, resolve, invoke, builtin, hs, hx, hrun, Result.andThen]
    exact h A' c' w (by simpa using hown) (World.grownBy.refl _ _)
theorem Sl.grown {w w' : World} {A : Option Addr} {n c : Nat} {xs : List Value} {row : Option Nat} (h : Sl w A n c xs) (hg : w.grownBy w' row) (hne : xs ≠ [] → ∀ p, A = some p → row ≠ some p.block) : Sl w' A n c xs := ⟨h.1, h.2.1, h.2.2.1, h.cells.grown hg hne⟩
theorem apart_num {xs : List Value} {g g' : Nat} (h : g ≠ g') : xs ≠ [] → ∀ p, (some ⟨g', 0, none⟩ : Option Addr) = some p → some g ≠ some p.block := fun _ p hp e => by
  cases hp
  cases e
  exact h rfl
theorem own_ext {w w' : World} {B e s n : Nat} {v : Value} {xs : List Value} (h : w.ownsRow B e s v n xs) (hb : Ext w w') : w'.ownsRow B e s v n xs :=
  h.kept (row := none) ⟨hb.os, hb.tape, hb.output, hb.size, fun k hk _ => hb.block k hk⟩ (by cases hv : v.ownBlock <;> simp)
end Go.Proofs.YtjbfopnkeclfgaaGreat
namespace Go.Proofs.YtjbfopnkeclfgaaGreat
set_option maxRecDepth 20000
open Go.RowKit

def hasS (n : Nat) (at_ : Int) : Bool := decide (0 ≤ at_) && decide (at_ < n)
def takesS (n : Nat) (x : Wr) : Bool := hasS n x.1 && ((x.2.size : Int) == 40)
def isFl (x : Wr) : Bool := (x.1 == -1) && x.2.toList.isEmpty

set_option maxHeartbeats 1000000 in
theorem has_any (A : Option Addr) (n c : Nat) (at_ : Int) (w : World) :
    Calls Tryz.prog 47 #[.slice A n c, .int .i64 at_] w fun e w' => e = .returned (.bool (hasS n at_)) ∧ w = w' := by
  unfold hasS
  by_cases h1 : 0 ≤ at_ <;> by_cases h2 : at_ < n
  all_goals
    go_enter Tryz.func47, Tryz.ntmps47
    go_wp2
    go_ret
    exact ⟨by simp [*], rfl⟩

set_option maxHeartbeats 1000000 in
theorem may_any (A A' : Option Addr) (n c n' c' : Nat) (a : Int) (s : ByteArray) (w : World) :
    Calls Tryz.prog 36 #[.agg #[.slice A n c, .slice A' n' c'], .int .i64 a, .string s] w fun e w' => e = .returned (.bool (takesS n (a, s))) ∧ Ext w w' := by
  unfold takesS hasS
  have HA := Lib.hid ((Ext.refl w).alloc (.cells #[.slice A n c, .slice A' n' c'] 25))
  by_cases h1 : 0 ≤ a <;> by_cases h2 : a < n
  all_goals
    go_enter Tryz.func36, Tryz.ntmps36
    go_wp2
    go_ret
    exact ⟨by simp_all <;> omega, HA.out⟩
end Go.Proofs.YtjbfopnkeclfgaaGreat
namespace Go.Proofs.YtjbfopnkeclfgaaGreat
set_option maxRecDepth 20000
open Go.RowKit

theorem infoS : (Tryz.prog.info? 9).map (fun i => (i.zero, i.size, i.bytes)) = some (some (.string (ByteArray.mk #[])), 1, 16) := by kernel_rfl
theorem infoW : (Tryz.prog.info? 85).map (fun i => (i.zero, i.size, i.bytes)) = some (some (.agg #[.int .i64 0, .string (ByteArray.mk #[])]), 2, 24) := by kernel_rfl

set_option maxHeartbeats 1000000 in
set_option maxRecDepth 20000 in
theorem copiedB_any (A : Option Addr) (l : List ByteArray) (c more : Nat) (w : World) (hl : l.length ≤ 1000000) (hm : more ≤ 1) (hn : A = none → c = 0) (hA : Cells w A (l.map sv)) :
    Calls Tryz.prog 37 #[.slice A l.length c, .int .i64 more] w fun e w' => e = .returned (.slice (some ⟨w.heap.size, 0, none⟩) l.length (l.length + more)) ∧
      w'.ownsRow w.heap.size 9 1 (.slice (some ⟨w.heap.size, 0, none⟩) l.length (l.length + more)) l.length (l.map sv) ∧ Ext w w' := by
  have HA := Lib.hid hA
  have HN := Lib.hid hn
  clear hA hn
  obtain ⟨i0, hi, hz0, hz1, hz2⟩ := info_parts infoS
  have HI := Lib.hid hi
  have HZ0 := Lib.hid hz0
  have HZ1 := Lib.hid hz1
  have HZ2 := Lib.hid hz2
  clear hi hz0 hz1 hz2
  go_enter Tryz.func37, Tryz.ntmps37
  go_wp2_with (at_make; refine stop_here ?_)
  refine stop_on ?_

  refine wpList_make_cap _ rfl _ _ 22 rfl 9 i0 _ Tryz.underlying22 HI.out HZ0.out _ _ _ _ l.length (l.length + more) rfl rfl (by omega) (by omega) (by omega) (by rw [HZ2.out]; omega) (by unfold maxLen; omega) ?_
  rw [HZ1.out]
  obtain ⟨cur, hcur⟩ : ∃ cur, cur = madeCells (Value.string (ByteArray.mk #[])).cells ((l.length + more) * 1) := ⟨_, rfl⟩
  have hsz : cur.size = (l.length + more) * 1 := by rw [hcur]; exact size_madeCells _ _
  rw [← hcur]
  clear hcur
  have HS := Lib.hid hsz
  clear hsz
  have HO := Lib.hid (own_copied w l.length (l.length + more) 1 9 cur (l.map sv) (by unfold maxLen; omega) (by omega) HS.out (by simp))
  have hrun := run_copy_head (P := Tryz.prog) (w.alloc (.cells cur 9)) 22 22 3 9 i0 Tryz.underlying22 HI.out w.heap.size l.length (l.length + more) c A cur 9 (heap_alloc_new w _) (l.map sv) (by rw [HZ1.out]; simp) HN.out (HA.out.ext ((Ext.refl w).alloc _)) (by rw [HS.out]; simp) (svs_oneCell l) (fun h => by have := (HA.out).len_none h; simpa using this)
  obtain ⟨w1, hw1⟩ : ∃ w1, w1 = (w.alloc (.cells cur 9)).setRow w.heap.size (l.map sv ++ cur.toList.drop (l.map sv).length).toArray := ⟨_, rfl⟩
  rw [← hw1] at HO hrun
  clear hw1
  go_wp2
  go_ret
  exact ⟨rfl, HO.out⟩

theorem copiedB0 (A : Option Addr) (l : List ByteArray) (c : Nat) (w : World) (hl : l.length ≤ 1000000) (hn : A = none → c = 0) (hA : Cells w A (l.map sv)) :
    Calls Tryz.prog 37 #[.slice A l.length c, .int .i64 0] w fun e w' => e = .returned (.slice (some ⟨w.heap.size, 0, none⟩) l.length l.length) ∧
      w'.ownsRow w.heap.size 9 1 (.slice (some ⟨w.heap.size, 0, none⟩) l.length l.length) l.length (l.map sv) ∧ Ext w w' :=
  copiedB_any A l c 0 w hl (by omega) hn hA
end Go.Proofs.YtjbfopnkeclfgaaGreat
namespace Go.Proofs.YtjbfopnkeclfgaaGreat
set_option maxRecDepth 20000
open Go.RowKit
attribute [local go_sem ↓] Go.wp_at_zero Go.wp_at_succ

/-- P2.2: a write is taken, or not. -/
def putW (b : List ByteArray) (l : List Wr) (x : Wr) : List Wr := if takesS b.length x then l ++ [x] else l
def putE (b : List ByteArray) (x : Wr) : Int := if takesS b.length x then 0 else 1

end Go.Proofs.YtjbfopnkeclfgaaGreat
namespace Go.Proofs.YtjbfopnkeclfgaaGreat
set_option maxRecDepth 20000
open Go.RowKit

/-- One write done; all of them, in order. -/
def write1 (b : List ByteArray) (x : Wr) : List ByteArray := if hasS b.length x.1 then b.set x.1.toNat x.2 else b
def writeL (b : List ByteArray) (l : List Wr) : List ByteArray := l.foldl write1 b
theorem write1_length (b : List ByteArray) (x : Wr) : (write1 b x).length = b.length := by
  unfold write1; split <;> simp
theorem writeL_length (l : List Wr) : ∀ b, (writeL b l).length = b.length := by
  induction l with
  | nil => intro b; rfl
  | cons x l ih => intro b; exact (ih (write1 b x)).trans (write1_length b x)
theorem writeL_step (b : List ByteArray) (l : List Wr) (k : Nat) (h : k < l.length) : writeL b (l.take (k + 1)) = write1 (writeL b (l.take k)) l[k] := by
  unfold writeL; rw [List.take_succ_eq_append_getElem h, List.foldl_append]; rfl

set_option maxHeartbeats 2000000 in
theorem write_any (B0 g n cap : Nat) (bl : List ByteArray) (A : Option Addr) (l : List Wr) (c : Nat) (w : World) (hn : n ≤ 1000000) (hl : l.length ≤ maxLen)
    (hown : w.ownsRow B0 9 1 (.slice (some ⟨g, 0, none⟩) n cap) n (bl.map sv)) (hA : Cells w A (wvs l)) (hne : wvs l ≠ [] → ∀ p, A = some p → some g ≠ some p.block) :
    Calls Tryz.prog 38 #[.slice (some ⟨g, 0, none⟩) n cap, .slice A l.length c] w fun e w' => e = .returned (.tuple #[]) ∧
      w'.ownsRow B0 9 1 (.slice (some ⟨g, 0, none⟩) n cap) n ((writeL bl l).map sv) ∧ w.grownBy w' (some g) := by
  unfold maxLen at hl
  have hbn : bl.length = n := by have := hown.1; simpa using this
  have HO := Lib.hid hown
  have HA := Lib.hid hA
  have HNE := Lib.hid hne
  have HBN := Lib.hid hbn
  clear hown hA hne hbn
  go_enter Tryz.func38, Tryz.ntmps38
  go_wp2
  go_loopw [8] (fun i wr => ∃ k : Nat, k ≤ l.length ∧ i = .int .i64 k ∧ wr.ownsRow B0 9 1 (.slice (some ⟨g, 0, none⟩) n cap) n ((writeL bl (l.take k)).map sv) ∧ w.grownBy wr (some g)) (fun i _ => l.length - (intOf i).toNat)
  case atStart => exact ⟨0, Nat.zero_le _, rfl, HO.out, World.grownBy.refl _ _⟩
  case round =>
    obtain ⟨k, hk, rfl, ho, hg⟩ := hrel
    by_cases hlt : k < l.length
    · obtain ⟨ba, off, rfl, _, hc⟩ := (HA.out.grown hg HNE.out).wr hlt
      obtain ⟨hck, hcs⟩ := hc k hlt
      have HS := Lib.hid (writeL_step bl l k hlt)
      have hlen := (writeL_length (l.take k) bl).trans HBN.out
      clear hc
      generalize hq : l[k] = x at *
      clear hq
      obtain ⟨xa, xs⟩ := x
      simp only at hck hcs
      generalize hB : writeL bl (l.take k) = bk at *
      clear hB
      subst hlen
      have hgl := (ho.lt g rfl).2
      have HO2 := Lib.hid (ho.alloc (.cells #[.int .i64 xa, .string xs] 85))
      have HG := Lib.hid (grown_trans hg (World.grownBy_alloc wr (.cells #[.int .i64 xa, .string xs] 85) (some g)))
      have HH := Lib.hid (has_any (some ⟨g, 0, none⟩) bk.length cap xa (wr.alloc (.cells #[.int .i64 xa, .string xs] 85)))
      cases hh : hasS bk.length xa
      · have HZ := Lib.hid hh
        clear hh ho hg
        go_wp2_with (go_at_call 47; refine HH.out.mono ?_; rintro e w2 ⟨rfl, rfl⟩; rw [HZ.out])
        go_roundw
        case rel => exact ⟨k + 1, by omega, by go_num, by rw [HS.out]; unfold write1; rw [if_neg (by simp [HZ.out])]; exact HO2.out, HG.out⟩
        case measure => simp [intOf]; omega
      · have HZ := Lib.hid hh
        obtain ⟨m, rfl⟩ : ∃ m : Nat, xa = m := by
          unfold hasS at hh
          simp at hh
          exact ⟨xa.toNat, by omega⟩
        have hmlt : m < bk.length := by
          unfold hasS at hh
          simp at hh
          omega
        have hmi : (m : Int) < (bk.length : Int) := by omega
        have HST := Lib.hid (show ((wr.setCell ⟨g, m, none⟩ (.string xs)).alloc (.cells #[.int .i64 m, .string xs] 85)).ownsRow B0 9 1 (.slice (some ⟨g, 0, none⟩) bk.length cap) bk.length ((bk.set m xs).map sv) ∧ w.grownBy ((wr.setCell ⟨g, m, none⟩ (.string xs)).alloc (.cells #[.int .i64 m, .string xs] 85)) (some g) from ⟨by rw [List.map_set]; exact (ho.stored m (.string xs)).1.alloc _, grown_trans (grown_trans hg (ho.stored m (.string xs)).2) (World.grownBy_alloc _ _ _)⟩)
        have hf := HO2.out.frozenAt m
        obtain ⟨u, hu⟩ : ∃ u, (wr.alloc (.cells #[.int .i64 m, .string xs] 85)).cell? ⟨g, m, none⟩ = some u := by
          rw [HO2.out.cellAt m (by omega)]
          exact ⟨_, List.getElem?_eq_getElem (by simpa using hmlt)⟩
        clear hh ho hg
        go_wp2_with (go_at_call 47; refine HH.out.mono ?_; rintro e w2 ⟨rfl, rfl⟩; rw [HZ.out])
        go_roundw
        case rel => exact ⟨k + 1, by omega, by go_num, by rw [HS.out]; unfold write1; rw [if_pos HZ.out, Int.toNat_natCast]; exact HST.out.1, HST.out.2⟩
        case measure => simp [intOf]; omega
    · obtain rfl : k = l.length := by omega
      rw [List.take_length] at ho
      have HO := Lib.hid ho
      have HG := Lib.hid hg
      clear ho hg
      go_wp2
      go_end0
      exact ⟨rfl, HO.out, HG.out⟩
end Go.Proofs.YtjbfopnkeclfgaaGreat
namespace Go.Proofs.YtjbfopnkeclfgaaGreat
set_option maxRecDepth 20000
open Go.RowKit Go.Shelf
attribute [local go_sem] Oper.semAt_some

/-- What has come when k rounds over l from behind are over. -/
def backK (l : List Wr) (k : Nat) : List (Int × Wr) := (List.range k).map fun (j : Nat) => ((l.length : Int) - 1 - (j : Int), l[l.length - 1 - j]?.getD (0, ByteArray.mk #[]))
theorem backK_succ (l : List Wr) (k : Nat) : backK l (k + 1) = backK l k ++ [((l.length : Int) - 1 - k, l[l.length - 1 - k]?.getD (0, ByteArray.mk #[]))] := by simp [backK, List.range_succ]
theorem backK_length (l : List Wr) (k : Nat) : (backK l k).length = k := by simp [backK]

/-- A slice of writes that lies below n₀. -/
def WrsAt (n₀ : Nat) (W : World) (A : Option Addr) (l : List Wr) : Prop := l ≠ [] → ∃ b off, A = some ⟨b, off, none⟩ ∧ b < n₀ ∧ ∀ j (hj : j < l.length), W.cell? ⟨b, off + j * 2, none⟩ = some (.int .i64 l[j].1) ∧ W.cell? ⟨b, off + j * 2 + 1, none⟩ = some (.string l[j].2)
theorem WrsAt.below {n₀ : Nat} {X Y : World} (hb : Below n₀ X Y) {A : Option Addr} {l : List Wr} (h : WrsAt n₀ X A l) : WrsAt n₀ Y A l := fun hl => by
  obtain ⟨b, off, e, hlt, hc⟩ := h hl
  exact ⟨b, off, e, hlt, fun j hj => ⟨(hb.cell (p := ⟨b, off + j * 2, none⟩) hlt).trans (hc j hj).1, (hb.cell (p := ⟨b, off + j * 2 + 1, none⟩) hlt).trans (hc j hj).2⟩⟩
theorem WrsAt.of {w : World} {A : Option Addr} {l : List Wr} (h : Cells w A (wvs l)) : WrsAt w.heap.size w A l := fun hl => by
  cases l with
  | nil => exact absurd rfl hl
  | cons x l => exact h.wr (k := 0) (by simp)

set_option maxRecDepth 100000 in
set_option maxHeartbeats 2000000 in
theorem back1_in (F : Fence) (n : Nat) (h8 : F.fn 76) (hro : F.round = none) (hn : 1 ≤ n) (r Bs n₀ : Nat) (A : Option Addr) (cap : Nat) (l : List Wr) (hreach : l.length ≤ 1000000) (hBn : Bs < n₀) (J Jx : List (Int × Wr) → World → Prop)
    (hY : ∀ pre x W, J pre W → pre.length < l.length → YieldAt F (n - 1) Tryz.prog r #[.int .i64 x.1, .agg #[.int .i64 x.2.1, .string x.2.2]] W fun e W' =>
      (e = .returned (.bool true) ∧ J (pre ++ [x]) W' ∧ Below n₀ W W') ∨ (e = .returned (.bool false) ∧ Jx (pre ++ [x]) W'))
    (W : World) (hBs : W.cell? ⟨Bs, 0, none⟩ = some (.slice A l.length cap)) (hc : WrsAt n₀ W A l) (h0 : J [] W) :
    CallsIn F n Tryz.prog 76 #[.func (.yield r) #[] #[], .pointer (some ⟨Bs, 0, none⟩)] W fun e W' => (∃ v, e = .returned v) ∧
      ((∃ ys, ys = backK l l.length ∧ J ys W') ∨ (∃ pre, (∃ k, k ≤ l.length ∧ pre = backK l k) ∧ Jx pre W')) := by
  have HC := Lib.hid hc
  have HBs := Lib.hid hBs
  clear hc hBs
  have hBs := HBs.out
  refine callsIn_of_wp Tryz.func76 rfl h8 ?_ hro
  simp only [Tryz.ntmps76, List.size_toArray, List.length_cons, List.length_nil, Nat.reduceAdd, Nat.reduceSub, Array.replicate_succ, Array.replicate_zero, List.push_toArray, List.append_toArray, List.nil_append, List.cons_append]
  gi_wp2
  gi_loopw [3] (fun i wr => ∃ k : Nat, k ≤ l.length ∧ i = .int .i64 ((l.length : Int) - 1 - k) ∧ J (backK l k) wr ∧ Below n₀ W wr)
    (fun i _ => (intOf i + 1).toNat)
  case atStart => exact ⟨0, Nat.zero_le _, by simp, h0, Below.refl _ _⟩
  case round =>
    obtain ⟨k, hk, rfl, hJs, hnx⟩ := hrel
    have hBw := (hnx.cell (p := ⟨Bs, 0, none⟩) hBn).trans HBs.out
    by_cases hlt : k < l.length
    · obtain ⟨b, off, rfl, hb, hcs⟩ := HC.out.below hnx (by intro e; subst e; simp at hlt)
      obtain ⟨q, hq⟩ : ∃ q, q = l.length - 1 - k := ⟨_, rfl⟩
      have hql : q < l.length := by omega
      have hqi : (l.length : Int) - 1 - k = (q : Int) := by omega
      have hget : l[l.length - 1 - k]?.getD (0, ByteArray.mk #[]) = l[q] := by rw [← hq]; simp [hql]
      obtain ⟨hc1, hc2⟩ := hcs q hql
      obtain ⟨fn, tmps, assign, body, hy, hR⟩ := hY _ ((l.length : Int) - 1 - k, l[q]) wr hJs (by rw [backK_length]; exact hlt)
      dsimp only at hy
      have HS := Lib.hid (show backK l (k + 1) = backK l k ++ [((l.length : Int) - 1 - k, l[q])] by rw [backK_succ, hget])
      have HQI := Lib.hid hqi
      have HQ := Lib.hid hq
      have HG := Lib.hid hget
      clear hget hq hcs
      generalize hx : l[q] = x at *
      clear hx
      obtain ⟨xa, xs⟩ := x
      rw [hqi] at hy ⊢
      clear hqi
      gi_wp2
      refine hR.mono ?_
      rintro e W3 (⟨rfl, hJ3, hk3⟩ | ⟨rfl, hJx3⟩)
      · gi_wp2
        go_roundw
        case rel => exact ⟨k + 1, by omega, by have := HQI.out; congr 1; omega, by rw [HS.out]; exact hJ3, hnx.trans hk3⟩
        case measure => simp [intOf]
      · gi_wp2
        refine bodyPost_ret (results_none rfl _ _ _) rfl ?_
        exact ⟨⟨_, rfl⟩, .inr ⟨_, ⟨k + 1, by omega, HS.out.symm⟩, hJx3⟩⟩
    · obtain rfl : k = l.length := by omega
      rw [show (l.length : Int) - 1 - l.length = -1 by omega]
      gi_wp2
      go_end0
      exact ⟨⟨_, rfl⟩, .inl ⟨_, rfl, hJs⟩⟩

set_option maxHeartbeats 1000000 in
theorem back_in (F : Fence) (n : Nat) (h5 : F.fn 48) (hro : F.round = none) (a : Option Addr) (len cap : Nat) (w : World) :
    CallsIn F n Tryz.prog 48 #[.slice a len cap] w fun e w' => e = .returned (.func (.func 76) #[] #[.pointer (some ⟨w.heap.size, 0, none⟩)]) ∧ w' = w.alloc (.cells #[.slice a len cap] 23) := by
  refine callsIn_of_wp Tryz.func48 rfl h5 ?_ hro
  simp only [Tryz.ntmps48, List.size_toArray, List.length_cons, List.length_nil, Nat.reduceAdd, Nat.reduceSub, Array.replicate_succ, Array.replicate_zero, List.push_toArray, List.append_toArray, List.nil_append, List.cons_append]
  gi_wp2
  go_ret
  exact ⟨rfl, rfl⟩

theorem back_stops (F : Fence) (n : Nat) (h7 : F.fn 76) (hro : F.round = none) (hn : 1 ≤ n) (Bs n₀ : Nat) (A : Option Addr) (cap : Nat) (l : List Wr) (hreach : l.length ≤ 1000000) (w : World) (hBs : Bs < n₀) (hn₀ : n₀ ≤ w.heap.size)
    (hc : w.cell? ⟨Bs, 0, none⟩ = some (.slice A l.length cap)) (hI : WrsAt n₀ w A l) :
    SeqStopsK F n Tryz.prog 76 #[.pointer (some ⟨Bs, 0, none⟩)] (fun x : Int × Wr => #[Value.int .i64 x.1, .agg #[.int .i64 x.2.1, .string x.2.2]]) (Below n₀) (fun ys => ys = backK l l.length) (fun pre => ∃ k, k ≤ l.length ∧ pre = backK l k) l.length w := fun r J Jx W hW _ _ hY h0 => by
  have hc' := (hW.cell (p := ⟨Bs, 0, none⟩) (Nat.lt_of_lt_of_le hBs hn₀)).trans hc
  exact back1_in F n h7 hro hn r Bs n₀ A cap l hreach hBs J Jx hY W hc' (hI.below (hW.mono hn₀)) h0

end Go.Proofs.YtjbfopnkeclfgaaGreat
