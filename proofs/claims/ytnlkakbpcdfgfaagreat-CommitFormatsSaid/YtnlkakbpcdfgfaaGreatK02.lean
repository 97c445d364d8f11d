/- Plain facts on writes, blocks and cells; no program in sight. Rows that are made and copied onto; no program in sight. Appending onto rows of the call's own; no program in sight. Walks of the reference's Seal, and of Open. Walks of Open. -/
import Derived.Test.YtnlkakbpcdfgfaaGreatK01
import Derived.Laws.CopyOwn
import Derived.OwnWalk
import Derived.OneCell
import Derived.Laws.AppendOwnNone
namespace Go.Proofs.YtnlkakbpcdfgfaaGreat
set_option maxRecDepth 20000
open Go.RowKit

/-- A write: where, and what. -/
abbrev Wr := Int × ByteArray
def sv (s : ByteArray) : Value := .string s
def wvs : List Wr → List Value
  | [] => []
  | x :: l => .int .i64 x.1 :: .string x.2 :: wvs l
theorem wvs_length (l : List Wr) : (wvs l).length = l.length * 2 := by
  induction l with
  | nil => rfl
  | cons x l ih => simp only [wvs, List.length_cons, ih]; omega
theorem wvs_append (l m : List Wr) : wvs (l ++ m) = wvs l ++ wvs m := by
  induction l with
  | nil => rfl
  | cons x l ih => simp [wvs, ih]
theorem wvs_at (l : List Wr) : ∀ (k : Nat) (h : k < l.length), (wvs l)[k * 2]? = some (.int .i64 l[k].1) ∧ (wvs l)[k * 2 + 1]? = some (.string l[k].2) := by
  induction l with
  | nil => intro k h; simp at h
  | cons x l ih =>
    intro k h
    match k with
    | 0 => exact ⟨rfl, rfl⟩
    | k + 1 =>
      have := ih k (by simpa using h)
      have e1 : (k + 1) * 2 = k * 2 + 1 + 1 := by omega
      have e2 : (k + 1) * 2 + 1 = k * 2 + 1 + 1 + 1 := by omega
      rw [e1]
      simpa [wvs] using this
theorem wvs_oneCell (l : List Wr) : ∀ u ∈ wvs l, u.oneCell' = true := by
  induction l with
  | nil => intro u h; simp [wvs] at h
  | cons x l ih =>
    intro u h
    simp only [wvs, List.mem_cons] at h
    rcases h with rfl | rfl | h
    · rfl
    · rfl
    · exact ih u h
theorem svs_oneCell (l : List ByteArray) : ∀ u ∈ l.map sv, u.oneCell' = true := by
  intro u hu
  obtain ⟨_, _, rfl⟩ := List.mem_map.1 hu
  rfl
theorem bools_oneCell (l : List Bool) : ∀ u ∈ l.map Value.bool, u.oneCell' = true := by
  intro u hu
  obtain ⟨_, _, rfl⟩ := List.mem_map.1 hu
  rfl

/-- Where a write stands. -/
theorem Cells.wr {w : World} {A : Option Addr} {l : List Wr} (h : Cells w A (wvs l)) {k : Nat} (hk : k < l.length) :
    ∃ b off, A = some ⟨b, off, none⟩ ∧ b < w.heap.size ∧ ∀ j (hj : j < l.length), w.cell? ⟨b, off + j * 2, none⟩ = some (.int .i64 l[j].1) ∧ w.cell? ⟨b, off + j * 2 + 1, none⟩ = some (.string l[j].2) := by
  obtain ⟨b, off, rfl, hlt, hc⟩ := h (by intro e; have := wvs_length l; rw [e] at this; simp at this; omega)
  exact ⟨b, off, rfl, hlt, fun j hj => ⟨hc _ _ (wvs_at l j hj).1, by rw [Nat.add_assoc]; exact hc _ _ (wvs_at l j hj).2⟩⟩
/-- Where a text stands. -/
theorem Cells.str {w : World} {A : Option Addr} {l : List ByteArray} (h : Cells w A (l.map sv)) {k : Nat} (hk : k < l.length) :
    ∃ b off, A = some ⟨b, off, none⟩ ∧ b < w.heap.size ∧ ∀ j (hj : j < l.length), w.cell? ⟨b, off + j, none⟩ = some (.string l[j]) := by
  obtain ⟨b, off, rfl, hlt, hc⟩ := h (by intro e; rw [List.map_eq_nil_iff] at e; subst e; simp at hk)
  exact ⟨b, off, rfl, hlt, fun j hj => hc j _ (by simp [sv, hj])⟩
theorem Cells.flag {w : World} {A : Option Addr} {l : List Bool} (h : Cells w A (l.map Value.bool)) {k : Nat} (hk : k < l.length) :
    ∃ b off, A = some ⟨b, off, none⟩ ∧ b < w.heap.size ∧ ∀ j (hj : j < l.length), w.cell? ⟨b, off + j, none⟩ = some (.bool l[j]) := by
  obtain ⟨b, off, rfl, hlt, hc⟩ := h (by intro e; rw [List.map_eq_nil_iff] at e; subst e; simp at hk)
  exact ⟨b, off, rfl, hlt, fun j hj => hc j _ (by simp [hj])⟩

/-- Nothing of what w holds is turned in w'. -/
def Ext (w w' : World) : Prop := Below w.heap.size w w'
theorem Ext.refl (w : World) : Ext w w := Below.refl _ _
theorem Ext.trans {a b c : World} (h : Ext a b) (k : Ext b c) : Ext a c := Below.trans h (Below.mono k h.size)
theorem Ext.alloc {a b : World} (h : Ext a b) (o : Obj) : Ext a (b.alloc o) := Below.alloc h h.size o
theorem Ext.set {a b : World} (h : Ext a b) {p : Addr} (hp : a.heap.size ≤ p.block) (u : Value) : Ext a (b.setCell p u) := Below.setCell h hp u
theorem below_drewN {B : Nat} {a w : World} (h : Below B a w) : ∀ n, Below B a (w.drewN n) := fun _ => ⟨h.os, h.tape, h.output, h.size, h.block⟩
theorem Ext.drew {a b : World} (h : Ext a b) : Ext a b.drew := Below.drew h
theorem Ext.drewN {a b : World} (h : Ext a b) (n : Nat) : Ext a (b.drewN n) := below_drewN h n
theorem Ext.app {a b c : World} {B e s n : Nat} {v : Value} {xs : List Value} (h : Ext a b) (o : b.ownsRow B e s v n xs) (hB : a.heap.size ≤ B) (hg : b.grownBy c v.ownBlock) : Ext a c :=
  Below.grown h hg h.size (fun q hq => Nat.le_trans hB (o.lt q hq).1)
theorem Cells.ext {w w' : World} {A : Option Addr} {xs : List Value} (h : Cells w A xs) (hb : Ext w w') : Cells w' A xs := h.below hb

/-- What stands in no block that is written stays. -/
theorem Cells.grown {w w' : World} {A : Option Addr} {xs : List Value} {row : Option Nat} (h : Cells w A xs) (hg : w.grownBy w' row) (hne : xs ≠ [] → ∀ p, A = some p → row ≠ some p.block) : Cells w' A xs := fun hx => by
  have hne := hne hx
  obtain ⟨b, off, rfl, hlt, hc⟩ := h hx
  exact ⟨b, off, rfl, Nat.lt_of_lt_of_le hlt hg.size, fun j u hu => hg.cell (hc j u hu) (fun e => hne _ rfl e.symm)⟩
/-- What lay there lies in no block that was made behind it. -/
theorem Cells.apart {w : World} {A : Option Addr} {xs : List Value} (h : Cells w A xs) {g : Nat} (hg : w.heap.size ≤ g) : xs ≠ [] → ∀ p, A = some p → some g ≠ some p.block := fun hx p hp e => by
  obtain ⟨b, off, e', hlt, _⟩ := h hx
  rw [hp] at e'
  cases e'
  cases e
  exact absurd hlt (Nat.not_lt.2 hg)
theorem grown_trans {a b c : World} {row : Option Nat} (h : a.grownBy b row) (k : b.grownBy c row) : a.grownBy c row :=
  ⟨k.os.trans h.os, k.tape.trans h.tape, k.output.trans h.output, Nat.le_trans h.size k.size, fun i hi hr => (k.block i (Nat.lt_of_lt_of_le hi h.size) hr).trans (h.block i hi hr)⟩

/-- A list's cells, cut. -/
theorem Cells.nil (w : World) (A : Option Addr) : Cells w A [] := fun h => absurd rfl h

end Go.Proofs.YtnlkakbpcdfgfaaGreat
namespace Go.Proofs.YtnlkakbpcdfgfaaGreat
set_option maxRecDepth 20000
open Go.RowKit

/-- make, with a length and a capacity. -/
theorem wpList_make_cap {P : Program} (w : World) {ops : Array Oper} {rest : List Oper} {o : Oper} {a : Act} {Q : Exit → Act → World → Prop}
    (hg : o.guard = none) (l c : Operand) (t : TypeId) (hop : o.op = Op.makeSlice t l c)
    (e : TypeId) (i : TypeInfo) (z : Value) (h1 : P.underlying t = some (.slice e)) (h2 : P.info? e = some i) (h3 : i.zero = some z)
    (kl kc : IntKind) (L C : Int) (n m : Nat) (hl : a.eval l = .int kl L) (hc : a.eval c = .int kc C) (hL : L = (n : Int)) (hC : C = (m : Int)) (hnm : n ≤ m) (b2 : i.bytes * m ≤ 281474976710656) (b3 : m ≤ maxLen)
    (hK : wpList P ops Q rest (a.put o.dst (.slice (some ⟨w.heap.size, 0, none⟩) n m)) (w.alloc (.cells (madeCells z.cells (m * i.size)) e))) :
    wpList P ops Q (o :: rest) a w := by
  refine wpList_plain hg fun K hK' => ?_
  have b3' : (m : Int) ≤ 9223372036854775807 := by
    have h := b3
    simp [maxLen] at h
    omega
  have b2' : (i.bytes : Int) * (m : Int) ≤ 281474976710656 := by
    have h : ((i.bytes * m : Nat) : Int) ≤ 281474976710656 := by omega
    rwa [Int.natCast_mul] at h
  have hrun := run_make (P := P) w t e i z h1 h2 h3 kl kc n m (by omega) (by omega) b2' b3'
  simp only [Int.toNat_natCast] at hrun
  subst hL
  subst hC
  unfold Oper.wp
  simp [execOp, hop, hl, hc, hrun, Result.andThen]
  exact hK' _ _ hK

/-- What is owned of a new row onto whose head xs was copied. -/
theorem own_copied (w : World) (n m size : Nat) (e : TypeId) (cur : Array Value) (xs : List Value) (hm : m ≤ maxLen) (hnm : n ≤ m) (hs : cur.size = m * size) (hx : xs.length = n * size) :
    ((w.alloc (.cells cur e)).setRow w.heap.size (xs ++ cur.toList.drop xs.length).toArray).ownsRow w.heap.size e size (.slice (some ⟨w.heap.size, 0, none⟩) n m) n xs ∧
    Ext w ((w.alloc (.cells cur e)).setRow w.heap.size (xs ++ cur.toList.drop xs.length).toArray) := by
  have hle : n * size ≤ m * size := Nat.mul_le_mul_right _ hnm
  refine ⟨⟨hx, .inr ⟨w.heap.size, m, _, rfl, Nat.le_refl _, setRow_heap _ _ _ _ _ _ (heap_alloc_new w _), hnm, hm, ?_, ?_⟩⟩, below_setRow ((Ext.refl w).alloc _) (Nat.le_refl _) _⟩
  · simp; omega
  · simp [← hx]

theorem Cells.len_none {w : World} {A : Option Addr} {xs : List Value} (h : Cells w A xs) (hA : A = none) : xs.length = 0 := by
  cases xs with
  | nil => rfl
  | cons x r => obtain ⟨b, off, e, _⟩ := h (by simp); rw [hA] at e; cases e
theorem Cells.at_ {w : World} {A : Option Addr} {xs : List Value} (h : Cells w A xs) : ∀ ad, A = some ad → ∀ j u, xs[j]? = some u → w.cell? (ad.add j) = some u := by
  intro ad had j u hu
  obtain ⟨b, off, e, _, hc⟩ := h (by intro e; subst e; simp at hu)
  rw [had] at e
  cases e
  rw [Addr.add_lit]
  exact hc j u hu

/-- copy, whatever the elements' size, onto the head of a row that is known whole. -/
theorem run_copy_head {P : Program} (w : World) (dT sT ty elem : TypeId) (i : TypeInfo) (hu : P.underlying dT = some (.slice elem)) (hi : P.info? elem = some i)
    (g n dCap c : Nat) (A : Option Addr)
    (cur : Array Value) (t : TypeId) (hg : w.heap[g]? = some (.cells cur t (0, 0))) (xs : List Value) (hn : xs.length = n * i.size) (hnil : A = none → c = 0)
    (hc : Cells w A xs) (hfit : xs.length ≤ cur.size) (h1 : ∀ v ∈ xs, v.oneCell' = true) (hn0 : A = none → n = 0) :
    (Builtin.copy_ #[dT, sT] ty #[.slice (some ⟨g, 0, none⟩) n dCap, .slice A n c]).run P w = .ok (goInt n) (w.setRow g (xs ++ cur.toList.drop xs.length).toArray) := by
  have hst := run_storeCells_at P g 0 t xs 0 cur w hg (by simpa using hfit) h1
  simp only [Nat.add_zero, Nat.zero_add, List.take_zero, List.nil_append] at hst
  cases A with
  | some ad =>
    have hf := run_firstCells_some (P := P) w i.size n ad n c xs hn (hc.at_ ad rfl)
    simp [Builtin.copy_, run_underlying hu, Builtin.lenOf, sizeOf, typeInfo, hi, hf, hst]
  | none =>
    obtain rfl := hn0 rfl
    obtain rfl := hnil rfl
    obtain rfl : xs = [] := List.eq_nil_of_length_eq_zero (by simpa using hn)
    simp only [List.length_nil, List.nil_append, List.drop_zero, Array.toArray_toList] at hst ⊢
    simp [Builtin.copy_, run_underlying hu, Builtin.lenOf, Builtin.firstCells, sizeOf, typeInfo, hi, storeCells, setRow_self w g cur t (0, 0) hg]

/-- A slice's address, length and capacity, and the cells that stand there. -/
def Sl (w : World) (A : Option Addr) (n c : Nat) (xs : List Value) : Prop := (A = none → c = 0) ∧ n ≤ c ∧ c ≤ maxLen ∧ Cells w A xs
theorem Sl.cells {w : World} {A : Option Addr} {n c : Nat} {xs : List Value} (h : Sl w A n c xs) : Cells w A xs := h.2.2.2
theorem Sl.ext {w w' : World} {A : Option Addr} {n c : Nat} {xs : List Value} (h : Sl w A n c xs) (hx : Ext w w') : Sl w' A n c xs := ⟨h.1, h.2.1, h.2.2.1, h.2.2.2.ext hx⟩
theorem Sl.len {w : World} {A : Option Addr} {n c : Nat} {xs : List Value} (h : Sl w A n c xs) : n ≤ maxLen := Nat.le_trans h.2.1 h.2.2.1
theorem Sl.nil (w : World) : Sl w none 0 0 [] := ⟨fun _ => rfl, Nat.le_refl _, Nat.zero_le _, Cells.nil _ _⟩

/-- A value that is the disk of these blocks, with these writes. -/
def IsDisk (w : World) (v : Value) (b : List ByteArray) (l : List Wr) : Prop :=
  ∃ A c A' c', v = .agg #[.slice A b.length c, .slice A' l.length c'] ∧ Sl w A b.length c (b.map sv) ∧ Sl w A' l.length c' (wvs l)
theorem IsDisk.ext {w w' : World} {v : Value} {b : List ByteArray} {l : List Wr} (h : IsDisk w v b l) (hx : Ext w w') : IsDisk w' v b l := by
  obtain ⟨A, c, A', c', rfl, h1, h2⟩ := h
  exact ⟨A, c, A', c', rfl, h1.ext hx, h2.ext hx⟩

theorem own_cells1 {w : World} {B e n g cap : Nat} {l : List Value} (h : w.ownsRow B e 1 (.slice (some ⟨g, 0, none⟩) n cap) n l) : Cells w (some ⟨g, 0, none⟩) l := fun _ => by
  refine ⟨g, 0, rfl, (h.lt g rfl).2, fun j u hu => ?_⟩
  have hj := (List.getElem?_eq_some_iff.1 hu).1
  have hl := h.1
  rw [Nat.zero_add, h.cellAt j (by omega), hu]
theorem own_cells2 {w : World} {B e n g cap : Nat} {l : List Value} (h : w.ownsRow B e 2 (.slice (some ⟨g, 0, none⟩) n cap) n l) : Cells w (some ⟨g, 0, none⟩) l := fun _ => by
  refine ⟨g, 0, rfl, (h.lt g rfl).2, fun j u hu => ?_⟩
  have hj := (List.getElem?_eq_some_iff.1 hu).1
  have hl := h.1
  rw [Nat.zero_add, h.cellAt j (by omega), hu]

/-- A box that holds two values, still there. -/
def Box2 (w : World) (k : Nat) (a b : Value) : Prop := ∃ t, w.heap[k]? = some (.cells #[a, b] t (0, 0))
theorem Box2.read {w : World} {k : Nat} {a b : Value} (h : Box2 w k a b) : w.cell? ⟨k, 0, none⟩ = some a ∧ w.cell? ⟨k, 1, none⟩ = some b ∧ w.frozen? ⟨k, 0, none⟩ = false ∧ w.frozen? ⟨k, 1, none⟩ = false := by
  obtain ⟨t, h⟩ := h
  refine ⟨?_, ?_, ?_, ?_⟩
  · unfold World.cell?; rw [h]; rfl
  · unfold World.cell?; rw [h]; rfl
  · unfold World.frozen?; rw [h]; rfl
  · unfold World.frozen?; rw [h]; rfl

theorem cell_new0 (w : World) (a b : Value) (t : TypeId) : (w.alloc (.cells #[a, b] t)).cell? ⟨w.heap.size, 0, none⟩ = some a := by
  have := heap_alloc_new w (.cells #[a, b] t)
  unfold World.cell?; rw [this]; rfl
theorem cell_new1 (w : World) (a b : Value) (t : TypeId) : (w.alloc (.cells #[a, b] t)).cell? ⟨w.heap.size, 1, none⟩ = some b := by
  have := heap_alloc_new w (.cells #[a, b] t)
  unfold World.cell?; rw [this]; rfl
theorem Box2.new (w : World) (a b : Value) (t : TypeId) : Box2 (w.alloc (.cells #[a, b] t)) w.heap.size a b := ⟨t, heap_alloc_new w _⟩
theorem Box2.ext {w w' : World} {k : Nat} {a b : Value} (h : Box2 w k a b) (hk : k < w.heap.size) (hx : Ext w w') : Box2 w' k a b := by
  obtain ⟨t, h⟩ := h
  exact ⟨t, (hx.block k hk).trans h⟩
theorem Box2.grown {w w' : World} {k g : Nat} {a b : Value} (h : Box2 w k a b) (hk : k < w.heap.size) (hg : w.grownBy w' (some g)) (hne : k ≠ g) : Box2 w' k a b := by
  obtain ⟨t, h⟩ := h
  exact ⟨t, (hg.block k hk (by simpa using hne)).trans h⟩
theorem Box2.store {w : World} {k : Nat} {a b : Value} (h : Box2 w k a b) (x y : Value) : Box2 ((w.setCell ⟨k, 0, none⟩ x).setCell ⟨k, 1, none⟩ y) k x y := by
  obtain ⟨t, h⟩ := h
  have h1 := heap_setCell_same w k 0 #[a, b] t x h
  have h2 := heap_setCell_same (w.setCell ⟨k, 0, none⟩ x) k 1 _ t y h1
  exact ⟨t, h2⟩
/-- What is no slice lies in no box of slices. -/
def flat : Value → Bool
  | .slice _ _ _ => false
  | _ => true
theorem Cells.not_box {w : World} {A : Option Addr} {xs : List Value} (h : Cells w A xs) (hf : ∀ u ∈ xs, flat u = true) {k : Nat} {A1 A2 : Option Addr} {n1 c1 n2 c2 : Nat} (hb : Box2 w k (.slice A1 n1 c1) (.slice A2 n2 c2)) :
    xs ≠ [] → ∀ p, A = some p → some k ≠ some p.block := fun hx p hp e => by
  obtain ⟨b, off, e', hlt, hc⟩ := h hx
  rw [hp] at e'
  cases e'
  cases e
  obtain ⟨t, hb⟩ := hb
  cases xs with
  | nil => exact hx rfl
  | cons u r =>
    have h1 := hc 0 u rfl
    have h2 := hf u (by simp)
    unfold World.cell? at h1
    rw [show w.heap[(⟨b, off, none⟩ : Addr).block]? = _ from hb] at h1
    simp only [Nat.add_zero, Option.isSome_none] at h1
    match off, h1 with
    | 0, h1 => simp at h1; subst h1; cases h2
    | 1, h1 => simp at h1; subst h1; cases h2
    | n + 2, h1 => simp at h1
theorem flat_svs (l : List ByteArray) : ∀ u ∈ l.map sv, flat u = true := by
  intro u hu
  obtain ⟨_, _, rfl⟩ := List.mem_map.1 hu
  rfl
theorem flat_bools (l : List Bool) : ∀ u ∈ l.map Value.bool, flat u = true := by
  intro u hu
  obtain ⟨_, _, rfl⟩ := List.mem_map.1 hu
  rfl
theorem flat_wvs (l : List Wr) : ∀ u ∈ wvs l, flat u = true := by
  induction l with
  | nil => intro u h; simp [wvs] at h
  | cons x l ih =>
    intro u h
    simp only [wvs, List.mem_cons] at h
    rcases h with rfl | rfl | h
    · rfl
    · rfl
    · exact ih u h
theorem grown_store2 (w : World) (k : Nat) (x y : Value) : w.grownBy ((w.setCell ⟨k, 0, none⟩ x).setCell ⟨k, 1, none⟩ y) (some k) :=
  ⟨rfl, rfl, rfl, by simp [World.setCell], fun i _ hi => by rw [Below.heap_setCell _ _ _ _ (by simpa using hi), Below.heap_setCell _ _ _ _ (by simpa using hi)]⟩
/-- A store into a box of slices leaves what is no slice. -/
theorem Sl.store2 {w : World} {A : Option Addr} {n c : Nat} {xs : List Value} (h : Sl w A n c xs) (hf : ∀ u ∈ xs, flat u = true) {k : Nat} {A1 A2 : Option Addr} {n1 c1 n2 c2 : Nat} (hb : Box2 w k (.slice A1 n1 c1) (.slice A2 n2 c2)) (x y : Value) :
    Sl ((w.setCell ⟨k, 0, none⟩ x).setCell ⟨k, 1, none⟩ y) A n c xs := ⟨h.1, h.2.1, h.2.2.1, h.cells.grown (grown_store2 w k x y) (h.cells.not_box hf hb)⟩
theorem Ext.store2 {w0 w : World} (h : Ext w0 w) {k : Nat} (hk : w0.heap.size ≤ k) (x y : Value) : Ext w0 ((w.setCell ⟨k, 0, none⟩ x).setCell ⟨k, 1, none⟩ y) := (h.set (p := ⟨k, 0, none⟩) hk x).set (p := ⟨k, 1, none⟩) hk y
theorem own_store2 {w : World} {B e size n g cap : Nat} {xs : List Value} (h : w.ownsRow B e size (.slice (some ⟨g, 0, none⟩) n cap) n xs) {k : Nat} (hk : g ≠ k) (x y : Value) : ((w.setCell ⟨k, 0, none⟩ x).setCell ⟨k, 1, none⟩ y).ownsRow B e size (.slice (some ⟨g, 0, none⟩) n cap) n xs :=
  ownsRow_setCell_other (ownsRow_setCell_other h (a := ⟨k, 0, none⟩) (by simpa [Value.ownBlock] using hk) x) (a := ⟨k, 1, none⟩) (by simpa [Value.ownBlock] using hk) y


theorem own_sl1 {w : World} {B e n g cap : Nat} {l : List Value} (h : w.ownsRow B e 1 (.slice (some ⟨g, 0, none⟩) n cap) n l) : Sl w (some ⟨g, 0, none⟩) n cap l := by
  refine ⟨(fun h => by cases h), ?_, ?_, own_cells1 h⟩
  all_goals
    rcases h.2 with ⟨h', _⟩ | ⟨g', cap', cur, h', _, _, hnc, hcm, _⟩
    · simp at h'
    · simp only [Value.slice.injEq] at h'
      obtain ⟨_, _, rfl⟩ := h'
      assumption
theorem own_sl2 {w : World} {B e n g cap : Nat} {l : List Value} (h : w.ownsRow B e 2 (.slice (some ⟨g, 0, none⟩) n cap) n l) : Sl w (some ⟨g, 0, none⟩) n cap l := by
  refine ⟨(fun h => by cases h), ?_, ?_, own_cells2 h⟩
  all_goals
    rcases h.2 with ⟨h', _⟩ | ⟨g', cap', cur, h', _, _, hnc, hcm, _⟩
    · simp at h'
    · simp only [Value.slice.injEq] at h'
      obtain ⟨_, _, rfl⟩ := h'
      assumption

/-- The writes that are kept. -/
def kept : List Wr → List Bool → List Wr
  | x :: l, true :: ks => x :: kept l ks
  | _ :: l, false :: ks => kept l ks
  | [], _ => []
  | _ :: _, [] => []
theorem kept_nil (l : List Wr) : kept l [] = [] := by cases l <;> rfl
theorem kept_step : ∀ (k : Nat) (l : List Wr) (ks : List Bool) (h : k < l.length) (h' : k < ks.length), kept (l.take (k + 1)) (ks.take (k + 1)) = kept (l.take k) (ks.take k) ++ (if ks[k] then [l[k]] else [])
  | 0, x :: l, b :: ks, _, _ => by cases b <;> simp [kept]
  | k + 1, x :: l, b :: ks, h, h' => by
    have ih := kept_step k l ks (by simpa using h) (by simpa using h')
    cases b
    · simpa [kept] using ih
    · simp only [List.take_succ_cons, kept, List.getElem_cons_succ, List.cons_append, List.cons.injEq, true_and] at ih ⊢
      exact ih
theorem kept_end : ∀ (m : Nat) (l : List Wr) (ks : List Bool), (l.length ≤ m ∨ ks.length ≤ m) → kept (l.take m) (ks.take m) = kept l ks
  | 0, l, ks, h => by
    rcases h with h | h
    · obtain rfl : l = [] := List.eq_nil_of_length_eq_zero (by omega)
      simp [kept]
    · obtain rfl : ks = [] := List.eq_nil_of_length_eq_zero (by omega)
      simp [kept_nil]
  | m + 1, [], ks, _ => by simp [kept]
  | m + 1, x :: l, [], _ => by simp [kept]
  | m + 1, x :: l, b :: ks, h => by
    have ih := kept_end m l ks (by simpa using h)
    cases b <;> simp [kept, ih]
end Go.Proofs.YtnlkakbpcdfgfaaGreat
namespace Go.Proofs.YtnlkakbpcdfgfaaGreat
set_option maxRecDepth 20000
open Go.RowKit

/-- append onto a row of the call's own, whatever is appended: nil, empty or not. -/
theorem wpList_app {P : Program} (w : World) {ops : Array Oper} {rest : List Oper} {o : Oper} {a : Act} {Q : Exit → Act → World → Prop} (hgd : o.guard = none) (s x : Operand) (t : TypeId)
    (ho : o.op = .call { callee := .builtin .append, args := #[s, x], argTypes := #[t, t] })
    (base : Nat) (e : TypeId) (i : TypeInfo) (z : Value) (size bytes : Nat) (ht : P.underlying t = some (.slice e)) (hi : P.info? e = some i) (hz : i.zero = some z)
    (hsize : i.size = size) (hby : i.bytes = bytes) (hzs : z.cells.size = size) (hsz : 0 < size)
    (v : Value) (n : Nat) (xs : List Value) (hs : a.eval s = v) (hown : w.ownsRow base e size v n xs)
    (A : Option Addr) (m c : Nat) (news : List Value) (hx : a.eval x = .slice A m c) (hl : news.length = m * size)
    (hnil : A = none → m = 0 ∧ c = 0) (hnews : ∀ ad, A = some ad → ∀ j u, news[j]? = some u → w.cell? (ad.add j) = some u) (h1 : ∀ u ∈ news, u.oneCell' = true)
    (h63 : n + m ≤ maxLen) (hbytes : (n + m) * bytes ≤ 140737488355328) (hbase : base ≤ w.heap.size)
    (h : ∀ v' w', w'.ownsRow base e size v' (n + m) (xs ++ news) → w.grownBy w' v.ownBlock → wpList P ops Q rest (a.put o.dst v') w') : wpList P ops Q (o :: rest) a w := by
  cases A with
  | some ad => exact wpList_append_own w hgd s x t ho base e i z size bytes ht hi hz hsize hby hzs hsz v n xs hs hown ad m c news hx hl (hnews ad rfl) h1 h63 hbytes hbase fun v' w' h2 h3 _ => h v' w' h2 h3
  | none =>
    obtain ⟨rfl, rfl⟩ := hnil rfl
    obtain rfl : news = [] := List.eq_nil_of_length_eq_zero (by simpa using hl)
    refine wpList_plain hgd fun K hK' => ?_
    have hrun := run_append_owned_none (P := P) w base t o.type e i size ht hi v n xs hown
    unfold Oper.wp
    simp [execOp, ho, resolve, invoke, builtin, hs, hx, hrun, Result.andThen]
    exact hK' _ _ (h v w (by simpa using hown) (World.grownBy.refl _ _))

theorem own_shape {w : World} {B e s n : Nat} {v : Value} {xs : List Value} (h : w.ownsRow B e s v n xs) : ∃ A cap, v = .slice A n cap := by
  rcases h.2 with ⟨rfl, h0⟩ | ⟨g, cap, cur, rfl, _⟩
  · exact ⟨none, 0, by rw [h0]⟩
  · exact ⟨_, cap, rfl⟩
theorem own_some {w : World} {B e s n : Nat} {A : Option Addr} {cap : Nat} {xs : List Value} (h : w.ownsRow B e s (.slice A n cap) n xs) (hn : 1 ≤ n) : ∃ g, A = some ⟨g, 0, none⟩ ∧ B ≤ g := by
  rcases h.2 with ⟨e, h0⟩ | ⟨g, cap, cur, e, hg, _⟩
  · omega
  · cases e; exact ⟨g, rfl, hg⟩
/-- A row of the call's own as a slice. -/
theorem own_sl {w : World} {B e s n : Nat} {A : Option Addr} {cap : Nat} {xs : List Value} (h : w.ownsRow B e s (.slice A n cap) n xs) : Sl w A n cap xs := by
  rcases h.2 with ⟨e, h0⟩ | ⟨g, cap', cur, e, hg, hh, hnc, hcm, _⟩
  · cases e
    obtain rfl : xs = [] := List.eq_nil_of_length_eq_zero (by rw [h.1]; simp)
    exact Sl.nil w
  · cases e
    refine ⟨(fun h => by cases h), hnc, hcm, fun _ => ⟨g, 0, rfl, (Array.getElem?_eq_some_iff.1 hh).1, fun j u hu => ?_⟩⟩
    have hj := (List.getElem?_eq_some_iff.1 hu).1
    rw [Nat.zero_add, h.cellAt j (by have := h.1; omega), hu]

/-- append onto a row of the call's own: what is appended is a slice, or a list written out. -/
theorem wpList_app_sl {P : Program} (w : World) {ops : Array Oper} {rest : List Oper} {o : Oper} {a : Act} {Q : Exit → Act → World → Prop} (hgd : o.guard = none) (s x : Operand) (t : TypeId)
    (ho : o.op = .call { callee := .builtin .append, args := #[s, x], argTypes := #[t, t] })
    (base : Nat) (e : TypeId) (z : Value) (size bytes : Nat) (ht : P.underlying t = some (.slice e)) (hinfo : (P.info? e).map (fun i => (i.zero, i.size, i.bytes)) = some (some z, size, bytes)) (hzs : z.cells.size = size) (hsz : 0 < size)
    (v : Value) (n : Nat) (xs : List Value) (hs : a.eval s = v) (hown : w.ownsRow base e size v n xs)
    (A : Option Addr) (m c : Nat) (news : List Value) (hx : a.eval x = .slice A m c) (hl : news.length = m * size) (hS : Sl w A m c news) (h1 : ∀ u ∈ news, u.oneCell' = true)
    (h63 : n + m ≤ maxLen) (hbytes : (n + m) * bytes ≤ 140737488355328) (hbase : base ≤ w.heap.size)
    (h : ∀ A' c' w', w'.ownsRow base e size (.slice A' (n + m) c') (n + m) (xs ++ news) → w.grownBy w' v.ownBlock → wpList P ops Q rest (a.put o.dst (.slice A' (n + m) c')) w') : wpList P ops Q (o :: rest) a w := by
  obtain ⟨i, hi, hz, hsize, hby⟩ := info_parts hinfo
  refine wpList_app w hgd s x t ho base e i z size bytes ht hi hz hsize hby hzs hsz v n xs hs hown A m c news hx hl (fun e => ?_) hS.cells.at_ h1 h63 hbytes hbase ?_
  · have h0 := hS.cells.len_none e
    rw [hl] at h0
    exact ⟨by rcases Nat.mul_eq_zero.1 h0 with h | h <;> omega, hS.1 e⟩
  · intro v' w' h2 h3
    obtain ⟨A', c', rfl⟩ := own_shape h2
    exact h A' c' w' h2 h3
theorem own_empty (w : World) (e size : Nat) : (w.alloc (.cells #[] e)).ownsRow w.heap.size e size (.slice (some ⟨w.heap.size, 0, none⟩) 0 0) 0 [] :=
  World.ownsRow_lit (base := w.heap.size) (e := e) (size := size) w #[] 0 (Nat.le_refl _) (Nat.zero_le _) (by simp)
/-- A list written out, as a slice. -/
theorem sl_lit (w : World) (e n : Nat) (xs : List Value) (hn : n ≤ maxLen) : Sl (w.alloc (.cells xs.toArray e)) (some ⟨w.heap.size, 0, none⟩) n n xs :=
  ⟨(fun h => by cases h), Nat.le_refl _, hn, fun _ => ⟨w.heap.size, 0, rfl, by simp, fun j u hu => by
    have := heap_alloc_new w (.cells xs.toArray e)
    unfold World.cell?; rw [this]; simpa using hu⟩⟩

theorem Ext.row {a b c : World} {g n cap : Nat} (h : Ext a b) (hg : b.grownBy c (Value.slice (some ⟨g, 0, none⟩) n cap).ownBlock) (hB : a.heap.size ≤ g) : Ext a c :=
  Below.grown h hg h.size (fun k hk => by cases hk; exact hB)
theorem Ext.row' {a b c : World} {g : Nat} (h : Ext a b) (hg : b.grownBy c (some g)) (hB : a.heap.size ≤ g) : Ext a c :=
  Below.grown h hg h.size (fun k hk => by cases hk; exact hB)
theorem grown_drew (w : World) (row : Option Nat) : w.grownBy w.drew row := ⟨rfl, rfl, rfl, Nat.le_refl _, fun _ _ _ => rfl⟩

/-- append at a step of a region that draws its order. -/
theorem step_app_sl {P : Program} {w : World} {ops : Array Oper} {o : Oper} {a : Act} {K : Act → World → Prop} {Q : Exit → Act → World → Prop} {E : Prop} (hgd : o.guard = none) (s x : Operand) (t : TypeId)
    (ho : o.op = .call { callee := .builtin .append, args := #[s, x], argTypes := #[t, t] })
    (base : Nat) (e : TypeId) (z : Value) (size bytes : Nat) (ht : P.underlying t = some (.slice e)) (hinfo : (P.info? e).map (fun i => (i.zero, i.size, i.bytes)) = some (some z, size, bytes)) (hzs : z.cells.size = size) (hsz : 0 < size)
    (v : Value) (n : Nat) (xs : List Value) (hs : a.eval s = v) (hown : w.ownsRow base e size v n xs)
    (A : Option Addr) (m c : Nat) (news : List Value) (hx : a.eval x = .slice A m c) (hl : news.length = m * size) (hS : Sl w A m c news) (h1 : ∀ u ∈ news, u.oneCell' = true)
    (h63 : n + m ≤ maxLen) (hbytes : (n + m) * bytes ≤ 140737488355328) (hbase : base ≤ w.heap.size)
    (h : ∀ A' c' w', w'.ownsRow base e size (.slice A' (n + m) c') (n + m) (xs ++ news) → w.grownBy w' v.ownBlock → K (a.put o.dst (.slice A' (n + m) c')) w') :
    if Region.wanted o (yielded ops a.tmps) = true then Oper.wp P o a w K Q else E := by
  have hw : Region.wanted o (yielded ops a.tmps) = true := by simp [Region.wanted, hgd]
  rw [if_pos hw]
  obtain ⟨i, hi, hz, hsize, hby⟩ := info_parts hinfo
  cases A with
  | some ad =>
    refine wp_append_own w s x t ho base e i z size bytes ht hi hz hsize hby hzs hsz v n xs hs hown ad m c news hx hl (hS.cells.at_ ad rfl) h1 h63 hbytes hbase ?_
    intro v' w' h2 h3 _
    obtain ⟨A', c', rfl⟩ := own_shape h2
    exact h A' c' w' h2 h3
  | none =>
    have h0 := hS.cells.len_none rfl
    rw [hl] at h0
    obtain rfl : m = 0 := by rcases Nat.mul_eq_zero.1 h0 with h | h <;> omega
    obtain rfl := hS.1 rfl
    obtain rfl : news = [] := List.eq_nil_of_length_eq_zero (by simpa using hl)
    have hrun := run_append_owned_none (P := P) w base t o.type e i size ht hi v n xs hown
    obtain ⟨A', c', rfl⟩ := own_shape hown
    unfold Oper.wp
    simp [execOp, ho, resolve, invoke, builtin, hs, hx, hrun, Result.andThen]
    exact h A' c' w (by simpa using hown) (World.grownBy.refl _ _)
theorem Sl.grown {w w' : World} {A : Option Addr} {n c : Nat} {xs : List Value} {row : Option Nat} (h : Sl w A n c xs) (hg : w.grownBy w' row) (hne : xs ≠ [] → ∀ p, A = some p → row ≠ some p.block) : Sl w' A n c xs := ⟨h.1, h.2.1, h.2.2.1, h.cells.grown hg hne⟩
theorem apart_num {xs : List Value} {g g' : Nat} (h : g ≠ g') : xs ≠ [] → ∀ p, (some ⟨g', 0, none⟩ : Option Addr) = some p → some g ≠ some p.block := fun _ p hp e => by
  cases hp
  cases e
  exact h rfl
theorem own_ext {w w' : World} {B e s n : Nat} {v : Value} {xs : List Value} (h : w.ownsRow B e s v n xs) (hb : Ext w w') : w'.ownsRow B e s v n xs :=
  h.kept (row := none) ⟨hb.os, hb.tape, hb.output, hb.size, fun k hk _ => hb.block k hk⟩ (by cases hv : v.ownBlock <;> simp)
end Go.Proofs.YtnlkakbpcdfgfaaGreat
namespace Go.Proofs.YtnlkakbpcdfgfaaGreat
set_option maxRecDepth 20000
open Go.RowKit


theorem Cells.none_ {w : World} {A : Option Addr} {l : List UInt8} (h : Cells w A (l.map bv)) (hA : A = none) : l.length = 0 := by
  rcases Nat.eq_zero_or_pos l.length with h0 | h0
  · exact h0
  · obtain ⟨ad, h', _⟩ := h.some_ (by simpa using h0)
    rw [hA] at h'; cases h'
def slLen : Value → Nat | .slice _ n _ => n | _ => 0
theorem pad_step (b : List UInt8) (k : Nat) : (b ++ List.replicate k 0).map bv ++ [bv 0] = (b ++ List.replicate (k + 1) 0).map bv := by
  rw [List.replicate_succ']; simp

set_option maxHeartbeats 1000000 in
theorem ref01Seal_any (A : Option Addr) (l : List UInt8) (c : Nat) (w : World) (hl : l.length ≤ maxLen) (hn : A = none → c = 0) (hA : Cells w A (l.map bv)) :
    Calls Tryz.prog 86 #[.slice A l.length c] w fun e w' => e = .returned (sealV l) ∧ Below w.heap.size w w' := by
  unfold maxLen at hl
  by_cases h36 : l.length ≤ 36
  · have HV := Lib.hid (show sealV l = .tuple #[.string ⟨(sealL l).toArray⟩, .int .i64 0] by unfold sealV sealB sealE; rw [if_pos h36, if_pos h36])
    obtain ⟨i0, hi, hz0, hz1, hz2⟩ := info_parts info5
    go_enter Tryz.func86, Tryz.ntmps86
    go_wp2_with (at_builtin; refine stop_here ?_)
    refine stop_on ?_
    have h0 := World.ownsRow_lit (base := w.heap.size) (e := 5) (size := 1) w #[] 0 (Nat.le_refl _) (Nat.zero_le _) rfl
    have hA1 : Cells (w.alloc (.cells #[] 5)) A (l.map bv) := hA.below ((Below.refl _ _).alloc (Nat.le_refl _) _)
    refine wpList_app _ rfl _ _ 83 rfl w.heap.size 5 i0 (.int .u8 0) 1 1 Tryz.underlying83 hi hz0 hz1 hz2 rfl (by decide) _ 0 [] rfl h0 A l.length c (l.map bv) rfl (by simp) ?k1 hA1.at_ (bytes_oneCell _) (by unfold maxLen; omega) (by omega) (by simp) ?_
    case k1 => intro h; exact ⟨hA.none_ h, hn h⟩
    intro v1 w1 hown hgrow
    have HB := Lib.hid (show Below w.heap.size w w1 from ((Below.refl _ _).alloc (Nat.le_refl _) _).grown hgrow (by simp) (by intro k hk; cases hk; exact Nat.le_refl _))
    have HO := Lib.hid (show w1.ownsRow w.heap.size 5 1 v1 l.length ((l ++ List.replicate 0 0).map bv) by simpa using hown)
    clear hown hgrow hA1 h0
    obtain ⟨A1, cap1, hv1⟩ := own_shape HO.out
    subst hv1
    go_wp2
    go_loopw [4] (fun v wr => ∃ (k cap : Nat) (A : Option Addr), l.length + k ≤ 36 ∧ v = .slice A (l.length + k) cap ∧ wr.ownsRow w.heap.size 5 1 v (l.length + k) ((l ++ List.replicate k 0).map bv) ∧ Below w.heap.size w wr) (fun v _ => 36 - slLen v)
    case atStart => exact ⟨0, cap1, A1, by omega, rfl, HO.out, HB.out⟩
    case round =>
      obtain ⟨k, cap, A2, hk, rfl, ho, hb⟩ := hrel
      have HO2 := Lib.hid ho
      have HB2 := Lib.hid hb
      clear ho hb
      by_cases hlt : l.length + k < 36
      · go_wp2_with (at_builtin; refine stop_here ?_)
        refine stop_on ?_
        refine wpList_app _ rfl _ _ 83 rfl w.heap.size 5 i0 (.int .u8 0) 1 1 Tryz.underlying83 hi hz0 hz1 hz2 rfl (by decide) _ (l.length + k) _ rfl (HO2.out.alloc _) (some ⟨wr.heap.size, 0, none⟩) 1 1 [bv 0] rfl rfl (by intro h; cases h) (by intro ad h; cases h; exact cell_one_new _ _ _) (by intro u hu; simp at hu; subst hu; rfl) (by unfold maxLen; omega) (by omega) (by have := HB2.out.size; simp; omega) ?_
        intro v2 w2 hown hgrow
        rw [pad_step] at hown
        have HB3 := Lib.hid (show Below w.heap.size w w2 from (HB2.out.alloc HB2.out.size _).grown hgrow (by have := HB2.out.size; simp; omega) (fun q hq => (HO2.out.lt q hq).1))
        have HO3 := Lib.hid hown
        clear hown hgrow
        obtain ⟨A3, cap3, hv3⟩ := own_shape HO3.out
        subst hv3
        go_wp2
        go_roundw
        case rel => exact ⟨k + 1, cap3, A3, by omega, rfl, HO3.out, HB3.out⟩
        case measure => simp [slLen]; omega
      · have hk36 : l.length + k = 36 := by omega
        have HK := Lib.hid hk36
        have hpad : l ++ List.replicate k 0 = padL l := by unfold padL; rw [show k = 36 - l.length by omega]
        rw [hpad] at HO2
        rw [hk36] at HO2 ⊢
        clear hpad hk36 hk hlt
        have hlp := padL_length l h36
        have HL := Lib.hid hlp
        clear hlp
        generalize hp : padL l = p at *
        have HPL := Lib.hid hp; clear hp
        have hcl := crc_lt p
        have HSum : Calls Tryz.prog 88 #[.slice A2 36 cap] wr fun e w' => e = .returned (.int .i64 (crc p : Nat)) ∧ wr = w' := by
          have := ref01Sum_any A2 p cap wr (by rw [HL.out]; unfold maxLen; omega) (own_cells HO2.out)
          rw [HL.out] at this; exact this
        have HSum := Lib.hid HSum
        go_wp2_with (first | (at_builtin; refine stop_here ?_) | (go_at_call 88; refine HSum.out.mono ?_; rintro e w' ⟨rfl, rfl⟩) | (go_at_call 83; refine (ref01Put_any _ _ _ (by omega) (by omega)).mono ?_; rintro e w2 ⟨v, rfl, hgot, hb2⟩; have HG2 := Lib.hid hgot; have HB3 := Lib.hid hb2; clear hgot hb2))
        refine stop_on ?_
        have hgot := HG2.out
        rw [putS_crc] at hgot
        obtain ⟨A4, cap4, rfl, hc4, _, hnil, hcells⟩ := hgot
        have h4 := putL_length 4 (crc p)
        rw [h4] at hc4
        rw [h4]
        refine wpList_app _ rfl _ _ 83 rfl w.heap.size 5 i0 (.int .u8 0) 1 1 Tryz.underlying83 hi hz0 hz1 hz2 rfl (by decide) _ 36 (p.map bv) rfl (own_below HO2.out HB3.out) A4 4 cap4 ((putL (crc p) 4).map bv) rfl (by simp [h4]) (by intro h; have := hcells.none_ h; omega) hcells.at_ (bytes_oneCell _) (by unfold maxLen; omega) (by omega) (by have := HB2.out.size; have := HB3.out.size; omega) ?_
        intro v5 w5 hown hgrow
        rw [← List.map_append] at hown
        have hl40 : (p ++ putL (crc p) 4).length = 40 := by rw [List.length_append, HL.out, h4]
        obtain ⟨A5, cap5, rfl⟩ := own_shape hown
        have hcv := conv_str (c := cap5) (own_cells hown) (by rw [hl40]; omega)
        rw [hl40] at hcv
        have HB5 := Lib.hid (show Below w.heap.size w w5 from (HB2.out.trans (HB3.out.mono HB2.out.size)).grown hgrow (by have := HB2.out.size; have := HB3.out.size; omega) (fun q hq => (HO2.out.lt q hq).1))
        have HV2 := Lib.hid (show sealV l = .tuple #[.string ⟨(p ++ putL (crc p) 4).toArray⟩, .int .i64 0] by rw [HV.out]; unfold sealL; rw [HPL.out])
        clear hown hgrow hcells hnil HO HO2 HSum hl40 h4
        generalize (p ++ putL (crc p) 4).toArray = z at *
        go_wp2
        go_ret2
        exact ⟨congrArg Ending.returned HV2.out.symm, HB5.out⟩
  · have HV := Lib.hid (show sealV l = .tuple #[.string ⟨#[]⟩, .int .i64 1] by unfold sealV sealB sealE; rw [if_neg h36, if_neg h36])
    go_enter Tryz.func86, Tryz.ntmps86
    go_wp2
    go_ret2
    exact ⟨congrArg Ending.returned HV.out.symm, Below.refl _ _⟩

end Go.Proofs.YtnlkakbpcdfgfaaGreat
namespace Go.Proofs.YtnlkakbpcdfgfaaGreat
set_option maxRecDepth 20000
open Go.RowKit

/-- P1.3: what is in a sealed block. -/
def openS (s : List UInt8) : Option (List UInt8) := if s.length = 40 ∧ leNat ((s.drop 36).take 4) = crc (s.take 36) then some (s.take 36) else none
def openE (s : List UInt8) : Int := if (openS s).isSome then 0 else 2
def openL (s : List UInt8) : List UInt8 := (openS s).getD []

/-- A string made a slice of bytes. -/
theorem conv_bytes (s : ByteArray) (w : World) (hs : s.size ≤ maxLen) : ∃ cap W, (convert 9 83 (.string s)).run Tryz.prog w = .ok (.slice (some ⟨w.heap.size, 0, none⟩) s.size cap) W ∧
    Below w.heap.size w W ∧ s.size ≤ cap ∧ cap ≤ maxLen ∧ Cells W (some ⟨w.heap.size, 0, none⟩) (s.data.toList.map bv) := by
  refine ⟨_, _, run_bytes_of_string (P := Tryz.prog) w 9 83 5 s Tryz.underlying9 Tryz.underlying83 Tryz.underlying5, ((Below.refl _ _).drew).alloc (Nat.le_refl _) _, grownCap_ge _ _ _ _, grownCap_le_maxLen _ _ _ _ hs, fun _ => ⟨_, 0, rfl, ?_, fun j u hu => ?_⟩⟩
  · have : w.drew.heap.size = w.heap.size := rfl
    simp [this]
  · rw [Nat.zero_add]
    refine (World.cell?_alloc_mark w.drew _ 5 _ j).trans ?_
    have hj : j < s.data.size := by have := (List.getElem?_eq_some_iff.1 hu).1; simpa using this
    rw [bytesRow_at s _ j hj, ← hu]
    simp [bv, List.getElem?_map, Array.getElem?_toList, Array.getElem?_eq_getElem hj]

theorem extract36 (s : ByteArray) : (s.extract 0 36).data.toList = s.data.toList.take 36 := by
  simp

theorem open_yes {s : List UInt8} (h : s.length = 40) (hq : leNat ((s.drop 36).take 4) = crc (s.take 36)) : openE s = 0 ∧ openL s = s.take 36 := by
  have e : openS s = some (s.take 36) := by unfold openS; rw [if_pos ⟨h, hq⟩]
  unfold openE openL; rw [e]; exact ⟨rfl, rfl⟩
theorem open_no {s : List UInt8} (h : ¬ (s.length = 40 ∧ leNat ((s.drop 36).take 4) = crc (s.take 36))) : openE s = 2 ∧ openL s = [] := by
  have e : openS s = none := by unfold openS; rw [if_neg h]
  unfold openE openL; rw [e]; exact ⟨rfl, rfl⟩
theorem take36 (s : List UInt8) (h : s.length = 40) (z : Int) : takeV s 36 4 z = .tuple #[.int .i64 (leNat ((s.drop 36).take 4) : Nat), .int .i64 40, .int .i64 0] :=
  takeV_some (a := 36) (m := 4) (by omega) (by omega) (by omega)

theorem open_seal (b : List UInt8) (h : b.length ≤ 36) : openE (sealL b) = 0 ∧ openL (sealL b) = padL b := by
  have hp := padL_length b h
  have e1 : (sealL b).take 36 = padL b := by unfold sealL; rw [← hp]; exact List.take_left
  have e2 : (sealL b).drop 36 = putL (crc (padL b)) 4 := by unfold sealL; rw [← hp]; exact List.drop_left
  rw [← e1]
  refine open_yes (sealL_length b h) ?_
  rw [e1, e2, List.take_of_length_le (by rw [putL_length]; exact Nat.le_refl _), leNat_putL]
  exact Nat.mod_eq_of_lt (by have := crc_lt (padL b); omega)
end Go.Proofs.YtnlkakbpcdfgfaaGreat
