/- Rows that are made and copied onto; no program in sight. -/
import Derived.Test.YtpdeagndandnjaaDoorDiskP1
import Derived.OneCell
namespace Go.Proofs.YtpdeagndandnjaaDoor
set_option maxRecDepth 20000
open Go.RowKit

/-- make, with a length and a capacity. -/
theorem wpList_make_cap {P : Program} (w : World) {ops : Array Oper} {rest : List Oper} {o : Oper} {a : Act} {Q : Exit → Act → World → Prop}
    (hg : o.guard = none) (l c : Operand) (t : TypeId) (hop : o.op = Op.makeSlice t l c)
    (e : TypeId) (i : TypeInfo) (z : Value) (h1 : P.underlying t = some (.slice e)) (h2 : P.info? e = some i) (h3 : i.zero = some z)
    (kl kc : IntKind) (L C : Int) (n m : Nat) (hl : a.eval l = .int kl L) (hc : a.eval c = .int kc C) (hL : L = (n : Int)) (hC : C = (m : Int)) (hnm : n ≤ m) (b2 : i.bytes * m ≤ 281474976710656) (b3 : m ≤ maxLen)
    (hK : wpList P ops Q rest (a.put o.dst (.slice (some ⟨w.heap.size, 0, none⟩) n m)) (w.alloc (.cells (madeCells z.cells (m * i.size)) e))) :
    wpList P ops Q (o :: rest) a w := by
  refine wpList_plain hg fun K hK' => ?_
  have b3' : (m : Int) ≤ 9223372036854775807 := by
    have h := b3
    simp [maxLen] at h
    omega
  have b2' : (i.bytes : Int) * (m : Int) ≤ 281474976710656 := by
    have h : ((i.bytes * m : Nat) : Int) ≤ 281474976710656 := by omega
    rwa [Int.natCast_mul] at h
  have hrun := run_make (P := P) w t e i z h1 h2 h3 kl kc n m (by omega) (by omega) b2' b3'
  simp only [Int.toNat_natCast] at hrun
  subst hL
  subst hC
  unfold Oper.wp
  simp [execOp, hop, hl, hc, hrun, Result.andThen]
  exact hK' _ _ hK

/-- What is owned of a new row onto whose head xs was copied. -/
theorem own_copied (w : World) (n m size : Nat) (e : TypeId) (cur : Array Value) (xs : List Value) (hm : m ≤ maxLen) (hnm : n ≤ m) (hs : cur.size = m * size) (hx : xs.length = n * size) :
    ((w.alloc (.cells cur e)).setRow w.heap.size (xs ++ cur.toList.drop xs.length).toArray).ownsRow w.heap.size e size (.slice (some ⟨w.heap.size, 0, none⟩) n m) n xs ∧
    Ext w ((w.alloc (.cells cur e)).setRow w.heap.size (xs ++ cur.toList.drop xs.length).toArray) := by
  have hle : n * size ≤ m * size := Nat.mul_le_mul_right _ hnm
  refine ⟨⟨hx, .inr ⟨w.heap.size, m, _, rfl, Nat.le_refl _, setRow_heap _ _ _ _ _ _ (heap_alloc_new w _), hnm, hm, ?_, ?_⟩⟩, below_setRow ((Ext.refl w).alloc _) (Nat.le_refl _) _⟩
  · simp; omega
  · simp [← hx]

theorem Cells.len_none {w : World} {A : Option Addr} {xs : List Value} (h : Cells w A xs) (hA : A = none) : xs.length = 0 := by
  cases xs with
  | nil => rfl
  | cons x r => obtain ⟨b, off, e, _⟩ := h (by simp); rw [hA] at e; cases e
theorem Cells.at_ {w : World} {A : Option Addr} {xs : List Value} (h : Cells w A xs) : ∀ ad, A = some ad → ∀ j u, xs[j]? = some u → w.cell? (ad.add j) = some u := by
  intro ad had j u hu
  obtain ⟨b, off, e, _, hc⟩ := h (by intro e; subst e; simp at hu)
  rw [had] at e
  cases e
  rw [Addr.add_lit]
  exact hc j u hu

/-- copy, whatever the elements' size, onto the head of a row that is known whole. -/
theorem run_copy_head {P : Program} (w : World) (dT sT ty elem : TypeId) (i : TypeInfo) (hu : P.underlying dT = some (.slice elem)) (hi : P.info? elem = some i)
    (g n dCap c : Nat) (A : Option Addr)
    (cur : Array Value) (t : TypeId) (hg : w.heap[g]? = some (.cells cur t (0, 0))) (xs : List Value) (hn : xs.length = n * i.size) (hnil : A = none → c = 0)
    (hc : Cells w A xs) (hfit : xs.length ≤ cur.size) (h1 : ∀ v ∈ xs, v.oneCell' = true) (hn0 : A = none → n = 0) :
    (Builtin.copy_ #[dT, sT] ty #[.slice (some ⟨g, 0, none⟩) n dCap, .slice A n c]).run P w = .ok (goInt n) (w.setRow g (xs ++ cur.toList.drop xs.length).toArray) := by
  have hst := run_storeCells_at P g 0 t xs 0 cur w hg (by simpa using hfit) h1
  simp only [Nat.add_zero, Nat.zero_add, List.take_zero, List.nil_append] at hst
  cases A with
  | some ad =>
    have hf := run_firstCells_some (P := P) w i.size n ad n c xs hn (hc.at_ ad rfl)
    simp [Builtin.copy_, run_underlying hu, Builtin.lenOf, sizeOf, typeInfo, hi, hf, hst]
  | none =>
    obtain rfl := hn0 rfl
    obtain rfl := hnil rfl
    obtain rfl : xs = [] := List.eq_nil_of_length_eq_zero (by simpa using hn)
    simp only [List.length_nil, List.nil_append, List.drop_zero, Array.toArray_toList] at hst ⊢
    simp [Builtin.copy_, run_underlying hu, Builtin.lenOf, Builtin.firstCells, sizeOf, typeInfo, hi, storeCells, setRow_self w g cur t (0, 0) hg]

/-- A slice's address, length and capacity, and the cells that stand there. -/
def Sl (w : World) (A : Option Addr) (n c : Nat) (xs : List Value) : Prop := (A = none → c = 0) ∧ n ≤ c ∧ c ≤ maxLen ∧ Cells w A xs
theorem Sl.cells {w : World} {A : Option Addr} {n c : Nat} {xs : List Value} (h : Sl w A n c xs) : Cells w A xs := h.2.2.2
theorem Sl.ext {w w' : World} {A : Option Addr} {n c : Nat} {xs : List Value} (h : Sl w A n c xs) (hx : Ext w w') : Sl w' A n c xs := ⟨h.1, h.2.1, h.2.2.1, h.2.2.2.ext hx⟩
theorem Sl.len {w : World} {A : Option Addr} {n c : Nat} {xs : List Value} (h : Sl w A n c xs) : n ≤ maxLen := Nat.le_trans h.2.1 h.2.2.1
theorem Sl.nil (w : World) : Sl w none 0 0 [] := ⟨fun _ => rfl, Nat.le_refl _, Nat.zero_le _, Cells.nil _ _⟩

/-- A value that is the disk of these blocks, with these writes. -/
def IsDisk (w : World) (v : Value) (b : List ByteArray) (l : List Wr) : Prop :=
  ∃ A c A' c', v = .agg #[.slice A b.length c, .slice A' l.length c'] ∧ Sl w A b.length c (b.map sv) ∧ Sl w A' l.length c' (wvs l)
theorem IsDisk.ext {w w' : World} {v : Value} {b : List ByteArray} {l : List Wr} (h : IsDisk w v b l) (hx : Ext w w') : IsDisk w' v b l := by
  obtain ⟨A, c, A', c', rfl, h1, h2⟩ := h
  exact ⟨A, c, A', c', rfl, h1.ext hx, h2.ext hx⟩

theorem own_cells1 {w : World} {B e n g cap : Nat} {l : List Value} (h : w.ownsRow B e 1 (.slice (some ⟨g, 0, none⟩) n cap) n l) : Cells w (some ⟨g, 0, none⟩) l := fun _ => by
  refine ⟨g, 0, rfl, (h.lt g rfl).2, fun j u hu => ?_⟩
  have hj := (List.getElem?_eq_some_iff.1 hu).1
  have hl := h.1
  rw [Nat.zero_add, h.cellAt j (by omega), hu]
theorem own_cells2 {w : World} {B e n g cap : Nat} {l : List Value} (h : w.ownsRow B e 2 (.slice (some ⟨g, 0, none⟩) n cap) n l) : Cells w (some ⟨g, 0, none⟩) l := fun _ => by
  refine ⟨g, 0, rfl, (h.lt g rfl).2, fun j u hu => ?_⟩
  have hj := (List.getElem?_eq_some_iff.1 hu).1
  have hl := h.1
  rw [Nat.zero_add, h.cellAt j (by omega), hu]

/-- A box that holds two values, still there. -/
def Box2 (w : World) (k : Nat) (a b : Value) : Prop := ∃ t, w.heap[k]? = some (.cells #[a, b] t (0, 0))
theorem Box2.read {w : World} {k : Nat} {a b : Value} (h : Box2 w k a b) : w.cell? ⟨k, 0, none⟩ = some a ∧ w.cell? ⟨k, 1, none⟩ = some b ∧ w.frozen? ⟨k, 0, none⟩ = false ∧ w.frozen? ⟨k, 1, none⟩ = false := by
  obtain ⟨t, h⟩ := h
  refine ⟨?_, ?_, ?_, ?_⟩
  · unfold World.cell?; rw [h]; rfl
  · unfold World.cell?; rw [h]; rfl
  · unfold World.frozen?; rw [h]; rfl
  · unfold World.frozen?; rw [h]; rfl

theorem cell_new0 (w : World) (a b : Value) (t : TypeId) : (w.alloc (.cells #[a, b] t)).cell? ⟨w.heap.size, 0, none⟩ = some a := by
  have := heap_alloc_new w (.cells #[a, b] t)
  unfold World.cell?; rw [this]; rfl
theorem cell_new1 (w : World) (a b : Value) (t : TypeId) : (w.alloc (.cells #[a, b] t)).cell? ⟨w.heap.size, 1, none⟩ = some b := by
  have := heap_alloc_new w (.cells #[a, b] t)
  unfold World.cell?; rw [this]; rfl
theorem Box2.new (w : World) (a b : Value) (t : TypeId) : Box2 (w.alloc (.cells #[a, b] t)) w.heap.size a b := ⟨t, heap_alloc_new w _⟩
theorem Box2.ext {w w' : World} {k : Nat} {a b : Value} (h : Box2 w k a b) (hk : k < w.heap.size) (hx : Ext w w') : Box2 w' k a b := by
  obtain ⟨t, h⟩ := h
  exact ⟨t, (hx.block k hk).trans h⟩
theorem Box2.grown {w w' : World} {k g : Nat} {a b : Value} (h : Box2 w k a b) (hk : k < w.heap.size) (hg : w.grownBy w' (some g)) (hne : k ≠ g) : Box2 w' k a b := by
  obtain ⟨t, h⟩ := h
  exact ⟨t, (hg.block k hk (by simpa using hne)).trans h⟩
theorem Box2.store {w : World} {k : Nat} {a b : Value} (h : Box2 w k a b) (x y : Value) : Box2 ((w.setCell ⟨k, 0, none⟩ x).setCell ⟨k, 1, none⟩ y) k x y := by
  obtain ⟨t, h⟩ := h
  have h1 := heap_setCell_same w k 0 #[a, b] t x h
  have h2 := heap_setCell_same (w.setCell ⟨k, 0, none⟩ x) k 1 _ t y h1
  exact ⟨t, h2⟩
/-- What is no slice lies in no box of slices. -/
def flat : Value → Bool
  | .slice _ _ _ => false
  | _ => true
theorem Cells.not_box {w : World} {A : Option Addr} {xs : List Value} (h : Cells w A xs) (hf : ∀ u ∈ xs, flat u = true) {k : Nat} {A1 A2 : Option Addr} {n1 c1 n2 c2 : Nat} (hb : Box2 w k (.slice A1 n1 c1) (.slice A2 n2 c2)) :
    xs ≠ [] → ∀ p, A = some p → some k ≠ some p.block := fun hx p hp e => by
  obtain ⟨b, off, e', hlt, hc⟩ := h hx
  rw [hp] at e'
  cases e'
  cases e
  obtain ⟨t, hb⟩ := hb
  cases xs with
  | nil => exact hx rfl
  | cons u r =>
    have h1 := hc 0 u rfl
    have h2 := hf u (by simp)
    unfold World.cell? at h1
    rw [show w.heap[(⟨b, off, none⟩ : Addr).block]? = _ from hb] at h1
    simp only [Nat.add_zero, Option.isSome_none] at h1
    match off, h1 with
    | 0, h1 => simp at h1; subst h1; cases h2
    | 1, h1 => simp at h1; subst h1; cases h2
    | n + 2, h1 => simp at h1
theorem flat_svs (l : List ByteArray) : ∀ u ∈ l.map sv, flat u = true := by
  intro u hu
  obtain ⟨_, _, rfl⟩ := List.mem_map.1 hu
  rfl
theorem flat_bools (l : List Bool) : ∀ u ∈ l.map Value.bool, flat u = true := by
  intro u hu
  obtain ⟨_, _, rfl⟩ := List.mem_map.1 hu
  rfl
theorem flat_wvs (l : List Wr) : ∀ u ∈ wvs l, flat u = true := by
  induction l with
  | nil => intro u h; simp [wvs] at h
  | cons x l ih =>
    intro u h
    simp only [wvs, List.mem_cons] at h
    rcases h with rfl | rfl | h
    · rfl
    · rfl
    · exact ih u h
theorem grown_store2 (w : World) (k : Nat) (x y : Value) : w.grownBy ((w.setCell ⟨k, 0, none⟩ x).setCell ⟨k, 1, none⟩ y) (some k) :=
  ⟨rfl, rfl, rfl, by simp [World.setCell], fun i _ hi => by rw [Below.heap_setCell _ _ _ _ (by simpa using hi), Below.heap_setCell _ _ _ _ (by simpa using hi)]⟩
/-- A store into a box of slices leaves what is no slice. -/
theorem Sl.store2 {w : World} {A : Option Addr} {n c : Nat} {xs : List Value} (h : Sl w A n c xs) (hf : ∀ u ∈ xs, flat u = true) {k : Nat} {A1 A2 : Option Addr} {n1 c1 n2 c2 : Nat} (hb : Box2 w k (.slice A1 n1 c1) (.slice A2 n2 c2)) (x y : Value) :
    Sl ((w.setCell ⟨k, 0, none⟩ x).setCell ⟨k, 1, none⟩ y) A n c xs := ⟨h.1, h.2.1, h.2.2.1, h.cells.grown (grown_store2 w k x y) (h.cells.not_box hf hb)⟩
theorem Ext.store2 {w0 w : World} (h : Ext w0 w) {k : Nat} (hk : w0.heap.size ≤ k) (x y : Value) : Ext w0 ((w.setCell ⟨k, 0, none⟩ x).setCell ⟨k, 1, none⟩ y) := (h.set (p := ⟨k, 0, none⟩) hk x).set (p := ⟨k, 1, none⟩) hk y
theorem own_store2 {w : World} {B e size n g cap : Nat} {xs : List Value} (h : w.ownsRow B e size (.slice (some ⟨g, 0, none⟩) n cap) n xs) {k : Nat} (hk : g ≠ k) (x y : Value) : ((w.setCell ⟨k, 0, none⟩ x).setCell ⟨k, 1, none⟩ y).ownsRow B e size (.slice (some ⟨g, 0, none⟩) n cap) n xs :=
  ownsRow_setCell_other (ownsRow_setCell_other h (a := ⟨k, 0, none⟩) (by simpa [Value.ownBlock] using hk) x) (a := ⟨k, 1, none⟩) (by simpa [Value.ownBlock] using hk) y


theorem own_sl1 {w : World} {B e n g cap : Nat} {l : List Value} (h : w.ownsRow B e 1 (.slice (some ⟨g, 0, none⟩) n cap) n l) : Sl w (some ⟨g, 0, none⟩) n cap l := by
  refine ⟨(fun h => by cases h), ?_, ?_, own_cells1 h⟩
  all_goals
    rcases h.2 with ⟨h', _⟩ | ⟨g', cap', cur, h', _, _, hnc, hcm, _⟩
    · simp at h'
    · simp only [Value.slice.injEq] at h'
      obtain ⟨_, _, rfl⟩ := h'
      assumption
theorem own_sl2 {w : World} {B e n g cap : Nat} {l : List Value} (h : w.ownsRow B e 2 (.slice (some ⟨g, 0, none⟩) n cap) n l) : Sl w (some ⟨g, 0, none⟩) n cap l := by
  refine ⟨(fun h => by cases h), ?_, ?_, own_cells2 h⟩
  all_goals
    rcases h.2 with ⟨h', _⟩ | ⟨g', cap', cur, h', _, _, hnc, hcm, _⟩
    · simp at h'
    · simp only [Value.slice.injEq] at h'
      obtain ⟨_, _, rfl⟩ := h'
      assumption

/-- The writes that are kept. -/
def kept : List Wr → List Bool → List Wr
  | x :: l, true :: ks => x :: kept l ks
  | _ :: l, false :: ks => kept l ks
  | [], _ => []
  | _ :: _, [] => []
theorem kept_nil (l : List Wr) : kept l [] = [] := by cases l <;> rfl
theorem kept_step : ∀ (k : Nat) (l : List Wr) (ks : List Bool) (h : k < l.length) (h' : k < ks.length), kept (l.take (k + 1)) (ks.take (k + 1)) = kept (l.take k) (ks.take k) ++ (if ks[k] then [l[k]] else [])
  | 0, x :: l, b :: ks, _, _ => by cases b <;> simp [kept]
  | k + 1, x :: l, b :: ks, h, h' => by
    have ih := kept_step k l ks (by simpa using h) (by simpa using h')
    cases b
    · simpa [kept] using ih
    · simp only [List.take_succ_cons, kept, List.getElem_cons_succ, List.cons_append, List.cons.injEq, true_and] at ih ⊢
      exact ih
theorem kept_end : ∀ (m : Nat) (l : List Wr) (ks : List Bool), (l.length ≤ m ∨ ks.length ≤ m) → kept (l.take m) (ks.take m) = kept l ks
  | 0, l, ks, h => by
    rcases h with h | h
    · obtain rfl : l = [] := List.eq_nil_of_length_eq_zero (by omega)
      simp [kept]
    · obtain rfl : ks = [] := List.eq_nil_of_length_eq_zero (by omega)
      simp [kept_nil]
  | m + 1, [], ks, _ => by simp [kept]
  | m + 1, x :: l, [], _ => by simp [kept]
  | m + 1, x :: l, b :: ks, h => by
    have ih := kept_end m l ks (by simpa using h)
    cases b <;> simp [kept, ih]
end Go.Proofs.YtpdeagndandnjaaDoor
