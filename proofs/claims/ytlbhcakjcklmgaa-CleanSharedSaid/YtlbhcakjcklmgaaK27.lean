/- What came in, opened (for seats without bytes); and what came in reads behind the call as it did. A slice that came in, opened to a list, whatever its elements; no program in sight. A struct that came in, of any fields, opened to its cells (for seats without bytes). Items and nodes that came in, opened. Heaps and numbers that came in, opened. -/
import Derived.Test.YtlbhcakjcklmgaaK01
import Derived.Test.YtlbhcakjcklmgaaRows
import Derived.ProofKit
import Derived.OpenShut
import Derived.ShutString
import Derived.ChangeOld
import Derived.Deep.Fields
import Derived.Lib.SmallJoins
import Derived.Deep.Slices
import Derived.ChangeSame
import Derived.Test.YtlbhcakjcklmgaaK02
namespace Go.Proofs.Ytlbhcakjcklmgaa
open Go.ChangeShapes Go.WideShapes Go.ChangeAt Go.RowKit Go.Deep
open Go.ChangeMaps (open_string shut_string)

theorem own : ownKnob Try.prog.godebug = none := by kernel_rfl
theorem laidOut : laidOutB Try.prog = true := by kernel_rfl

section
variable {H : Type} {enc : TypeId × Value → H} {w : World} {fuel : Nat} {cs : List Value} {x : DataW H × List MemPlace}

theorem wf_u8 {n : Int} (h : (Lit.int .u8 n).wf = true) : 0 ≤ n ∧ n < 256 := by
  have h1 : IntKind.u8.min = 0 := rfl
  have h2 : IntKind.u8.max = 255 := rfl
  simp only [Lit.wf, Bool.and_eq_true, decide_eq_true_eq, h1, h2] at h
  omega
theorem wf_i64 {n : Int} (h : (Lit.int .i64 n).wf = true) : -9223372036854775808 ≤ n ∧ n ≤ 9223372036854775807 := by
  have h1 : IntKind.i64.min = -9223372036854775808 := rfl
  have h2 : IntKind.i64.max = 9223372036854775807 := rfl
  simp only [Lit.wf, Bool.and_eq_true, decide_eq_true_eq, h1, h2] at h
  omega

theorem wf_u32 {n : Int} (h : (Lit.int .u32 n).wf = true) : 0 ≤ n ∧ n < 4294967296 := by
  have h1 : IntKind.u32.min = 0 := rfl
  have h2 : IntKind.u32.max = 4294967295 := rfl
  simp only [Lit.wf, Bool.and_eq_true, decide_eq_true_eq, h1, h2] at h
  omega
theorem wf_u16 {n : Int} (h : (Lit.int .u16 n).wf = true) : 0 ≤ n ∧ n < 65536 := by
  have h1 : IntKind.u16.min = 0 := rfl
  have h2 : IntKind.u16.max = 65535 := rfl
  simp only [Lit.wf, Bool.and_eq_true, decide_eq_true_eq, h1, h2] at h
  omega

theorem array5 {cs : Array Value} (h : cs.size = 5) : ∃ c0 c1 c2 c3 c4, cs = #[c0, c1, c2, c3, c4] := by
  obtain ⟨l⟩ := cs
  match l, h with
  | [c0, c1, c2, c3, c4], _ => exact ⟨c0, c1, c2, c3, c4, rfl⟩

/-- A struct of one-cell fields that came in. -/
theorem open_struct {P : Program} {base : Nat} {spare : Nat → Bool} {held : Bool} {r : Reach} {b0 : Nat} {t : TypeId} {fs : Array Field} {v : Value} {d : DataW H} {p : List MemPlace} (hs : P.underlying t = some (.struct fs)) (hone : oneCellFields P fs = true) (hC : P.cellsOf t = fs.size)
    (hv : Value.okWide P w r b0 t v) (h : DataW.Trod enc P w base spare held t v d p) :
    ∃ (cs : Array Value) (n : Nat), v = .agg cs ∧ cs.size = fs.size ∧ ∀ (i : Nat) (f : Field) (c : Value), fs[i]? = some f → cs[i]? = some c → ∃ y, DataW.trod enc P w base spare held n f.type [c] = some y := by
  obtain ⟨cs, rfl, hsz⟩ := okWide_struct hs hv
  obtain ⟨fuel, hf⟩ := h
  obtain ⟨xs, n, _, _, _, hlen, hg⟩ := DataW.trod_struct hs hf
  refine ⟨cs, n, rfl, hsz.trans hC, fun i f c hi hc => ?_⟩
  obtain ⟨o, k⟩ := Go.Deep.hone_of hone i f hi
  have h1 := hg i f hi
  have hlt : i < fs.size := (Array.getElem?_eq_some_iff.1 hi).1
  have hxs : xs[i]? = some (xs[i]'(by omega)) := List.getElem?_eq_getElem (by omega)
  rw [hxs, o, k] at h1
  refine ⟨_, (?_ : _ = _).trans h1⟩
  congr 1
  have hl : i < cs.toList.length := by have := hsz.trans hC; simp; omega
  have e : (Value.agg cs).cells = cs := by simp [Value.cells]
  rw [e, List.drop_eq_getElem_cons hl]
  have : cs.toList[i] = c := by
    have := (Array.getElem?_eq_some_iff.1 hc).2
    simpa using this
  rw [this]; rfl
end

theorem trodAll_below {H : Type} {enc : TypeId × Value → H} {W W' : World} (hb : Below W.heap.size W W') : ∀ (ts : List TypeId) (vs : List Value) (ds : List (DataW H)) (ps : List MemPlace),
    (∀ t ∈ ts, Try.prog.readableRec t = true ∧ t < Try.prog.types.size) →
    DataW.TrodAll enc Try.prog W 0 (fun _ => true) true ts vs ds ps → DataW.TrodAll enc Try.prog W' 0 (fun b => decide (b < W.heap.size)) true ts vs ds ps := by
  intro ts
  induction ts with
  | nil =>
    intro vs ds ps _ h
    obtain ⟨rfl, rfl, rfl⟩ := trodAll_nil h
    exact trodAll_mk0
  | cons t ts ih =>
    intro vs ds ps hr h
    obtain ⟨v0, vs0, d0, ds0, p0, q0, rfl, rfl, rfl, h0, r0⟩ := trodAll_cons h
    have hlt : ∀ x ∈ p0, x.block < W.heap.size := by obtain ⟨m, hm⟩ := h0; exact DataW.trod_lt m _ _ _ hm
    have ht := hr t (by simp)
    exact trodAll_cons_mk (Below.trod laidOut ht.1 ht.2 h0 hb hlt) (ih _ _ _ (fun t' ht' => hr t' (by simp [ht'])) r0)
end Go.Proofs.Ytlbhcakjcklmgaa
namespace Go.Proofs.Ytlbhcakjcklmgaa
open Go.ChangeShapes Go.WideShapes Go.ChangeAt Go.RowKit Go.Deep

section
variable {H : Type} {enc : TypeId × Value → H} {P : Program} {w : World} {fuel : Nat} {cs : List Value} {x : DataW H × List MemPlace}

theorem cells_of_addr {w : World} {a : Addr} {xs : List Value} (h : ∀ j u, xs[j]? = some u → w.cell? (a.add j) = some u) : Cells w (some a) xs := fun hne => by
  obtain ⟨b, off, spot⟩ := a
  cases xs with
  | nil => exact absurd rfl hne
  | cons u r =>
    have h0 := h 0 u rfl
    have hspot : spot = none := by simpa [Addr.add] using World.cell?_spot h0
    subst hspot
    refine ⟨b, off, rfl, ?_, fun j u hu => ?_⟩
    · have h0' : w.cell? ⟨b, off, none⟩ = some u := by simpa [Addr.add] using h0
      rcases Nat.lt_or_ge b w.heap.size with h' | h'
      · exact h'
      · simp [World.cell?, Array.getElem?_eq_none h'] at h0'
    · have hc := h j u hu
      rwa [Addr.add_lit] at hc

theorem flatMap_get {α β : Type} (en : α → List β) (k : Nat) (hk : ∀ a, (en a).length = k) : ∀ (l : List α) (i j : Nat) (hi : i < l.length), j < k → (l.flatMap en)[i * k + j]? = (en l[i])[j]?
  | a :: l, 0, j, _, hj => by
    simp only [List.flatMap_cons, Nat.zero_mul, Nat.zero_add, List.getElem_cons_zero]
    rw [List.getElem?_append_left (by rw [hk]; exact hj)]
  | a :: l, i + 1, j, hi, hj => by
    simp only [List.flatMap_cons, List.getElem_cons_succ]
    rw [List.getElem?_append_right (by rw [hk, Nat.succ_mul]; omega), hk]
    rw [show (i + 1) * k + j - k = i * k + j by rw [Nat.succ_mul]; omega]
    exact flatMap_get en k hk l i j (by simpa using hi) hj
theorem flatMap_len {α β : Type} (en : α → List β) (k : Nat) (hk : ∀ a, (en a).length = k) (l : List α) : (l.flatMap en).length = l.length * k := by
  induction l with
  | nil => simp
  | cons a l ih => simp only [List.flatMap_cons, List.length_append, hk, ih, List.length_cons, Nat.succ_mul]; omega

theorem list_of_lt {α : Type} (p : Nat → α → Prop) : ∀ n, (∀ i, i < n → ∃ a, p i a) → ∃ l : List α, l.length = n ∧ ∀ i (hi : i < l.length), p i l[i]
  | 0, _ => ⟨[], rfl, fun i hi => absurd hi (by simp)⟩
  | n + 1, h => by
    obtain ⟨l, hl, hp⟩ := list_of_lt p n (fun i hi => h i (by omega))
    obtain ⟨a, ha⟩ := h n (by omega)
    refine ⟨l ++ [a], by simp [hl], fun i hi => ?_⟩
    rcases Nat.lt_or_ge i l.length with h' | h'
    · rw [List.getElem_append_left h']; exact hp i h'
    · have : i = n := by simp at hi; omega
      subst this
      rw [List.getElem_append_right (by omega)]
      simpa [hl] using ha

/-- A slice that came in: its elements as a list. -/
theorem open_sl {α : Type} {t e : TypeId} (size : Nat) (en : α → List Value) (ok : α → Prop) (ht : P.underlying t = some (.slice e)) (hc : P.cellsOf e = size) (hsz : ∀ a, (en a).length = size) (hpos : 0 < size)
    (dec : ∀ n cs' y, DataW.trod enc P w 0 (fun _ => true) true n e cs' = some y → ∃ a, cs' = en a ∧ ok a)
    (h : DataW.trod enc P w 0 (fun _ => true) true fuel t cs = some x) :
    ∃ (A : Option Addr) (l : List α) (c : Nat), cs = [.slice A l.length c] ∧ Sl w A l.length c (l.flatMap en) ∧ ∀ a ∈ l, ok a := by
  rcases open_slice ht h with ⟨rfl, _⟩ | ⟨a, len, cap, m, n, D, Pl, rfl, _, hl, hm, hmm, _, hx⟩
  · exact ⟨none, [], 0, rfl, Sl.nil w, by simp⟩
  · have hlm : len ≤ m := by rw [hmm]; simpa using hl
    rw [hc] at hx
    obtain ⟨l, hl', hp⟩ := list_of_lt (fun i (b : α) => ok b ∧ w.cells? 0 (a.add (i * size)) size = some (en b)) len (fun i hi => by
      obtain ⟨cs', h1, h2⟩ := hx i (by omega)
      obtain ⟨b, rfl, hb⟩ := dec _ _ _ h2
      exact ⟨b, hb, h1⟩)
    refine ⟨some a, l, cap, by rw [hl'], ⟨(fun h => by cases h), by omega, hm, ?_⟩, fun b hb => ?_⟩
    · apply cells_of_addr
      intro j u hu
      have hj := (List.getElem?_eq_some_iff.1 hu).1
      rw [flatMap_len en size hsz] at hj
      have hi : j / size < l.length := (Nat.div_lt_iff_lt_mul hpos).2 hj
      have hj' : j % size < size := Nat.mod_lt _ hpos
      have e : j = j / size * size + j % size := (Nat.div_add_mod' j size).symm
      obtain ⟨_, hcs⟩ := hp _ hi
      obtain ⟨_, _, hat⟩ := World.cells?_some hcs
      have h1 := hat (j % size) (by omega)
      rw [Go.Deep.add_add, ← e] at h1
      rw [h1, ← flatMap_get en size hsz l _ _ hi hj', ← e, hu]
    · obtain ⟨i, hi, rfl⟩ := List.mem_iff_getElem.1 hb
      exact (hp i hi).1
end
end Go.Proofs.Ytlbhcakjcklmgaa
namespace Go.Proofs.Ytlbhcakjcklmgaa
open Go.ChangeShapes Go.WideShapes Go.ChangeAt Go.RowKit Go.Deep

section
variable {H : Type} {enc : TypeId × Value → H} {w : World} {fuel : Nat} {cs : List Value} {x : DataW H × List MemPlace}

set_option maxRecDepth 100000 in
/-- A struct that came in, whole: its cells, and each field's reading. -/
theorem open_agg {t : TypeId} {fs : Array Field} {v : Value} {d : DataW H} {p : List MemPlace} (hs : Try.prog.underlying t = some (.struct fs)) {r : Reach} {b0 : Nat} (hv : Value.okWide Try.prog w r b0 t v)
    (h : DataW.Trod enc Try.prog w 0 (fun _ => true) true t v d p) :
    ∃ (cs : List Value) (n : Nat), v = .agg cs.toArray ∧ cs.length = Try.prog.cellsOf t ∧ ∀ (i : Nat) (f : Field), fs[i]? = some f → ∃ y, DataW.trod enc Try.prog w 0 (fun _ => true) true n f.type ((cs.drop f.offset).take (Try.prog.cellsOf f.type)) = some y := by
  obtain ⟨cs, rfl, hsz⟩ := okWide_struct hs hv
  obtain ⟨fuel, hf⟩ := h
  obtain ⟨xs, n, _, _, hl, hlen, hg⟩ := DataW.trod_struct hs hf
  have e : (Value.agg cs).cells = cs := by simp [Value.cells]
  rw [e] at hl hg
  refine ⟨cs.toList, n, by simp, hl, fun i f hi => ?_⟩
  have h1 := hg i f hi
  have hlt : i < fs.size := (Array.getElem?_eq_some_iff.1 hi).1
  exact ⟨_, h1.trans (List.getElem?_eq_getElem (by omega))⟩
theorem agg_of_cells {cs : Array Value} {l : List Value} (h : (Value.agg cs).cells.toList = l) : Value.agg cs = .agg l.toArray := by
  subst h; simp [Value.cells]
theorem slice_of_cells {A A' : Option Addr} {n c n' c' : Nat} (h : (Value.slice A n c).cells.toList = [.slice A' n' c']) : Value.slice A n c = .slice A' n' c' := by
  simpa [Value.cells] using h
theorem list1 {α : Type} {l : List α} (h : l.length = 1) : ∃ x0, l = [x0] := by match l, h with | [x0], _ => exact ⟨x0, rfl⟩
theorem list2 {α : Type} {l : List α} (h : l.length = 2) : ∃ x0 x1, l = [x0, x1] := by match l, h with | [x0, x1], _ => exact ⟨x0, x1, rfl⟩
theorem list3 {α : Type} {l : List α} (h : l.length = 3) : ∃ x0 x1 x2, l = [x0, x1, x2] := by match l, h with | [x0, x1, x2], _ => exact ⟨x0, x1, x2, rfl⟩
theorem list4 {α : Type} {l : List α} (h : l.length = 4) : ∃ x0 x1 x2 x3, l = [x0, x1, x2, x3] := by match l, h with | [x0, x1, x2, x3], _ => exact ⟨x0, x1, x2, x3, rfl⟩
theorem list5 {α : Type} {l : List α} (h : l.length = 5) : ∃ x0 x1 x2 x3 x4, l = [x0, x1, x2, x3, x4] := by match l, h with | [x0, x1, x2, x3, x4], _ => exact ⟨x0, x1, x2, x3, x4, rfl⟩
theorem list6 {α : Type} {l : List α} (h : l.length = 6) : ∃ x0 x1 x2 x3 x4 x5, l = [x0, x1, x2, x3, x4, x5] := by match l, h with | [x0, x1, x2, x3, x4, x5], _ => exact ⟨x0, x1, x2, x3, x4, x5, rfl⟩
theorem list7 {α : Type} {l : List α} (h : l.length = 7) : ∃ x0 x1 x2 x3 x4 x5 x6, l = [x0, x1, x2, x3, x4, x5, x6] := by match l, h with | [x0, x1, x2, x3, x4, x5, x6], _ => exact ⟨x0, x1, x2, x3, x4, x5, x6, rfl⟩
theorem list8 {α : Type} {l : List α} (h : l.length = 8) : ∃ x0 x1 x2 x3 x4 x5 x6 x7, l = [x0, x1, x2, x3, x4, x5, x6, x7] := by match l, h with | [x0, x1, x2, x3, x4, x5, x6, x7], _ => exact ⟨x0, x1, x2, x3, x4, x5, x6, x7, rfl⟩
theorem list9 {α : Type} {l : List α} (h : l.length = 9) : ∃ x0 x1 x2 x3 x4 x5 x6 x7 x8, l = [x0, x1, x2, x3, x4, x5, x6, x7, x8] := by match l, h with | [x0, x1, x2, x3, x4, x5, x6, x7, x8], _ => exact ⟨x0, x1, x2, x3, x4, x5, x6, x7, x8, rfl⟩
theorem list10 {α : Type} {l : List α} (h : l.length = 10) : ∃ x0 x1 x2 x3 x4 x5 x6 x7 x8 x9, l = [x0, x1, x2, x3, x4, x5, x6, x7, x8, x9] := by match l, h with | [x0, x1, x2, x3, x4, x5, x6, x7, x8, x9], _ => exact ⟨x0, x1, x2, x3, x4, x5, x6, x7, x8, x9, rfl⟩
theorem list11 {α : Type} {l : List α} (h : l.length = 11) : ∃ x0 x1 x2 x3 x4 x5 x6 x7 x8 x9 x10, l = [x0, x1, x2, x3, x4, x5, x6, x7, x8, x9, x10] := by match l, h with | [x0, x1, x2, x3, x4, x5, x6, x7, x8, x9, x10], _ => exact ⟨x0, x1, x2, x3, x4, x5, x6, x7, x8, x9, x10, rfl⟩
theorem list12 {α : Type} {l : List α} (h : l.length = 12) : ∃ x0 x1 x2 x3 x4 x5 x6 x7 x8 x9 x10 x11, l = [x0, x1, x2, x3, x4, x5, x6, x7, x8, x9, x10, x11] := by match l, h with | [x0, x1, x2, x3, x4, x5, x6, x7, x8, x9, x10, x11], _ => exact ⟨x0, x1, x2, x3, x4, x5, x6, x7, x8, x9, x10, x11, rfl⟩
theorem list13 {α : Type} {l : List α} (h : l.length = 13) : ∃ x0 x1 x2 x3 x4 x5 x6 x7 x8 x9 x10 x11 x12, l = [x0, x1, x2, x3, x4, x5, x6, x7, x8, x9, x10, x11, x12] := by match l, h with | [x0, x1, x2, x3, x4, x5, x6, x7, x8, x9, x10, x11, x12], _ => exact ⟨x0, x1, x2, x3, x4, x5, x6, x7, x8, x9, x10, x11, x12, rfl⟩
theorem list14 {α : Type} {l : List α} (h : l.length = 14) : ∃ x0 x1 x2 x3 x4 x5 x6 x7 x8 x9 x10 x11 x12 x13, l = [x0, x1, x2, x3, x4, x5, x6, x7, x8, x9, x10, x11, x12, x13] := by match l, h with | [x0, x1, x2, x3, x4, x5, x6, x7, x8, x9, x10, x11, x12, x13], _ => exact ⟨x0, x1, x2, x3, x4, x5, x6, x7, x8, x9, x10, x11, x12, x13, rfl⟩
theorem u8_ex {x : Int} (h : (Lit.int .u8 x).wf = true) : ∃ u : UInt8, x = (u.toNat : Int) := by
  have := wf_u8 h
  exact ⟨UInt8.ofNat x.toNat, by simp; omega⟩
end
end Go.Proofs.Ytlbhcakjcklmgaa
namespace Go.Proofs.Ytlbhcakjcklmgaa
open Go.ChangeShapes Go.WideShapes Go.ChangeAt Go.RowKit Go.Deep

section
variable {H : Type} {enc : TypeId × Value → H} {w : World} {fuel : Nat} {cs : List Value} {x : DataW H × List MemPlace}

def inI64 (y : Int) : Prop := -9223372036854775808 ≤ y ∧ y ≤ 9223372036854775807
theorem flat_ivs_eq (l : List It) : l.flatMap (fun x => [.int .i64 x.1, .int .i64 x.2]) = ivs l := by
  induction l with
  | nil => rfl
  | cons a l ih => simp [ivs, ih]
set_option maxRecDepth 100000 in
theorem open_it (h : DataW.trod enc Try.prog w 0 (fun _ => true) true fuel 46 cs = some x) : ∃ y : It, cs = [.int .i64 y.1, .int .i64 y.2] ∧ inI64 y.1 ∧ inI64 y.2 := by
  obtain ⟨xs, n, _, _, hl, hx, hf⟩ := DataW.trod_struct Try.underlying46 h
  have hl' : cs.length = 2 := by rw [hl]; exact of_decide_eq_true (by kernel_rfl)
  match xs, hx, cs, hl' with
  | [y0, y1], _, [v0, v1], _ =>
    have g0 := hf 0 _ rfl
    have g1 := hf 1 _ rfl
    have c0 : Try.prog.cellsOf 3 = 1 := by kernel_rfl
    simp [c0] at g0 g1
    obtain ⟨a, ha, _, wa⟩ := DataW.trod_int Try.underlying3 g0
    obtain ⟨b, hb, _, wb⟩ := DataW.trod_int Try.underlying3 g1
    simp only [List.cons.injEq, and_true] at ha hb
    subst ha hb
    exact ⟨(a, b), rfl, wf_i64 wa, wf_i64 wb⟩
set_option maxRecDepth 100000 in
theorem open_itsL (h : DataW.trod enc Try.prog w 0 (fun _ => true) true fuel 34 cs = some x) :
    ∃ (A : Option Addr) (l : List It) (c : Nat), cs = [.slice A l.length c] ∧ Sl w A l.length c (ivs l) := by
  obtain ⟨A, l, c, h1, h2, _⟩ := open_sl (α := It) 2 (fun x => [.int .i64 x.1, .int .i64 x.2]) (fun _ => True) Try.underlying34 (by kernel_rfl) (fun _ => rfl) (by omega) (fun n cs' y hy => by
    obtain ⟨s, e, _⟩ := open_it hy
    exact ⟨s, e, trivial⟩) h
  exact ⟨A, l, c, h1, by simpa only [flat_ivs_eq] using h2⟩
set_option maxRecDepth 100000 in
theorem open_node (h : DataW.trod enc Try.prog w 0 (fun _ => true) true fuel 36 cs = some x) :
    ∃ (f : Bool) (A : Option Addr) (l : List It) (c : Nat), cs = [.bool f, .slice A l.length c] ∧ Sl w A l.length c (ivs l) := by
  obtain ⟨xs, n, _, _, hl, hx, hf⟩ := DataW.trod_struct Try.underlying36 h
  have hl' : cs.length = 2 := by rw [hl]; exact of_decide_eq_true (by kernel_rfl)
  match xs, hx, cs, hl' with
  | [y0, y1], _, [v0, v1], _ =>
    have g0 := hf 0 _ rfl
    have g1 := hf 1 _ rfl
    have c0 : Try.prog.cellsOf 4 = 1 := by kernel_rfl
    have c1 : Try.prog.cellsOf 34 = 1 := by kernel_rfl
    simp [c0, c1] at g0 g1
    obtain ⟨f, hf0, _⟩ := DataW.trod_bool Try.underlying4 g0
    obtain ⟨A, l, c, e1, h1⟩ := open_itsL g1
    simp only [List.cons.injEq, and_true] at hf0 e1
    subst hf0 e1
    exact ⟨f, A, l, c, rfl, h1⟩
set_option maxRecDepth 100000 in
theorem open_node_arg {v : Value} {d : DataW H} {p : List MemPlace} {r : Reach} {b0 : Nat} (hv : Value.okWide Try.prog w r b0 36 v) (h : DataW.Trod enc Try.prog w 0 (fun _ => true) true 36 v d p) :
    ∃ (f : Bool) (A : Option Addr) (l : List It) (c : Nat), v = .agg #[.bool f, .slice A l.length c] ∧ Sl w A l.length c (ivs l) := by
  obtain ⟨cs, rfl, _⟩ := okWide_struct Try.underlying36 hv
  obtain ⟨fuel, hf⟩ := h
  obtain ⟨f, A, l, c, e, h1⟩ := open_node hf
  exact ⟨f, A, l, c, agg_of_cells e, h1⟩
set_option maxRecDepth 100000 in
theorem open_it_arg {v : Value} {d : DataW H} {p : List MemPlace} {r : Reach} {b0 : Nat} (hv : Value.okWide Try.prog w r b0 46 v) (h : DataW.Trod enc Try.prog w 0 (fun _ => true) true 46 v d p) :
    ∃ y : It, v = .agg #[.int .i64 y.1, .int .i64 y.2] ∧ inI64 y.1 ∧ inI64 y.2 := by
  obtain ⟨cs, rfl, _⟩ := okWide_struct Try.underlying46 hv
  obtain ⟨fuel, hf⟩ := h
  obtain ⟨y, e, h1⟩ := open_it hf
  exact ⟨y, agg_of_cells e, h1⟩
set_option maxRecDepth 100000 in
theorem open_its_arg {v : Value} {d : DataW H} {p : List MemPlace} {r : Reach} {b0 : Nat} (hv : Value.okWide Try.prog w r b0 34 v) (h : DataW.Trod enc Try.prog w 0 (fun _ => true) true 34 v d p) :
    ∃ (A : Option Addr) (l : List It) (c : Nat), v = .slice A l.length c ∧ Sl w A l.length c (ivs l) := by
  obtain ⟨a0, n0, c0, rfl⟩ := okWide_slice Try.underlying34 hv
  obtain ⟨fuel, hf⟩ := h
  obtain ⟨A, l, c, e, h1⟩ := open_itsL hf
  exact ⟨A, l, c, slice_of_cells e, h1⟩
end
end Go.Proofs.Ytlbhcakjcklmgaa
namespace Go.Proofs.Ytlbhcakjcklmgaa
open Go.ChangeShapes Go.WideShapes Go.ChangeAt Go.RowKit Go.Deep

section
variable {H : Type} {enc : TypeId × Value → H} {w : World} {fuel : Nat} {cs : List Value} {x : DataW H × List MemPlace}

/-- A cell, with where its items lie. -/
abbrev HcX := HC × Option Addr × Nat
def hxv (y : HcX) : List Value := [.int .i64 y.1.ref, .bool y.1.pin, .bool y.1.leaf, .slice y.2.1 y.1.it.length y.2.2]
theorem hxv_at (l : List HcX) (i : Nat) (hi : i < l.length) (j : Nat) (hj : j < 4) : (l.flatMap hxv)[i * 4 + j]? = (hxv l[i])[j]? := flatMap_get hxv 4 (fun _ => rfl) l i j hi hj
theorem hxv_hcAt {w : World} {l : List HcX} (h : ∀ y ∈ l, Sl w y.2.1 y.1.it.length y.2.2 (ivs y.1.it)) : HcAt w (l.flatMap hxv) (l.map Prod.fst) := by
  refine ⟨by rw [flatMap_len hxv 4 (fun _ => rfl), List.length_map], fun i hi => ?_⟩
  rw [List.length_map] at hi
  have h0 := hxv_at l i hi 0 (by omega)
  have h1 := hxv_at l i hi 1 (by omega)
  have h2 := hxv_at l i hi 2 (by omega)
  have h3 := hxv_at l i hi 3 (by omega)
  rw [Nat.add_zero] at h0
  have hs := h _ (List.getElem_mem hi)
  rw [List.getElem_map]
  exact ⟨l[i].2.1, l[i].2.2, h0, h1, h2, h3, hs⟩
set_option maxRecDepth 100000 in
theorem open_cell (h : DataW.trod enc Try.prog w 0 (fun _ => true) true fuel 38 cs = some x) : ∃ y : HcX, cs = hxv y ∧ Sl w y.2.1 y.1.it.length y.2.2 (ivs y.1.it) := by
  obtain ⟨xs, n, _, _, hl, hx, hf⟩ := DataW.trod_struct Try.underlying38 h
  have hl' : cs.length = 4 := by rw [hl]; exact of_decide_eq_true (by kernel_rfl)
  match xs, hx, cs, hl' with
  | [y0, y1, y2], _, [v0, v1, v2, v3], _ =>
    have g0 := hf 0 _ rfl
    have g1 := hf 1 _ rfl
    have g2 := hf 2 _ rfl
    have c0 : Try.prog.cellsOf 3 = 1 := by kernel_rfl
    have c1 : Try.prog.cellsOf 4 = 1 := by kernel_rfl
    have c2 : Try.prog.cellsOf 36 = 2 := by kernel_rfl
    simp [c0, c1, c2] at g0 g1 g2
    obtain ⟨r, e0, _, _⟩ := DataW.trod_int Try.underlying3 g0
    obtain ⟨p, e1, _⟩ := DataW.trod_bool Try.underlying4 g1
    obtain ⟨f, A, l, c, e2, h2⟩ := open_node g2
    simp only [List.cons.injEq, and_true] at e0 e1 e2
    obtain ⟨e2, e3⟩ := e2
    subst e0 e1 e2 e3
    exact ⟨(⟨r, p, f, l⟩, A, c), rfl, h2⟩
set_option maxRecDepth 100000 in
theorem open_hcsL (h : DataW.trod enc Try.prog w 0 (fun _ => true) true fuel 22 cs = some x) :
    ∃ (R : Option Addr) (l : List HC) (q : Nat), cs = [.slice R l.length q] ∧ HcSl w R l.length q l := by
  obtain ⟨R, l, q, h1, h2, h3⟩ := open_sl (α := HcX) 4 hxv (fun y => Sl w y.2.1 y.1.it.length y.2.2 (ivs y.1.it)) Try.underlying22 (by kernel_rfl) (fun _ => rfl) (by omega) (fun n cs' y hy => open_cell hy) h
  exact ⟨R, l.map Prod.fst, q, by rw [List.length_map]; exact h1, rfl, l.flatMap hxv, by rw [List.length_map]; exact h2, hxv_hcAt h3⟩
set_option maxRecDepth 100000 in
theorem open_heap (h : DataW.trod enc Try.prog w 0 (fun _ => true) true fuel 24 cs = some x) :
    ∃ (R : Option Addr) (l : List HC) (q : Nat) (k : Int), cs = [.slice R l.length q, .int .i64 k] ∧ HcSl w R l.length q l := by
  obtain ⟨xs, n, _, _, hl, hx, hf⟩ := DataW.trod_struct Try.underlying24 h
  have hl' : cs.length = 2 := by rw [hl]; exact of_decide_eq_true (by kernel_rfl)
  match xs, hx, cs, hl' with
  | [y0, y1], _, [v0, v1], _ =>
    have g0 := hf 0 _ rfl
    have g1 := hf 1 _ rfl
    have c0 : Try.prog.cellsOf 22 = 1 := by kernel_rfl
    have c1 : Try.prog.cellsOf 3 = 1 := by kernel_rfl
    simp [c0, c1] at g0 g1
    obtain ⟨R, l, q, e0, h0⟩ := open_hcsL g0
    obtain ⟨k, e1, _, _⟩ := DataW.trod_int Try.underlying3 g1
    simp only [List.cons.injEq, and_true] at e0 e1
    subst e0 e1
    exact ⟨R, l, q, k, rfl, h0⟩
set_option maxRecDepth 100000 in
theorem open_heap_arg {v : Value} {d : DataW H} {p : List MemPlace} {r : Reach} {b0 : Nat} (hv : Value.okWide Try.prog w r b0 24 v) (h : DataW.Trod enc Try.prog w 0 (fun _ => true) true 24 v d p) :
    ∃ (R : Option Addr) (l : List HC) (q : Nat) (k : Int), v = .agg #[.slice R l.length q, .int .i64 k] ∧ HcSl w R l.length q l := by
  obtain ⟨cs, rfl, _⟩ := okWide_struct Try.underlying24 hv
  obtain ⟨fuel, hf⟩ := h
  obtain ⟨R, l, q, k, e, h1⟩ := open_heap hf
  exact ⟨R, l, q, k, agg_of_cells e, h1⟩
theorem flat_ints_eq (l : List Int) : l.flatMap (fun y => [iv y]) = l.map iv := by
  induction l with
  | nil => rfl
  | cons a l ih => simp [ih]
set_option maxRecDepth 100000 in
theorem open_intsL (h : DataW.trod enc Try.prog w 0 (fun _ => true) true fuel 25 cs = some x) :
    ∃ (A : Option Addr) (l : List Int) (c : Nat), cs = [.slice A l.length c] ∧ Sl w A l.length c (l.map iv) := by
  obtain ⟨A, l, c, h1, h2, _⟩ := open_sl (α := Int) 1 (fun y => [iv y]) (fun _ => True) Try.underlying25 (by kernel_rfl) (fun _ => rfl) (by omega) (fun n cs' y hy => by
    obtain ⟨z, e, _, _⟩ := DataW.trod_int Try.underlying3 hy
    exact ⟨z, e, trivial⟩) h
  exact ⟨A, l, c, h1, by simpa only [flat_ints_eq] using h2⟩
set_option maxRecDepth 100000 in
theorem open_ints_arg {v : Value} {d : DataW H} {p : List MemPlace} {r : Reach} {b0 : Nat} (hv : Value.okWide Try.prog w r b0 25 v) (h : DataW.Trod enc Try.prog w 0 (fun _ => true) true 25 v d p) :
    ∃ (A : Option Addr) (l : List Int) (c : Nat), v = .slice A l.length c ∧ Sl w A l.length c (l.map iv) := by
  obtain ⟨a0, n0, c0, rfl⟩ := okWide_slice Try.underlying25 hv
  obtain ⟨fuel, hf⟩ := h
  obtain ⟨A, l, c, e, h1⟩ := open_intsL hf
  exact ⟨A, l, c, slice_of_cells e, h1⟩
end
end Go.Proofs.Ytlbhcakjcklmgaa
