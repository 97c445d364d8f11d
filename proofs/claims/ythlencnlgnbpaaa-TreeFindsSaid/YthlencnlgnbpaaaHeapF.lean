/- Heaps and numbers that came in, opened. -/
import Derived.Test.YthlencnlgnbpaaaItF
import Derived.Test.YthlencnlgnbpaaaHeapP
namespace Go.Proofs.Ythlencnlgnbpaaa
open Go.ChangeShapes Go.WideShapes Go.ChangeAt Go.RowKit Go.Deep

section
variable {H : Type} {enc : TypeId × Value → H} {w : World} {fuel : Nat} {cs : List Value} {x : DataW H × List MemPlace}

/-- A cell, with where its items lie. -/
abbrev HcX := HC × Option Addr × Nat
def hxv (y : HcX) : List Value := [.int .i64 y.1.ref, .bool y.1.pin, .bool y.1.leaf, .slice y.2.1 y.1.it.length y.2.2]
theorem hxv_at (l : List HcX) (i : Nat) (hi : i < l.length) (j : Nat) (hj : j < 4) : (l.flatMap hxv)[i * 4 + j]? = (hxv l[i])[j]? := flatMap_get hxv 4 (fun _ => rfl) l i j hi hj
theorem hxv_hcAt {w : World} {l : List HcX} (h : ∀ y ∈ l, Sl w y.2.1 y.1.it.length y.2.2 (ivs y.1.it)) : HcAt w (l.flatMap hxv) (l.map Prod.fst) := by
  refine ⟨by rw [flatMap_len hxv 4 (fun _ => rfl), List.length_map], fun i hi => ?_⟩
  rw [List.length_map] at hi
  have h0 := hxv_at l i hi 0 (by omega)
  have h1 := hxv_at l i hi 1 (by omega)
  have h2 := hxv_at l i hi 2 (by omega)
  have h3 := hxv_at l i hi 3 (by omega)
  rw [Nat.add_zero] at h0
  have hs := h _ (List.getElem_mem hi)
  rw [List.getElem_map]
  exact ⟨l[i].2.1, l[i].2.2, h0, h1, h2, h3, hs⟩
theorem open_cell (h : DataW.trod enc Try.prog w 0 (fun _ => true) true fuel 55 cs = some x) : ∃ y : HcX, cs = hxv y ∧ Sl w y.2.1 y.1.it.length y.2.2 (ivs y.1.it) := by
  obtain ⟨xs, n, _, _, hl, hx, hf⟩ := DataW.trod_struct Try.underlying55 h
  have hl' : cs.length = 4 := by rw [hl]; exact of_decide_eq_true (by kernel_rfl)
  match xs, hx, cs, hl' with
  | [y0, y1, y2], _, [v0, v1, v2, v3], _ =>
    have g0 := hf 0 _ rfl
    have g1 := hf 1 _ rfl
    have g2 := hf 2 _ rfl
    have c0 : Try.prog.cellsOf 3 = 1 := by kernel_rfl
    have c1 : Try.prog.cellsOf 4 = 1 := by kernel_rfl
    have c2 : Try.prog.cellsOf 53 = 2 := by kernel_rfl
    simp [c0, c1, c2] at g0 g1 g2
    obtain ⟨r, e0, _, _⟩ := DataW.trod_int Try.underlying3 g0
    obtain ⟨p, e1, _⟩ := DataW.trod_bool Try.underlying4 g1
    obtain ⟨f, A, l, c, e2, h2⟩ := open_node g2
    simp only [List.cons.injEq, and_true] at e0 e1 e2
    obtain ⟨e2, e3⟩ := e2
    subst e0 e1 e2 e3
    exact ⟨(⟨r, p, f, l⟩, A, c), rfl, h2⟩
theorem open_hcsL (h : DataW.trod enc Try.prog w 0 (fun _ => true) true fuel 22 cs = some x) :
    ∃ (R : Option Addr) (l : List HC) (q : Nat), cs = [.slice R l.length q] ∧ HcSl w R l.length q l := by
  obtain ⟨R, l, q, h1, h2, h3⟩ := open_sl (α := HcX) 4 hxv (fun y => Sl w y.2.1 y.1.it.length y.2.2 (ivs y.1.it)) Try.underlying22 (by kernel_rfl) (fun _ => rfl) (by omega) (fun n cs' y hy => open_cell hy) h
  exact ⟨R, l.map Prod.fst, q, by rw [List.length_map]; exact h1, rfl, l.flatMap hxv, by rw [List.length_map]; exact h2, hxv_hcAt h3⟩
theorem open_heap (h : DataW.trod enc Try.prog w 0 (fun _ => true) true fuel 24 cs = some x) :
    ∃ (R : Option Addr) (l : List HC) (q : Nat) (k : Int), cs = [.slice R l.length q, .int .i64 k] ∧ HcSl w R l.length q l := by
  obtain ⟨xs, n, _, _, hl, hx, hf⟩ := DataW.trod_struct Try.underlying24 h
  have hl' : cs.length = 2 := by rw [hl]; exact of_decide_eq_true (by kernel_rfl)
  match xs, hx, cs, hl' with
  | [y0, y1], _, [v0, v1], _ =>
    have g0 := hf 0 _ rfl
    have g1 := hf 1 _ rfl
    have c0 : Try.prog.cellsOf 22 = 1 := by kernel_rfl
    have c1 : Try.prog.cellsOf 3 = 1 := by kernel_rfl
    simp [c0, c1] at g0 g1
    obtain ⟨R, l, q, e0, h0⟩ := open_hcsL g0
    obtain ⟨k, e1, _, _⟩ := DataW.trod_int Try.underlying3 g1
    simp only [List.cons.injEq, and_true] at e0 e1
    subst e0 e1
    exact ⟨R, l, q, k, rfl, h0⟩
theorem open_heap_arg {v : Value} {d : DataW H} {p : List MemPlace} {r : Reach} {b0 : Nat} (hv : Value.okWide Try.prog w r b0 24 v) (h : DataW.Trod enc Try.prog w 0 (fun _ => true) true 24 v d p) :
    ∃ (R : Option Addr) (l : List HC) (q : Nat) (k : Int), v = .agg #[.slice R l.length q, .int .i64 k] ∧ HcSl w R l.length q l := by
  obtain ⟨cs, rfl, _⟩ := okWide_struct Try.underlying24 hv
  obtain ⟨fuel, hf⟩ := h
  obtain ⟨R, l, q, k, e, h1⟩ := open_heap hf
  exact ⟨R, l, q, k, agg_of_cells e, h1⟩
theorem flat_ints_eq (l : List Int) : l.flatMap (fun y => [iv y]) = l.map iv := by
  induction l with
  | nil => rfl
  | cons a l ih => simp [ih]
theorem open_intsL (h : DataW.trod enc Try.prog w 0 (fun _ => true) true fuel 31 cs = some x) :
    ∃ (A : Option Addr) (l : List Int) (c : Nat), cs = [.slice A l.length c] ∧ Sl w A l.length c (l.map iv) := by
  obtain ⟨A, l, c, h1, h2, _⟩ := open_sl (α := Int) 1 (fun y => [iv y]) (fun _ => True) Try.underlying31 (by kernel_rfl) (fun _ => rfl) (by omega) (fun n cs' y hy => by
    obtain ⟨z, e, _, _⟩ := DataW.trod_int Try.underlying3 hy
    exact ⟨z, e, trivial⟩) h
  exact ⟨A, l, c, h1, by simpa only [flat_ints_eq] using h2⟩
theorem open_ints_arg {v : Value} {d : DataW H} {p : List MemPlace} {r : Reach} {b0 : Nat} (hv : Value.okWide Try.prog w r b0 31 v) (h : DataW.Trod enc Try.prog w 0 (fun _ => true) true 31 v d p) :
    ∃ (A : Option Addr) (l : List Int) (c : Nat), v = .slice A l.length c ∧ Sl w A l.length c (l.map iv) := by
  obtain ⟨a0, n0, c0, rfl⟩ := okWide_slice Try.underlying31 hv
  obtain ⟨fuel, hf⟩ := h
  obtain ⟨A, l, c, e, h1⟩ := open_intsL hf
  exact ⟨A, l, c, slice_of_cells e, h1⟩
end
end Go.Proofs.Ythlencnlgnbpaaa
