/- Items and nodes that came in, opened. -/
import Derived.Test.YthlencnlgnbpaaaAg
import Derived.Test.YthlencnlgnbpaaaIt
namespace Go.Proofs.Ythlencnlgnbpaaa
open Go.ChangeShapes Go.WideShapes Go.ChangeAt Go.RowKit Go.Deep

section
variable {H : Type} {enc : TypeId × Value → H} {w : World} {fuel : Nat} {cs : List Value} {x : DataW H × List MemPlace}

def inI64 (y : Int) : Prop := -9223372036854775808 ≤ y ∧ y ≤ 9223372036854775807
theorem flat_ivs_eq (l : List It) : l.flatMap (fun x => [.int .i64 x.1, .int .i64 x.2]) = ivs l := by
  induction l with
  | nil => rfl
  | cons a l ih => simp [ivs, ih]
theorem open_it (h : DataW.trod enc Try.prog w 0 (fun _ => true) true fuel 49 cs = some x) : ∃ y : It, cs = [.int .i64 y.1, .int .i64 y.2] ∧ inI64 y.1 ∧ inI64 y.2 := by
  obtain ⟨xs, n, _, _, hl, hx, hf⟩ := DataW.trod_struct Try.underlying49 h
  have hl' : cs.length = 2 := by rw [hl]; exact of_decide_eq_true (by kernel_rfl)
  match xs, hx, cs, hl' with
  | [y0, y1], _, [v0, v1], _ =>
    have g0 := hf 0 _ rfl
    have g1 := hf 1 _ rfl
    have c0 : Try.prog.cellsOf 3 = 1 := by kernel_rfl
    simp [c0] at g0 g1
    obtain ⟨a, ha, _, wa⟩ := DataW.trod_int Try.underlying3 g0
    obtain ⟨b, hb, _, wb⟩ := DataW.trod_int Try.underlying3 g1
    simp only [List.cons.injEq, and_true] at ha hb
    subst ha hb
    exact ⟨(a, b), rfl, wf_i64 wa, wf_i64 wb⟩
theorem open_itsL (h : DataW.trod enc Try.prog w 0 (fun _ => true) true fuel 43 cs = some x) :
    ∃ (A : Option Addr) (l : List It) (c : Nat), cs = [.slice A l.length c] ∧ Sl w A l.length c (ivs l) := by
  obtain ⟨A, l, c, h1, h2, _⟩ := open_sl (α := It) 2 (fun x => [.int .i64 x.1, .int .i64 x.2]) (fun _ => True) Try.underlying43 (by kernel_rfl) (fun _ => rfl) (by omega) (fun n cs' y hy => by
    obtain ⟨s, e, _⟩ := open_it hy
    exact ⟨s, e, trivial⟩) h
  exact ⟨A, l, c, h1, by simpa only [flat_ivs_eq] using h2⟩
theorem open_node (h : DataW.trod enc Try.prog w 0 (fun _ => true) true fuel 53 cs = some x) :
    ∃ (f : Bool) (A : Option Addr) (l : List It) (c : Nat), cs = [.bool f, .slice A l.length c] ∧ Sl w A l.length c (ivs l) := by
  obtain ⟨xs, n, _, _, hl, hx, hf⟩ := DataW.trod_struct Try.underlying53 h
  have hl' : cs.length = 2 := by rw [hl]; exact of_decide_eq_true (by kernel_rfl)
  match xs, hx, cs, hl' with
  | [y0, y1], _, [v0, v1], _ =>
    have g0 := hf 0 _ rfl
    have g1 := hf 1 _ rfl
    have c0 : Try.prog.cellsOf 4 = 1 := by kernel_rfl
    have c1 : Try.prog.cellsOf 43 = 1 := by kernel_rfl
    simp [c0, c1] at g0 g1
    obtain ⟨f, hf0, _⟩ := DataW.trod_bool Try.underlying4 g0
    obtain ⟨A, l, c, e1, h1⟩ := open_itsL g1
    simp only [List.cons.injEq, and_true] at hf0 e1
    subst hf0 e1
    exact ⟨f, A, l, c, rfl, h1⟩
theorem open_node_arg {v : Value} {d : DataW H} {p : List MemPlace} {r : Reach} {b0 : Nat} (hv : Value.okWide Try.prog w r b0 53 v) (h : DataW.Trod enc Try.prog w 0 (fun _ => true) true 53 v d p) :
    ∃ (f : Bool) (A : Option Addr) (l : List It) (c : Nat), v = .agg #[.bool f, .slice A l.length c] ∧ Sl w A l.length c (ivs l) := by
  obtain ⟨cs, rfl, _⟩ := okWide_struct Try.underlying53 hv
  obtain ⟨fuel, hf⟩ := h
  obtain ⟨f, A, l, c, e, h1⟩ := open_node hf
  exact ⟨f, A, l, c, agg_of_cells e, h1⟩
theorem open_it_arg {v : Value} {d : DataW H} {p : List MemPlace} {r : Reach} {b0 : Nat} (hv : Value.okWide Try.prog w r b0 49 v) (h : DataW.Trod enc Try.prog w 0 (fun _ => true) true 49 v d p) :
    ∃ y : It, v = .agg #[.int .i64 y.1, .int .i64 y.2] ∧ inI64 y.1 ∧ inI64 y.2 := by
  obtain ⟨cs, rfl, _⟩ := okWide_struct Try.underlying49 hv
  obtain ⟨fuel, hf⟩ := h
  obtain ⟨y, e, h1⟩ := open_it hf
  exact ⟨y, agg_of_cells e, h1⟩
theorem open_its_arg {v : Value} {d : DataW H} {p : List MemPlace} {r : Reach} {b0 : Nat} (hv : Value.okWide Try.prog w r b0 43 v) (h : DataW.Trod enc Try.prog w 0 (fun _ => true) true 43 v d p) :
    ∃ (A : Option Addr) (l : List It) (c : Nat), v = .slice A l.length c ∧ Sl w A l.length c (ivs l) := by
  obtain ⟨a0, n0, c0, rfl⟩ := okWide_slice Try.underlying43 hv
  obtain ⟨fuel, hf⟩ := h
  obtain ⟨A, l, c, e, h1⟩ := open_itsL hf
  exact ⟨A, l, c, slice_of_cells e, h1⟩
end
end Go.Proofs.Ythlencnlgnbpaaa
