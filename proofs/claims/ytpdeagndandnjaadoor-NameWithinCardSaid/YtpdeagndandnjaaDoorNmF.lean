/- Rows of numbers that came in, opened (for layer 17: zv). -/
import Derived.Test.YtpdeagndandnjaaDoorAg
import Derived.Test.YtpdeagndandnjaaDoorNmE
namespace Go.Proofs.YtpdeagndandnjaaDoor
set_option maxRecDepth 20000
open Go.ChangeShapes Go.WideShapes Go.ChangeAt Go.RowKit Go.Deep

section
variable {H : Type} {enc : TypeId × Value → H} {w : World} {fuel : Nat} {cs : List Value} {x : DataW H × List MemPlace}

theorem slice_of_cellsZ {A A' : Option Addr} {n c n' c' : Nat} (h : (Value.slice A n c).cells.toList = [.slice A' n' c']) : Value.slice A n c = .slice A' n' c' := by
  simpa [Value.cells] using h
theorem flat_zints_eq (l : List Int) : l.flatMap (fun y => [zv y]) = l.map zv := by
  induction l with
  | nil => rfl
  | cons a l ih => simp [ih]
set_option maxRecDepth 100000 in
theorem open_zintsL (h : DataW.trod enc Tryd.prog w 0 (fun _ => true) true fuel 22 cs = some x) :
    ∃ (A : Option Addr) (l : List Int) (c : Nat), cs = [.slice A l.length c] ∧ Sl w A l.length c (l.map zv) := by
  obtain ⟨A, l, c, h1, h2, _⟩ := open_sl (α := Int) 1 (fun y => [zv y]) (fun _ => True) Tryd.underlying22 (by kernel_rfl) (fun _ => rfl) (by omega) (fun n cs' y hy => by
    obtain ⟨z, e, _, _⟩ := DataW.trod_int Tryd.underlying3 hy
    exact ⟨z, e, trivial⟩) h
  exact ⟨A, l, c, h1, by simpa only [flat_zints_eq] using h2⟩
set_option maxRecDepth 100000 in
theorem open_zints_arg {v : Value} {d : DataW H} {p : List MemPlace} {r : Reach} {b0 : Nat} (hv : Value.okWide Tryd.prog w r b0 22 v) (h : DataW.Trod enc Tryd.prog w 0 (fun _ => true) true 22 v d p) :
    ∃ (A : Option Addr) (l : List Int) (c : Nat), v = .slice A l.length c ∧ Sl w A l.length c (l.map zv) := by
  obtain ⟨a0, n0, c0, rfl⟩ := okWide_slice Tryd.underlying22 hv
  obtain ⟨fuel, hf⟩ := h
  obtain ⟨A, l, c, e, h1⟩ := open_zintsL hf
  exact ⟨A, l, c, slice_of_cellsZ e, h1⟩
end
end Go.Proofs.YtpdeagndandnjaaDoor
