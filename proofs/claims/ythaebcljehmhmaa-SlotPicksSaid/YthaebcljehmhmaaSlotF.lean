/- What came in of layer 3, opened. -/
import Derived.Test.YthaebcljehmhmaaAgg
namespace Go.Proofs.Ythaebcljehmhmaa
open Go.ChangeShapes Go.WideShapes Go.ChangeAt Go.RowKit Go.Deep

section
variable {H : Type} {enc : TypeId × Value → H} {w : World} {fuel : Nat} {cs : List Value} {x : DataW H × List MemPlace}

theorem open_sup (h : DataW.trod enc Try.prog w 0 (fun _ => true) true fuel 23 cs = some x) : ∃ g z s : Int, cs = [.int .i64 g, .int .i64 z, .int .i64 s] := by
  obtain ⟨xs, n, _, _, hl, hx, hf⟩ := DataW.trod_struct Try.underlying23 h
  have hl' : cs.length = 3 := by rw [hl]; exact of_decide_eq_true (by kernel_rfl)
  match xs, hx, cs, hl' with
  | [y0, y1, y2], _, [v0, v1, v2], _ =>
    have g0 := hf 0 _ rfl
    have g1 := hf 1 _ rfl
    have g2 := hf 2 _ rfl
    have c0 : Try.prog.cellsOf 3 = 1 := by kernel_rfl
    simp [c0] at g0 g1 g2
    obtain ⟨a, ha, _⟩ := DataW.trod_int Try.underlying3 g0
    obtain ⟨b, hb, _⟩ := DataW.trod_int Try.underlying3 g1
    obtain ⟨c, hc, _⟩ := DataW.trod_int Try.underlying3 g2
    simp only [List.cons.injEq, and_true] at ha hb hc
    subst ha hb hc
    exact ⟨a, b, c, rfl⟩
theorem open_sup_arg {v : Value} {d : DataW H} {p : List MemPlace} {r : Reach} {b0 : Nat} (hv : Value.okWide Try.prog w r b0 23 v) (h : DataW.Trod enc Try.prog w 0 (fun _ => true) true 23 v d p) :
    ∃ g z s : Int, v = .agg #[.int .i64 g, .int .i64 z, .int .i64 s] := by
  obtain ⟨cs, rfl, _⟩ := okWide_struct Try.underlying23 hv
  obtain ⟨fuel, hf⟩ := h
  obtain ⟨g, z, s, e⟩ := open_sup hf
  exact ⟨g, z, s, agg_of_cells e⟩
end
end Go.Proofs.Ythaebcljehmhmaa
