/- What came in of a disk, opened (for seats without arrays). -/
import Derived.Test.YtjbfopnkeclfgaaGreatK04
import Derived.Test.YtjbfopnkeclfgaaGreatK50
namespace Go.Proofs.YtjbfopnkeclfgaaGreat
set_option maxRecDepth 20000
open Go.ChangeShapes Go.WideShapes Go.ChangeAt Go.RowKit Go.Deep

section
variable {H : Type} {enc : TypeId × Value → H} {w : World} {fuel : Nat} {cs : List Value} {x : DataW H × List MemPlace}

theorem flat_svs_eq (l : List ByteArray) : l.flatMap (fun s => [sv s]) = l.map sv := by
  induction l with
  | nil => rfl
  | cons a l ih => simp [ih]
theorem flat_wvs_eq (l : List Wr) : l.flatMap (fun x => [.int .i64 x.1, .string x.2]) = wvs l := by
  induction l with
  | nil => rfl
  | cons a l ih => simp [wvs, ih]

theorem open_strsL (h : DataW.trod enc Tryz.prog w 0 (fun _ => true) true fuel 22 cs = some x) :
    ∃ (A : Option Addr) (l : List ByteArray) (c : Nat), cs = [.slice A l.length c] ∧ Sl w A l.length c (l.map sv) ∧ ∀ s ∈ l, s.size ≤ maxLen := by
  have h1 := open_sl (α := ByteArray) 1 (fun s => [sv s]) (fun s => s.size ≤ maxLen) Tryz.underlying22 (by kernel_rfl) (fun _ => rfl) (by omega) (fun n cs' y hy => by
    obtain ⟨s, e, _, hs⟩ := DataW.trod_string Tryz.underlying9 hy
    exact ⟨s, e, hs⟩) h
  simpa only [flat_svs_eq] using h1
def okWr (x : Wr) : Prop := (-9223372036854775808 ≤ x.1 ∧ x.1 ≤ 9223372036854775807) ∧ x.2.size ≤ maxLen
theorem open_wr (h : DataW.trod enc Tryz.prog w 0 (fun _ => true) true fuel 85 cs = some x) : ∃ y : Wr, cs = [.int .i64 y.1, .string y.2] ∧ okWr y := by
  obtain ⟨xs, n, _, _, hl, hx, hf⟩ := DataW.trod_struct Tryz.underlying85 h
  have hl' : cs.length = 2 := by rw [hl]; exact of_decide_eq_true (by kernel_rfl)
  match xs, hx, cs, hl' with
  | [y0, y1], _, [v0, v1], _ =>
    have g0 := hf 0 _ rfl
    have g1 := hf 1 _ rfl
    have c0 : Tryz.prog.cellsOf 3 = 1 := by kernel_rfl
    have c1 : Tryz.prog.cellsOf 9 = 1 := by kernel_rfl
    simp [c0, c1] at g0 g1
    obtain ⟨a, ha, _, wa⟩ := DataW.trod_int Tryz.underlying3 g0
    obtain ⟨s, hs, _, ws⟩ := DataW.trod_string Tryz.underlying9 g1
    simp only [List.cons.injEq, and_true] at ha hs
    subst ha hs
    exact ⟨(a, s), rfl, wf_i64 wa, ws⟩
theorem open_wrsL (h : DataW.trod enc Tryz.prog w 0 (fun _ => true) true fuel 23 cs = some x) :
    ∃ (A : Option Addr) (l : List Wr) (c : Nat), cs = [.slice A l.length c] ∧ Sl w A l.length c (wvs l) ∧ ∀ y ∈ l, okWr y := by
  have h1 := open_sl (α := Wr) 2 (fun x => [.int .i64 x.1, .string x.2]) okWr Tryz.underlying23 (by kernel_rfl) (fun _ => rfl) (by omega) (fun n cs' y hy => open_wr hy) h
  simpa only [flat_wvs_eq] using h1
theorem open_disk (h : DataW.trod enc Tryz.prog w 0 (fun _ => true) true fuel 25 cs = some x) :
    ∃ (A : Option Addr) (b : List ByteArray) (c : Nat) (A' : Option Addr) (l : List Wr) (c' : Nat), cs = [.slice A b.length c, .slice A' l.length c'] ∧ Sl w A b.length c (b.map sv) ∧ Sl w A' l.length c' (wvs l) ∧ (∀ y ∈ l, okWr y) := by
  obtain ⟨xs, n, _, _, hl, hx, hf⟩ := DataW.trod_struct Tryz.underlying25 h
  have hl' : cs.length = 2 := by rw [hl]; exact of_decide_eq_true (by kernel_rfl)
  match xs, hx, cs, hl' with
  | [y0, y1], _, [v0, v1], _ =>
    have g0 := hf 0 _ rfl
    have g1 := hf 1 _ rfl
    have c0 : Tryz.prog.cellsOf 22 = 1 := by kernel_rfl
    have c1 : Tryz.prog.cellsOf 23 = 1 := by kernel_rfl
    simp [c0, c1] at g0 g1
    obtain ⟨A, b, c, e0, h0, _⟩ := open_strsL g0
    obtain ⟨A', l, c', e1, h1, h2⟩ := open_wrsL g1
    simp only [List.cons.injEq, and_true] at e0 e1
    subst e0 e1
    exact ⟨A, b, c, A', l, c', rfl, h0, h1, h2⟩

theorem agg_of_cells {cs : Array Value} {l : List Value} (h : (Value.agg cs).cells.toList = l) : Value.agg cs = .agg l.toArray := by
  subst h; simp [Value.cells]
theorem open_disk_arg {v : Value} {d : DataW H} {p : List MemPlace} {r : Reach} {b0 : Nat} (hv : Value.okWide Tryz.prog w r b0 25 v) (h : DataW.Trod enc Tryz.prog w 0 (fun _ => true) true 25 v d p) :
    ∃ (A : Option Addr) (b : List ByteArray) (c : Nat) (A' : Option Addr) (l : List Wr) (c' : Nat), v = .agg #[.slice A b.length c, .slice A' l.length c'] ∧ Sl w A b.length c (b.map sv) ∧ Sl w A' l.length c' (wvs l) ∧ (∀ y ∈ l, okWr y) := by
  obtain ⟨cs, rfl, _⟩ := okWide_struct Tryz.underlying25 hv
  obtain ⟨fuel, hf⟩ := h
  obtain ⟨A, b, c, A', l, c', e, h1, h2, h3⟩ := open_disk hf
  exact ⟨A, b, c, A', l, c', agg_of_cells e, h1, h2, h3⟩
end
end Go.Proofs.YtjbfopnkeclfgaaGreat
