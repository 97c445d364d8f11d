/- What came in of a disk, opened. -/
import Derived.Test.YtikdicnpmobidaaNumF
import Derived.Test.YtikdicnpmobidaaOpen
namespace Go.Proofs.Ytikdicnpmobidaa
open Go.ChangeShapes Go.WideShapes Go.ChangeAt Go.RowKit Go.Deep

section
variable {H : Type} {enc : TypeId × Value → H} {w : World} {fuel : Nat} {cs : List Value} {x : DataW H × List MemPlace}

theorem flat_svs_eq (l : List ByteArray) : l.flatMap (fun s => [sv s]) = l.map sv := by
  induction l with
  | nil => rfl
  | cons a l ih => simp [ih]
theorem flat_bools_eq (l : List Bool) : l.flatMap (fun b => [Value.bool b]) = l.map Value.bool := by
  induction l with
  | nil => rfl
  | cons a l ih => simp [ih]
theorem flat_wvs_eq (l : List Wr) : l.flatMap (fun x => [.int .i64 x.1, .string x.2]) = wvs l := by
  induction l with
  | nil => rfl
  | cons a l ih => simp [wvs, ih]

theorem open_strsL (h : DataW.trod enc Try.prog w 0 (fun _ => true) true fuel 22 cs = some x) :
    ∃ (A : Option Addr) (l : List ByteArray) (c : Nat), cs = [.slice A l.length c] ∧ Sl w A l.length c (l.map sv) ∧ ∀ s ∈ l, s.size ≤ maxLen := by
  have h1 := open_sl (α := ByteArray) 1 (fun s => [sv s]) (fun s => s.size ≤ maxLen) Try.underlying22 (by kernel_rfl) (fun _ => rfl) (by omega) (fun n cs' y hy => by
    obtain ⟨s, e, _, hs⟩ := DataW.trod_string Try.underlying9 hy
    exact ⟨s, e, hs⟩) h
  simpa only [flat_svs_eq] using h1
theorem open_boolsL (h : DataW.trod enc Try.prog w 0 (fun _ => true) true fuel 44 cs = some x) :
    ∃ (A : Option Addr) (l : List Bool) (c : Nat), cs = [.slice A l.length c] ∧ Sl w A l.length c (l.map Value.bool) := by
  obtain ⟨A, l, c, h1, h2, _⟩ := open_sl (α := Bool) 1 (fun s => [.bool s]) (fun _ => True) Try.underlying44 (by kernel_rfl) (fun _ => rfl) (by omega) (fun n cs' y hy => by
    obtain ⟨s, e, _⟩ := DataW.trod_bool Try.underlying4 hy
    exact ⟨s, e, trivial⟩) h
  exact ⟨A, l, c, h1, by simpa only [flat_bools_eq] using h2⟩

def okWr (x : Wr) : Prop := (-9223372036854775808 ≤ x.1 ∧ x.1 ≤ 9223372036854775807) ∧ x.2.size ≤ maxLen
theorem open_wr (h : DataW.trod enc Try.prog w 0 (fun _ => true) true fuel 43 cs = some x) : ∃ y : Wr, cs = [.int .i64 y.1, .string y.2] ∧ okWr y := by
  obtain ⟨xs, n, _, _, hl, hx, hf⟩ := DataW.trod_struct Try.underlying43 h
  have hl' : cs.length = 2 := by rw [hl]; exact of_decide_eq_true (by kernel_rfl)
  match xs, hx, cs, hl' with
  | [y0, y1], _, [v0, v1], _ =>
    have g0 := hf 0 _ rfl
    have g1 := hf 1 _ rfl
    have c0 : Try.prog.cellsOf 3 = 1 := by kernel_rfl
    have c1 : Try.prog.cellsOf 9 = 1 := by kernel_rfl
    simp [c0, c1] at g0 g1
    obtain ⟨a, ha, _, wa⟩ := DataW.trod_int Try.underlying3 g0
    obtain ⟨s, hs, _, ws⟩ := DataW.trod_string Try.underlying9 g1
    simp only [List.cons.injEq, and_true] at ha hs
    subst ha hs
    exact ⟨(a, s), rfl, wf_i64 wa, ws⟩
theorem open_wrsL (h : DataW.trod enc Try.prog w 0 (fun _ => true) true fuel 23 cs = some x) :
    ∃ (A : Option Addr) (l : List Wr) (c : Nat), cs = [.slice A l.length c] ∧ Sl w A l.length c (wvs l) ∧ ∀ y ∈ l, okWr y := by
  have h1 := open_sl (α := Wr) 2 (fun x => [.int .i64 x.1, .string x.2]) okWr Try.underlying23 (by kernel_rfl) (fun _ => rfl) (by omega) (fun n cs' y hy => open_wr hy) h
  simpa only [flat_wvs_eq] using h1
theorem open_disk (h : DataW.trod enc Try.prog w 0 (fun _ => true) true fuel 25 cs = some x) :
    ∃ (A : Option Addr) (b : List ByteArray) (c : Nat) (A' : Option Addr) (l : List Wr) (c' : Nat), cs = [.slice A b.length c, .slice A' l.length c'] ∧ Sl w A b.length c (b.map sv) ∧ Sl w A' l.length c' (wvs l) ∧ (∀ y ∈ l, okWr y) := by
  obtain ⟨xs, n, _, _, hl, hx, hf⟩ := DataW.trod_struct Try.underlying25 h
  have hl' : cs.length = 2 := by rw [hl]; exact of_decide_eq_true (by kernel_rfl)
  match xs, hx, cs, hl' with
  | [y0, y1], _, [v0, v1], _ =>
    have g0 := hf 0 _ rfl
    have g1 := hf 1 _ rfl
    have c0 : Try.prog.cellsOf 22 = 1 := by kernel_rfl
    have c1 : Try.prog.cellsOf 23 = 1 := by kernel_rfl
    simp [c0, c1] at g0 g1
    obtain ⟨A, b, c, e0, h0, _⟩ := open_strsL g0
    obtain ⟨A', l, c', e1, h1, h2⟩ := open_wrsL g1
    simp only [List.cons.injEq, and_true] at e0 e1
    subst e0 e1
    exact ⟨A, b, c, A', l, c', rfl, h0, h1, h2⟩

/-- A struct that came in, whole: its cells, and each field's reading. -/
theorem open_agg {t : TypeId} {fs : Array Field} {v : Value} {d : DataW H} {p : List MemPlace} (hs : Try.prog.underlying t = some (.struct fs)) {r : Reach} {b0 : Nat} (hv : Value.okWide Try.prog w r b0 t v)
    (h : DataW.Trod enc Try.prog w 0 (fun _ => true) true t v d p) :
    ∃ (cs : List Value) (n : Nat), v = .agg cs.toArray ∧ cs.length = Try.prog.cellsOf t ∧ ∀ (i : Nat) (f : Field), fs[i]? = some f → ∃ y, DataW.trod enc Try.prog w 0 (fun _ => true) true n f.type ((cs.drop f.offset).take (Try.prog.cellsOf f.type)) = some y := by
  obtain ⟨cs, rfl, hsz⟩ := okWide_struct hs hv
  obtain ⟨fuel, hf⟩ := h
  obtain ⟨xs, n, _, _, hl, hlen, hg⟩ := DataW.trod_struct hs hf
  have e : (Value.agg cs).cells = cs := by simp [Value.cells]
  rw [e] at hl hg
  refine ⟨cs.toList, n, by simp, hl, fun i f hi => ?_⟩
  have h1 := hg i f hi
  have hlt : i < fs.size := (Array.getElem?_eq_some_iff.1 hi).1
  exact ⟨_, h1.trans (List.getElem?_eq_getElem (by omega))⟩
set_option maxRecDepth 100000 in
theorem open_bool2 (h : DataW.trod enc Try.prog w 0 (fun _ => true) true fuel 57 cs = some x) : ∃ a b : Bool, cs = [.bool a, .bool b] := by
  obtain ⟨xs, m, _, _, hl, hx, hf⟩ := DataW.trod_array Try.underlying57 h
  have hl' : cs.length = 2 := by rw [hl]; exact of_decide_eq_true (by kernel_rfl)
  have c0 : Try.prog.cellsOf 4 = 1 := by kernel_rfl
  match xs, hx, cs, hl' with
  | [y0, y1], _, [v0, v1], _ =>
    have g0 := hf 0 (by omega)
    have g1 := hf 1 (by omega)
    simp [c0] at g0 g1
    obtain ⟨a, ha, _⟩ := DataW.trod_bool Try.underlying4 g0
    obtain ⟨b, hb, _⟩ := DataW.trod_bool Try.underlying4 g1
    simp only [List.cons.injEq, and_true] at ha hb
    subst ha hb
    exact ⟨a, b, rfl⟩
theorem agg_of_cells {cs : Array Value} {l : List Value} (h : (Value.agg cs).cells.toList = l) : Value.agg cs = .agg l.toArray := by
  subst h; simp [Value.cells]
theorem open_disk_arg {v : Value} {d : DataW H} {p : List MemPlace} {r : Reach} {b0 : Nat} (hv : Value.okWide Try.prog w r b0 25 v) (h : DataW.Trod enc Try.prog w 0 (fun _ => true) true 25 v d p) :
    ∃ (A : Option Addr) (b : List ByteArray) (c : Nat) (A' : Option Addr) (l : List Wr) (c' : Nat), v = .agg #[.slice A b.length c, .slice A' l.length c'] ∧ Sl w A b.length c (b.map sv) ∧ Sl w A' l.length c' (wvs l) ∧ (∀ y ∈ l, okWr y) := by
  obtain ⟨cs, rfl, _⟩ := okWide_struct Try.underlying25 hv
  obtain ⟨fuel, hf⟩ := h
  obtain ⟨A, b, c, A', l, c', e, h1, h2, h3⟩ := open_disk hf
  exact ⟨A, b, c, A', l, c', agg_of_cells e, h1, h2, h3⟩
theorem open_wr_arg {v : Value} {d : DataW H} {p : List MemPlace} {r : Reach} {b0 : Nat} (hv : Value.okWide Try.prog w r b0 43 v) (h : DataW.Trod enc Try.prog w 0 (fun _ => true) true 43 v d p) :
    ∃ y : Wr, v = .agg #[.int .i64 y.1, .string y.2] ∧ okWr y := by
  obtain ⟨cs, rfl, _⟩ := okWide_struct Try.underlying43 hv
  obtain ⟨fuel, hf⟩ := h
  obtain ⟨y, e, h1⟩ := open_wr hf
  exact ⟨y, agg_of_cells e, h1⟩
theorem slice_of_cells {A A' : Option Addr} {n c n' c' : Nat} (h : (Value.slice A n c).cells.toList = [.slice A' n' c']) : Value.slice A n c = .slice A' n' c' := by
  simpa [Value.cells] using h
theorem open_wrs_arg {v : Value} {d : DataW H} {p : List MemPlace} {r : Reach} {b0 : Nat} (hv : Value.okWide Try.prog w r b0 23 v) (h : DataW.Trod enc Try.prog w 0 (fun _ => true) true 23 v d p) :
    ∃ (A : Option Addr) (l : List Wr) (c : Nat), v = .slice A l.length c ∧ Sl w A l.length c (wvs l) ∧ ∀ y ∈ l, okWr y := by
  obtain ⟨a0, n0, c0, rfl⟩ := okWide_slice Try.underlying23 hv
  obtain ⟨fuel, hf⟩ := h
  obtain ⟨A, l, c, e, h1⟩ := open_wrsL hf
  exact ⟨A, l, c, slice_of_cells e, h1⟩
theorem open_bools_arg {v : Value} {d : DataW H} {p : List MemPlace} {r : Reach} {b0 : Nat} (hv : Value.okWide Try.prog w r b0 44 v) (h : DataW.Trod enc Try.prog w 0 (fun _ => true) true 44 v d p) :
    ∃ (A : Option Addr) (l : List Bool) (c : Nat), v = .slice A l.length c ∧ Sl w A l.length c (l.map Value.bool) := by
  obtain ⟨a0, n0, c0, rfl⟩ := okWide_slice Try.underlying44 hv
  obtain ⟨fuel, hf⟩ := h
  obtain ⟨A, l, c, e, h1⟩ := open_boolsL hf
  exact ⟨A, l, c, slice_of_cells e, h1⟩
theorem list5 {α : Type} {l : List α} (h : l.length = 5) : ∃ a b c d e, l = [a, b, c, d, e] := by match l, h with | [a, b, c, d, e], _ => exact ⟨a, b, c, d, e, rfl⟩
theorem list6 {α : Type} {l : List α} (h : l.length = 6) : ∃ a b c d e f, l = [a, b, c, d, e, f] := by match l, h with | [a, b, c, d, e, f], _ => exact ⟨a, b, c, d, e, f, rfl⟩
theorem list7 {α : Type} {l : List α} (h : l.length = 7) : ∃ a b c d e f g, l = [a, b, c, d, e, f, g] := by match l, h with | [a, b, c, d, e, f, g], _ => exact ⟨a, b, c, d, e, f, g, rfl⟩
theorem list8 {α : Type} {l : List α} (h : l.length = 8) : ∃ a b c d e f g i, l = [a, b, c, d, e, f, g, i] := by match l, h with | [a, b, c, d, e, f, g, i], _ => exact ⟨a, b, c, d, e, f, g, i, rfl⟩
end
end Go.Proofs.Ytikdicnpmobidaa
