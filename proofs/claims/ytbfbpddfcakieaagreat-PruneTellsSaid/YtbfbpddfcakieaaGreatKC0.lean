/- PruneTells is true for every input: no condition. -/
import Derived.Test.YtbfbpddfcakieaaGreatK50
import Derived.Test.YtbfbpddfcakieaaGreatKL0
namespace Go.Proofs.YtbfbpddfcakieaaGreat.pruneTells
open Go.ChangeShapes Go.WideShapes Go.ChangeAt Go.RowKit Go.Deep
open Go.ChangeMaps (open_string shut_string)

set_option maxRecDepth 100000 in
theorem lifted (os : Os) (started : os.Started) (H : Type) (enc : TypeId × Value → H) :
    ReturnsInHanded {} Tryz.checked os 3 .any (Rows.pruneTellsSpec.pre6 enc Tryz.prog Tryz.f3 Rows.pruneTellsRow.domain false) (Rows.pruneTellsSpec.post enc Tryz.prog Tryz.f3 false true false false) := by
  refine returnsInHanded_of_change (C := Tryz.checked) own started (by kernel_rfl) Tryz.func3
    (ChangeSpec.witness6 (enc := enc) (C := Tryz.checked) false ⟨#[], #[.agg #[.slice none 0 0, .int .i64 0, .int .i64 0, .int .i64 0, .int .i64 0, .int .i64 0, .int .u8 0]], []⟩ 8 (by kernel_rfl) (by kernel_rfl) (by kernel_rfl) (by kernel_rfl)) ?_
  intro W base args ds gs before hval0 hW hcnd _
  have hval : ∀ (j : Nat) t v, Tryz.f3.params[j]? = some t → args[j]? = some v → Value.okWide Tryz.prog W .any base t v := hval0
  have hW' := hW
  obtain ⟨p, q, hA0, hV, rfl, _, _⟩ := hW
  have hA : DataW.TrodAll enc Tryz.prog W 0 (fun _ => true) true Tryz.f3.params.toList args.toList ds p := hA0
  rw [Tryz.params3] at hA hval
  have hAk := hA
  obtain ⟨v0, vs0, d0, ds0, p0, q0, hargs, rfl, rfl, h0, r0⟩ := trodAll_cons hA
  obtain ⟨rfl, rfl, rfl⟩ := trodAll_nil r0
  obtain rfl : args = #[v0] := by cases args; simp_all
  obtain ⟨rfl, rfl⟩ := trodVars_none hV
  obtain ⟨cs0, n0, rfl, hsz0, hg0⟩ := open_agg Tryz.underlying26 (hval 0 26 v0 rfl rfl) h0
  have hsl0 : cs0.length = 7 := by rw [hsz0]; exact of_decide_eq_true (by kernel_rfl)
  obtain ⟨c0_0, c0_1, c0_2, c0_3, c0_4, c0_5, c0_6, rfl⟩ := list7 hsl0
  obtain ⟨_, g0_0⟩ := hg0 0 _ rfl
  have z0_0 : Tryz.prog.cellsOf 24 = 2 := by kernel_rfl
  simp [z0_0] at g0_0
  obtain ⟨R0_0, l0_0, q0_0, k0_0, e0_0, s0_0⟩ := open_heap g0_0
  simp only [List.cons.injEq, and_true] at e0_0
  obtain ⟨rfl, rfl⟩ := e0_0
  obtain ⟨_, g0_1⟩ := hg0 1 _ rfl
  have z0_1 : Tryz.prog.cellsOf 3 = 1 := by kernel_rfl
  simp [z0_1] at g0_1
  obtain ⟨x0_1, e0_1, _, w0_1⟩ := DataW.trod_int Tryz.underlying3 g0_1
  simp only [List.cons.injEq, and_true] at e0_1
  obtain rfl := e0_1
  obtain ⟨_, g0_2⟩ := hg0 2 _ rfl
  have z0_2 : Tryz.prog.cellsOf 3 = 1 := by kernel_rfl
  simp [z0_2] at g0_2
  obtain ⟨x0_2, e0_2, _, w0_2⟩ := DataW.trod_int Tryz.underlying3 g0_2
  simp only [List.cons.injEq, and_true] at e0_2
  obtain rfl := e0_2
  obtain ⟨_, g0_3⟩ := hg0 3 _ rfl
  have z0_3 : Tryz.prog.cellsOf 3 = 1 := by kernel_rfl
  simp [z0_3] at g0_3
  obtain ⟨x0_3, e0_3, _, w0_3⟩ := DataW.trod_int Tryz.underlying3 g0_3
  simp only [List.cons.injEq, and_true] at e0_3
  obtain rfl := e0_3
  obtain ⟨_, g0_4⟩ := hg0 4 _ rfl
  have z0_4 : Tryz.prog.cellsOf 3 = 1 := by kernel_rfl
  simp [z0_4] at g0_4
  obtain ⟨x0_4, e0_4, _, w0_4⟩ := DataW.trod_int Tryz.underlying3 g0_4
  simp only [List.cons.injEq, and_true] at e0_4
  obtain rfl := e0_4
  obtain ⟨_, g0_5⟩ := hg0 5 _ rfl
  have z0_5 : Tryz.prog.cellsOf 5 = 1 := by kernel_rfl
  simp [z0_5] at g0_5
  obtain ⟨x0_5, e0_5, _, w0_5⟩ := DataW.trod_int Tryz.underlying5 g0_5
  simp only [List.cons.injEq, and_true] at e0_5
  obtain rfl := e0_5
  clear hA0 hval0
  refine (ptells_any R0_0 l0_0 _ q0_0 k0_0 x0_1 x0_2 x0_3 x0_4 x0_5 W (wf_u8 w0_5).1 s0_0).mono fun e W' ⟨he, bel⟩ => ?_
  subst he
  exact ⟨_, rfl, _, _, _, [], _, [], hW', trodAll_mk1 (shut_bool Tryz.underlying4 _), trodAll_below bel _ _ _ _ (by intro t ht; simp only [Tryz.params3, List.mem_cons, List.not_mem_nil, or_false] at ht; rcases ht with rfl <;> exact ⟨by kernel_rfl, of_decide_eq_true (by kernel_rfl)⟩) hAk, rfl, bel.frame _, fun h => by cases h⟩

theorem over : Rows.pruneTellsRow.holds Tryz.pinned (OpenSpec.ofChange Rows.pruneTellsSpec) :=
  OpenClaim.holds_of_wide 3 Tryz.f3 rfl rfl rfl rfl rfl rfl rfl ⟨rfl, rfl, rfl, rfl, rfl⟩ rfl rfl rfl rfl rfl (by kernel_rfl) Tryz.func3 (by kernel_rfl)
    (of_decide_eq_true (by kernel_rfl)) (by unfold Func.isWrapper; first | (rw [if_pos (by decide +kernel)]; kernel_rfl) | (rw [if_neg (by decide +kernel)]; exact ⟨rfl, rfl⟩))
    (fun os started H enc _ => lifted os started H enc)

/-- THE STATEMENT. -/
theorem proved : Rows.PruneTellsSaid := over
#print axioms proved
end Go.Proofs.YtbfbpddfcakieaaGreat.pruneTells
