/- NameTells is true for every input: no condition. -/
import Derived.Test.YtpdeagndandnjaaDoorNmF
import Derived.Test.YtpdeagndandnjaaDoorNmQ
import Derived.Test.YtpdeagndandnjaaDoorNmN
import Derived.Test.YtpdeagndandnjaaDoorCards
import Derived.Test.YtpdeagndandnjaaDoorTie
import Derived.ProofKit
import Derived.OpenShut
import Derived.LaidMore
import Derived.Lay
import Derived.SevenTiedAt
import Derived.Stop.Joined
namespace Go.Proofs.YtpdeagndandnjaaDoor.nameTells
set_option maxRecDepth 20000
open Go.ChangeShapes Go.WideShapes Go.ChangeAt Go.RowKit Go.Deep
open Go.ChangeMaps (open_string shut_string)

set_option maxRecDepth 100000 in
theorem lifted (os : Os) (started : os.Started) (H : Type) (enc : TypeId × Value → H) :
    ReturnsInHanded {} Tryd.checked os 3 .any (fun w args => (Rows.nameTellsSpec.pre enc Tryd.prog Tryd.f3 Rows.nameTellsRow.domain false w args ∧ laidMetH Tryd.prog Rows.nameTellsRow.laid w) ∧ sizedMet enc Tryd.prog Tryd.f3 (OpenSpec.ofChange Rows.nameTellsSpec) false w args) (Rows.nameTellsSpec.post enc Tryd.prog Tryd.f3 false true false false) := by
  refine returnsInHanded_of_change_and (C := Tryd.checked) (X := fun w _ => laidMetH Tryd.prog Rows.nameTellsRow.laid w) (fun _ _ _ hh h => h.of_heap hh) own started (by kernel_rfl) Tryd.func3
    (ChangeSpec.witness_shaped (enc := enc) (C := Tryd.checked) (os := os) (X := fun w _ => laidMetH Tryd.prog Rows.nameTellsRow.laid w) false (World.laidAll Tryd.prog os Rows.nameTellsRow.laid) #[.agg #[.string (ByteArray.mk #[]), .int .i64 0, .slice none 0 0, .slice none 0 0]] 8 (World.laidAll_os _ _ _)
      (World.shaped_of_ZipB (by kernel_rfl) (by kernel_rfl)) (by kernel_rfl) (by kernel_rfl) (by kernel_rfl)
      (by rw [MakeChecks.laidMetH_plain _ _ _ (by kernel_rfl)]; exact laidMet_laidAll _ (by kernel_rfl) (by kernel_rfl))) ?_
  intro W base args ds gs before hval0 hW hcnd _ hL _
  have hval : ∀ (j : Nat) t v, Tryd.f3.params[j]? = some t → args[j]? = some v → Value.okWide Tryd.prog W .any base t v := hval0
  have hW' := hW
  obtain ⟨p, q, hA0, hV, rfl, _, _⟩ := hW
  have hA : DataW.TrodAll enc Tryd.prog W 0 (fun _ => true) true Tryd.f3.params.toList args.toList ds p := hA0
  rw [Tryd.params3] at hA hval
  have hAk := hA
  obtain ⟨v0, vs0, d0, ds0, p0, q0, hargs, rfl, rfl, h0, r0⟩ := trodAll_cons hA
  obtain ⟨rfl, rfl, rfl⟩ := trodAll_nil r0
  obtain rfl : args = #[v0] := by cases args; simp_all
  obtain ⟨rfl, rfl⟩ := trodVars_none hV
  obtain ⟨cs0, n0, rfl, hsz0, hg0⟩ := open_agg Tryd.underlying24 (hval 0 24 v0 rfl rfl) h0
  have hsl0 : cs0.length = 4 := by rw [hsz0]; exact of_decide_eq_true (by kernel_rfl)
  obtain ⟨c0_0, c0_1, c0_2, c0_3, rfl⟩ := list4 hsl0
  obtain ⟨_, g0_0⟩ := hg0 0 _ rfl
  have z0_0 : Tryd.prog.cellsOf 9 = 1 := by kernel_rfl
  simp [z0_0] at g0_0
  obtain ⟨x0_0, e0_0, _, w0_0⟩ := DataW.trod_string Tryd.underlying9 g0_0
  simp only [List.cons.injEq, and_true] at e0_0
  obtain rfl := e0_0
  obtain ⟨_, g0_1⟩ := hg0 1 _ rfl
  have z0_1 : Tryd.prog.cellsOf 3 = 1 := by kernel_rfl
  simp [z0_1] at g0_1
  obtain ⟨x0_1, e0_1, _, w0_1⟩ := DataW.trod_int Tryd.underlying3 g0_1
  simp only [List.cons.injEq, and_true] at e0_1
  obtain rfl := e0_1
  obtain ⟨_, g0_2⟩ := hg0 2 _ rfl
  have z0_2 : Tryd.prog.cellsOf 22 = 1 := by kernel_rfl
  simp [z0_2] at g0_2
  obtain ⟨A0_2, l0_2, k0_2, e0_2, s0_2⟩ := open_zintsL g0_2
  simp only [List.cons.injEq, and_true] at e0_2
  obtain rfl := e0_2
  obtain ⟨_, g0_3⟩ := hg0 3 _ rfl
  have z0_3 : Tryd.prog.cellsOf 22 = 1 := by kernel_rfl
  simp [z0_3] at g0_3
  obtain ⟨A0_3, l0_3, k0_3, e0_3, s0_3⟩ := open_zintsL g0_3
  simp only [List.cons.injEq, and_true] at e0_3
  obtain rfl := e0_3
  clear hA0 hval0
  refine (ntells_any nmOk x0_0 x0_1 A0_2 A0_3 l0_2 l0_3 k0_2 k0_3 W s0_2 s0_3).mono fun e W' ⟨he, bel⟩ => ?_
  subst he
  exact ⟨_, rfl, _, _, _, [], _, [], hW', trodAll_mk1 (shut_bool Tryd.underlying4 _), trodAll_below bel _ _ _ _ (by intro t ht; simp only [Tryd.params3, List.mem_cons, List.not_mem_nil, or_false] at ht; rcases ht with rfl <;> exact ⟨by kernel_rfl, of_decide_eq_true (by kernel_rfl)⟩) hAk, rfl, bel.frame _, fun h => by cases h⟩

theorem over : Rows.nameTellsRow.holds Tryd.pinned (OpenSpec.ofChange Rows.nameTellsSpec) :=
  OpenClaim.holds_of_wide 3 Tryd.f3 rfl rfl rfl rfl rfl rfl rfl ⟨rfl, rfl, rfl, rfl, rfl⟩ rfl rfl rfl rfl rfl (by kernel_rfl) Tryd.func3 (by kernel_rfl)
    (of_decide_eq_true (by kernel_rfl)) (by unfold Func.isWrapper; first | (rw [if_pos (by decide +kernel)]; kernel_rfl) | (rw [if_neg (by decide +kernel)]; exact ⟨rfl, rfl⟩))
    (fun os started H enc _ => lifted os started H enc)

/-- THE STATEMENT. -/
theorem proved : Rows.NameTellsCardSaid :=
  Claim7.holds_tied_plain_at .later [] [.data, .pinned] true (true, "23b30d0e75e5aedc73a9dc0a59589908f84528916257ec592174fa3d9013b9d9") false over (fun _ h => by cases h) (by kernel_rfl) (fun _ h => by cases h) nameTells_row_tie rfl ⟨rfl, rfl⟩ (by kernel_rfl) rfl
    (fun f fn hf hfn => by
      obtain rfl : f = 3 := Option.some.inj ((show Tryd.prog.funcNamed "assart/assartlaw17.NameTells" = some 3 by kernel_rfl).symm.trans hf) |>.symm
      obtain rfl : fn = Tryd.f3 := (Option.some.inj (Tryd.func3.symm.trans hfn)).symm
      exact ⟨by kernel_rfl, fun j t ht => by
        rw [Tryd.params3] at ht
        have hm : t ∈ [24] := by simpa using Array.mem_of_getElem? ht
        have hall : ([24].all fun u => !Tryd.prog.wantsStandIn u) = true := by kernel_rfl
        exact (show Tryd.prog.wantsStandIn t = false by simpa using List.all_eq_true.1 hall t hm)⟩)
    (by kernel_rfl)
#print axioms proved
end Go.Proofs.YtpdeagndandnjaaDoor.nameTells
