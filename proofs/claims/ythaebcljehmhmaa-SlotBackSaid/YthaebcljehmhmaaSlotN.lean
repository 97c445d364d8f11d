/- The contracts of layer 3 with their values laid by equations. -/
import Derived.Test.YthaebcljehmhmaaSlotW9
import Derived.Deep.DeepCutAuto
import Derived.Deep.RegionHeld3
import Derived.Deep.DrawnRows
namespace Go.Proofs.Ythaebcljehmhmaa
open Go.RowKit

theorem eq_same (a b c : Int) (w : World) : (Op.equalIn 10000 23 (.agg #[.int .i64 a, .int .i64 b, .int .i64 c]) (.agg #[.int .i64 a, .int .i64 b, .int .i64 c])).run Try.prog w = .ok true w := by
  have h := eq_sup a b c a b c w
  simpa using h
theorem sup_ex (x : Sup) : ∃ g z s, x = ⟨g, z, s⟩ := ⟨x.g, x.z, x.s, rfl⟩
theorem pickV_ex (a b : ByteArray) : ∃ i g z s e, pickV a b = .tuple #[.int .i64 i, .agg #[.int .i64 g, .int .i64 z, .int .i64 s], .int .i64 e] := ⟨pickI a b, (pickX a b).g, (pickX a b).z, (pickX a b).s, pickE a b, rfl⟩

section
variable (g z s : Int) (w : World)
theorem slotPrint_is {x : ByteArray} {e : Int} (h1 : supB ⟨g, z, s⟩ = x) (h2 : supE ⟨g, z, s⟩ = e) : Calls Try.prog 9 #[.agg #[.int .i64 g, .int .i64 z, .int .i64 s]] w fun r w' => r = .returned (.tuple #[.string x, .int .i64 e]) ∧ Ext w w' := by
  subst h1 h2; exact slotPrint_any g z s w
theorem ref03Print_is {x : ByteArray} {e : Int} (h1 : supB ⟨g, z, s⟩ = x) (h2 : supE ⟨g, z, s⟩ = e) : Calls Try.prog 10 #[.agg #[.int .i64 g, .int .i64 z, .int .i64 s]] w fun r w' => r = .returned (.tuple #[.string x, .int .i64 e]) ∧ Ext w w' := by
  subst h1 h2; exact ref03Print_any g z s w
theorem slotRight_is {r : Bool} (h : supR ⟨g, z, s⟩ = r) : Calls Try.prog 17 #[.agg #[.int .i64 g, .int .i64 z, .int .i64 s]] w fun e w' => e = .returned (.bool r) ∧ Ext w w' := by
  subst h; exact slotRight_any g z s w
theorem ref03Right_is {r : Bool} (h : supR ⟨g, z, s⟩ = r) : Calls Try.prog 18 #[.agg #[.int .i64 g, .int .i64 z, .int .i64 s]] w fun e w' => e = .returned (.bool r) ∧ Ext w w' := by
  subst h; exact ref03Right_any g z s w
end
section
variable (b : ByteArray) (w : World) (hs : b.size ≤ maxLen)
include hs
theorem slotParse_is {g z s e : Int} (h1 : parX b = ⟨g, z, s⟩) (h2 : parE b = e) : Calls Try.prog 11 #[.string b] w fun r w' => r = .returned (.tuple #[.agg #[.int .i64 g, .int .i64 z, .int .i64 s], .int .i64 e]) ∧ Ext w w' := by
  have k := slotParse_any b w hs
  rw [h1, h2] at k; exact k
theorem ref03Parse_is {g z s e : Int} (h1 : parX b = ⟨g, z, s⟩) (h2 : parE b = e) : Calls Try.prog 12 #[.string b] w fun r w' => r = .returned (.tuple #[.agg #[.int .i64 g, .int .i64 z, .int .i64 s], .int .i64 e]) ∧ Ext w w' := by
  have k := ref03Parse_any b w hs
  rw [h1, h2] at k; exact k
end
section
variable (a b : ByteArray) (w : World) (ha : a.size ≤ maxLen) (hb : b.size ≤ maxLen)
include ha hb
theorem ref03Pick_is {i g z s e : Int} (h : pickV a b = .tuple #[.int .i64 i, .agg #[.int .i64 g, .int .i64 z, .int .i64 s], .int .i64 e]) : Calls Try.prog 14 #[.string a, .string b] w fun r w' => r = .returned (.tuple #[.int .i64 i, .agg #[.int .i64 g, .int .i64 z, .int .i64 s], .int .i64 e]) ∧ Ext w w' := by
  have k := ref03Pick_any a b w ha hb
  rw [h] at k; exact k
end

theorem eq_diff {a b c d e f : Int} (h : (⟨a, b, c⟩ : Sup) ≠ ⟨d, e, f⟩) (w : World) : (Op.equalIn 10000 23 (.agg #[.int .i64 a, .int .i64 b, .int .i64 c]) (.agg #[.int .i64 d, .int .i64 e, .int .i64 f])).run Try.prog w = .ok false w := by
  have k := eq_sup a b c d e f w
  rw [decide_eq_false (fun e => h (by simp only [Prod.mk.injEq] at e; obtain ⟨rfl, rfl, rfl⟩ := e; rfl))] at k
  exact k
theorem block_ne {x y : Sup} (hx : supR x = true) (hy : supR y = true) (h : x ≠ y) : ((supB x).toList == (supB y).toList) = false := by
  rw [bytes_same, decide_eq_false (fun e => h (supB_inj hx hy e))]
/-- What is picked of two right ones. -/
theorem pick_two {x y : Sup} (hx : supR x = true) (hy : supR y = true) : pickV (supB x) (supB y) = .tuple #[.int .i64 (if x.g < y.g then 1 else 0), Sup.v (if x.g < y.g then y else x), .int .i64 0] := by
  unfold pickV pickI pickX pickE
  rw [par_print _ hx, par_print _ hy]
theorem pick_odd1 {x : Sup} {o : ByteArray} (hx : supR x = true) (ho : parS o = none) : pickV (supB x) o = .tuple #[.int .i64 0, Sup.v x, .int .i64 0] := by
  unfold pickV pickI pickX pickE
  rw [par_print _ hx, ho]
theorem pick_odd2 {x : Sup} {o : ByteArray} (hx : supR x = true) (ho : parS o = none) : pickV o (supB x) = .tuple #[.int .i64 1, Sup.v x, .int .i64 0] := by
  unfold pickV pickI pickX pickE
  rw [par_print _ hx, ho]
theorem pick_none {o : ByteArray} (ho : parS o = none) : pickV o o = .tuple #[.int .i64 0, Sup.v sup0, .int .i64 4] := by
  unfold pickV pickI pickX pickE
  rw [ho]
end Go.Proofs.Ythaebcljehmhmaa
