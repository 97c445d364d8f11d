/- Plain laws of plans, and of what a crash keeps; no program in sight. -/
import Derived.Test.YtikdicnpmobidaaDiskL3
namespace Go.Proofs.Ytikdicnpmobidaa
open Go.RowKit

theorem doS_cons (b : List ByteArray) (l : List Wr) (x : Wr) (p : List Wr) : doS b l (x :: p) = match step1 b l x with
    | none => ((b, l), 0)
    | some s => ((doS s.1 s.2 p).1, (doS s.1 s.2 p).2 + 1) := rfl
theorem doS_take : ∀ (p : List Wr) (b : List ByteArray) (l : List Wr) (q : Nat), (doS b l (p.take q)).2 = min q (doS b l p).2
  | [], b, l, q => by simp [doS]
  | x :: p, b, l, 0 => by simp [doS]
  | x :: p, b, l, q + 1 => by
    rw [List.take_succ_cons, doS_cons, doS_cons]
    cases step1 b l x with
    | none => simp
    | some s =>
      have ih := doS_take p s.1 s.2 q
      simp only [ih]; omega
theorem doS_on : ∀ (p : List Wr) (b : List ByteArray) (l : List Wr) (q : Nat), q ≤ p.length →
    doS (doS b l (p.take q)).1.1 (doS b l (p.take q)).1.2 (p.drop (doS b l (p.take q)).2) = ((doS b l p).1, (doS b l p).2 - (doS b l (p.take q)).2)
  | [], b, l, q, _ => by simp [doS]
  | x :: p, b, l, 0, _ => by simp [doS]
  | x :: p, b, l, q + 1, h => by
    rw [List.take_succ_cons, doS_cons, doS_cons b l x p]
    cases hs : step1 b l x with
    | none => simp [doS_cons, hs]
    | some s =>
      have ih := doS_on p s.1 s.2 q (by simpa using h)
      simp only [List.drop_succ_cons, ih]
      simp
theorem step1_right {b : List ByteArray} {l : List Wr} {x : Wr} {s : List ByteArray × List Wr} (h : rightS b l = true) (hs : step1 b l x = some s) : rightS s.1 s.2 = true := by
  unfold step1 at hs
  split at hs
  · cases hs; exact rightS_write h
  · split at hs
    · cases hs; exact rightS_put h (by assumption)
    · cases hs
theorem doS_right : ∀ (p : List Wr) (b : List ByteArray) (l : List Wr), rightS b l = true → rightS (doS b l p).1.1 (doS b l p).1.2 = true
  | [], b, l, h => h
  | x :: p, b, l, h => by
    rw [doS_cons]
    cases hs : step1 b l x with
    | none => exact h
    | some s => exact doS_right p s.1 s.2 (step1_right h hs)
theorem doS_flush (b : List ByteArray) (l : List Wr) : doS b l [(-1, ByteArray.mk #[])] = ((writeL b l, []), 1) := by
  have h : step1 b l (-1, ByteArray.mk #[]) = some (writeL b l, []) := by unfold step1; rw [if_pos (by decide +kernel)]
  rw [doS_cons, h]; rfl
end Go.Proofs.Ytikdicnpmobidaa
