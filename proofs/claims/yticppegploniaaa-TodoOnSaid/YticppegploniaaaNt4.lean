/- Rows of bytes that are compared. -/
import Derived.Test.YticppegploniaaaNt3
import Derived.Deep.QuietTactic
import Derived.BigQuiet
namespace Go.Proofs.Yticppegploniaaa
open Go.RowKit

theorem rowB_false (a b : List UInt8) (h : a ≠ b) : rowB a b = false := by unfold rowB; simpa using h
theorem rowB_true (a b : List UInt8) (h : a = b) : rowB a b = true := by unfold rowB; simpa using h
theorem Cells.drewN {w : World} {A : Option Addr} {xs : List Value} (h : Cells w A xs) (n : Nat) : Cells (w.drewN n) A xs := h

end Go.Proofs.Yticppegploniaaa
