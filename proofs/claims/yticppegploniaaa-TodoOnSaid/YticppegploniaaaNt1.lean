/- Walks of the small functions of package num and of the reference: isWidth, limit (for seats without sums). -/
import Derived.Test.YticppegploniaaaRows
import Derived.Test.YticppegploniaaaNumP0
import Derived.WalkKit
import Derived.WalkSpells
import Derived.WalkLawsBesides
import Derived.Lib.Hide
namespace Go.Proofs.Yticppegploniaaa
open Go.RowKit

def isW (w : Int) : Bool := decide (1 ≤ w) && decide (w ≤ 4)

set_option maxHeartbeats 400000 in
theorem numIsWidth_any (n : Int) (w : World) :
    Calls Try.prog 19 #[.int .i64 n] w fun e w' => e = .returned (.bool (isW n)) ∧ w = w' := by
  unfold isW
  by_cases h1 : 1 ≤ n <;> by_cases h2 : n ≤ 4
  all_goals
    go_enter Try.func19, Try.ntmps19
    go_wp2
    go_ret
    exact ⟨by simp [*], rfl⟩

def lim : Nat → Int
  | 0 => 1
  | n+1 => lim n * 256
theorem lim_pow (n : Nat) : lim n = 256 ^ n := by
  induction n with
  | zero => rfl
  | succ n ih => rw [lim, ih, Int.pow_succ]
theorem lim_bd (n : Nat) (h : n ≤ 4) : 1 ≤ lim n ∧ lim n ≤ 4294967296 := by
  match n, h with
  | 0, _ => decide
  | 1, _ => decide
  | 2, _ => decide
  | 3, _ => decide
  | 4, _ => decide

def takeV (l : List UInt8) (at_ w : Int) (none_ : Int) : Value := match takeS l at_ w with
  | some n => .tuple #[.int .i64 (n : Int), .int .i64 (at_ + w), .int .i64 0]
  | none => .tuple #[.int .i64 0, .int .i64 0, .int .i64 none_]

end Go.Proofs.Yticppegploniaaa
