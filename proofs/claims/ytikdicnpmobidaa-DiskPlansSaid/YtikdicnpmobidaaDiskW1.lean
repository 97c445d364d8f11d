/- Walks of the small functions of package disk and of the reference: has, takes, isFlush, may. -/
import Derived.Test.YtikdicnpmobidaaRows
import Derived.Test.YtikdicnpmobidaaDiskP1
namespace Go.Proofs.Ytikdicnpmobidaa
open Go.RowKit

def hasS (n : Nat) (at_ : Int) : Bool := decide (0 ≤ at_) && decide (at_ < n)
def takesS (n : Nat) (x : Wr) : Bool := hasS n x.1 && ((x.2.size : Int) == 40)
def isFl (x : Wr) : Bool := (x.1 == -1) && x.2.toList.isEmpty

set_option maxHeartbeats 1000000 in
theorem has_any (A : Option Addr) (n c : Nat) (at_ : Int) (w : World) :
    Calls Try.prog 31 #[.slice A n c, .int .i64 at_] w fun e w' => e = .returned (.bool (hasS n at_)) ∧ w = w' := by
  unfold hasS
  by_cases h1 : 0 ≤ at_ <;> by_cases h2 : at_ < n
  all_goals
    go_enter Try.func31, Try.ntmps31
    go_wp2
    go_ret
    exact ⟨by simp [*], rfl⟩

set_option maxHeartbeats 1000000 in
theorem isFlush_any (a : Int) (s : ByteArray) (w : World) :
    Calls Try.prog 48 #[.agg #[.int .i64 a, .string s]] w fun e w' => e = .returned (.bool (isFl (a, s))) ∧ Ext w w' := by
  unfold isFl
  have HA := fun v => Lib.hid ((Ext.refl w).alloc (.cells #[.int .i64 v, .string s] 43))
  rcases Decidable.em (a = -1) with rfl | h1 <;> cases h2 : s.toList.isEmpty
  all_goals
    go_enter Try.func48, Try.ntmps48
    go_wp2
    go_ret
    exact ⟨by simp_all, (HA _).out⟩

set_option maxHeartbeats 1000000 in
theorem takes_any (A : Option Addr) (n c : Nat) (a : Int) (s : ByteArray) (w : World) :
    Calls Try.prog 30 #[.slice A n c, .agg #[.int .i64 a, .string s]] w fun e w' => e = .returned (.bool (takesS n (a, s))) ∧ Ext w w' := by
  unfold takesS
  have HA := Lib.hid ((Ext.refl w).alloc (.cells #[.int .i64 a, .string s] 43))
  cases h1 : hasS n a
  · go_enter Try.func30, Try.ntmps30
    go_wp2_with (go_at_call 31; refine (has_any _ _ _ _ _).mono ?_; rintro e w' ⟨rfl, rfl⟩)
    go_ret
    exact ⟨by simp_all <;> omega, HA.out⟩
  · go_enter Try.func30, Try.ntmps30
    go_wp2_with (go_at_call 31; refine (has_any _ _ _ _ _).mono ?_; rintro e w' ⟨rfl, rfl⟩)
    go_ret
    exact ⟨by simp_all <;> omega, HA.out⟩

set_option maxHeartbeats 1000000 in
theorem may_any (A A' : Option Addr) (n c n' c' : Nat) (a : Int) (s : ByteArray) (w : World) :
    Calls Try.prog 29 #[.agg #[.slice A n c, .slice A' n' c'], .int .i64 a, .string s] w fun e w' => e = .returned (.bool (takesS n (a, s))) ∧ Ext w w' := by
  unfold takesS hasS
  have HA := Lib.hid ((Ext.refl w).alloc (.cells #[.slice A n c, .slice A' n' c'] 25))
  by_cases h1 : 0 ≤ a <;> by_cases h2 : a < n
  all_goals
    go_enter Try.func29, Try.ntmps29
    go_wp2
    go_ret
    exact ⟨by simp_all <;> omega, HA.out⟩
end Go.Proofs.Ytikdicnpmobidaa
