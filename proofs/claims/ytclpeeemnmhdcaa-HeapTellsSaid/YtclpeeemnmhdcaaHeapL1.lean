/- The walk of HeapTells. -/
import Derived.Test.YtclpeeemnmhdcaaHeapL1a
import Derived.Test.YtclpeeemnmhdcaaHeapL1b
import Derived.Test.YtclpeeemnmhdcaaHeapL1c
namespace Go.Proofs.Ytclpeeemnmhdcaa
open Go.RowKit
theorem tells_any (R1 R2 : Option Addr) (l1 l2 : List HC) (n1 n2 q1 q2 : Nat) (k1 k2 n keep : Int) (w : World) (hA : HcSl w R1 n1 q1 l1) (hB : HcSl w R2 n2 q2 l2) :
    Calls Try.prog 3 #[.agg #[.slice R1 n1 q1, .int .i64 k1, .slice R2 n2 q2, .int .i64 k2, .int .i64 n, .int .i64 keep]] w fun e w' => e = .returned (.bool true) ∧ Ext w w' := by
  cases hs1 : smallH ⟨l1, k1⟩ 60
  · exact tells_a R1 R2 l1 l2 n1 n2 q1 q2 k1 k2 n keep w hA hB (.inl hs1)
  cases hs2 : smallH ⟨l2, k2⟩ 60
  · exact tells_a R1 R2 l1 l2 n1 n2 q1 q2 k1 k2 n keep w hA hB (.inr (.inl hs2))
  cases hr1 : rightH ⟨l1, k1⟩
  · exact tells_a R1 R2 l1 l2 n1 n2 q1 q2 k1 k2 n keep w hA hB (.inr (.inr hr1))
  cases hr2 : rightH ⟨l2, k2⟩
  · exact tells_b R1 R2 l1 l2 n1 n2 q1 q2 k1 k2 n keep w hA hB hs1 hs2 hr1 hr2
  · exact tells_c R1 R2 l1 l2 n1 n2 q1 q2 k1 k2 n keep w hA hB hs1 hs2 hr1 hr2
end Go.Proofs.Ytclpeeemnmhdcaa
