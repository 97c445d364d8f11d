/- The walk of HeapBack. -/
import Derived.Test.YtclpeeemnmhdcaaHeapL3o
import Derived.Test.YtclpeeemnmhdcaaHeapL301
import Derived.Test.YtclpeeemnmhdcaaHeapL303
import Derived.Test.YtclpeeemnmhdcaaHeapL300
import Derived.Test.YtclpeeemnmhdcaaHeapL311
import Derived.Test.YtclpeeemnmhdcaaHeapL313
import Derived.Test.YtclpeeemnmhdcaaHeapL310
namespace Go.Proofs.Ytclpeeemnmhdcaa
open Go.RowKit
theorem back_any (R : Option Addr) (l : List HC) (n q : Nat) (keep : Int) (leaf : Bool) (A : Option Addr) (it : List It) (m c : Nat) (p : Int) (w : World) (hA : HcSl w R n q l) (hm : m = it.length) (hI : Sl w A m c (ivs it)) :
    Calls Try.prog 5 #[.agg #[.slice R n q, .int .i64 keep], .agg #[.bool leaf, .slice A m c], .int .i64 p] w fun e w' => e = .returned (.bool true) ∧ Ext w w' := by
  cases hr : mayH ⟨l, keep⟩ 60
  · exact back_out R l n q keep leaf A it m c p w hA hm hI (.inl hr)
  rcases Nat.lt_or_ge 10 m with h10 | h10
  · exact back_out R l n q keep leaf A it m c p w hA hm hI (.inr h10)
  have hfi := first_idx (l := l) (fun k hk => (right_ref (may_iff hr).2.2 k hk).1)
  cases hu : usedC l p
  · cases hg : (ndR it && leadsC l leaf it)
    · exact back_01 R l n q keep leaf A it m c p w hA hm hI hr h10 hu hg
    · rcases hfi with ⟨hf, _⟩ | ⟨hf, _⟩
      · exact back_03 R l n q keep leaf A it m c p w hA hm hI hr h10 hu hg hf
      · exact back_00 R l n q keep leaf A it m c p w hA hm hI hr h10 hu _ hg hf rfl
  · obtain ⟨k, hk, e, hp⟩ := usedC_iff hu
    cases hg : (ndR it && leadsC l leaf it)
    · exact back_11 R l n q keep leaf A it m c p w hA hm hI hr h10 k e hk hp hg
    · rcases hfi with ⟨hf, _⟩ | ⟨hf, _⟩
      · exact back_13 R l n q keep leaf A it m c p w hA hm hI hr h10 k e hk hp hg hf
      · exact back_10 R l n q keep leaf A it m c p w hA hm hI hr h10 k e hk hp _ hg hf rfl
end Go.Proofs.Ytclpeeemnmhdcaa
