/- The walk of HeapHeld. -/
import Derived.Test.YtclpeeemnmhdcaaHeapL6o
import Derived.Test.YtclpeeemnmhdcaaHeapL6e
import Derived.Test.YtclpeeemnmhdcaaHeapL6l
import Derived.Test.YtclpeeemnmhdcaaHeapL6n
namespace Go.Proofs.Ytclpeeemnmhdcaa
open Go.RowKit
theorem held_any (R : Option Addr) (l : List HC) (n q : Nat) (keep : Int) (leaf : Bool) (A : Option Addr) (it : List It) (m c : Nat) (H : Option Addr) (held : List Int) (t d : Nat) (w : World) (hA : HcSl w R n q l) (hm : m = it.length) (hI : Sl w A m c (ivs it)) (ht : t = held.length) (hH : Sl w H t d (held.map iv)) :
    Calls Try.prog 8 #[.agg #[.slice R n q, .int .i64 keep], .agg #[.bool leaf, .slice A m c], .slice H t d] w fun e w' => e = .returned (.bool true) ∧ Ext w w' := by
  cases hr : mayH ⟨l, keep⟩ 60
  · exact held_out R l n q keep leaf A it m c H held t d w hA hm hI ht hH (.inl hr)
  rcases Nat.lt_or_ge 10 m with h10 | h10
  · exact held_out R l n q keep leaf A it m c H held t d w hA hm hI ht hH (.inr (.inl h10))
  rcases Nat.lt_or_ge 20 t with h20 | h20
  · exact held_out R l n q keep leaf A it m c H held t d w hA hm hI ht hH (.inr (.inr h20))
  cases hg : (ndR it && leadsC l leaf it)
  · exact held_no R l n q keep leaf A it m c H held t d w hA hm hI ht hH hr h10 h20 ⟨(alloc_bad (held := held) hg).2.1, .inl (alloc_bad (held := held) hg).1⟩
  rcases first_idx (l := l) (fun k hk => (right_ref (may_iff hr).2.2 k hk).1) with ⟨hf, _⟩ | ⟨hf, _⟩
  · exact held_no R l n q keep leaf A it m c H held t d w hA hm hI ht hH hr h10 h20 ⟨(alloc_full (held := held) hg hf).2.1, .inr (alloc_full (held := held) hg hf).1⟩
  cases hlf : leaf
  · subst hlf
    exact held_over R l n q keep false A it m c H held t d w hA hm hI ht hH rfl hr h10 h20 _ hg hf rfl
  · subst hlf
    exact held_leaf R l n q keep true A it m c H held t d w hA hm hI ht hH rfl hr h10 h20 _ hg hf rfl
end Go.Proofs.Ytclpeeemnmhdcaa
