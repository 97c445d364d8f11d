/- The walk of NodePuts. -/
import Derived.Test.YtpcchbcibcfldaaNodeL7a
import Derived.Test.YtpcchbcibcfldaaNodeL7b
namespace Go.Proofs.Ytpcchbcibcfldaa
open Go.RowKit

theorem puts_any (leaf : Bool) (A : Option Addr) (l : List It) (c : Nat) (K V : Int) (w : World) (hA : Sl w A l.length c (ivs l)) :
    Calls Try.prog 9 #[.agg #[.bool leaf, .slice A l.length c], .agg #[.int .i64 K, .int .i64 V]] w fun e w' => e = .returned (.bool true) ∧ Ext w w' := by
  cases hr : ndR l
  · exact puts_no leaf A l c K V w hr hA
  cases leaf
  · exact puts_other A l c K V w hr hA
  by_cases h0 : K < 0
  · exact puts_b0 A l c K V w hr h0 hA
  by_cases h1 : 2147483647 < K
  · exact puts_b1 A l c K V w hr h0 h1 hA
  by_cases h2 : V < 0
  · exact puts_b2 A l c K V w hr h0 h1 h2 hA
  by_cases h3 : 2147483647 < V
  · exact puts_b3 A l c K V w hr h0 h1 h2 h3 hA
  cases hb : atB l K
  · exact puts_f A l c K V w hr h0 h1 h2 h3 hb hA
  · exact puts_t A l c K V w hr h0 h1 h2 h3 hb hA
end Go.Proofs.Ytpcchbcibcfldaa
