/- Package name as it landed answers what the laws of layer 17 ask. -/
import Derived.Test.YtpdeagndandnjaaDoorNmK
import Derived.Test.YtpdeagndandnjaaDoorNmS
namespace Go.Proofs.YtpdeagndandnjaaDoor
set_option maxRecDepth 20000
open Go.RowKit

theorem nmC : NmC where
  of := nameOf_any
  text := nameText_any
  path := namePath_any
  join := nameJoin_any
  within := fun A B a b n m c d w hn hm _ _ hA hB => nameWithin_any A B a b n m c d w hn hm hA hB
theorem nmOk : NmOk where
  toNmC := nmC
  shown := nshown_any nmC
end Go.Proofs.YtpdeagndandnjaaDoor
