/- So package mount is as the law of layer 16 asks it. -/
import Derived.Test.YtjbfopnkeclfgaaGreatK41
import Derived.Test.YtjbfopnkeclfgaaGreatK48
namespace Go.Proofs.YtjbfopnkeclfgaaGreat
set_option maxRecDepth 20000
open Go.RowKit

noncomputable def mtOk : MtOk := mtOk_of mtC
end Go.Proofs.YtjbfopnkeclfgaaGreat
