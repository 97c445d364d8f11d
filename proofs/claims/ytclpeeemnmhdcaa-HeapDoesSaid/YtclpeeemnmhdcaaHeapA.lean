/- The contracts of package heap, all together. -/
import Derived.Test.YtclpeeemnmhdcaaHpB
namespace Go.Proofs.Ytclpeeemnmhdcaa
end Go.Proofs.Ytclpeeemnmhdcaa
