/- The walks of Compare, Add and Sub. -/
import Derived.Test.YtgcalhnfoakggaaDoorRAll
import Derived.Test.YtgcalhnfoakggaaDoorMn2
import Derived.Test.YtgcalhnfoakggaaDoorTell
import Derived.StillTailTactics
import Derived.Deep.RegionWith
namespace Go.Proofs.YtgcalhnfoakggaaDoor
open Go.RowKit

end Go.Proofs.YtgcalhnfoakggaaDoor
