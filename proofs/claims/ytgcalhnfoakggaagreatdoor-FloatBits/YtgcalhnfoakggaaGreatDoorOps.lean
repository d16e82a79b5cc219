/- The walks of Compare, Add and Sub. -/
import Derived.Test.YtgcalhnfoakggaaGreatDoorRAll
import Derived.Test.YtgcalhnfoakggaaGreatDoorMn2
import Derived.Test.YtgcalhnfoakggaaGreatDoorTell
import Derived.StillTailTactics
import Derived.Deep.RegionWith
namespace Go.Proofs.YtgcalhnfoakggaaGreatDoor
open Go.RowKit

end Go.Proofs.YtgcalhnfoakggaaGreatDoor
