/-
  TmDe, part 14.
-/
import Derived.Test.YtbnafihigoekeaaGreatDoorZe1
import Derived.Deep.QuietTactic
import Derived.BigQuiet
import Derived.Deep.RegionHeld3
import Derived.Deep.DrawnRows
namespace Go.Proofs.YtbnafihigoekeaaGreatDoor
open Go.RowKit
section
set_option maxHeartbeats 1000000
set_option maxRecDepth 100000
def intCells (l : List Int) : List Value := l.map (Value.int .i64)
end
section
variable {w : World}
end
end Go.Proofs.YtbnafihigoekeaaGreatDoor
