/-
  A world for the witness of a card that lists the two tables of unicode/utf8.
-/
import Derived.Test.YtbcpfakdmnccmaaDoorCards
import Derived.Test.YtbcpfakdmnccmaaDoorTie
import Derived.ProofKit
import Derived.OpenShut
import Derived.Deep.DeepHandedRow
import Derived.Lib.LaidTab
namespace Go.Proofs.YtbcpfakdmnccmaaDoor
open Go.ChangeShapes Go.WideShapes Go.ChangeAt Go.RowKit

/-- These bytes in a block's place. -/
def layU8 (l : List Nat) (o : Obj) : Obj :=
  match o with
  | .cells _ t frozen => .cells (l.map fun c : Nat => Value.int .u8 (c : Int)).toArray t frozen
  | o => o
/-- A world for the witness: the settled one, the tables holding what their initialisers lay. -/
noncomputable def laidWorld (os : Os) : World :=
  let w := World.holding Tryd.prog os ⟨#[], #[], []⟩
  { w with heap := (w.heap.modify 1 (layU8 Go.Pinned.utf8FirstZ)).modify 2 (layU8 ([128, 191, 160, 191, 128, 159, 144, 191, 128, 143] ++ List.replicate 22 0)) }
end Go.Proofs.YtbcpfakdmnccmaaDoor
