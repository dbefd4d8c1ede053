/-
  Trees (the document's own): Apply, by a contract.
-/
import Derived.Test.YtnpgfbgnbonhfaaRtrC
import Derived.Test.YtnpgfbgnbonhfaaChg
import Derived.Deep.RegionHeldLaw
namespace Go.Proofs.Ytnpgfbgnbonhfaa
open Go.RowKit
open BigFrame

def stepS (l : List FileS) (c : ChangeS) : List FileS × Nat := if c.2.1 = true then dropS l c.1 else putS l (c.1, c.2.2.1, c.2.2.2)
def applyS : List FileS → List ChangeS → List FileS × Nat
  | l, [] => (l, 0)
  | l, c :: r => if (stepS l c).2 = 0 then applyS (stepS l c).1 r else ([], (stepS l c).2)
def applyT (l : List FileS) (c : List ChangeS) : List FileS × Nat :=
  if rightT l = true then (if c.length ≤ 100 then applyS l c else ([], 6)) else ([], 5)
section
set_option maxRecDepth 100000
set_option maxHeartbeats 4000000
end
end Go.Proofs.Ytnpgfbgnbonhfaa
