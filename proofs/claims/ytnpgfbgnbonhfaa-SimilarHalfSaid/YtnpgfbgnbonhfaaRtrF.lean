/-
  Trees (the document's own): Changes, by a contract.
-/
import Derived.Test.YtnpgfbgnbonhfaaRtrE
import Derived.Test.YtnpgfbgnbonhfaaTxt
namespace Go.Proofs.Ytnpgfbgnbonhfaa
open Go.RowKit
open BigFrame

/-- how many at the beginning stand ahead of that path -/
def aheadP : List Txt → Txt → Nat
  | [], _ => 0
  | q :: r, p => if ltS q p then aheadP r p + 1 else 0
theorem aheadP_le (l : List Txt) (p : Txt) : aheadP l p ≤ l.length := by
  induction l with
  | nil => simp [aheadP]
  | cons f r ih =>
    unfold aheadP
    split
    · simp; omega
    · omega
def putPath (l : List Txt) (p : Txt) : List Txt := l.take (aheadP l p) ++ [p] ++ l.drop (aheadP l p)
def pathStep (l : List Txt) (f : FileS) : List Txt := if inS l f.1 = true then l else putPath l f.1
def pathsOf (l : List FileS) : List Txt := l.foldl pathStep []
theorem paths_len (l : List FileS) : ∀ X : List Txt, (l.foldl pathStep X).length ≤ X.length + l.length := by
  induction l with
  | nil => intro X; simp
  | cons f r ih =>
    intro X
    have h1 : (pathStep X f).length ≤ X.length + 1 := by
      unfold pathStep
      split
      · omega
      · unfold putPath
        have := aheadP_le X f.1
        simp
        omega
    have := ih (pathStep X f)
    rw [List.foldl_cons, List.length_cons]
    omega
theorem pathsOf_len (l : List FileS) : (pathsOf l).length ≤ l.length := by
  have h := paths_len l []
  simp at h
  exact h
def changeOne (a b : List FileS) (p : Txt) : List ChangeS :=
  match findS b p with
  | none => [(p, true, false, [])]
  | some y => if findS a p = some y then [] else [(p, false, y.2.1, y.2.2)]
def changesS (a b : List FileS) : List ChangeS := (pathsOf (a ++ b)).flatMap (changeOne a b)
section
set_option maxRecDepth 100000
set_option maxHeartbeats 8000000
/-- what the first loop leaves -/
def CutP (W : World) (L : List Txt) (v : Value) (wx : World) : Prop := OwnT wx W.heap.size v L ∧ Below W.heap.size W wx
end
end Go.Proofs.Ytnpgfbgnbonhfaa
