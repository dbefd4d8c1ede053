/-
  The document's own diff (rickref05): the sides of a script.
-/
import Derived.Test.YtfldheegebopoaaEdit
import Derived.Test.YtfldheegebopoaaStr
namespace Go.Proofs.Ytfldheegebopoaa
open Go.RowKit

theorem sideS_snoc (k : Int) (l : List (Int × List UInt8)) (i : Nat) (e : Int × List UInt8) (h : l[i]? = some e) : sideS k (l.take (i + 1)) = if e.1 = 1 ∨ e.1 = k then sideS k (l.take i) ++ [e.2] else sideS k (l.take i) := by
  rw [take_snoc h, sideS_append, sideS_cons, sideS_nil]
  split
  · rfl
  · simp
theorem sideS_le (k : Int) (l : List (Int × List UInt8)) : (sideS k l).length ≤ l.length := by
  unfold sideS
  rw [List.length_map]
  exact List.length_filter_le _ _


end Go.Proofs.Ytfldheegebopoaa
