/-
  A list from a place on.
-/
import Derived.WalkKit
namespace Go.Proofs.Ytnpgfbgnbonhfaa
theorem drop_one {α : Type} {l : List α} {k : Nat} {x : α} (h : l[k]? = some x) : l.drop k = x :: l.drop (k + 1) := by
  obtain ⟨q, e⟩ := List.getElem?_eq_some_iff.1 h
  rw [List.drop_eq_getElem_cons q, e]
end Go.Proofs.Ytnpgfbgnbonhfaa
