/-
  Corners that differ.
-/
import Derived.Test.YtgmopmlhggdefaaPckL
namespace Go.Proofs.Ytgmopmlhggdefaa
open Go.RowKit
theorem run_neq_cor {x1 x2 x3 y1 y2 y3 : Nat} (h : (x1, x2, x3) ≠ (y1, y2, y3)) (wx : World) : (binOp .neq 44 (.agg #[.int .i64 x1, .int .i64 x2, .int .i64 x3]) (.agg #[.int .i64 y1, .int .i64 y2, .int .i64 y3])).run Try.prog wx = .ok (.bool true) wx := by
  have hnn : x1 ≠ y1 ∨ (x1 = y1 ∧ x2 ≠ y2) ∨ (x1 = y1 ∧ x2 = y2 ∧ x3 ≠ y3) := by
    apply Classical.byContradiction
    intro hc
    apply h
    have : x1 = y1 ∧ x2 = y2 ∧ x3 = y3 := by omega
    rw [this.1, this.2.1, this.2.2]
  clear h
  rcases hnn with h4 | ⟨rfl, h5⟩ | ⟨rfl, rfl, h6⟩
  · have n4 : ((x1 : Int) == (y1 : Int)) = false := by simp; omega
    clear h4
    go_simp
  · have n4 : ((x2 : Int) == (y2 : Int)) = false := by simp; omega
    clear h5
    go_simp
  · have n4 : ((x3 : Int) == (y3 : Int)) = false := by simp; omega
    clear h6
    go_simp
end Go.Proofs.Ytgmopmlhggdefaa
