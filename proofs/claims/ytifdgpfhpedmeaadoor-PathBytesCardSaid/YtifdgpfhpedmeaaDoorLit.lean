/-
  Lists of texts written out.
-/
import Derived.Test.YtifdgpfhpedmeaaDoorHelpS
namespace Go.Proofs.YtifdgpfhpedmeaaDoor
open Go.RowKit

theorem litS {w : World} {b : Nat} {t : TypeId} {fr : Nat × Nat} (l : List (List UInt8)) (h : w.heap[b]? = some (.cells (strCells l).toArray t fr)) : Sl w (.slice (some ⟨b, 0, none⟩) l.length l.length) (strCells l) := by
  have := Sl.ofBlock h
  simpa [strCells_length] using this
theorem three_lits (w : World) (o0 o1 o2 : Obj) : let X := ((w.alloc o0).alloc o1).alloc o2
    X.heap[w.heap.size]? = some o0 ∧ X.heap[w.heap.size + 1]? = some o1 ∧ X.heap[w.heap.size + 1 + 1]? = some o2 ∧ Below w.heap.size w X := by
  have s0 : (w.alloc o0).heap.size = w.heap.size + 1 := by simp
  have s1 : ((w.alloc o0).alloc o1).heap.size = w.heap.size + 1 + 1 := by simp
  intro X
  refine ⟨?_, ?_, ?_, ((((Below.refl _ w).alloc (Nat.le_refl _) o0).alloc (by omega) o1).alloc (by omega) o2)⟩
  · show (((w.alloc o0).alloc o1).alloc o2).heap[_]? = _
    rw [Below.heap_alloc _ _ _ (by omega), Below.heap_alloc _ _ _ (by omega), heap_alloc_new]
  · show (((w.alloc o0).alloc o1).alloc o2).heap[_]? = _
    rw [Below.heap_alloc _ _ _ (by omega), ← s0, heap_alloc_new]
  · show (((w.alloc o0).alloc o1).alloc o2).heap[_]? = _
    rw [← s1, heap_alloc_new]
end Go.Proofs.YtifdgpfhpedmeaaDoor
