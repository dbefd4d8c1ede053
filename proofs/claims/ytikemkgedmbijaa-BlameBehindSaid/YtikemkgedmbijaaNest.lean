/-
  A list of texts that lies apart from a list of the call's own.
-/
import Derived.Test.YtikemkgedmbijaaHelpS
import Derived.Test.YtikemkgedmbijaaLaw2
namespace Go.Proofs.Ytikemkgedmbijaa
open Go.RowKit

/-- A list of texts that lies apart from v's own block. -/
def Nest (w : World) (v u : Value) (xs : List (List UInt8)) : Prop := Sl w u (strCells xs) ∧ ∀ a n c, u = .slice (some a) n c → a.block < w.heap.size ∧ v.ownBlock ≠ some a.block
theorem Nest.kept {w w' : World} {v v' u : Value} {xs : List (List UInt8)} (h : Nest w v u xs) (hk : ∀ b, b < w.heap.size → v.ownBlock ≠ some b → w'.heap[b]? = w.heap[b]?) (hz : w.heap.size ≤ w'.heap.size) (hv : v'.ownBlock = v.ownBlock ∨ ∃ f, v'.ownBlock = some f ∧ w.heap.size ≤ f) : Nest w' v' u xs := by
  refine ⟨h.1.kept fun a n c e hlt => hk _ hlt (h.2 a n c e).2, fun a n c e => ⟨Nat.lt_of_lt_of_le (h.2 a n c e).1 hz, ?_⟩⟩
  rcases hv with hv | ⟨f, hv, hf⟩
  · rw [hv]
    exact (h.2 a n c e).2
  · rw [hv]
    intro e'
    have := (h.2 a n c e).1
    cases e'
    omega
end Go.Proofs.Ytikemkgedmbijaa
