/-
  A region that draws its order, guarded or not, whose callees may allocate: walked once, in the order of the text, over a family of worlds in the place of 'some draws on' (Derived/Deep/Quiet.lean at the class 'one of f's worlds'). Nothing of the program.
-/
import Derived.Test.YtnpgfbgnbonhfaaQuiet
import Derived.Test.YtnpgfbgnbonhfaaBase
namespace Go.Proofs.Ytnpgfbgnbonhfaa
open Go.RowKit
open BigFrame

theorem fam (w : World) : ∃ (ι : Type) (_ : Nonempty ι) (f : ι → World), (∀ i, Below w.heap.size w (f i)) ∧ ∀ w', Below w.heap.size w w' → ∃ i, w' = f i :=
  ⟨{w' : World // Below w.heap.size w w'}, ⟨⟨w, Below.refl _ _⟩⟩, Subtype.val, fun i => i.2, fun w' h => ⟨⟨w', h⟩, rfl⟩⟩
section
variable {ι : Type} {f : ι → World} {w : World}
theorem fam_cell (hf : ∀ i, Below w.heap.size w (f i)) {a : Addr} {v : Value} (h : w.cell? a = some v) : ∀ i, (f i).cell? a = some v := fun i =>
  (World.cell?_of_block ((hf i).block _ (World.block_lt_of_cell? w _ h))).trans h
theorem fam_call {P : Program} {F : FuncId} {args : Array Value} {v : Value} {n : ι} (hf : ∀ i, Below w.heap.size w (f i)) (hc : ∀ w', Below w.heap.size w w' → ∃ i, w' = f i)
    (h : Calls P F args (f n) fun e w' => e = .returned v ∧ Below (f n).heap.size (f n) w') : Calls P F args (f n) fun e w'' => e = .returned v ∧ ∃ m, w'' = f m :=
  h.mono fun _ w' ⟨he, hb⟩ => ⟨he, hc w' (below_step (hf n) hb (hf n).size)⟩
end
end Go.Proofs.Ytnpgfbgnbonhfaa
