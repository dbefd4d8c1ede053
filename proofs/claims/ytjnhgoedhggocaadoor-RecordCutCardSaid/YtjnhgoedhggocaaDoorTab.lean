/-
  The package's table, as a row lists it; a world for the witness.
-/
import Derived.Test.YtjnhgoedhggocaaDoorDigB
import Derived.Test.YtjnhgoedhggocaaDoorCards
import Derived.Test.YtjnhgoedhggocaaDoorTie
import Derived.Test.YtjnhgoedhggocaaDoorOpen
import Derived.ProofKit
import Derived.OpenShut
import Derived.Deep.DeepHandedRow
import Derived.Lib.LaidTab
namespace Go.Proofs.YtjnhgoedhggocaaDoor
open Go.ChangeShapes Go.WideShapes Go.ChangeAt Go.RowKit

/-! ### The table -/
theorem gTab : Tryd.prog.globalNamed "rick/digest.roundWords" = some 0 := by kernel_rfl
theorem gTabType : (Tryd.prog.globals[0]?).map (·.type) = some 64 := by kernel_rfl
theorem cellsW64 : Tryd.prog.cellsOf 64 = 64 := by kernel_rfl
theorem cellsU32 : Tryd.prog.cellsOf 28 = 1 := by kernel_rfl
theorem cellsU8 : Tryd.prog.cellsOf 5 = 1 := by kernel_rfl
theorem cellsKey : Tryd.prog.cellsOf 47 = 32 := by kernel_rfl
theorem firsts_lt : ∀ c ∈ Sha.firsts, c &&& 4294967295 = c := by decide
set_option maxRecDepth 100000 in
theorem Tab_of {W : World} (h : laidMetH Tryd.prog [("rick/digest.roundWords", Rows.laid_rick_digest_roundWords)] W) : Tab W := by
  have hT : Lib.TabIs Tryd.prog W "rick/digest.roundWords" .u32 (Sha.firsts.map fun c : Nat => (c : Int)) :=
    Lib.tabIs_of_head (rest := []) gTab gTabType Tryd.underlying64 Tryd.underlying28 cellsU32 cellsW64 h
  refine ⟨fun i c hc => ?_⟩
  have hi := (List.getElem?_eq_some_iff.1 hc).1
  rw [hT.cell gTab i (by rw [List.length_map]; exact hi)]
  rw [Sha.u32_con, firsts_lt c (List.mem_of_getElem? hc)]
  simp [List.getD_eq_getElem?_getD, hc]

/-- A world for the witness: the settled one, the table holding what its initialiser lays. -/
noncomputable def laidWorld (os : Os) : World :=
  { World.holding Tryd.prog os ⟨#[], #[], []⟩ with heap := (World.holding Tryd.prog os ⟨#[], #[], []⟩).heap.modify 0 fun
      | .cells _ t frozen => .cells (Sha.firsts.map fun c : Nat => Value.int .u32 (c : Int)).toArray t frozen
      | o => o }
/-- A key of nothing. -/
def key0 : Value := .agg (Array.replicate 32 (.int .u8 0))
end Go.Proofs.YtjnhgoedhggocaaDoor
