/-
  No cell of these rows narrows 'for every input' (looked for: loops, veiled, ifaces, maps, wideKeys, modest, calm, conditions, laid).
  DERIVED. THE GIVEN ROWS OF THIS SEAT. 4 by the template 'for every input the law returns true; each argument reads behind the call as it read before'; 0 by the template 'total and deterministic' (their statements: YtnpgfbgnbonhfaaTotals.lean).
  GIVEN WITH THE SEED: the statements are not yours to turn. If you find one false, say at which input.
  Laid BY PROGRAM, IN A SANDBOX (cutbox-rows.mjs): the forced cells as the released guide's own fill.sh prints them over the translation 3126a177e3e616ec… (all of the seat's roots in one cut). By AI agents, Wed Nov 11 2026. No macro, syntax, notation, axiom, sorry.
-/
import Derived.Test.YtnpgfbgnbonhfaaChecked
import GoSem.Claim
import GoSem.ClaimJoined
import GoSem.ClaimMapViews
import Derived.JoinedTies
import Derived.KernelRfl
namespace Go.Proofs.Ytnpgfbgnbonhfaa
/- THE CELL 'sum', in the pinned program and in every row, IS THE sha256 OF THE DUMP (.gsa) THAT YtnpgfbgnbonhfaaProg.lean LOADS. Nothing in Lean hashes anything: it is a label: what it is worth is what the hold of that sum in a sandbox is worth. -/
noncomputable def Try.pinned : Pinned := { name := "ytnpgfbgnbonhfaa", sum := "3126a177e3e616ec4f70740061e3bd4ebf5b3e68c4e042aa1d00474adc166aef", checked := Try.checked }
namespace Rows
def none {H : Type} : Left H := { results := [], args := [] }

/-- 'ricklaw13.SimilarRatio': WHATEVER THE INPUT: true; the input reads as it did. -/
def similarRatioSpec : ChangeSpec := { name := "similarRatio", fn := fun _ => fun
  | [d1, d2, d3] => { results := [.lit (.bool true)], args := [d1, d2, d3] }
  | _ => none }
def similarRatioRow : OpenClaim := { program := "ytnpgfbgnbonhfaa", sum := "3126a177e3e616ec4f70740061e3bd4ebf5b3e68c4e042aa1d00474adc166aef", func := "rick/ricklaw13.SimilarRatio", spec := "similarRatio", inPlace := ["internal/bytealg.IndexByte", "internal/bytealg.abigen_runtime_cmpstring"], unfollowed := true, recurses := true, plainKeys := false, apart := false }
def SimilarRatioSaid : Prop := similarRatioRow.holds Try.pinned (OpenSpec.ofChange similarRatioSpec)

/-- ITS FALSE NEIGHBOUR: 'it returns false'. Refute it at one input. -/
def similarRatioWrong : ChangeSpec := { name := "similarRatio", fn := fun _ => fun
  | [d1, d2, d3] => { results := [.lit (.bool false)], args := [d1, d2, d3] }
  | _ => none }
def SimilarRatioWrongFalsely : Prop := similarRatioRow.holds Try.pinned (OpenSpec.ofChange similarRatioWrong)

/-- 'ricklaw13.SimilarRenames': WHATEVER THE INPUT: true; the input reads as it did. -/
def similarRenamesSpec : ChangeSpec := { name := "similarRenames", fn := fun _ => fun
  | [d1, d2] => { results := [.lit (.bool true)], args := [d1, d2] }
  | _ => none }
def similarRenamesRow : OpenClaim := { program := "ytnpgfbgnbonhfaa", sum := "3126a177e3e616ec4f70740061e3bd4ebf5b3e68c4e042aa1d00474adc166aef", func := "rick/ricklaw13.SimilarRenames", spec := "similarRenames", inPlace := ["internal/bytealg.IndexByte", "internal/bytealg.abigen_runtime_cmpstring"], unfollowed := true, recurses := true, plainKeys := false, apart := false }
def SimilarRenamesSaid : Prop := similarRenamesRow.holds Try.pinned (OpenSpec.ofChange similarRenamesSpec)

/-- ITS FALSE NEIGHBOUR: 'it returns false'. Refute it at one input. -/
def similarRenamesWrong : ChangeSpec := { name := "similarRenames", fn := fun _ => fun
  | [d1, d2] => { results := [.lit (.bool false)], args := [d1, d2] }
  | _ => none }
def SimilarRenamesWrongFalsely : Prop := similarRenamesRow.holds Try.pinned (OpenSpec.ofChange similarRenamesWrong)

/-- 'ricklaw13.SimilarMoved': WHATEVER THE INPUT: true; the input reads as it did. -/
def similarMovedSpec : ChangeSpec := { name := "similarMoved", fn := fun _ => fun
  | [d1, d2, d3] => { results := [.lit (.bool true)], args := [d1, d2, d3] }
  | _ => none }
def similarMovedRow : OpenClaim := { program := "ytnpgfbgnbonhfaa", sum := "3126a177e3e616ec4f70740061e3bd4ebf5b3e68c4e042aa1d00474adc166aef", func := "rick/ricklaw13.SimilarMoved", spec := "similarMoved", inPlace := ["internal/bytealg.IndexByte", "internal/bytealg.abigen_runtime_cmpstring"], unfollowed := true, recurses := true, plainKeys := false, apart := false }
def SimilarMovedSaid : Prop := similarMovedRow.holds Try.pinned (OpenSpec.ofChange similarMovedSpec)

/-- ITS FALSE NEIGHBOUR: 'it returns false'. Refute it at one input. -/
def similarMovedWrong : ChangeSpec := { name := "similarMoved", fn := fun _ => fun
  | [d1, d2, d3] => { results := [.lit (.bool false)], args := [d1, d2, d3] }
  | _ => none }
def SimilarMovedWrongFalsely : Prop := similarMovedRow.holds Try.pinned (OpenSpec.ofChange similarMovedWrong)

/-- 'ricklaw13.SimilarHalf': WHATEVER THE INPUT: true; the input reads as it did. -/
def similarHalfSpec : ChangeSpec := { name := "similarHalf", fn := fun _ => fun
  | [d1, d2] => { results := [.lit (.bool true)], args := [d1, d2] }
  | _ => none }
def similarHalfRow : OpenClaim := { program := "ytnpgfbgnbonhfaa", sum := "3126a177e3e616ec4f70740061e3bd4ebf5b3e68c4e042aa1d00474adc166aef", func := "rick/ricklaw13.SimilarHalf", spec := "similarHalf", inPlace := ["internal/bytealg.IndexByte", "internal/bytealg.abigen_runtime_cmpstring"], unfollowed := true, recurses := true, plainKeys := false, apart := false }
def SimilarHalfSaid : Prop := similarHalfRow.holds Try.pinned (OpenSpec.ofChange similarHalfSpec)

/-- ITS FALSE NEIGHBOUR: 'it returns false'. Refute it at one input. -/
def similarHalfWrong : ChangeSpec := { name := "similarHalf", fn := fun _ => fun
  | [d1, d2] => { results := [.lit (.bool false)], args := [d1, d2] }
  | _ => none }
def SimilarHalfWrongFalsely : Prop := similarHalfRow.holds Try.pinned (OpenSpec.ofChange similarHalfWrong)

/- THE SECOND FORM. 'bulk': how many values and letters a reading holds, each counted each time it is reached (what is shared counts as often as it is met; a slice's spare places count too). A statement '..UptoSaid' is the law's where the arguments, and the package variables that the reading takes, are together of bulk at most 1048576: NARROWER than '..Said'. Prove '..Said' where nothing that the law and all that it calls make is longer than what came in: it says more and counts as full. Else prove '..UptoSaid'. A law counts once. -/
mutual
def uptoBulk {H : Type} : DataW H → Nat
  | .lit (.string bytes) => bytes.length + 1
  | .lit _ => 1
  | .nil => 1
  | .ptr d => uptoBulk d + 1
  | .slice elems spare => uptoBulkAll elems + uptoBulkAll spare + 1
  | .agg parts => uptoBulkAll parts + 1
  | .iface _ d => uptoBulk d + 1
  | .map entries => uptoBulkEntries entries + 1
  | .held _ => 1
def uptoBulkAll {H : Type} : List (DataW H) → Nat
  | [] => 0
  | d :: r => uptoBulk d + uptoBulkAll r
def uptoBulkEntries {H : Type} : List (Lit × DataW H) → Nat
  | [] => 0
  | x :: r => uptoBulkEntry x + uptoBulkEntries r
def uptoBulkEntry {H : Type} : Lit × DataW H → Nat
  | (.string bytes, d) => bytes.length + uptoBulk d + 1
  | (_, d) => uptoBulk d + 1
 end
def uptoSmall : (H : Type) → List (DataW H) → Bool := fun _ ds => decide (uptoBulkAll ds ≤ 1048576)
def OpenSpec.upto (s : _root_.Go.ChangeSpec) : _root_.Go.OpenSpec := { _root_.Go.OpenSpec.ofChange s with cond := some uptoSmall }

/-- 'ricklaw13.SimilarRatio', WHERE WHAT IT READS IS OF BULK AT MOST 1048576: true; the input reads as it did. -/
def similarRatioUptoRow : OpenClaim := { program := "ytnpgfbgnbonhfaa", sum := "3126a177e3e616ec4f70740061e3bd4ebf5b3e68c4e042aa1d00474adc166aef", func := "rick/ricklaw13.SimilarRatio", spec := "similarRatio", inPlace := ["internal/bytealg.IndexByte", "internal/bytealg.abigen_runtime_cmpstring"], unfollowed := true, recurses := true, plainKeys := false, apart := false, narrowed := true }
def SimilarRatioUptoSaid : Prop := similarRatioUptoRow.holds Try.pinned (OpenSpec.upto similarRatioSpec)

/-- 'ricklaw13.SimilarRenames', WHERE WHAT IT READS IS OF BULK AT MOST 1048576: true; the input reads as it did. -/
def similarRenamesUptoRow : OpenClaim := { program := "ytnpgfbgnbonhfaa", sum := "3126a177e3e616ec4f70740061e3bd4ebf5b3e68c4e042aa1d00474adc166aef", func := "rick/ricklaw13.SimilarRenames", spec := "similarRenames", inPlace := ["internal/bytealg.IndexByte", "internal/bytealg.abigen_runtime_cmpstring"], unfollowed := true, recurses := true, plainKeys := false, apart := false, narrowed := true }
def SimilarRenamesUptoSaid : Prop := similarRenamesUptoRow.holds Try.pinned (OpenSpec.upto similarRenamesSpec)

/-- 'ricklaw13.SimilarMoved', WHERE WHAT IT READS IS OF BULK AT MOST 1048576: true; the input reads as it did. -/
def similarMovedUptoRow : OpenClaim := { program := "ytnpgfbgnbonhfaa", sum := "3126a177e3e616ec4f70740061e3bd4ebf5b3e68c4e042aa1d00474adc166aef", func := "rick/ricklaw13.SimilarMoved", spec := "similarMoved", inPlace := ["internal/bytealg.IndexByte", "internal/bytealg.abigen_runtime_cmpstring"], unfollowed := true, recurses := true, plainKeys := false, apart := false, narrowed := true }
def SimilarMovedUptoSaid : Prop := similarMovedUptoRow.holds Try.pinned (OpenSpec.upto similarMovedSpec)

/-- 'ricklaw13.SimilarHalf', WHERE WHAT IT READS IS OF BULK AT MOST 1048576: true; the input reads as it did. -/
def similarHalfUptoRow : OpenClaim := { program := "ytnpgfbgnbonhfaa", sum := "3126a177e3e616ec4f70740061e3bd4ebf5b3e68c4e042aa1d00474adc166aef", func := "rick/ricklaw13.SimilarHalf", spec := "similarHalf", inPlace := ["internal/bytealg.IndexByte", "internal/bytealg.abigen_runtime_cmpstring"], unfollowed := true, recurses := true, plainKeys := false, apart := false, narrowed := true }
def SimilarHalfUptoSaid : Prop := similarHalfUptoRow.holds Try.pinned (OpenSpec.upto similarHalfSpec)

end Rows
end Go.Proofs.Ytnpgfbgnbonhfaa
