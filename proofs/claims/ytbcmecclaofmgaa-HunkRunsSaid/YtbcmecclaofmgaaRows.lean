/-
  No cell of these rows narrows 'for every input' (looked for: loops, veiled, ifaces, maps, wideKeys, modest, calm, conditions, laid).
  DERIVED. THE GIVEN ROWS OF THIS SEAT. 5 by the template 'for every input the law returns true; each argument reads behind the call as it read before'; 0 by the template 'total and deterministic' (their statements: YtbcmecclaofmgaaTotals.lean).
  GIVEN WITH THE SEED: the statements are not yours to turn. If you find one false, say at which input.
  Laid BY PROGRAM, IN A SANDBOX (cutbox-rows.mjs): the forced cells as the released guide's own fill.sh prints them over the translation 1bdde44912903844… (all of the seat's roots in one cut). By AI agents, Wed Nov 11 2026. No macro, syntax, notation, axiom, sorry.
-/
import Derived.Test.YtbcmecclaofmgaaChecked
import GoSem.Claim
import GoSem.ClaimJoined
import GoSem.ClaimMapViews
import Derived.JoinedTies
import Derived.KernelRfl
namespace Go.Proofs.Ytbcmecclaofmgaa
/- THE CELL 'sum', in the pinned program and in every row, IS THE sha256 OF THE DUMP (.gsa) THAT YtbcmecclaofmgaaProg.lean LOADS. Nothing in Lean hashes anything: it is a label: what it is worth is what the hold of that sum in a sandbox is worth. -/
noncomputable def Try.pinned : Pinned := { name := "ytbcmecclaofmgaa", sum := "1bdde449129038443e4ead04fa0d8365193c2dcccc9151f7bf86be9193438471", checked := Try.checked }
namespace Rows
def none {H : Type} : Left H := { results := [], args := [] }

/-- 'ricklaw07.HunkTells': WHATEVER THE INPUT: true; the input reads as it did. -/
def hunkTellsSpec : ChangeSpec := { name := "hunkTells", fn := fun _ => fun
  | [d1, d2, d3] => { results := [.lit (.bool true)], args := [d1, d2, d3] }
  | _ => none }
def hunkTellsRow : OpenClaim := { program := "ytbcmecclaofmgaa", sum := "1bdde449129038443e4ead04fa0d8365193c2dcccc9151f7bf86be9193438471", func := "rick/ricklaw07.HunkTells", spec := "hunkTells", unfollowed := true, recurses := true, apart := false }
def HunkTellsSaid : Prop := hunkTellsRow.holds Try.pinned (OpenSpec.ofChange hunkTellsSpec)

/-- ITS FALSE NEIGHBOUR: 'it returns false'. Refute it at one input. -/
def hunkTellsWrong : ChangeSpec := { name := "hunkTells", fn := fun _ => fun
  | [d1, d2, d3] => { results := [.lit (.bool false)], args := [d1, d2, d3] }
  | _ => none }
def HunkTellsWrongFalsely : Prop := hunkTellsRow.holds Try.pinned (OpenSpec.ofChange hunkTellsWrong)

/-- 'ricklaw07.HunkBack': WHATEVER THE INPUT: true; the input reads as it did. -/
def hunkBackSpec : ChangeSpec := { name := "hunkBack", fn := fun _ => fun
  | [d1, d2] => { results := [.lit (.bool true)], args := [d1, d2] }
  | _ => none }
def hunkBackRow : OpenClaim := { program := "ytbcmecclaofmgaa", sum := "1bdde449129038443e4ead04fa0d8365193c2dcccc9151f7bf86be9193438471", func := "rick/ricklaw07.HunkBack", spec := "hunkBack", unfollowed := true, recurses := true, apart := false }
def HunkBackSaid : Prop := hunkBackRow.holds Try.pinned (OpenSpec.ofChange hunkBackSpec)

/-- ITS FALSE NEIGHBOUR: 'it returns false'. Refute it at one input. -/
def hunkBackWrong : ChangeSpec := { name := "hunkBack", fn := fun _ => fun
  | [d1, d2] => { results := [.lit (.bool false)], args := [d1, d2] }
  | _ => none }
def HunkBackWrongFalsely : Prop := hunkBackRow.holds Try.pinned (OpenSpec.ofChange hunkBackWrong)

/-- 'ricklaw07.HunkMatch': WHATEVER THE INPUT: true; the input reads as it did. -/
def hunkMatchSpec : ChangeSpec := { name := "hunkMatch", fn := fun _ => fun
  | [d1, d2, d3] => { results := [.lit (.bool true)], args := [d1, d2, d3] }
  | _ => none }
def hunkMatchRow : OpenClaim := { program := "ytbcmecclaofmgaa", sum := "1bdde449129038443e4ead04fa0d8365193c2dcccc9151f7bf86be9193438471", func := "rick/ricklaw07.HunkMatch", spec := "hunkMatch", unfollowed := true, recurses := true, apart := false }
def HunkMatchSaid : Prop := hunkMatchRow.holds Try.pinned (OpenSpec.ofChange hunkMatchSpec)

/-- ITS FALSE NEIGHBOUR: 'it returns false'. Refute it at one input. -/
def hunkMatchWrong : ChangeSpec := { name := "hunkMatch", fn := fun _ => fun
  | [d1, d2, d3] => { results := [.lit (.bool false)], args := [d1, d2, d3] }
  | _ => none }
def HunkMatchWrongFalsely : Prop := hunkMatchRow.holds Try.pinned (OpenSpec.ofChange hunkMatchWrong)

/-- 'ricklaw07.HunkMany': WHATEVER THE INPUT: true; the input reads as it did. -/
def hunkManySpec : ChangeSpec := { name := "hunkMany", fn := fun _ => fun
  | [d1, d2] => { results := [.lit (.bool true)], args := [d1, d2] }
  | _ => none }
def hunkManyRow : OpenClaim := { program := "ytbcmecclaofmgaa", sum := "1bdde449129038443e4ead04fa0d8365193c2dcccc9151f7bf86be9193438471", func := "rick/ricklaw07.HunkMany", spec := "hunkMany", unfollowed := true, recurses := true, apart := false }
def HunkManySaid : Prop := hunkManyRow.holds Try.pinned (OpenSpec.ofChange hunkManySpec)

/-- ITS FALSE NEIGHBOUR: 'it returns false'. Refute it at one input. -/
def hunkManyWrong : ChangeSpec := { name := "hunkMany", fn := fun _ => fun
  | [d1, d2] => { results := [.lit (.bool false)], args := [d1, d2] }
  | _ => none }
def HunkManyWrongFalsely : Prop := hunkManyRow.holds Try.pinned (OpenSpec.ofChange hunkManyWrong)

/-- 'ricklaw07.HunkRuns': WHATEVER THE INPUT: true; the input reads as it did. -/
def hunkRunsSpec : ChangeSpec := { name := "hunkRuns", fn := fun _ => fun
  | [d1, d2] => { results := [.lit (.bool true)], args := [d1, d2] }
  | _ => none }
def hunkRunsRow : OpenClaim := { program := "ytbcmecclaofmgaa", sum := "1bdde449129038443e4ead04fa0d8365193c2dcccc9151f7bf86be9193438471", func := "rick/ricklaw07.HunkRuns", spec := "hunkRuns", unfollowed := true, recurses := true, apart := false }
def HunkRunsSaid : Prop := hunkRunsRow.holds Try.pinned (OpenSpec.ofChange hunkRunsSpec)

/-- ITS FALSE NEIGHBOUR: 'it returns false'. Refute it at one input. -/
def hunkRunsWrong : ChangeSpec := { name := "hunkRuns", fn := fun _ => fun
  | [d1, d2] => { results := [.lit (.bool false)], args := [d1, d2] }
  | _ => none }
def HunkRunsWrongFalsely : Prop := hunkRunsRow.holds Try.pinned (OpenSpec.ofChange hunkRunsWrong)

/- THE SECOND FORM. 'bulk': how many values and letters a reading holds, each counted each time it is reached (what is shared counts as often as it is met; a slice's spare places count too). A statement '..UptoSaid' is the law's where the arguments, and the package variables that the reading takes, are together of bulk at most 1048576: NARROWER than '..Said'. Prove '..Said' where nothing that the law and all that it calls make is longer than what came in: it says more and counts as full. Else prove '..UptoSaid'. A law counts once. -/
mutual
def uptoBulk {H : Type} : DataW H → Nat
  | .lit (.string bytes) => bytes.length + 1
  | .lit _ => 1
  | .nil => 1
  | .ptr d => uptoBulk d + 1
  | .slice elems spare => uptoBulkAll elems + uptoBulkAll spare + 1
  | .agg parts => uptoBulkAll parts + 1
  | .iface _ d => uptoBulk d + 1
  | .map entries => uptoBulkEntries entries + 1
  | .held _ => 1
def uptoBulkAll {H : Type} : List (DataW H) → Nat
  | [] => 0
  | d :: r => uptoBulk d + uptoBulkAll r
def uptoBulkEntries {H : Type} : List (Lit × DataW H) → Nat
  | [] => 0
  | x :: r => uptoBulkEntry x + uptoBulkEntries r
def uptoBulkEntry {H : Type} : Lit × DataW H → Nat
  | (.string bytes, d) => bytes.length + uptoBulk d + 1
  | (_, d) => uptoBulk d + 1
 end
def uptoSmall : (H : Type) → List (DataW H) → Bool := fun _ ds => decide (uptoBulkAll ds ≤ 1048576)
def OpenSpec.upto (s : _root_.Go.ChangeSpec) : _root_.Go.OpenSpec := { _root_.Go.OpenSpec.ofChange s with cond := some uptoSmall }

/-- 'ricklaw07.HunkTells', WHERE WHAT IT READS IS OF BULK AT MOST 1048576: true; the input reads as it did. -/
def hunkTellsUptoRow : OpenClaim := { program := "ytbcmecclaofmgaa", sum := "1bdde449129038443e4ead04fa0d8365193c2dcccc9151f7bf86be9193438471", func := "rick/ricklaw07.HunkTells", spec := "hunkTells", unfollowed := true, recurses := true, apart := false, narrowed := true }
def HunkTellsUptoSaid : Prop := hunkTellsUptoRow.holds Try.pinned (OpenSpec.upto hunkTellsSpec)

/-- 'ricklaw07.HunkBack', WHERE WHAT IT READS IS OF BULK AT MOST 1048576: true; the input reads as it did. -/
def hunkBackUptoRow : OpenClaim := { program := "ytbcmecclaofmgaa", sum := "1bdde449129038443e4ead04fa0d8365193c2dcccc9151f7bf86be9193438471", func := "rick/ricklaw07.HunkBack", spec := "hunkBack", unfollowed := true, recurses := true, apart := false, narrowed := true }
def HunkBackUptoSaid : Prop := hunkBackUptoRow.holds Try.pinned (OpenSpec.upto hunkBackSpec)

/-- 'ricklaw07.HunkMatch', WHERE WHAT IT READS IS OF BULK AT MOST 1048576: true; the input reads as it did. -/
def hunkMatchUptoRow : OpenClaim := { program := "ytbcmecclaofmgaa", sum := "1bdde449129038443e4ead04fa0d8365193c2dcccc9151f7bf86be9193438471", func := "rick/ricklaw07.HunkMatch", spec := "hunkMatch", unfollowed := true, recurses := true, apart := false, narrowed := true }
def HunkMatchUptoSaid : Prop := hunkMatchUptoRow.holds Try.pinned (OpenSpec.upto hunkMatchSpec)

/-- 'ricklaw07.HunkMany', WHERE WHAT IT READS IS OF BULK AT MOST 1048576: true; the input reads as it did. -/
def hunkManyUptoRow : OpenClaim := { program := "ytbcmecclaofmgaa", sum := "1bdde449129038443e4ead04fa0d8365193c2dcccc9151f7bf86be9193438471", func := "rick/ricklaw07.HunkMany", spec := "hunkMany", unfollowed := true, recurses := true, apart := false, narrowed := true }
def HunkManyUptoSaid : Prop := hunkManyUptoRow.holds Try.pinned (OpenSpec.upto hunkManySpec)

/-- 'ricklaw07.HunkRuns', WHERE WHAT IT READS IS OF BULK AT MOST 1048576: true; the input reads as it did. -/
def hunkRunsUptoRow : OpenClaim := { program := "ytbcmecclaofmgaa", sum := "1bdde449129038443e4ead04fa0d8365193c2dcccc9151f7bf86be9193438471", func := "rick/ricklaw07.HunkRuns", spec := "hunkRuns", unfollowed := true, recurses := true, apart := false, narrowed := true }
def HunkRunsUptoSaid : Prop := hunkRunsUptoRow.holds Try.pinned (OpenSpec.upto hunkRunsSpec)

end Rows
end Go.Proofs.Ytbcmecclaofmgaa
