/-
  DERIVED. GIVEN WITH THE SEED: THE CARDS: each row of YtjnhgoedhggocaaDoorRows.lean that lists a variable, with what it lists TIED to the program's text (the seventh form; the later family's looks); each row that meets fmt, with fmt's text TOLD by the authors' own Lean function (tested against real Go, not proved from fmt's source: count such statements apart). THE CARD IS WHAT COUNTS. Prove the row's statement (the work); the ties are given (YtjnhgoedhggocaaDoorTie.lean); close each card by the builder's one call (the guide's Derived/Test/ToyasCard.lean, 'card_holds'). Laid BY PROGRAM, IN A SANDBOX (cutbox-door.mjs). By AI agents, Wed Nov 11 2026. No macro, syntax, notation, axiom, sorry.
-/
import Derived.Test.YtjnhgoedhggocaaDoorRows
import GoSem.ClaimSeven
namespace Go.Proofs.YtjnhgoedhggocaaDoor
namespace Rows

/-- THE TIED CARD OF 'ricklaw04.RecordTells'. -/
def recordTellsCard : Claim7 := { stood := { row := recordTellsRow, standIns := [], harness := (true, "35ad6d513970c5df78996c1f3e1c0bb806ef7a3b04150ac79a8de43f86d9a3a6"), looks := false }, kinds := [], alts := [], laidByText := true, laidKinds := [.data], laidTests := true, laidLooks := .later }
def RecordTellsCardSaid : Prop := Claim7.holds Tryd.pinned (.plain (OpenSpec.ofChange recordTellsSpec)) recordTellsCard

/-- THE TIED CARD OF 'ricklaw04.RecordCut'. -/
def recordCutCard : Claim7 := { stood := { row := recordCutRow, standIns := [], harness := (true, "35ad6d513970c5df78996c1f3e1c0bb806ef7a3b04150ac79a8de43f86d9a3a6"), looks := false }, kinds := [], alts := [], laidByText := true, laidKinds := [.data], laidTests := true, laidLooks := .later }
def RecordCutCardSaid : Prop := Claim7.holds Tryd.pinned (.plain (OpenSpec.ofChange recordCutSpec)) recordCutCard

/-- THE TIED CARD OF 'ricklaw04.RecordBehind'. -/
def recordBehindCard : Claim7 := { stood := { row := recordBehindRow, standIns := [], harness := (true, "35ad6d513970c5df78996c1f3e1c0bb806ef7a3b04150ac79a8de43f86d9a3a6"), looks := false }, kinds := [], alts := [], laidByText := true, laidKinds := [.data], laidTests := true, laidLooks := .later }
def RecordBehindCardSaid : Prop := Claim7.holds Tryd.pinned (.plain (OpenSpec.ofChange recordBehindSpec)) recordBehindCard

/-- THE TIED CARD OF 'ricklaw04.RecordTurned'. -/
def recordTurnedCard : Claim7 := { stood := { row := recordTurnedRow, standIns := [], harness := (true, "35ad6d513970c5df78996c1f3e1c0bb806ef7a3b04150ac79a8de43f86d9a3a6"), looks := false }, kinds := [], alts := [], laidByText := true, laidKinds := [.data], laidTests := true, laidLooks := .later }
def RecordTurnedCardSaid : Prop := Claim7.holds Tryd.pinned (.plain (OpenSpec.ofChange recordTurnedSpec)) recordTurnedCard

/-- THE SECOND FORM's CARD OF 'ricklaw04.RecordTells'. -/
def recordTellsUptoCard : Claim7 := { stood := { row := recordTellsUptoRow, standIns := [], harness := (true, "35ad6d513970c5df78996c1f3e1c0bb806ef7a3b04150ac79a8de43f86d9a3a6"), looks := false }, kinds := [], alts := [], laidByText := true, laidKinds := [.data], laidTests := true, laidLooks := .later }
def RecordTellsUptoCardSaid : Prop := Claim7.holds Tryd.pinned (.plain (OpenSpec.upto recordTellsSpec)) recordTellsUptoCard

/-- THE SECOND FORM's CARD OF 'ricklaw04.RecordCut'. -/
def recordCutUptoCard : Claim7 := { stood := { row := recordCutUptoRow, standIns := [], harness := (true, "35ad6d513970c5df78996c1f3e1c0bb806ef7a3b04150ac79a8de43f86d9a3a6"), looks := false }, kinds := [], alts := [], laidByText := true, laidKinds := [.data], laidTests := true, laidLooks := .later }
def RecordCutUptoCardSaid : Prop := Claim7.holds Tryd.pinned (.plain (OpenSpec.upto recordCutSpec)) recordCutUptoCard

/-- THE SECOND FORM's CARD OF 'ricklaw04.RecordBehind'. -/
def recordBehindUptoCard : Claim7 := { stood := { row := recordBehindUptoRow, standIns := [], harness := (true, "35ad6d513970c5df78996c1f3e1c0bb806ef7a3b04150ac79a8de43f86d9a3a6"), looks := false }, kinds := [], alts := [], laidByText := true, laidKinds := [.data], laidTests := true, laidLooks := .later }
def RecordBehindUptoCardSaid : Prop := Claim7.holds Tryd.pinned (.plain (OpenSpec.upto recordBehindSpec)) recordBehindUptoCard

/-- THE SECOND FORM's CARD OF 'ricklaw04.RecordTurned'. -/
def recordTurnedUptoCard : Claim7 := { stood := { row := recordTurnedUptoRow, standIns := [], harness := (true, "35ad6d513970c5df78996c1f3e1c0bb806ef7a3b04150ac79a8de43f86d9a3a6"), looks := false }, kinds := [], alts := [], laidByText := true, laidKinds := [.data], laidTests := true, laidLooks := .later }
def RecordTurnedUptoCardSaid : Prop := Claim7.holds Tryd.pinned (.plain (OpenSpec.upto recordTurnedSpec)) recordTurnedUptoCard
end Rows
end Go.Proofs.YtjnhgoedhggocaaDoor
