/-
  DERIVED. GIVEN WITH THE SEED: THE CARDS: each row of YtifdgpfhpedmeaaDoorRows.lean that lists a variable, with what it lists TIED to the program's text (the seventh form; the later family's looks); each row that meets fmt, with fmt's text TOLD by the authors' own Lean function (tested against real Go, not proved from fmt's source: count such statements apart). THE CARD IS WHAT COUNTS. Prove the row's statement (the work); the ties are given (YtifdgpfhpedmeaaDoorTie.lean); close each card by the builder's one call (the guide's Derived/Test/ToyasCard.lean, 'card_holds'). Laid BY PROGRAM, IN A SANDBOX (cutbox-door.mjs). By AI agents, Wed Nov 11 2026. No macro, syntax, notation, axiom, sorry.
-/
import Derived.Test.YtifdgpfhpedmeaaDoorRows
import GoSem.ClaimSeven
namespace Go.Proofs.YtifdgpfhpedmeaaDoor
namespace Rows

/-- THE TIED CARD OF 'ricklaw11.PathTells'. -/
def pathTellsCard : Claim7 := { stood := { row := pathTellsRow, standIns := [], harness := (true, "ffdb8647e11a5d71ddbe4f442a6742dcbc27936ffab404194821b4059b231922"), looks := false }, kinds := [], alts := [], laidByText := true, laidKinds := [.data, .pinned], laidTests := true, laidLooks := .later }
def PathTellsCardSaid : Prop := Claim7.holds Tryd.pinned (.plain (OpenSpec.ofChange pathTellsSpec)) pathTellsCard

/-- THE TIED CARD OF 'ricklaw11.PathClash'. -/
def pathClashCard : Claim7 := { stood := { row := pathClashRow, standIns := [], harness := (true, "ffdb8647e11a5d71ddbe4f442a6742dcbc27936ffab404194821b4059b231922"), looks := false }, kinds := [], alts := [], laidByText := true, laidKinds := [.data, .pinned], laidTests := true, laidLooks := .later }
def PathClashCardSaid : Prop := Claim7.holds Tryd.pinned (.plain (OpenSpec.ofChange pathClashSpec)) pathClashCard

/-- THE TIED CARD OF 'ricklaw11.PathParts'. -/
def pathPartsCard : Claim7 := { stood := { row := pathPartsRow, standIns := [], harness := (true, "ffdb8647e11a5d71ddbe4f442a6742dcbc27936ffab404194821b4059b231922"), looks := false }, kinds := [], alts := [], laidByText := true, laidKinds := [.data, .pinned], laidTests := true, laidLooks := .later }
def PathPartsCardSaid : Prop := Claim7.holds Tryd.pinned (.plain (OpenSpec.ofChange pathPartsSpec)) pathPartsCard

/-- THE TIED CARD OF 'ricklaw11.PathBytes'. -/
def pathBytesCard : Claim7 := { stood := { row := pathBytesRow, standIns := [], harness := (true, "ffdb8647e11a5d71ddbe4f442a6742dcbc27936ffab404194821b4059b231922"), looks := false }, kinds := [], alts := [], laidByText := true, laidKinds := [.data, .pinned], laidTests := true, laidLooks := .later }
def PathBytesCardSaid : Prop := Claim7.holds Tryd.pinned (.plain (OpenSpec.ofChange pathBytesSpec)) pathBytesCard

/-- THE SECOND FORM's CARD OF 'ricklaw11.PathTells'. -/
def pathTellsUptoCard : Claim7 := { stood := { row := pathTellsUptoRow, standIns := [], harness := (true, "ffdb8647e11a5d71ddbe4f442a6742dcbc27936ffab404194821b4059b231922"), looks := false }, kinds := [], alts := [], laidByText := true, laidKinds := [.data, .pinned], laidTests := true, laidLooks := .later }
def PathTellsUptoCardSaid : Prop := Claim7.holds Tryd.pinned (.plain (OpenSpec.upto pathTellsSpec)) pathTellsUptoCard

/-- THE SECOND FORM's CARD OF 'ricklaw11.PathClash'. -/
def pathClashUptoCard : Claim7 := { stood := { row := pathClashUptoRow, standIns := [], harness := (true, "ffdb8647e11a5d71ddbe4f442a6742dcbc27936ffab404194821b4059b231922"), looks := false }, kinds := [], alts := [], laidByText := true, laidKinds := [.data, .pinned], laidTests := true, laidLooks := .later }
def PathClashUptoCardSaid : Prop := Claim7.holds Tryd.pinned (.plain (OpenSpec.upto pathClashSpec)) pathClashUptoCard

/-- THE SECOND FORM's CARD OF 'ricklaw11.PathParts'. -/
def pathPartsUptoCard : Claim7 := { stood := { row := pathPartsUptoRow, standIns := [], harness := (true, "ffdb8647e11a5d71ddbe4f442a6742dcbc27936ffab404194821b4059b231922"), looks := false }, kinds := [], alts := [], laidByText := true, laidKinds := [.data, .pinned], laidTests := true, laidLooks := .later }
def PathPartsUptoCardSaid : Prop := Claim7.holds Tryd.pinned (.plain (OpenSpec.upto pathPartsSpec)) pathPartsUptoCard

/-- THE SECOND FORM's CARD OF 'ricklaw11.PathBytes'. -/
def pathBytesUptoCard : Claim7 := { stood := { row := pathBytesUptoRow, standIns := [], harness := (true, "ffdb8647e11a5d71ddbe4f442a6742dcbc27936ffab404194821b4059b231922"), looks := false }, kinds := [], alts := [], laidByText := true, laidKinds := [.data, .pinned], laidTests := true, laidLooks := .later }
def PathBytesUptoCardSaid : Prop := Claim7.holds Tryd.pinned (.plain (OpenSpec.upto pathBytesSpec)) pathBytesUptoCard
end Rows
end Go.Proofs.YtifdgpfhpedmeaaDoor
