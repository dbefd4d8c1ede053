/-
  DERIVED. GIVEN WITH THE SEED: THE CARDS: each row of YtbcpfakdmnccmaaDoorRows.lean that lists a variable, with what it lists TIED to the program's text (the seventh form; the later family's looks); each row that meets fmt, with fmt's text TOLD by the authors' own Lean function (tested against real Go, not proved from fmt's source: count such statements apart). THE CARD IS WHAT COUNTS. Prove the row's statement (the work); the ties are given (YtbcpfakdmnccmaaDoorTie.lean); close each card by the builder's one call (the guide's Derived/Test/ToyasCard.lean, 'card_holds'). Laid BY PROGRAM, IN A SANDBOX (cutbox-door.mjs). By AI agents, Wed Nov 11 2026. No macro, syntax, notation, axiom, sorry.
-/
import Derived.Test.YtbcpfakdmnccmaaDoorRows
import GoSem.ClaimSeven
namespace Go.Proofs.YtbcpfakdmnccmaaDoor
namespace Rows

/-- THE TIED CARD OF 'ricklaw15.ObjectWrites'. -/
def objectWritesCard : Claim7 := { stood := { row := objectWritesRow, standIns := [], harness := (true, "5b05c0d1988d55457a193b266395c754305d380dfb67cc796484ccc6bf87487b"), looks := false }, kinds := [], alts := [], laidByText := true, laidKinds := [.data, .pinned], laidTests := true, laidLooks := .later }
def ObjectWritesCardSaid : Prop := Claim7.holds Tryd.pinned (.plain (OpenSpec.ofChange objectWritesSpec)) objectWritesCard

/-- THE TIED CARD OF 'ricklaw15.ObjectTakes'. -/
def objectTakesCard : Claim7 := { stood := { row := objectTakesRow, standIns := [], harness := (true, "5b05c0d1988d55457a193b266395c754305d380dfb67cc796484ccc6bf87487b"), looks := false }, kinds := [], alts := [], laidByText := true, laidKinds := [.data, .pinned], laidTests := true, laidLooks := .later }
def ObjectTakesCardSaid : Prop := Claim7.holds Tryd.pinned (.plain (OpenSpec.ofChange objectTakesSpec)) objectTakesCard

/-- THE TIED CARD OF 'ricklaw15.ObjectBack'. -/
def objectBackCard : Claim7 := { stood := { row := objectBackRow, standIns := [], harness := (true, "5b05c0d1988d55457a193b266395c754305d380dfb67cc796484ccc6bf87487b"), looks := false }, kinds := [], alts := [], laidByText := true, laidKinds := [.data, .pinned], laidTests := true, laidLooks := .later }
def ObjectBackCardSaid : Prop := Claim7.holds Tryd.pinned (.plain (OpenSpec.ofChange objectBackSpec)) objectBackCard

/-- THE TIED CARD OF 'ricklaw15.ObjectBounds'. -/
def objectBoundsCard : Claim7 := { stood := { row := objectBoundsRow, standIns := [], harness := (true, "5b05c0d1988d55457a193b266395c754305d380dfb67cc796484ccc6bf87487b"), looks := false }, kinds := [], alts := [], laidByText := true, laidKinds := [.data, .pinned], laidTests := true, laidLooks := .later }
def ObjectBoundsCardSaid : Prop := Claim7.holds Tryd.pinned (.plain (OpenSpec.ofChange objectBoundsSpec)) objectBoundsCard

/-- THE SECOND FORM's CARD OF 'ricklaw15.ObjectWrites'. -/
def objectWritesUptoCard : Claim7 := { stood := { row := objectWritesUptoRow, standIns := [], harness := (true, "5b05c0d1988d55457a193b266395c754305d380dfb67cc796484ccc6bf87487b"), looks := false }, kinds := [], alts := [], laidByText := true, laidKinds := [.data, .pinned], laidTests := true, laidLooks := .later }
def ObjectWritesUptoCardSaid : Prop := Claim7.holds Tryd.pinned (.plain (OpenSpec.upto objectWritesSpec)) objectWritesUptoCard

/-- THE SECOND FORM's CARD OF 'ricklaw15.ObjectTakes'. -/
def objectTakesUptoCard : Claim7 := { stood := { row := objectTakesUptoRow, standIns := [], harness := (true, "5b05c0d1988d55457a193b266395c754305d380dfb67cc796484ccc6bf87487b"), looks := false }, kinds := [], alts := [], laidByText := true, laidKinds := [.data, .pinned], laidTests := true, laidLooks := .later }
def ObjectTakesUptoCardSaid : Prop := Claim7.holds Tryd.pinned (.plain (OpenSpec.upto objectTakesSpec)) objectTakesUptoCard

/-- THE SECOND FORM's CARD OF 'ricklaw15.ObjectBack'. -/
def objectBackUptoCard : Claim7 := { stood := { row := objectBackUptoRow, standIns := [], harness := (true, "5b05c0d1988d55457a193b266395c754305d380dfb67cc796484ccc6bf87487b"), looks := false }, kinds := [], alts := [], laidByText := true, laidKinds := [.data, .pinned], laidTests := true, laidLooks := .later }
def ObjectBackUptoCardSaid : Prop := Claim7.holds Tryd.pinned (.plain (OpenSpec.upto objectBackSpec)) objectBackUptoCard

/-- THE SECOND FORM's CARD OF 'ricklaw15.ObjectBounds'. -/
def objectBoundsUptoCard : Claim7 := { stood := { row := objectBoundsUptoRow, standIns := [], harness := (true, "5b05c0d1988d55457a193b266395c754305d380dfb67cc796484ccc6bf87487b"), looks := false }, kinds := [], alts := [], laidByText := true, laidKinds := [.data, .pinned], laidTests := true, laidLooks := .later }
def ObjectBoundsUptoCardSaid : Prop := Claim7.holds Tryd.pinned (.plain (OpenSpec.upto objectBoundsSpec)) objectBoundsUptoCard
end Rows
end Go.Proofs.YtbcpfakdmnccmaaDoor
