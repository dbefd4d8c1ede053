/-
  What statements share (rickhelp), at strings: a copy with spare room (Own), whether it is as it was (Kept), two lists held against each other (Plain, Same).
-/
import Derived.Test.YtbcpfakdmnccmaaDoorBase
import Derived.Test.YtbcpfakdmnccmaaDoorLaw3
import Derived.Deep.QuietTactic
import Derived.BigQuiet
import Derived.Deep.RegionHeld3
import Derived.Deep.DrawnRows
namespace Go.Proofs.YtbcpfakdmnccmaaDoor
open Go.RowKit

section
set_option maxHeartbeats 1000000
set_option maxRecDepth 100000

/-- A string of these bytes. -/
def strV (l : List UInt8) : Value := .string ⟨l.toArray⟩
/-- Strings, as a slice's cells. -/
def strCells (l : List (List UInt8)) : List Value := l.map strV
theorem strCells_length (l : List (List UInt8)) : (strCells l).length = l.length := by simp [strCells]
theorem strCells_append (l m : List (List UInt8)) : strCells (l ++ m) = strCells l ++ strCells m := by simp [strCells]
theorem str_one (l : List (List UInt8)) : ∀ v ∈ strCells l, v.oneCell' = true := by
  intro v hv
  obtain ⟨b, _, rfl⟩ := List.mem_map.1 hv
  rfl
/-- A string, read: the text behind a name. -/
theorem Sl.strAt' {w : World} {ao : Option Addr} {n cap : Nat} {l : List (List UInt8)} (h : Sl w (.slice ao n cap) (strCells l)) {i : Nat} (hi : i < l.length) :
    ∃ a b, ao = some a ∧ w.cell? (a.add i) = some (.string ⟨List.toArray b⟩) ∧ l[i]? = some b := Sl.elemAt' (f := strV) h hi
theorem Tryd.infoStr : (Tryd.prog.info? 9).map (fun i => (i.zero, i.size, i.bytes)) = some (some (strV []), 1, 16) := by kernel_rfl








end
end Go.Proofs.YtbcpfakdmnccmaaDoor
