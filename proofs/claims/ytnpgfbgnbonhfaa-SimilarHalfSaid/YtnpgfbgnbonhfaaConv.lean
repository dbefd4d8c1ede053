/-
  '[]byte(s)' as a slice that shows a string's bytes.
-/
import Derived.Test.YtnpgfbgnbonhfaaHelpS
import Derived.Test.YtnpgfbgnbonhfaaStr
import Derived.Laws.IdiomStrings
namespace Go.Proofs.Ytnpgfbgnbonhfaa
open Go.RowKit

section
variable {P : Program}
/-- '[]byte(s)'. -/
theorem conv_sl (w : World) (src dst e : TypeId) (l : List UInt8) (hs : P.underlying src = some .string) (hd : P.underlying dst = some (.slice e)) (he : P.underlying e = some (.int .u8)) :
    ∃ cap w', (convert src dst (.string ⟨l.toArray⟩)).run P w = .ok (.slice (some ⟨w.heap.size, 0, none⟩) l.length cap) w' ∧ Sl w' (.slice (some ⟨w.heap.size, 0, none⟩) l.length cap) (Lib.byteCells l) ∧ w'.heap.size = w.heap.size + 1 ∧ Below w.heap.size w w' := by
  have hr := run_bytes_of_string (P := P) w src dst e ⟨l.toArray⟩ hs hd he
  have hsz : (ByteArray.mk l.toArray).size = l.length := by
    show l.toArray.size = l.length
    simp
  rw [hsz] at hr
  have hge := grownCap_ge w l.length 0 e
  have hg := heap_alloc_new w.drew (.cells (bytesRow ⟨l.toArray⟩ (grownCap w l.length 0 e)) e ((bytesRow ⟨l.toArray⟩ (grownCap w l.length 0 e)).size, (bytesRow ⟨l.toArray⟩ (grownCap w l.length 0 e)).size + 1))
  rw [show w.drew.heap.size = w.heap.size from rfl] at hg
  refine ⟨_, _, hr, ⟨_, _, by rw [Lib.byteCells_length], (fun h => by cases h), by rw [Lib.byteCells_length]; exact hge, fun a ha j u hu => ?_⟩, by simp, ((Below.refl _ _).drew).alloc (Nat.le_refl _) _⟩
  cases ha
  rw [Addr.add_lit, Nat.zero_add]
  have hj : j < l.length := by
    have := (List.getElem?_eq_some_iff.1 hu).1
    rwa [Lib.byteCells_length] at this
  simp only [World.cell?, hg]
  show (bytesRow ⟨l.toArray⟩ (grownCap w l.length 0 e))[j]? = _
  rw [bytesRow, Array.getElem?_append_left (by simpa using hj), ← hu]
  simp [Lib.byteCells]
end
end Go.Proofs.Ytnpgfbgnbonhfaa
