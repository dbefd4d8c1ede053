/-
  Changes, in memory.
-/
import Derived.Test.YtnpgfbgnbonhfaaFil
namespace Go.Proofs.Ytnpgfbgnbonhfaa
open Go.RowKit

/-- a change: its path, whether it is a deletion, whether the file may be run, its text -/
abbrev ChangeS := List UInt8 × Bool × Bool × List UInt8
def encH : Enc ChangeS := ⟨4, by omega, fun f => [strV f.1, .bool f.2.1, .bool f.2.2.1, strV f.2.2.2], fun _ => rfl, fun f u hu => by
  simp only [List.mem_cons, List.not_mem_nil, or_false] at hu
  rcases hu with rfl | rfl | rfl | rfl <;> rfl⟩
def changeV (f : ChangeS) : Value := .agg #[strV f.1, .bool f.2.1, .bool f.2.2.1, strV f.2.2.2]
abbrev SlH (w : World) (v : Value) (fs : List ChangeS) : Prop := SlR encH w v fs
theorem SlH.at {w : World} {ao : Option Addr} {n cap : Nat} {fs : List ChangeS} (h : SlH w (.slice ao n cap) fs) {i : Nat} (hi : i < fs.length) :
    ∃ b o p d x t, ao = some ⟨b, o, none⟩ ∧ fs[i]? = some (p, d, x, t) ∧ w.cell? ⟨b, o + i * 4, none⟩ = some (.string ⟨List.toArray p⟩) ∧ w.cell? ⟨b, o + i * 4 + 1, none⟩ = some (.bool d) ∧ w.cell? ⟨b, o + i * 4 + 2, none⟩ = some (.bool x) ∧ w.cell? ⟨b, o + i * 4 + 3, none⟩ = some (.string ⟨List.toArray t⟩) := by
  obtain ⟨b, o, ⟨p, d, x, t⟩, ha, hx, hc⟩ := SlR.at' h hi
  exact ⟨b, o, p, d, x, t, ha, hx, hc 0 _ rfl, hc 1 _ rfl, hc 2 _ rfl, hc 3 _ rfl⟩
section
variable {w : World}
end
end Go.Proofs.Ytnpgfbgnbonhfaa
