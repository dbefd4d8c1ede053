/-
  Arguments that are strings, and lists of strings, opened; how much they bear in all.
-/
import Derived.Test.YtbcpfakdmnccmaaDoorHelpS
import Derived.Test.YtbcpfakdmnccmaaDoorOpen
import Derived.SliceStrings
import Derived.ChangeMaps
import Derived.ChangeMaps5
namespace Go.Proofs.YtbcpfakdmnccmaaDoor
open Go.RowKit Go.WideShapes Go.ChangeShapes

/-- A list of strings that came in. -/
def FactStrs (w : World) (v : Value) (ss : List (List UInt8)) : Prop := Sl w v (strCells ss) ∧ ss.length ≤ maxLen ∧ ∀ x ∈ ss, x.length ≤ maxLen
/-- Strings as data. -/
def dataStrs {H : Type} (ss : List (List UInt8)) : List (DataW H) := ss.map fun s => .lit (.string s)

theorem size_le {s : ByteArray} {n : Nat} (h : s.size ≤ n) : s.data.toList.length ≤ n := by
  rw [Array.length_toList]
  exact h

section
variable {H : Type} {enc : TypeId × Value → H} {P : Program} {w : World} {base : Nat} {spare : Nat → Bool} {held : Bool}

theorem open_str {r : Reach} {b0 : Nat} {t : TypeId} {v : Value} {d : DataW H} {ps : List MemPlace} (ht : P.underlying t = some .string) (hval : Value.okWide P w r b0 t v) (hd : DataW.Trod enc P w base spare held t v d ps) :
    ∃ l : List UInt8, v = strV l ∧ d = .lit (.string l) ∧ ps = [] ∧ l.length ≤ maxLen := by
  obtain ⟨s, rfl, rfl, rfl, hs⟩ := Go.ChangeMaps.open_string ht hval hd
  refine ⟨s.data.toList, ?_, rfl, rfl, size_le hs⟩
  simp [strV]

theorem open_strL {t e : TypeId} {fuel : Nat} {cs : List Value} {x : DataW H × List MemPlace} (ht : P.underlying t = some (.slice e)) (he : P.underlying e = some .string) (hc : P.cellsOf e = 1) (h : DataW.trod enc P w base spare held fuel t cs = some x) :
    ∃ v ss, cs = [v] ∧ FactStrs w v ss ∧ ((x.1 = .nil ∧ ss = []) ∨ ∃ rest, x.1 = .slice (dataStrs ss) rest) := by
  rcases open_strings ht he hc h with ⟨rfl, rfl⟩ | ⟨a, len, cap, ss, rfl, hb, hl, hm, hz, rfl, hcell, hsz⟩
  · exact ⟨_, [], rfl, ⟨Sl.nil w, by simp, fun x hx => by cases hx⟩, .inl ⟨rfl, rfl⟩⟩
  · have hlen : len ≤ ss.length := by rw [hz]; split <;> omega
    refine ⟨_, (ss.take len).map (·.data.toList), rfl, ⟨⟨some a, cap, by simp [strCells]; omega, (fun h => by cases h), by simp [strCells]; omega, fun a' ha' j u hu => ?_⟩, by simp; omega, fun x hx => ?_⟩, .inr ⟨strs (ss.drop len), ?_⟩⟩
    · cases ha'
      have hj : j < len ∧ j < ss.length := by
                                               have := (List.getElem?_eq_some_iff.1 hu).1
                                               have h2 : j < min len ss.length := by simpa [strCells] using this
                                               omega
      rw [hcell j hj.2]
      simp [strCells, hj.1, hj.2, strV] at hu
      rw [← hu]
      simp [hj.2]
    · obtain ⟨s, hs, rfl⟩ := List.mem_map.1 hx
      exact size_le (hsz s (List.mem_of_mem_take hs))
    · show DataW.slice (strs (ss.take len)) _ = _
      rw [dataStrs, List.map_map]
      rfl
end
end Go.Proofs.YtbcpfakdmnccmaaDoor
