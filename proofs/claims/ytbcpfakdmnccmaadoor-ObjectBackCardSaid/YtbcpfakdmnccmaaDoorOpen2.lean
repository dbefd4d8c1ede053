/-
  Slices whose elements take several cells each, opened. Nothing of the program.
-/
import Derived.Test.YtbcpfakdmnccmaaDoorOpen
namespace Go.Proofs.YtbcpfakdmnccmaaDoor
open Go.RowKit Go.Deep

/-- A slice of elements of 'size' cells each: the cells, element by element. -/
def SlN (size : Nat) (w : World) (v : Value) (css : List (List Value)) : Prop :=
  ∃ ao cap, v = .slice ao css.length cap ∧ (ao = none → css = []) ∧ css.length ≤ cap ∧ ∀ a, ao = some a → ∀ i cs, css[i]? = some cs → cs.length = size ∧ ∀ j u, cs[j]? = some u → w.cell? (a.add (i * size + j)) = some u

theorem SlN.form {size : Nat} {w : World} {v : Value} {css : List (List Value)} (h : SlN size w v css) : ∃ ao cap, v = .slice ao css.length cap := by
  obtain ⟨ao, cap, rfl, _⟩ := h
  exact ⟨ao, cap, rfl⟩
theorem SlN.old {size : Nat} {w w' : World} {v : Value} {css : List (List Value)} (h : SlN size w v css) (hk : Below w.heap.size w w') : SlN size w' v css := by
  obtain ⟨ao, cap, rfl, hn, hcap, hc⟩ := h
  refine ⟨ao, cap, rfl, hn, hcap, fun a ha i cs hi => ⟨(hc a ha i cs hi).1, fun j u hu => ?_⟩⟩
  have := (hc a ha i cs hi).2 j u hu
  exact (World.cell?_of_block (w := w) (hk.block _ (World.block_lt_of_cell? w _ this))).trans this
theorem SlN.at {size : Nat} {w : World} {ao : Option Addr} {n cap : Nat} {css : List (List Value)} (h : SlN size w (.slice ao n cap) css) {i : Nat} {cs : List Value} (hi : css[i]? = some cs) :
    ∃ a, ao = some a ∧ ∀ j u, cs[j]? = some u → w.cell? (a.add (i * size + j)) = some u := by
  obtain ⟨ao', cap', hv, hn, _, hc⟩ := h
  obtain ⟨rfl, _, _⟩ := Value.slice.inj hv
  cases ao with
  | none => rw [hn rfl] at hi; simp at hi
  | some a => exact ⟨a, rfl, (hc a rfl i cs hi).2⟩

/-- .. the address written out. -/
theorem SlN.at' {size : Nat} {w : World} {ao : Option Addr} {n cap : Nat} {css : List (List Value)} (h : SlN size w (.slice ao n cap) css) {i : Nat} {cs : List Value} (hi : css[i]? = some cs) (hp : 0 < cs.length) :
    ∃ b o, ao = some ⟨b, o, none⟩ ∧ b < w.heap.size ∧ ∀ j u, cs[j]? = some u → w.cell? ⟨b, o + i * size + j, none⟩ = some u := by
  obtain ⟨ao', cap', hv, hn, _, hall⟩ := h
  obtain ⟨rfl, _, _⟩ := Value.slice.inj hv
  cases ao with
  | none => rw [hn rfl] at hi; simp at hi
  | some a =>
    obtain ⟨b, o, sp⟩ := a
    obtain ⟨hlen, hc⟩ := hall _ rfl i cs hi
    have hil := (List.getElem?_eq_some_iff.1 hi).1
    obtain ⟨hlen0, hc0⟩ := hall _ rfl 0 _ (List.getElem?_eq_getElem (by omega))
    have h0 := hc0 0 _ (List.getElem?_eq_getElem (by omega))
    rw [Nat.zero_mul, Nat.add_zero, show (⟨b, o, sp⟩ : Addr).add 0 = ⟨b, o, sp⟩ from rfl] at h0
    have hsp : sp = none := World.cell?_spot h0
    subst hsp
    have hadd : ∀ j, (⟨b, o, none⟩ : Addr).add j = ⟨b, o + j, none⟩ := fun j => Addr.add_lit ..
    refine ⟨b, o, rfl, World.block_lt_of_cell? w _ h0, fun j u hu => ?_⟩
    have := hc j u hu
    rwa [hadd, ← Nat.add_assoc] at this

section
variable {H : Type} {enc : TypeId × Value → H} {P : Program} {w : World} {base : Nat} {spare : Nat → Bool} {held : Bool}

theorem open_slN {t e : TypeId} {size fuel : Nat} {cs : List Value} {x : DataW H × List MemPlace} (ht : P.underlying t = some (.slice e)) (hc : P.cellsOf e = size) (h : DataW.trod enc P w base spare held fuel t cs = some x) :
    ∃ v css n, cs = [v] ∧ SlN size w v css ∧ css.length ≤ maxLen ∧ ∀ u ∈ css, ∃ y, DataW.trod enc P w base spare held n e u = some y := by
  rcases open_slice ht h with ⟨rfl, _⟩ | ⟨a, len, cap, m, n, D, Pl, rfl, hb, hl, hm, hmm, _, hx⟩
  · exact ⟨_, [], 0, rfl, ⟨none, 0, rfl, fun _ => rfl, Nat.le_refl _, fun a ha => by cases ha⟩, by simp, fun u hu => by cases hu⟩
  · have hlm : len ≤ m := by rw [hmm]; split <;> omega
    subst hc
    obtain ⟨F, hF⟩ := choose_lt (α := List Value) (p := fun i cs' => w.cells? base (a.add (i * P.cellsOf e)) (P.cellsOf e) = some cs' ∧ DataW.trod enc P w base spare held n e cs' = some (D i, Pl i)) (fun i hi => hx i hi)
    refine ⟨_, (List.range len).map F, n, rfl, ⟨some a, cap, by simp, (fun h => by cases h), by simpa using hl, fun a' ha' i cs hi => ?_⟩, by simp; omega, fun u hu => ?_⟩
    · cases ha'
      have hi' : i < len := by have := (List.getElem?_eq_some_iff.1 hi).1; simpa using this
      have hcs : cs = F i := by simpa [hi'] using hi.symm
      obtain ⟨h1, h2⟩ := hF i (by omega)
      obtain ⟨_, hlen, hat⟩ := World.cells?_some h1
      rw [hcs]
      refine ⟨hlen, fun j u hu => ?_⟩
      have hj : j < (F i).length := (List.getElem?_eq_some_iff.1 hu).1
      have := hat j (by omega)
      rw [← addr_add_add, this, hu]
    · obtain ⟨i, hi, rfl⟩ := List.mem_map.1 hu
      exact ⟨_, (hF i (by have := List.mem_range.1 hi; omega)).2⟩
end
end Go.Proofs.YtbcpfakdmnccmaaDoor
