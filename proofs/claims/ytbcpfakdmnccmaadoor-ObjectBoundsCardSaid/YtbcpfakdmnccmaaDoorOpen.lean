/-
  Arguments, opened: slices of bytes, integers, bools, strings, as lists. Nothing of the program.
-/
import Derived.Test.YtbcpfakdmnccmaaDoorLaw2
import Derived.Deep.Slices
import Derived.Deep.Strs
import Derived.ProofKit
import Derived.OpenShut
import Derived.ShutString
import Derived.ChangeOld
namespace Go.Proofs.YtbcpfakdmnccmaaDoor
open Go.RowKit Go.Deep

section
variable {H : Type} {enc : TypeId × Value → H} {P : Program} {w : World} {base : Nat} {spare : Nat → Bool} {held : Bool}

/-- A slice of elements of one cell each: nil, or some cells; each reads as its type says. -/
theorem open_sl {t e : TypeId} {fuel : Nat} {cs : List Value} {x : DataW H × List MemPlace} (ht : P.underlying t = some (.slice e)) (hc : P.cellsOf e = 1) (h : DataW.trod enc P w base spare held fuel t cs = some x) :
    ∃ v vs n, cs = [v] ∧ Sl w v vs ∧ vs.length ≤ maxLen ∧ ∀ u ∈ vs, ∃ y, DataW.trod enc P w base spare held n e [u] = some y := by
  rcases open_slice1 ht hc h with ⟨rfl, _⟩ | ⟨a, len, cap, m, n, V, D, Pl, rfl, hb, hl, hm, hmm, _, hx⟩
  · exact ⟨_, [], 0, rfl, Sl.nil w, by simp, fun u hu => by cases hu⟩
  · have hlm : len ≤ m := by rw [hmm]; split <;> omega
    refine ⟨_, (List.range len).map V, n, rfl, ⟨some a, cap, by simp, (fun h => by cases h), by simpa using hl, fun a' ha' j u hu => ?_⟩, by simp; omega, fun u hu => ?_⟩
    · cases ha'
      have hj : j < len := by have := (List.getElem?_eq_some_iff.1 hu).1; simpa using this
      have : u = V j := by simpa [hj] using hu.symm
      rw [this]
      exact (hx j (by omega)).1
    · obtain ⟨j, hj, rfl⟩ := List.mem_map.1 hu
      exact ⟨_, (hx j (by have := List.mem_range.1 hj; omega)).2⟩

theorem map_of {α : Type} {p : Value → α → Prop} : ∀ (vs : List Value), (∀ u ∈ vs, ∃ x, p u x) → ∃ xs : List α, xs.length = vs.length ∧ ∀ (i : Nat) u, vs[i]? = some u → ∃ x, xs[i]? = some x ∧ p u x
  | [], _ => ⟨[], rfl, fun i u h => by simp at h⟩
  | v :: vs, h => by
    obtain ⟨x, hx⟩ := h v (List.mem_cons_self ..)
    obtain ⟨xs, hl, hxs⟩ := map_of vs fun u hu => h u (List.mem_cons_of_mem _ hu)
    refine ⟨x :: xs, by simp [hl], fun i u hi => ?_⟩
    cases i with
    | zero => simp at hi; subst hi; exact ⟨x, rfl, hx⟩
    | succ i => simpa using hxs i u (by simpa using hi)
theorem map_eq_of {α : Type} {f : α → Value} (vs : List Value) (h : ∀ u ∈ vs, ∃ x, u = f x) : ∃ xs : List α, vs = xs.map f := by
  induction vs with
  | nil => exact ⟨[], rfl⟩
  | cons v vs ih =>
    obtain ⟨x, rfl⟩ := h v (List.mem_cons_self ..)
    obtain ⟨xs, rfl⟩ := ih fun u hu => h u (List.mem_cons_of_mem _ hu)
    exact ⟨x :: xs, rfl⟩

theorem open_bytes {t e : TypeId} {fuel : Nat} {cs : List Value} {x : DataW H × List MemPlace} (ht : P.underlying t = some (.slice e)) (he : P.underlying e = some (.int .u8)) (hc : P.cellsOf e = 1) (h : DataW.trod enc P w base spare held fuel t cs = some x) :
    ∃ v bs, cs = [v] ∧ Sl w v (Lib.byteCells bs) ∧ bs.length ≤ maxLen := by
  obtain ⟨v, vs, n, rfl, hs, hl, hu⟩ := open_sl ht hc h
  obtain ⟨bs, rfl⟩ := map_eq_of (f := fun b : UInt8 => Value.int .u8 b.toNat) vs (fun u hu' => by
    obtain ⟨y, hy⟩ := hu u hu'
    obtain ⟨k, h1, h2, h3⟩ := DataW.trod_int he hy
    have hk := bounds_u8 h3
    refine ⟨UInt8.ofNat k.toNat, ?_⟩
    rw [show u = Value.int .u8 k from by simpa using h1]
    congr 1
    simp
    omega)
  exact ⟨v, bs, rfl, hs, by simpa using hl⟩

theorem open_intList {t e : TypeId} {k : IntKind} {fuel : Nat} {cs : List Value} {x : DataW H × List MemPlace} (ht : P.underlying t = some (.slice e)) (he : P.underlying e = some (.int k)) (hc : P.cellsOf e = 1) (h : DataW.trod enc P w base spare held fuel t cs = some x) :
    ∃ v, ∃ zs : List Int, cs = [v] ∧ Sl w v (zs.map (Value.int k)) ∧ zs.length ≤ maxLen ∧ ∀ z ∈ zs, (Lit.int k z).wf = true := by
  obtain ⟨v, vs, n, rfl, hs, hl, hu⟩ := open_sl ht hc h
  obtain ⟨zs, rfl⟩ := map_eq_of (f := Value.int k) vs (fun u hu' => by
    obtain ⟨y, hy⟩ := hu u hu'
    obtain ⟨z, h1, h2, h3⟩ := DataW.trod_int he hy
    exact ⟨z, by simpa using h1⟩)
  refine ⟨v, zs, rfl, hs, by simpa using hl, fun z hz => ?_⟩
  obtain ⟨y, hy⟩ := hu (.int k z) (List.mem_map.2 ⟨z, hz, rfl⟩)
  obtain ⟨z', h1, h2, h3⟩ := DataW.trod_int he hy
  have : z = z' := by simpa using h1
  rw [this]; exact h3

theorem open_boolList {t e : TypeId} {fuel : Nat} {cs : List Value} {x : DataW H × List MemPlace} (ht : P.underlying t = some (.slice e)) (he : P.underlying e = some .bool) (hc : P.cellsOf e = 1) (h : DataW.trod enc P w base spare held fuel t cs = some x) :
    ∃ v, ∃ bs : List Bool, cs = [v] ∧ Sl w v (bs.map Value.bool) ∧ bs.length ≤ maxLen := by
  obtain ⟨v, vs, n, rfl, hs, hl, hu⟩ := open_sl ht hc h
  obtain ⟨bs, rfl⟩ := map_eq_of (f := Value.bool) vs (fun u hu' => by
    obtain ⟨y, hy⟩ := hu u hu'
    obtain ⟨b, h1, _⟩ := DataW.trod_bool he hy
    exact ⟨b, by simpa using h1⟩)
  exact ⟨v, bs, rfl, hs, by simpa using hl⟩
end

/-! What a walk is told of a slice that came in. -/
def FactBytes (w : World) (v : Value) (bs : List UInt8) : Prop := Sl w v (Lib.byteCells bs) ∧ bs.length ≤ maxLen
def FactInts (k : IntKind) (w : World) (v : Value) (zs : List Int) : Prop := Sl w v (zs.map (Value.int k)) ∧ zs.length ≤ maxLen ∧ ∀ z ∈ zs, (Lit.int k z).wf = true
def FactBools (w : World) (v : Value) (bs : List Bool) : Prop := Sl w v (bs.map Value.bool) ∧ bs.length ≤ maxLen
end Go.Proofs.YtbcpfakdmnccmaaDoor
