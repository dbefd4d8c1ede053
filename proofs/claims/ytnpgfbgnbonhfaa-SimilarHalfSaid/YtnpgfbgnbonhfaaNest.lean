/-
  A list of texts that lies apart from a list of the call's own.
-/
import Derived.Test.YtnpgfbgnbonhfaaHelpS
import Derived.Test.YtnpgfbgnbonhfaaLaw2
namespace Go.Proofs.Ytnpgfbgnbonhfaa
open Go.RowKit

theorem owns_kept {w w' : World} {base : Nat} {e : TypeId} {size : Nat} {v : Value} {n : Nat} {xs : List Value} (h : w.ownsRow base e size v n xs) (hk : ∀ g, v.ownBlock = some g → g < w.heap.size → w'.heap[g]? = w.heap[g]?) : w'.ownsRow base e size v n xs := by
  refine ⟨h.1, ?_⟩
  rcases h.2 with hn | ⟨g, cap, cur, rfl, hb, hg, rest⟩
  · exact .inl hn
  · exact .inr ⟨g, cap, cur, rfl, hb, (hk g rfl (lt_of_block hg)).trans hg, rest⟩

/-- A list of texts that lies apart from v's own block. -/
def Nest (w : World) (v u : Value) (xs : List (List UInt8)) : Prop := Sl w u (strCells xs) ∧ ∀ a n c, u = .slice (some a) n c → a.block < w.heap.size ∧ v.ownBlock ≠ some a.block
theorem Nest.kept {w w' : World} {v v' u : Value} {xs : List (List UInt8)} (h : Nest w v u xs) (hk : ∀ b, b < w.heap.size → v.ownBlock ≠ some b → w'.heap[b]? = w.heap[b]?) (hz : w.heap.size ≤ w'.heap.size) (hv : v'.ownBlock = v.ownBlock ∨ ∃ f, v'.ownBlock = some f ∧ w.heap.size ≤ f) : Nest w' v' u xs := by
  refine ⟨h.1.kept fun a n c e hlt => hk _ hlt (h.2 a n c e).2, fun a n c e => ⟨Nat.lt_of_lt_of_le (h.2 a n c e).1 hz, ?_⟩⟩
  rcases hv with hv | ⟨f, hv, hf⟩
  · rw [hv]
    exact (h.2 a n c e).2
  · rw [hv]
    intro e'
    have := (h.2 a n c e).1
    cases e'
    omega

/-- apart from v's own block, or empty -/
def NestL (w : World) (v u : Value) (xs : List (List UInt8)) : Prop := Sl w u (strCells xs) ∧ (xs ≠ [] → Nest w v u xs)
theorem Nest.toL {w : World} {v u : Value} {xs : List (List UInt8)} (h : Nest w v u xs) : NestL w v u xs := ⟨h.1, fun _ => h⟩
theorem NestL.kept {w w' : World} {v v' u : Value} {xs : List (List UInt8)} (h : NestL w v u xs) (hk : ∀ b, b < w.heap.size → v.ownBlock ≠ some b → w'.heap[b]? = w.heap[b]?) (hz : w.heap.size ≤ w'.heap.size) (hv : v'.ownBlock = v.ownBlock ∨ ∃ f, v'.ownBlock = some f ∧ w.heap.size ≤ f) : NestL w' v' u xs := by
  by_cases hx : xs = []
  · subst hx
    obtain ⟨ao, cap, rfl, h1, h2, _⟩ := h.1
    exact ⟨⟨ao, cap, rfl, fun _ => rfl, h2, fun a _ j x hx => by simp [strCells] at hx⟩, fun h => absurd rfl h⟩
  · have := (h.2 hx).kept hk hz hv
    exact this.toL
theorem NestL.old' {w w' : World} {v u : Value} {xs : List (List UInt8)} (h : NestL w v u xs) (hk : Below w.heap.size w w') : NestL w' v u xs := h.kept (fun b hb _ => hk.block b hb) hk.size (.inl rfl)
theorem NestL.new {w w' : World} {v u : Value} {xs : List (List UInt8)} (h : Sl w u (strCells xs)) (hk : ∀ b, b < w.heap.size → w'.heap[b]? = w.heap[b]?) (hz : w.heap.size ≤ w'.heap.size) (hv : ∀ j, v.ownBlock = some j → w.heap.size ≤ j) : NestL w' v u xs := by
  refine ⟨?_, fun hx => ⟨h.kept fun a n c e hlt => hk _ hlt, fun a n c e => ?_⟩⟩
  · exact h.kept fun a n c e hlt => hk _ hlt
  · subst e
    have hb := h.lt (i := 0) (by cases xs with | nil => exact absurd rfl hx | cons y l => simp [strCells])
    exact ⟨Nat.lt_of_lt_of_le hb hz, fun e => Nat.lt_irrefl _ (Nat.lt_of_lt_of_le hb (hv _ e))⟩
/-- what is owned from where the world ends on is apart from all that lay there -/
theorem nestL_own {w0 w : World} {v u : Value} {xs : List (List UInt8)} (h : w.ownsRow w0.heap.size 9 1 u xs.length (strCells xs)) (hv : ∀ j, v.ownBlock = some j → j < w0.heap.size) : NestL w v u xs := by
  refine Nest.toL ⟨Sl.ofOwns h, fun a n c e => ?_⟩
  rcases h.2 with ⟨rfl, _⟩ | ⟨g, cap, cur, rfl, r1, r2, r3⟩
  · cases e
  · cases e
    refine ⟨lt_of_block r2, fun e => ?_⟩
    have := hv _ e
    simp only at this
    omega
end Go.Proofs.Ytnpgfbgnbonhfaa
