/-
  Lists of edits: what a slice of them shows; two of them held against each other (rickhelp).
-/
import Derived.Test.YtfldheegebopoaaHelpS
import Derived.Test.YtfldheegebopoaaDifM
import Derived.Test.YtfldheegebopoaaOpen2
import Derived.Test.YtfldheegebopoaaQuiet
namespace Go.Proofs.Ytfldheegebopoaa
open Go.RowKit

/-- An edit's two cells. -/
def edCells (e : Int × List UInt8) : List Value := [.int .i64 e.1, strV e.2]
def edFlat (es : List (Int × List UInt8)) : List Value := es.flatMap edCells
theorem edFlat_length (es : List (Int × List UInt8)) : (edFlat es).length = es.length * 2 := by
  induction es with
  | nil => rfl
  | cons e es ih => rw [edFlat, List.flatMap_cons, List.length_append, ← edFlat, ih, List.length_cons]; simp [edCells]; omega
theorem edFlat_append (a b : List (Int × List UInt8)) : edFlat (a ++ b) = edFlat a ++ edFlat b := by simp [edFlat]
theorem edFlat_at (es : List (Int × List UInt8)) (i : Nat) (e : Int × List UInt8) (h : es[i]? = some e) : (edFlat es)[i * 2]? = some (.int .i64 e.1) ∧ (edFlat es)[i * 2 + 1]? = some (strV e.2) := by
  induction es generalizing i with
  | nil => simp at h
  | cons x es ih =>
    cases i with
    | zero =>
      simp at h
      subst h
      simp [edFlat, edCells]
    | succ i =>
      have := ih i (by simpa using h)
      rw [edFlat, List.flatMap_cons, ← edFlat, show (i + 1) * 2 = i * 2 + 2 by omega, show i * 2 + 2 + 1 = (i * 2 + 1) + 2 by omega]
      simpa [edCells] using this

/-- What a slice of edits shows. -/
def SlE (w : World) (v : Value) (es : List (Int × List UInt8)) : Prop :=
  ∃ ao cap, v = .slice ao es.length cap ∧ (ao = none → es = []) ∧ es.length ≤ cap ∧ ∀ a, ao = some a → ∀ i e, es[i]? = some e → w.cell? (a.add (i * 2)) = some (.int .i64 e.1) ∧ w.cell? (a.add (i * 2 + 1)) = some (strV e.2)
theorem SlE.nil (w : World) : SlE w (.slice none 0 0) [] := ⟨none, 0, rfl, fun _ => rfl, Nat.le_refl _, fun a h => by cases h⟩
theorem SlE.form {w : World} {v : Value} {es : List (Int × List UInt8)} (h : SlE w v es) : ∃ ao cap, v = .slice ao es.length cap := by
  obtain ⟨ao, cap, rfl, _⟩ := h
  exact ⟨ao, cap, rfl⟩
theorem SlE.old {w w' : World} {v : Value} {es : List (Int × List UInt8)} (h : SlE w v es) (hk : Below w.heap.size w w') : SlE w' v es := by
  obtain ⟨ao, cap, rfl, hn, hcap, hc⟩ := h
  refine ⟨ao, cap, rfl, hn, hcap, fun a ha i e he => ?_⟩
  obtain ⟨h1, h2⟩ := hc a ha i e he
  exact ⟨(World.cell?_of_block (w := w) (hk.block _ (World.block_lt_of_cell? w _ h1))).trans h1, (World.cell?_of_block (w := w) (hk.block _ (World.block_lt_of_cell? w _ h2))).trans h2⟩
theorem SlE.ofOwns {w : World} {base : Nat} {e : TypeId} {v : Value} {es : List (Int × List UInt8)} (h : w.ownsRow base e 2 v es.length (edFlat es)) : SlE w v es := by
  rcases h.2 with ⟨rfl, h0⟩ | ⟨g, cap, cur, rfl, r⟩
  · have : es = [] := List.eq_nil_of_length_eq_zero h0
    subst this
    exact SlE.nil w
  · refine ⟨some ⟨g, 0, none⟩, cap, rfl, (fun h => by cases h), r.2.2.1, fun a ha i x hx => ?_⟩
    cases ha
    obtain ⟨h1, h2⟩ := edFlat_at es i x hx
    exact ⟨h.cells rfl _ _ h1, h.cells rfl _ _ h2⟩
theorem range2 {w : World} {b o : Nat} {u v : Value} (h1 : w.cell? ⟨b, o, none⟩ = some u) (h2 : w.cell? ⟨b, o + 1, none⟩ = some v) : w.rangeAt b o [u, v] := by
  intro j x hx
  match j, hx with
  | 0, hx => cases hx; exact h1
  | 1, hx => cases hx; exact h2
theorem SlE.at {w : World} {ao : Option Addr} {n cap : Nat} {es : List (Int × List UInt8)} (h : SlE w (.slice ao n cap) es) {i : Nat} (hi : i < es.length) :
    ∃ a k x, ao = some a ∧ w.cell? (a.add (i * 2)) = some (.int .i64 k) ∧ w.cell? (a.add (i * 2 + 1)) = some (.string ⟨List.toArray x⟩) ∧ es[i]? = some (k, x) := by
  obtain ⟨ao', cap', hv, hn, _, hc⟩ := h
  obtain ⟨rfl, _, _⟩ := Value.slice.inj hv
  cases ao with
  | none => rw [hn rfl] at hi; simp at hi
  | some a =>
    obtain ⟨h1, h2⟩ := hc a rfl i _ (List.getElem?_eq_getElem hi)
    exact ⟨a, es[i].1, es[i].2, rfl, h1, h2, List.getElem?_eq_getElem hi⟩

/-- .. the address written out. -/
theorem SlE.at' {w : World} {ao : Option Addr} {n cap : Nat} {es : List (Int × List UInt8)} (h : SlE w (.slice ao n cap) es) {i : Nat} (hi : i < es.length) :
    ∃ b o k x, ao = some ⟨b, o, none⟩ ∧ w.cell? ⟨b, o + i * 2, none⟩ = some (.int .i64 k) ∧ w.cell? ⟨b, o + i * 2 + 1, none⟩ = some (.string ⟨List.toArray x⟩) ∧ es[i]? = some (k, x) := by
  obtain ⟨a, k, x, rfl, h1, h2, h3⟩ := h.at hi
  obtain ⟨b, o, sp⟩ := a
  obtain ⟨a', k', x', e', h1', _, _⟩ := h.at (i := 0) (by omega)
  cases e'
  rw [Nat.zero_mul, show (⟨b, o, sp⟩ : Addr).add 0 = ⟨b, o, sp⟩ from rfl] at h1'
  have hsp : sp = none := World.cell?_spot h1'
  subst hsp
  rw [Addr.add_lit] at h1 h2
  exact ⟨b, o, k, x, rfl, h1, by rw [Nat.add_assoc]; exact h2, h3⟩

theorem Try.infoEd : (Try.prog.info? 87).map (fun i => (i.zero, i.size, i.bytes)) = some (some (.agg #[.int .i64 0, strV []]), 2, 24) := by kernel_rfl

section
set_option maxHeartbeats 1000000
set_option maxRecDepth 100000


end
end Go.Proofs.Ytfldheegebopoaa
