/-
  Lists of lists of texts, in memory, and as they come in.
-/
import Derived.Test.YtikemkgedmbijaaHelpS
import Derived.Test.YtikemkgedmbijaaOpenS
import Derived.Test.YtikemkgedmbijaaOpen2
import Derived.ProofKit
import Derived.OpenShut
namespace Go.Proofs.Ytikemkgedmbijaa
open Go.ChangeShapes Go.WideShapes Go.ChangeAt Go.RowKit

/-- A list of lists of texts is shown. -/
def SlLL (w : World) (v : Value) (ls : List (List (List UInt8))) : Prop :=
  ∃ ao cap, v = .slice ao ls.length cap ∧ (ao = none → ls = []) ∧ ls.length ≤ cap ∧ ∀ a, ao = some a → ∀ (i : Nat) (l : List (List UInt8)), ls[i]? = some l → ∃ u, w.cell? (a.add i) = some u ∧ Sl w u (strCells l)
theorem SlLL.nil (w : World) : SlLL w (.slice none 0 0) [] := ⟨none, 0, rfl, fun _ => rfl, Nat.le_refl _, fun a h => by cases h⟩
theorem SlLL.form {w : World} {v : Value} {ls : List (List (List UInt8))} (h : SlLL w v ls) : ∃ ao cap, v = .slice ao ls.length cap := by
  obtain ⟨ao, cap, rfl, _⟩ := h
  exact ⟨ao, cap, rfl⟩
theorem SlLL.old {w w' : World} {v : Value} {ls : List (List (List UInt8))} (h : SlLL w v ls) (hk : Below w.heap.size w w') : SlLL w' v ls := by
  obtain ⟨ao, cap, rfl, hn, hcap, hc⟩ := h
  refine ⟨ao, cap, rfl, hn, hcap, fun a ha i l hi => ?_⟩
  obtain ⟨u, h1, h2⟩ := hc a ha i l hi
  exact ⟨u, (World.cell?_of_block (w := w) (hk.block _ (World.block_lt_of_cell? w _ h1))).trans h1, h2.old hk⟩
theorem SlLL.at' {w : World} {ao : Option Addr} {n cap : Nat} {ls : List (List (List UInt8))} (h : SlLL w (.slice ao n cap) ls) {i : Nat} (hi : i < ls.length) :
    ∃ b o l lo lc, ao = some ⟨b, o, none⟩ ∧ w.cell? ⟨b, o + i, none⟩ = some (.slice lo l.length lc) ∧ Sl w (.slice lo l.length lc) (strCells l) ∧ ls[i]? = some l := by
  obtain ⟨ao', cap', hv, hn, _, hc⟩ := h
  obtain ⟨rfl, _, _⟩ := Value.slice.inj hv
  cases ao with
  | none => rw [hn rfl] at hi; cases hi
  | some a =>
    obtain ⟨b, o, sp⟩ := a
    obtain ⟨u, h1, h2⟩ := hc _ rfl i _ (List.getElem?_eq_getElem hi)
    obtain ⟨u0, h0, _⟩ := hc _ rfl 0 _ (List.getElem?_eq_getElem (by omega))
    rw [show (⟨b, o, sp⟩ : Addr).add 0 = ⟨b, o, sp⟩ from rfl] at h0
    have hsp : sp = none := World.cell?_spot h0
    subst hsp
    rw [Addr.add_lit] at h1
    obtain ⟨lo, lc, rfl⟩ := h2.form
    rw [strCells_length] at h1 h2
    exact ⟨b, o, _, lo, lc, rfl, h1, h2, List.getElem?_eq_getElem hi⟩

/-- A list of lists of texts that came in. -/
def FactLL (w : World) (v : Value) (ls : List (List (List UInt8))) : Prop := SlLL w v ls ∧ ls.length ≤ maxLen ∧ ∀ l ∈ ls, l.length ≤ maxLen
theorem llCells : Try.prog.cellsOf 23 = 1 := by kernel_rfl
section
variable {H : Type} {enc : TypeId × Value → H} {w : World} {base : Nat} {spare : Nat → Bool} {held : Bool}
theorem open_strLL {fuel : Nat} {cs : List Value} {x : DataW H × List MemPlace} (h : DataW.trod enc Try.prog w base spare held fuel 22 cs = some x) :
    ∃ v l, cs = [v] ∧ FactLL w v l := by
  obtain ⟨v, css, n, rfl, hs, hl, hu⟩ := open_slN Try.underlying22 llCells h
  obtain ⟨l, hll, hlc⟩ : ∃ l : List (List (List UInt8)), l.length = css.length ∧ ∀ (i : Nat) (h : List (List UInt8)), l[i]? = some h → ∃ u, css[i]? = some [u] ∧ FactStrs w u h := by
    clear hs hl
    induction css with
    | nil => exact ⟨[], rfl, fun i h hi => by simp at hi⟩
    | cons c css ih =>
      obtain ⟨y, hy⟩ := hu c (List.mem_cons_self ..)
      obtain ⟨u, x, rfl, s1, _⟩ := open_strL Try.underlying23 Try.underlying9 (by kernel_rfl) hy
      obtain ⟨l, hl, hc⟩ := ih fun u hu' => hu u (List.mem_cons_of_mem _ hu')
      refine ⟨x :: l, by simp [hl], fun i h hi => ?_⟩
      cases i with
      | zero =>
        simp at hi
        subst hi
        exact ⟨u, rfl, s1⟩
      | succ i => exact hc i h (by simpa using hi)
  obtain ⟨ao, cap, rfl, hn, hcap, hc⟩ := hs
  refine ⟨_, l, rfl, ⟨ao, cap, by rw [hll], fun h => List.eq_nil_of_length_eq_zero (by rw [hll, hn h]; rfl), by omega, fun a ha i h hi => ?_⟩, by rw [hll]; simpa using hl, fun h hh => ?_⟩
  · obtain ⟨u, hci, s1⟩ := hlc i h hi
    have := (hc a ha i _ hci).2 0 _ rfl
    rw [Nat.mul_one] at this
    exact ⟨u, this, s1.1⟩
  · obtain ⟨i, hi⟩ := List.getElem?_of_mem hh
    obtain ⟨u, _, s1⟩ := hlc i h hi
    exact s1.2.1
end
end Go.Proofs.Ytikemkgedmbijaa
