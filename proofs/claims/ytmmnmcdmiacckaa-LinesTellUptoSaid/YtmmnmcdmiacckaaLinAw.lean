/-
  Package lines' statements: awake.
-/
import Derived.Test.YtmmnmcdmiacckaaLinA
namespace Go.Proofs.Ytmmnmcdmiacckaa
open Go.RowKit

/-- A slice of two strings, written out. -/
theorem Sl.lit2 (w : World) (x y : List UInt8) (t : TypeId) : Sl (w.alloc (.cells #[.string ⟨x.toArray⟩, .string ⟨y.toArray⟩] t)) (.slice (some ⟨w.heap.size, 0, none⟩) 2 2) (strCells [x, y]) :=
  Sl.ofBlock (heap_alloc_new w (.cells #[.string ⟨x.toArray⟩, .string ⟨y.toArray⟩] t))

section
set_option maxRecDepth 100000
set_option maxHeartbeats 2000000
theorem awake_any (w : World) :
    Calls Try.prog 7 #[] w fun e w' => e = .returned (.bool true) ∧ Below w.heap.size w w' := by
  go_enter Try.func7, Try.ntmps7
  go_wp2_with fail
  refine (PSplit_any [97, 10, 98] w (by simp)).mono ?_
  rw [show linesOf [97, 10, 98] = [[97, 10], [98]] from by decide]
  rintro e w1 ⟨v, rfl, hv, hb1⟩
  obtain ⟨a1, c1, hf⟩ := hv.form
  subst hf
  rw [strCells_length] at hv ⊢
  rw [show ([[97, 10], [98]] : List (List UInt8)).length = 2 from rfl] at hv ⊢
  have hz1 := hb1.size
  have s2 := Sl.lit2 w1 [97, 10] [98] 9
  have b2 : Below w1.heap.size w1 (w1.alloc (.cells #[.string ⟨#[97, 10]⟩, .string ⟨#[98]⟩] 9)) := (Below.refl _ _).alloc (Nat.le_refl _) _
  have hv2 := Sl.old hv b2
  have hb2 := below_step hb1 b2 hz1
  go_wp2_with fail
  refine (SPlain_any _ _ _ [[97, 10], [98]] _ hv2 s2 (by unfold maxLen; decide)).mono ?_
  rw [show (([[97, 10], [98]] : List (List UInt8)) == [[97, 10], [98]]) = true from by decide]
  rintro e w3 ⟨rfl, q, rfl⟩
  generalize hw3 : (w1.alloc (Obj.cells #[Value.string { data := #[97, 10] }, Value.string { data := #[98] }] 9)).drewN q = w3
  have hb3 : Below w.heap.size w w3 := by rw [← hw3]; exact below_step hb2 (below_drewN _ _) hb2.size
  have hz3 := hb3.size
  have s4 := Sl.lit2 w3 [97] [98] 9
  have b4 : Below w3.heap.size w3 (w3.alloc (.cells #[.string ⟨#[97]⟩, .string ⟨#[98]⟩] 9)) := (Below.refl _ _).alloc (Nat.le_refl _) _
  have hb4 := below_step hb3 b4 hz3
  clear hv hv2 s2 b2 hw3
  go_wp2_with fail
  refine (PJoin_any _ [[97], [98]] _ s4 (by decide) (by decide)).mono ?_
  rw [show ([[97], [98]] : List (List UInt8)).flatten = [97, 98] from rfl]
  rintro e w5 ⟨rfl, hb5⟩
  have hbw5 := below_step hb4 hb5 hb4.size
  unfold strV
  go_wp2_with fail
  refine (PSame_any _ _ [] [] w5 (Sl.nil _) (Sl.nil _) (by simp)).mono ?_
  rw [show (([] : List (List UInt8)) == []) = true from rfl]
  rintro e w6 ⟨rfl, hb6⟩
  go_wp2
  go_ret
  exact ⟨rfl, below_step hbw5 hb6 hbw5.size⟩
end
end Go.Proofs.Ytmmnmcdmiacckaa
