/-
  Scripts of lists of any length: their kinds, both their sides, how long they are; places in them.
-/
import Derived.Test.YtfldheegebopoaaCkW
namespace Go.Proofs.Ytfldheegebopoaa

section
variable {α : Type} [DecidableEq α]
theorem restS_all (a b : List α) : Kinds (restS a b) ∧ sideS 2 (restS a b) = a ∧ sideS 3 (restS a b) = b ∧ (restS a b).length ≤ a.length + b.length := by
  unfold restS
  split
  · refine ⟨fun e he => ?_, ?_, ?_, by simp⟩
    · rcases List.mem_append.1 he with h | h
      · obtain ⟨x, _, rfl⟩ := List.mem_map.1 h
        simp
      · obtain ⟨x, _, rfl⟩ := List.mem_map.1 h
        simp
    · rw [sideS_append, sideS_all 2 2 a (.inr rfl), sideS_none 2 3 b (by decide), List.append_nil]
    · rw [sideS_append, sideS_none 3 2 a (by decide), sideS_all 3 3 b (.inr rfl), List.nil_append]
  · have h := goS_sides a b
    exact ⟨goS_kinds a b, h.1, h.2.1, by omega⟩
theorem scriptS_all : ∀ a b : List α, Kinds (scriptS a b) ∧ sideS 2 (scriptS a b) = a ∧ sideS 3 (scriptS a b) = b ∧ (scriptS a b).length ≤ a.length + b.length
  | [], b => by rw [scriptS_nil_left]; exact restS_all _ _
  | x :: a, [] => by rw [scriptS_nil_right]; exact restS_all _ _
  | x :: a, y :: b => by
    rw [scriptS_cons]
    split
    · rename_i h
      subst h
      obtain ⟨h1, h2, h3, h4⟩ := scriptS_all a b
      refine ⟨fun e he => ?_, ?_, ?_, by simp; omega⟩
      · rcases List.mem_cons.1 he with rfl | he
        · simp
        · exact h1 e he
      · rw [sideS_cons, if_pos (by simp), h2]
      · rw [sideS_cons, if_pos (by simp), h3]
    · exact restS_all _ _
theorem placesS_len (a b : List α) : (placesS a b).length = a.length := by
  unfold placesS
  rw [placesG_length _ _ (scriptS_all a b).1, (scriptS_all a b).2.1]
theorem placesS_rise (a b : List α) : Asc b.length 0 (placesS a b) := by
  unfold placesS
  exact placesG_asc _ 0 0 _ (Nat.le_refl _) (by rw [(scriptS_all a b).2.2.1, Nat.zero_add]) (scriptS_all a b).1
theorem chunks_of_items {a b c : List α} {I : List (It α)} (hI : GQ [] [] [] (scriptS a b) (scriptS a c) I) : chunksS a b c = build [] I := by
  obtain ⟨k1, s1, t1, _⟩ := scriptS_all a b
  obtain ⟨k2, s2, t2, _⟩ := scriptS_all a c
  have h := hI.places (ours := b) (theirs := c) 0 0 0 0 rfl rfl (by rw [t1]; rfl) (by rw [t2]; rfl)
  rw [s1] at h
  unfold chunksS placesS
  rw [h]
theorem chunks_items_all (a b c : List α) : ∃ I, GQ [] [] [] (scriptS a b) (scriptS a c) I ∧ chunksS a b c = build [] I := by
  obtain ⟨k1, s1, t1, _⟩ := scriptS_all a b
  obtain ⟨k2, s2, t2, _⟩ := scriptS_all a c
  obtain ⟨I, hI⟩ := GQ.there _ [] [] [] (scriptS a b) (scriptS a c) (Nat.le_refl _) k1 k2 (s1.trans s2.symm)
  refine ⟨I, hI, ?_⟩
  have h := hI.places (ours := b) (theirs := c) 0 0 0 0 rfl rfl (by rw [t1]; rfl) (by rw [t2]; rfl)
  rw [s1] at h
  unfold chunksS placesS
  rw [h]
/-- chunks, one behind the other, are the three texts, however long they are -/
theorem chunks_sides (a b c : List α) : (chunksS a b c).flatMap (·.2.1) = a ∧ (chunksS a b c).flatMap (·.2.2.1) = b ∧ (chunksS a b c).flatMap (·.2.2.2) = c ∧ (chunksS a b c).length ≤ a.length + b.length + c.length := by
  obtain ⟨I, hI, he⟩ := chunks_items_all a b c
  obtain ⟨h1, h2, h3⟩ := hI.sides
  rw [(scriptS_all a b).2.1, List.nil_append] at h1
  rw [(scriptS_all a b).2.2.1, List.nil_append] at h2
  rw [(scriptS_all a c).2.2.1, List.nil_append] at h3
  obtain ⟨g1, g2, g3, _⟩ := build_whole I []
  have g4 := build_count I []
  rw [he]
  refine ⟨by rw [g1, h1]; rfl, by rw [g2, h2]; rfl, by rw [g3, h3]; rfl, ?_⟩
  rw [h1, h2, h3] at g4
  simpa using g4
end
end Go.Proofs.Ytfldheegebopoaa
