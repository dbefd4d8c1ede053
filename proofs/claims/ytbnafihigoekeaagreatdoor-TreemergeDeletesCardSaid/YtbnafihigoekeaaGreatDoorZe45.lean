/-
  TmDe, part 45.
-/
import Derived.Test.YtbnafihigoekeaaGreatDoorZe44
namespace Go.Proofs.YtbnafihigoekeaaGreatDoor
theorem ren_here {a b : List FileS} (ta : IsTree a) (tb : IsTree b) (h : ∀ x ∈ a, (findS b x.1).isSome = true) : renS a b = [] := by
  have hP := RenEx.ok ta.rise tb.rise (ren_ex ta.rise tb.rise (Nat.le_trans ta.len (by omega)) (Nat.le_trans tb.len (by omega)))
  cases e : renS a b with
  | nil => rfl
  | cons r l =>
    exfalso
    have hr : r ∈ renS a b := by rw [e]; exact List.mem_cons_self ..
    have h1 := (hP.there r hr).1
    have h2 := (hP.gone r hr).1
    cases hf : findS a r.1 with
    | none => rw [hf] at h1; cases h1
    | some x =>
      obtain ⟨hx, hx2⟩ := find_some hf
      have := h x hx
      rw [hx2, h2] at this
      cases this
theorem ren_nil {a : List FileS} (ta : IsTree a) : renS a [] = [] := by
  have hP := RenEx.ok ta.rise IsTree.nil.rise (ren_ex ta.rise IsTree.nil.rise (Nat.le_trans ta.len (by omega)) (by simp))
  cases e : renS a [] with
  | nil => rfl
  | cons r l =>
    exfalso
    have hr : r ∈ renS a [] := by rw [e]; exact List.mem_cons_self ..
    have h1 := (hP.there r hr).2
    cases h1
theorem find_one (F : FileS) (p : Txt) : findS [F] p = if F.1 = p then some F else none := by
  cases e : findS [F] p with
  | none =>
    have := find_none.1 e F (List.mem_cons_self ..)
    rw [if_neg this]
  | some x =>
    obtain ⟨h1, h2⟩ := find_some e
    rw [List.mem_singleton.1 h1] at h2 ⊢
    rw [if_pos h2]
theorem find_nil (p : Txt) : findS [] p = none := rfl
theorem tm_of {a b c : List FileS} {M : List FileS} {C : List ClaS} (ta : IsTree a) (tb : IsTree b) (tc : IsTree c) (h : tmW a b c (renS a b) (renS a c) = (M, C)) (hm : IsTree (srtF M)) : tmT a b c = (srtF M, srtC C, 0) := by
  unfold tmT tmS
  rw [if_pos ⟨(rightT_iff a).2 ta, (rightT_iff b).2 tb, (rightT_iff c).2 tc⟩, h, if_pos ((rightT_iff _).2 hm)]
theorem del_same {F : FileS} (h : IsTree [F]) : tmT [F] [] [F] = ([], [], 0) := by
  have hr : renS [F] [F] = [] := ren_here h h fun x hx => by rw [List.mem_singleton.1 hx, find_one, if_pos rfl]; rfl
  have hw : tmW [F] [] [F] (renS [F] []) (renS [F] [F]) = ([], []) := by
    rw [hr, ren_nil h]
    simp [tmW, keepAll, keepW, oneW, whereS, addedS, addOne, find_one, find_nil]
  exact tm_of h IsTree.nil h hw IsTree.nil
theorem del_theirs {F G : FileS} (h : IsTree [F]) (h2 : IsTree [G]) (hp : F.1 = G.1) (hne : F ≠ G) : tmT [F] [] [G] = ([G], [(G.1, 3, G.2.2)], 0) := by
  have hr : renS [F] [G] = [] := ren_here h h2 fun x hx => by rw [List.mem_singleton.1 hx, find_one, if_pos hp.symm]; rfl
  have hw : tmW [F] [] [G] (renS [F] []) (renS [F] [G]) = ([G], [(G.1, 3, G.2.2)]) := by
    rw [hr, ren_nil h]
    simp [tmW, keepAll, keepW, oneW, whereS, addedS, addOne, find_one, find_nil, putW, barS, hp, hne]
  exact tm_of h IsTree.nil h2 hw h2
theorem del_ours {F G : FileS} (h : IsTree [F]) (h2 : IsTree [G]) (hp : F.1 = G.1) (hne : F ≠ G) : tmT [F] [G] [] = ([G], [(G.1, 3, G.2.2)], 0) := by
  have hr : renS [F] [G] = [] := ren_here h h2 fun x hx => by rw [List.mem_singleton.1 hx, find_one, if_pos hp.symm]; rfl
  have hw : tmW [F] [G] [] (renS [F] [G]) (renS [F] []) = ([G], [(G.1, 3, G.2.2)]) := by
    rw [hr, ren_nil h]
    simp [tmW, keepAll, keepW, oneW, whereS, addedS, addOne, find_one, find_nil, putW, barS, hp, hne]
  exact tm_of h h2 IsTree.nil hw h2
end Go.Proofs.YtbnafihigoekeaaGreatDoor
