/-
  What follows from hunks of a script: they are right, they lead from the one side to the other; inverted they are those of the script turned.
-/
import Derived.Test.YtfldheegebopoaaHkM
namespace Go.Proofs.Ytfldheegebopoaa

section
variable {α : Type}
/-- each edit is kept, deleted or inserted -/
def Kinds (l : List (Int × α)) : Prop := ∀ e ∈ l, e.1 = 1 ∨ e.1 = 2 ∨ e.1 = 3
theorem Kinds.tail {e : Int × α} {l : List (Int × α)} (h : Kinds (e :: l)) : Kinds l := fun x hx => h x (List.mem_cons_of_mem _ hx)
theorem Kinds.append {l m : List (Int × α)} (h : Kinds l) (k : Kinds m) : Kinds (l ++ m) := fun e he => (List.mem_append.1 he).elim (h e) (k e)
theorem Kinds.map {a : List α} {k : Int} (h : k = 1 ∨ k = 2 ∨ k = 3) : Kinds (a.map fun x => (k, x)) := fun e he => by
  obtain ⟨x, _, rfl⟩ := List.mem_map.1 he
  exact h
theorem Kinds.cons {e : Int × α} {l : List (Int × α)} (h : e.1 = 1 ∨ e.1 = 2 ∨ e.1 = 3) (k : Kinds l) : Kinds (e :: l) := fun x hx => by
  rcases List.mem_cons.1 hx with rfl | hx
  · exact h
  · exact k x hx

theorem right_both (l : List (Int × α)) : (∀ (at' : Nat) (lo : Int), Kinds l → lo ≤ (at' : Int) → at' + l.length ≤ 2147483647 → rightFrom lo (hunksG none at' l) = true) ∧
    (∀ (s at' : Nat) (o n : List α) (lo : Int), Kinds l → lo ≤ (s : Int) → s + o.length = at' → 0 < o.length + n.length → at' + l.length ≤ 2147483647 → rightFrom lo (hunksG (some (s, o, n)) at' l) = true) := by
  induction l with
  | nil =>
    refine ⟨fun _ _ _ _ _ => rfl, fun s at' o n lo _ h1 h2 h3 h4 => ?_⟩
    rw [hunksG, rightFrom, rightFrom, Bool.and_true, Bool.and_eq_true, okOne_iff]
    simp only [List.length_nil] at h4
    exact ⟨⟨by show (0 : Int) ≤ (s : Int); omega, by show (s : Int) ≤ 2147483647; omega, h3⟩, decide_eq_true h1⟩
  | cons e l ih =>
    obtain ⟨k, x⟩ := e
    refine ⟨fun at' lo hK h1 h4 => ?_, fun s at' o n lo hK h1 h2 h3 h4 => ?_⟩
    · simp only [List.length_cons] at h4
      rcases hK (k, x) (List.mem_cons_self ..) with hk | hk | hk
      · simp only at hk
        subst hk
        rw [hunksG, if_pos rfl]
        exact ih.1 _ _ hK.tail (by omega) (by omega)
      · simp only at hk
        subst hk
        rw [hunksG, if_neg (by decide), if_pos rfl]
        exact ih.2 _ _ _ _ _ hK.tail h1 (by simp) (by simp) (by omega)
      · simp only at hk
        subst hk
        rw [hunksG, if_neg (by decide), if_neg (by decide), if_pos rfl]
        exact ih.2 _ _ _ _ _ hK.tail h1 (by simp) (by simp) (by omega)
    · simp only [List.length_cons] at h4
      rcases hK (k, x) (List.mem_cons_self ..) with hk | hk | hk
      · simp only at hk
        subst hk
        rw [hunksG, if_pos rfl, rightFrom, Bool.and_eq_true, Bool.and_eq_true, okOne_iff]
        exact ⟨⟨⟨by show (0 : Int) ≤ (s : Int); omega, by show (s : Int) ≤ 2147483647; omega, h3⟩, decide_eq_true h1⟩, ih.1 _ _ hK.tail (by show (s : Int) + (o.length : Int) ≤ ((at' + 1 : Nat) : Int); omega) (by omega)⟩
      · simp only at hk
        subst hk
        rw [hunksG, if_neg (by decide), if_pos rfl]
        exact ih.2 _ _ _ _ _ hK.tail h1 (by rw [List.length_append]; simp; omega) (by rw [List.length_append]; simp; omega) (by omega)
      · simp only at hk
        subst hk
        rw [hunksG, if_neg (by decide), if_neg (by decide), if_pos rfl]
        exact ih.2 _ _ _ _ _ hK.tail h1 h2 (by rw [List.length_append]; simp; omega) (by omega)

/-- deleted for inserted -/
def swapS (l : List (Int × α)) : List (Int × α) := l.map fun e => (if e.1 = 2 then 3 else if e.1 = 3 then 2 else e.1, e.2)
theorem swapS_length (l : List (Int × α)) : (swapS l).length = l.length := by simp [swapS]
theorem swapS_kinds {l : List (Int × α)} (h : Kinds l) : Kinds (swapS l) := fun e he => by
  obtain ⟨x, hx, rfl⟩ := List.mem_map.1 he
  rcases h x hx with h | h | h <;> simp [h]
theorem swapS_twice {l : List (Int × α)} (h : Kinds l) : swapS (swapS l) = l := by
  induction l with
  | nil => rfl
  | cons e l ih =>
    obtain ⟨k, x⟩ := e
    have := ih h.tail
    unfold swapS at this ⊢
    rw [List.map_cons, List.map_cons, this]
    congr 1
    rcases h (k, x) (List.mem_cons_self ..) with hk | hk | hk <;> simp only at hk <;> subst hk <;> rfl
theorem swapS_sides {l : List (Int × α)} (h : Kinds l) : sideS 2 (swapS l) = sideS 3 l ∧ sideS 3 (swapS l) = sideS 2 l := by
  induction l with
  | nil => exact ⟨rfl, rfl⟩
  | cons e l ih =>
    obtain ⟨k, x⟩ := e
    obtain ⟨h1, h2⟩ := ih h.tail
    have hc : swapS ((k, x) :: l) = ((if k = 2 then 3 else if k = 3 then 2 else k), x) :: swapS l := rfl
    rw [hc, sideS_cons, sideS_cons, sideS_cons, sideS_cons, h1, h2]
    rcases h (k, x) (List.mem_cons_self ..) with hk | hk | hk <;> simp only at hk <;> subst hk <;> simp

theorem invert_both (l : List (Int × α)) : (∀ (at' at2 : Nat) (M : Int), Kinds l → (at' : Int) + M = (at2 : Int) → invertFrom M (hunksG none at' l) = hunksG none at2 (swapS l)) ∧
    (∀ (s at' s2 at2 : Nat) (o n : List α) (M : Int), Kinds l → (s : Int) + M = (s2 : Int) → s + o.length = at' → s2 + n.length = at2 → invertFrom M (hunksG (some (s, o, n)) at' l) = hunksG (some (s2, n, o)) at2 (swapS l)) := by
  induction l with
  | nil =>
    refine ⟨fun _ _ _ _ _ => rfl, fun s at' s2 at2 o n M _ h1 h2 h3 => ?_⟩
    show [((s : Int) + M, n, o)] = [((s2 : Int), n, o)]
    rw [h1]
  | cons e l ih =>
    obtain ⟨k, x⟩ := e
    have hc : swapS ((k, x) :: l) = ((if k = 2 then 3 else if k = 3 then 2 else k), x) :: swapS l := rfl
    refine ⟨fun at' at2 M hK h1 => ?_, fun s at' s2 at2 o n M hK h1 h2 h3 => ?_⟩
    · rw [hc]
      rcases hK (k, x) (List.mem_cons_self ..) with hk | hk | hk
      · simp only at hk
        subst hk
        rw [hunksG, if_pos rfl, if_neg (by decide), if_neg (by decide), hunksG, if_pos rfl]
        exact ih.1 _ _ _ hK.tail (by omega)
      · simp only at hk
        subst hk
        rw [hunksG, if_neg (by decide), if_pos rfl, if_pos rfl, hunksG, if_neg (by decide), if_neg (by decide), if_pos rfl]
        exact ih.2 _ _ _ _ _ _ _ hK.tail h1 rfl rfl
      · simp only at hk
        subst hk
        rw [hunksG, if_neg (by decide), if_neg (by decide), if_pos rfl, if_neg (by decide), if_pos rfl, hunksG, if_neg (by decide), if_pos rfl]
        exact ih.2 _ _ _ _ _ _ _ hK.tail h1 rfl rfl
    · rw [hc]
      rcases hK (k, x) (List.mem_cons_self ..) with hk | hk | hk
      · simp only at hk
        subst hk
        rw [hunksG, if_pos rfl, if_neg (by decide), if_neg (by decide), hunksG, if_pos rfl, invertFrom, ih.1 (at' + 1) (at2 + 1) _ hK.tail (by show ((at' + 1 : Nat) : Int) + (M + (n.length : Int) - (o.length : Int)) = _; omega), ← h1]
      · simp only at hk
        subst hk
        rw [hunksG, if_neg (by decide), if_pos rfl, if_pos rfl, hunksG, if_neg (by decide), if_neg (by decide), if_pos rfl]
        exact ih.2 _ _ _ _ _ _ _ hK.tail h1 (by rw [List.length_append]; simp; omega) h3
      · simp only at hk
        subst hk
        rw [hunksG, if_neg (by decide), if_neg (by decide), if_pos rfl, if_neg (by decide), if_pos rfl, hunksG, if_neg (by decide), if_pos rfl]
        exact ih.2 _ _ _ _ _ _ _ hK.tail h1 h2 (by rw [List.length_append]; simp; omega)

theorem hunks_few (l : List (Int × α)) : (∀ (at' : Nat), (hunksG none at' l).length ≤ l.length ∧ ∀ h ∈ hunksG none at' l, h.2.1.length ≤ l.length ∧ h.2.2.length ≤ l.length) ∧
    (∀ (s at' : Nat) (o n : List α), (hunksG (some (s, o, n)) at' l).length ≤ l.length + 1 ∧ ∀ h ∈ hunksG (some (s, o, n)) at' l, h.2.1.length ≤ o.length + l.length ∧ h.2.2.length ≤ n.length + l.length) := by
  induction l with
  | nil =>
    refine ⟨fun _ => ⟨Nat.le_refl _, fun h hh => by cases hh⟩, fun s at' o n => ⟨Nat.le_refl _, fun h hh => ?_⟩⟩
    rcases List.mem_singleton.1 hh with rfl
    exact ⟨Nat.le_add_right _ _, Nat.le_add_right _ _⟩
  | cons e l ih =>
    obtain ⟨k, x⟩ := e
    have nn := fun at' => ih.1 at'
    have ss := fun (s at' : Nat) (o n : List α) => ih.2 s at' o n
    refine ⟨fun at' => ?_, fun s at' o n => ?_⟩
    · rw [hunksG]
      split
      · obtain ⟨q1, q2⟩ := nn (at' + 1)
        exact ⟨by simp; omega, fun h hh => by have := q2 h hh; simp; omega⟩
      · split
        · obtain ⟨q1, q2⟩ := ss at' (at' + 1) [x] []
          exact ⟨by simpa using q1, fun h hh => by have := q2 h hh; simp at this ⊢; omega⟩
        · split
          · obtain ⟨q1, q2⟩ := ss at' at' [] [x]
            exact ⟨by simpa using q1, fun h hh => by have := q2 h hh; simp at this ⊢; omega⟩
          · obtain ⟨q1, q2⟩ := ss at' at' [] []
            exact ⟨by simpa using q1, fun h hh => by have := q2 h hh; simp at this ⊢; omega⟩
    · rw [hunksG]
      split
      · obtain ⟨q1, q2⟩ := nn (at' + 1)
        refine ⟨by simp; omega, fun h hh => ?_⟩
        rcases List.mem_cons.1 hh with rfl | hh
        · simp
        · have := q2 h hh
          simp
          omega
      · split
        · obtain ⟨q1, q2⟩ := ss s (at' + 1) (o ++ [x]) n
          exact ⟨by simp; omega, fun h hh => by have := q2 h hh; simp at this ⊢; omega⟩
        · split
          · obtain ⟨q1, q2⟩ := ss s at' o (n ++ [x])
            exact ⟨by simp; omega, fun h hh => by have := q2 h hh; simp at this ⊢; omega⟩
          · obtain ⟨q1, q2⟩ := ss s at' o n
            exact ⟨by simp; omega, fun h hh => by have := q2 h hh; simp at this ⊢; omega⟩
end

section
variable {α : Type} [DecidableEq α]
theorem goS_kinds (a b : List α) : Kinds (goS a b) := by
  refine both_ind (p := fun a b => Kinds (goS a b)) (fun b => ?_) (fun a => ?_) (fun x a b ih => ?_) (fun x y a b h ih1 ih2 => ?_) a b
  · rw [goS_nil_left]
    exact Kinds.map (.inr (.inr rfl))
  · rw [goS_nil]
    exact Kinds.map (.inr (.inl rfl))
  · rw [goS_cons, if_pos rfl]
    exact ih.cons (.inl rfl)
  · rw [goS_cons, if_neg h]
    split
    · exact ih1.cons (.inr (.inl rfl))
    · exact ih2.cons (.inr (.inr rfl))
theorem apply_both (A : List α) (l : List (Int × α)) : (∀ (at' p : Nat), Kinds l → p ≤ at' → at' ≤ A.length → A.drop at' = sideS 2 l → applyFrom A p (hunksG none at' l) = some ((A.take at').drop p ++ sideS 3 l)) ∧
    (∀ (s at' p : Nat) (o n : List α), Kinds l → p ≤ s → s + o.length = at' → (A.drop s).take o.length = o → at' ≤ A.length → A.drop at' = sideS 2 l → applyFrom A p (hunksG (some (s, o, n)) at' l) = some ((A.take s).drop p ++ (n ++ sideS 3 l))) := by
  have next : ∀ {at' : Nat} {x : α} {r : List α}, A.drop at' = x :: r → at' + 1 ≤ A.length ∧ A.drop (at' + 1) = r ∧ A.take (at' + 1) = A.take at' ++ [x] := fun {at' x r} h => by
    have hlt : at' < A.length := by
      have := congrArg List.length h
      rw [List.length_drop, List.length_cons] at this
      omega
    rw [List.drop_eq_getElem_cons hlt] at h
    injection h with h1 h2
    refine ⟨hlt, h2, ?_⟩
    rw [List.take_add_one, List.getElem?_eq_getElem hlt, h1]
    rfl
  induction l with
  | nil =>
    refine ⟨fun at' p _ h1 h2 h3 => ?_, fun s at' p o n _ h1 h2 h3 h4 h5 => ?_⟩
    · rw [hunksG, applyFrom]
      have : A.take at' = A := List.take_of_length_le (by have := congrArg List.length h3; rw [List.length_drop] at this; simp [sideS_nil] at this; omega)
      rw [this, sideS_nil, List.append_nil]
    · rw [hunksG, applyFrom, applyFrom]
      have hst : stands A ((s : Int), o, n) = true := by
        unfold stands
        rw [Int.toNat_natCast, decide_eq_true (show s + o.length ≤ A.length by omega), decide_eq_true h3]
        rfl
      rw [hst, if_pos rfl, Int.toNat_natCast, h2, h5]
      rfl
  | cons e l ih =>
    obtain ⟨k, x⟩ := e
    refine ⟨fun at' p hK h1 h2 h3 => ?_, fun s at' p o n hK h1 h2 h3 h4 h5 => ?_⟩
    · rcases hK (k, x) (List.mem_cons_self ..) with hk | hk | hk
      · simp only at hk
        subst hk
        rw [sideS_cons, if_pos (.inl rfl)] at h3
        obtain ⟨n1, n2, n3⟩ := next h3
        rw [hunksG, if_pos rfl, ih.1 _ _ hK.tail (by omega) n1 n2, n3, List.drop_append_of_le_length (by rw [List.length_take]; omega), sideS_cons, if_pos (.inl rfl), List.append_assoc]
        rfl
      · simp only at hk
        subst hk
        rw [sideS_cons, if_pos (.inr rfl)] at h3
        obtain ⟨n1, n2, n3⟩ := next h3
        rw [hunksG, if_neg (by decide), if_pos rfl, ih.2 at' (at' + 1) p [x] [] hK.tail h1 rfl (by rw [h3]; rfl) n1 n2, sideS_cons, if_neg (by simp)]
        rfl
      · simp only at hk
        subst hk
        rw [sideS_cons, if_neg (by simp)] at h3
        rw [hunksG, if_neg (by decide), if_neg (by decide), if_pos rfl, ih.2 at' at' p [] [x] hK.tail h1 rfl rfl h2 h3, sideS_cons, if_pos (.inr rfl)]
        rfl
    · rcases hK (k, x) (List.mem_cons_self ..) with hk | hk | hk
      · simp only at hk
        subst hk
        rw [sideS_cons, if_pos (.inl rfl)] at h5
        obtain ⟨n1, n2, n3⟩ := next h5
        have hst : stands A ((s : Int), o, n) = true := by
          unfold stands
          rw [Int.toNat_natCast, decide_eq_true (show s + o.length ≤ A.length by omega), decide_eq_true h3]
          rfl
        rw [hunksG, if_pos rfl, applyFrom, hst, if_pos rfl, Int.toNat_natCast, h2, ih.1 _ _ hK.tail (by omega) n1 n2, n3, List.drop_append_of_le_length (by rw [List.length_take]; omega), List.drop_of_length_le (l := A.take at') (by rw [List.length_take]; omega), sideS_cons, if_pos (.inl rfl)]
        rfl
      · simp only at hk
        subst hk
        rw [sideS_cons, if_pos (.inr rfl)] at h5
        obtain ⟨n1, n2, n3⟩ := next h5
        have h6 : (A.drop s).take (o ++ [x]).length = o ++ [x] := by
          rw [List.length_append, List.length_singleton, List.take_add_one, h3, List.getElem?_drop, h2]
          have : A[at']? = some x := by
            have := congrArg (fun q => q[0]?) h5
            simpa using this
          rw [this]
          rfl
        rw [hunksG, if_neg (by decide), if_pos rfl, ih.2 s (at' + 1) p (o ++ [x]) n hK.tail h1 (by rw [List.length_append]; simp; omega) h6 n1 n2, sideS_cons, if_neg (by simp)]
      · simp only at hk
        subst hk
        rw [sideS_cons, if_neg (by simp)] at h5
        rw [hunksG, if_neg (by decide), if_neg (by decide), if_pos rfl, ih.2 s at' p o (n ++ [x]) hK.tail h1 h2 h3 h4 h5, sideS_cons, if_pos (.inr rfl), List.append_assoc]
        rfl
/-- the hunks of edits are right, and lead from the one side to the other -/
theorem hunks_lead {l : List (Int × α)} (hK : Kinds l) (hl : l.length ≤ 2147483647) : rightS (hunksS l) = true ∧ applyS (sideS 2 l) (hunksS l) = (sideS 3 l, 0) ∧ invertS (hunksS l) = hunksS (swapS l) := by
  have hr : rightS (hunksS l) = true := (right_both l).1 0 0 hK (by simp) (by omega)
  refine ⟨hr, ?_, ?_⟩
  · have := (apply_both (sideS 2 l) l).1 0 0 hK (Nat.le_refl _) (Nat.zero_le _) rfl
    unfold applyS
    rw [hr, show applyFrom (sideS 2 l) 0 (hunksS l) = _ from this]
    rfl
  · unfold invertS
    rw [hr, if_pos rfl]
    exact (invert_both l).1 0 0 0 hK rfl
end
end Go.Proofs.Ytfldheegebopoaa
