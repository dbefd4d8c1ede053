/-
  Chunks: what follows (mathematics).
-/
import Derived.Test.YtfldheegebopoaaCkM
namespace Go.Proofs.Ytfldheegebopoaa

section
variable {α : Type}
theorem kept_sub (s : List (Int × α)) (k : Int) : (sideS 1 s).Sublist (sideS k s) := by
  induction s with
  | nil => exact List.Sublist.refl _
  | cons e s ih =>
    rw [sideS_cons, sideS_cons]
    by_cases h : e.1 = 1
    · rw [if_pos (.inl h), if_pos (.inl h)]
      exact ih.cons_cons _
    · rw [if_neg (fun q => q.elim h h)]
      split
      · exact ih.cons _
      · exact ih
theorem all_kept {s : List (Int × α)} (hK : Kinds s) (h2 : (sideS 1 s).length = (sideS 2 s).length) (h3 : (sideS 1 s).length = (sideS 3 s).length) : ∀ e ∈ s, e.1 = 1 := by
  induction s with
  | nil => exact fun e he => by cases he
  | cons e s ih =>
    have l2 := (kept_sub s 2).length_le
    have l3 := (kept_sub s 3).length_le
    rw [sideS_cons, sideS_cons] at h2 h3
    rcases hK e (List.mem_cons_self ..) with h | h | h
    · rw [if_pos (.inl h), if_pos (.inl h)] at h2 h3
      simp only [List.length_cons] at h2 h3
      intro x hx
      rcases List.mem_cons.1 hx with rfl | hx
      · exact h
      · exact ih hK.tail (by omega) (by omega) x hx
    · rw [if_neg (by omega), if_pos (.inr h)] at h2
      simp only [List.length_cons] at h2
      omega
    · rw [if_neg (by omega), if_pos (.inr h)] at h3
      simp only [List.length_cons] at h3
      omega
theorem all_map {s : List (Int × α)} (h : ∀ e ∈ s, e.1 = 1) : s = (sideS 2 s).map fun x => ((1 : Int), x) := by
  induction s with
  | nil => rfl
  | cons e s ih =>
    have h1 := h e (List.mem_cons_self ..)
    rw [sideS_cons, if_pos (.inl h1), List.map_cons, ← ih fun x hx => h x (List.mem_cons_of_mem _ hx)]
    obtain ⟨k, x⟩ := e
    simp only at h1
    subst h1
    rfl
theorem split_at {s : α} {b : List α} : ∀ {S : List (Int × α)} {a : List α}, Kinds S → sideS 2 S = a ++ s :: b → ∃ U k V, S = U ++ (k, s) :: V ∧ (k = 1 ∨ k = 2) ∧ sideS 2 U = a ∧ sideS 2 V = b
  | [], a, _, h => by cases a <;> cases h
  | (c, z) :: S, a, hK, h => by
    rw [sideS_cons] at h
    by_cases hc : c = 1 ∨ c = 2
    · rw [if_pos hc] at h
      cases a with
      | nil =>
        simp only [List.nil_append, List.cons.injEq] at h
        obtain ⟨rfl, h⟩ := h
        exact ⟨[], c, S, rfl, hc, rfl, h⟩
      | cons y a =>
        simp only [List.cons_append, List.cons.injEq] at h
        obtain ⟨rfl, h⟩ := h
        obtain ⟨U, k, V, rfl, hk, h1, h2⟩ := split_at hK.tail h
        exact ⟨(c, z) :: U, k, V, rfl, hk, by rw [sideS_cons, if_pos hc, h1], h2⟩
    · rw [if_neg hc] at h
      obtain ⟨U, k, V, rfl, hk, h1, h2⟩ := split_at hK.tail h
      exact ⟨(c, z) :: U, k, V, rfl, hk, by rw [sideS_cons, if_neg hc, h1], h2⟩
theorem once_at {s : α} {b v : List α} : ∀ {u x : List α}, u ++ s :: v = x ++ s :: b → s ∉ x → s ∉ b → u = x ∧ v = b
  | [], [], h, _, _ => by simpa using h
  | [], y :: x, h, hx, _ => by
    simp only [List.nil_append, List.cons_append, List.cons.injEq] at h
    exact absurd (h.1 ▸ List.mem_cons_self ..) hx
  | z :: u, [], h, _, hb => by
    simp only [List.nil_append, List.cons_append, List.cons.injEq] at h
    exact absurd (h.2 ▸ List.mem_append_right _ (List.mem_cons_self ..)) hb
  | z :: u, y :: x, h, hx, hb => by
    simp only [List.cons_append, List.cons.injEq] at h
    obtain ⟨h1, h2⟩ := once_at h.2 (fun q => hx (List.mem_cons_of_mem _ q)) hb
    exact ⟨by rw [h.1, h1], h2⟩
theorem sub_without {s : α} {K x b : List α} (h : K.Sublist (x ++ s :: b)) (hs : s ∉ K) : K.Sublist (x ++ b) := by
  obtain ⟨K1, K2, rfl, h1, h2⟩ := List.sublist_append_iff.1 h
  refine h1.append ?_
  cases h2 with
  | cons _ h => exact h
  | cons_cons _ h => exact absurd (List.mem_append_right _ (List.mem_cons_self ..)) hs
theorem Gaps.tail {P : List α → List α → List α → Prop} {x : It α} {I : List (It α)} (h : Gaps P (x :: I)) : Gaps P I := fun b o t hm => h b o t (List.mem_cons_of_mem _ hm)
theorem Gaps.head {P : List α → List α → List α → Prop} {b o t : List α} {I : List (It α)} (h : Gaps P (.gap b o t :: I)) : P b o t := h b o t (List.mem_cons_self ..)
theorem stab_flat (f : Ck α → List α) (hf : ∀ r : List α, f (1, r, r, r) = r) (run : List α) : (stab run).flatMap f = run := by
  unfold stab
  split
  · rename_i h; subst h; rfl
  · simp [hf]
theorem stab_all (p : Ck α → Bool) (hp : ∀ r : List α, p (1, r, r, r) = true) (run : List α) : (stab run).all p = true := by
  unfold stab
  split
  · rfl
  · simp [hp]
/-- no two Stable ones stand side by side -/
def Sep : List (Ck α) → Prop
  | c :: d :: r => ¬ (c.1 = 1 ∧ d.1 = 1) ∧ Sep (d :: r)
  | _ => True
theorem Sep.put {c : Ck α} {l : List (Ck α)} (h : Sep l) (hc : c.1 ≠ 1) : Sep (c :: l) := by
  cases l with
  | nil => trivial
  | cons d r => exact ⟨fun q => hc q.1, h⟩
theorem Sep.at {l : List (Ck α)} (h : Sep l) {i : Nat} {c d : Ck α} (hc : l[i]? = some c) (hd : l[i + 1]? = some d) : ¬ (c.1 = 1 ∧ d.1 = 1) := by
  induction l generalizing i with
  | nil => simp at hc
  | cons x l ih =>
    cases l with
    | nil => simp at hd
    | cons y r =>
      cases i with
      | zero => simp at hc hd; subst hc; subst hd; exact h.1
      | succ i => exact ih h.2 (by simpa using hc) (by simpa using hd)
/-- turned -/
def turnCk (c : Ck α) : Ck α := (if c.1 = 2 then 3 else if c.1 = 3 then 2 else c.1, c.2.1, c.2.2.2, c.2.2.1)
theorem stab_turn (run : List α) : (stab run).map turnCk = stab run := by
  unfold stab
  split <;> simp [turnCk]
end

section
variable {α : Type} [DecidableEq α]
theorem lcs_parts (a1 b1 a2 b2 : List α) : lcs a1 b1 + lcs a2 b2 ≤ lcs (a1 ++ a2) (b1 ++ b2) := by
  obtain ⟨s1, p1, q1, e1⟩ := lcs_there a1 b1
  obtain ⟨s2, p2, q2, e2⟩ := lcs_there a2 b2
  have := lcs_most (a1 ++ a2) (b1 ++ b2) (s1 ++ s2) (p1.append p2) (q1.append q2)
  rw [List.length_append] at this
  omega
/-- a script that keeps as much as may be -/
def Opt (s : List (Int × α)) : Prop := (sideS 1 s).length = lcs (sideS 2 s) (sideS 3 s)
theorem kept_le (s : List (Int × α)) : (sideS 1 s).length ≤ lcs (sideS 2 s) (sideS 3 s) := lcs_most _ _ _ (kept_sub s 2) (kept_sub s 3)
theorem Opt.parts {s r : List (Int × α)} (h : Opt (s ++ r)) : Opt s ∧ Opt r := by
  unfold Opt at h ⊢
  rw [sideS_append, sideS_append, sideS_append, List.length_append] at h
  have h1 := kept_le s
  have h2 := kept_le r
  have h3 := lcs_parts (sideS 2 s) (sideS 3 s) (sideS 2 r) (sideS 3 r)
  omega
theorem goS_opt (a b : List α) : Opt (goS a b) := by
  refine both_ind (p := fun a b => Opt (goS a b)) (fun b => ?_) (fun a => ?_) (fun x a b ih => ?_) (fun x y a b h ih1 ih2 => ?_) a b
  · unfold Opt
    rw [goS_nil_left, sideS_none 1 3 b (by decide), sideS_none 2 3 b (by decide), lcs_nil_left]
    rfl
  · unfold Opt
    rw [goS_nil, sideS_none 1 2 a (by decide), sideS_none 3 2 a (by decide), lcs_nil_right]
    rfl
  · unfold Opt at ih ⊢
    rw [(goS_sides a b).1, (goS_sides a b).2.1] at ih
    rw [(goS_sides _ _).1, (goS_sides _ _).2.1, goS_cons, if_pos rfl, lcs_cons_eq, sideS_cons, if_pos (.inl rfl), List.length_cons, ih]
  · unfold Opt at ih1 ih2 ⊢
    rw [(goS_sides _ _).1, (goS_sides _ _).2.1] at ih1 ih2 ⊢
    rw [goS_cons, if_neg h, lcs_cons_ne h]
    split
    · rw [sideS_cons, if_neg (by simp), ih1]
      omega
    · rw [sideS_cons, if_neg (by simp), ih2]
      omega
theorem Opt.same {s : List (Int × α)} (h : Opt s) (hK : Kinds s) (he : sideS 3 s = sideS 2 s) : ∀ e ∈ s, e.1 = 1 := by
  unfold Opt at h
  rw [he, lcs_self] at h
  exact all_kept hK h (by rw [h, he])
/-- no gap has the same in all three, but nothing -/
def Clear (I : List (It α)) : Prop := Gaps (fun b o t => o = b → t = b → b = []) I
theorem GQ.clear {b o t : List α} {s1 s2 : List (Int × α)} {I : List (It α)} (h : GQ b o t s1 s2 I) : ∀ (P1 P2 : List (Int × α)), Kinds (P1 ++ s1) → Kinds (P2 ++ s2) → Opt (P1 ++ s1) → Opt (P2 ++ s2) →
    sideS 2 P1 = b → sideS 2 P2 = b → sideS 3 P1 = o → sideS 3 P2 = t → ((∀ e ∈ P1, e.1 = 1) → (∀ e ∈ P2, e.1 = 1) → P1 = []) → Clear I := by
  have gap : ∀ {b o t : List α} (P1 P2 r1 r2 : List (Int × α)), Kinds (P1 ++ r1) → Kinds (P2 ++ r2) → Opt (P1 ++ r1) → Opt (P2 ++ r2) → sideS 2 P1 = b → sideS 2 P2 = b → sideS 3 P1 = o → sideS 3 P2 = t → ((∀ e ∈ P1, e.1 = 1) → (∀ e ∈ P2, e.1 = 1) → P1 = []) → o = b → t = b → b = [] := by
    intro b o t P1 P2 r1 r2 k1 k2 h1 h2 b1 b2 o1 t2 hn e1 e2
    have q1 := h1.parts.1.same (fun e he => k1 e (List.mem_append_left _ he)) (by rw [o1, b1, e1])
    have q2 := h2.parts.1.same (fun e he => k2 e (List.mem_append_left _ he)) (by rw [t2, b2, e2])
    rw [← b1, hn q1 q2]
    rfl
  have not1 : ∀ {P : List (Int × α)} {k : Int} {z : α}, k ≠ 1 → ¬ ∀ e ∈ P ++ [(k, z)], e.1 = 1 := fun hk q => hk (q _ (List.mem_append_right _ (List.mem_singleton_self _)))
  induction h with
  | done b o t => exact fun P1 P2 k1 k2 h1 h2 b1 b2 o1 t2 hn => Gaps.one (gap P1 P2 [] [] k1 k2 h1 h2 b1 b2 o1 t2 hn)
  | @insO b o t z s1 s2 I _ ih =>
    intro P1 P2 k1 k2 h1 h2 b1 b2 o1 t2 hn
    refine ih (P1 ++ [(3, z)]) P2 (by simpa using k1) k2 (by simpa using h1) h2 ?_ b2 ?_ t2 fun q _ => absurd q (not1 (by decide))
    · rw [sideS_append, b1]; simp [sideS_cons, sideS_nil]
    · rw [sideS_append, o1]; simp [sideS_cons, sideS_nil]
  | @insT b o t z s1 s2 I _ ih =>
    intro P1 P2 k1 k2 h1 h2 b1 b2 o1 t2 hn
    refine ih P1 (P2 ++ [(3, z)]) k1 (by simpa using k2) h1 (by simpa using h2) b1 ?_ o1 ?_ fun _ q => absurd q (not1 (by decide))
    · rw [sideS_append, b2]; simp [sideS_cons, sideS_nil]
    · rw [sideS_append, t2]; simp [sideS_cons, sideS_nil]
  | @firm b o t z s1 s2 I _ ih =>
    intro P1 P2 k1 k2 h1 h2 b1 b2 o1 t2 hn
    have g1 : Opt s1 := by
      have := h1.parts.2
      rw [← List.singleton_append] at this
      exact this.parts.2
    have g2 : Opt s2 := by
      have := h2.parts.2
      rw [← List.singleton_append] at this
      exact this.parts.2
    exact Gaps.cons (gap P1 P2 _ _ k1 k2 h1 h2 b1 b2 o1 t2 hn) (ih [] [] (fun e he => k1 e (List.mem_append_right _ (List.mem_cons_of_mem _ he))) (fun e he => k2 e (List.mem_append_right _ (List.mem_cons_of_mem _ he))) g1 g2 rfl rfl rfl rfl fun _ _ => rfl)
  | @ko b o t z s1 s2 I _ ih =>
    intro P1 P2 k1 k2 h1 h2 b1 b2 o1 t2 hn
    refine ih (P1 ++ [(1, z)]) (P2 ++ [(2, z)]) (by simpa using k1) (by simpa using k2) (by simpa using h1) (by simpa using h2) ?_ ?_ ?_ ?_ fun _ q => absurd q (not1 (by decide))
    · rw [sideS_append, b1]; simp [sideS_cons, sideS_nil]
    · rw [sideS_append, b2]; simp [sideS_cons, sideS_nil]
    · rw [sideS_append, o1]; simp [sideS_cons, sideS_nil]
    · rw [sideS_append, t2]; simp [sideS_cons, sideS_nil]
  | @kt b o t z s1 s2 I _ ih =>
    intro P1 P2 k1 k2 h1 h2 b1 b2 o1 t2 hn
    refine ih (P1 ++ [(2, z)]) (P2 ++ [(1, z)]) (by simpa using k1) (by simpa using k2) (by simpa using h1) (by simpa using h2) ?_ ?_ ?_ ?_ fun q _ => absurd q (not1 (by decide))
    · rw [sideS_append, b1]; simp [sideS_cons, sideS_nil]
    · rw [sideS_append, b2]; simp [sideS_cons, sideS_nil]
    · rw [sideS_append, o1]; simp [sideS_cons, sideS_nil]
    · rw [sideS_append, t2]; simp [sideS_cons, sideS_nil]
  | @kd b o t z s1 s2 I _ ih =>
    intro P1 P2 k1 k2 h1 h2 b1 b2 o1 t2 hn
    refine ih (P1 ++ [(2, z)]) (P2 ++ [(2, z)]) (by simpa using k1) (by simpa using k2) (by simpa using h1) (by simpa using h2) ?_ ?_ ?_ ?_ fun q _ => absurd q (not1 (by decide))
    · rw [sideS_append, b1]; simp [sideS_cons, sideS_nil]
    · rw [sideS_append, b2]; simp [sideS_cons, sideS_nil]
    · rw [sideS_append, o1]; simp [sideS_cons, sideS_nil]
    · rw [sideS_append, t2]; simp [sideS_cons, sideS_nil]

/-- the items of three short lists -/
theorem chunks_items {a b c : List α} (ha : a.length ≤ 400) (hb : b.length ≤ 400) (hc : c.length ≤ 400) :
    ∃ I, GQ [] [] [] (goS a b) (goS a c) I ∧ gapsP b c [] 0 0 a (placesS a b) (placesS a c) = I ∧ chunksS a b c = build [] I := by
  obtain ⟨I, hI⟩ := GQ.there _ [] [] [] (goS a b) (goS a c) (Nat.le_refl _) (goS_kinds a b) (goS_kinds a c) (by rw [(goS_sides a b).1, (goS_sides a c).1])
  have h := hI.places (ours := b) (theirs := c) 0 0 0 0 rfl rfl (by rw [(goS_sides a b).2.1]; rfl) (by rw [(goS_sides a c).2.1]; rfl)
  rw [(goS_sides a b).1] at h
  have h' : gapsP b c [] 0 0 a (placesS a b) (placesS a c) = I := by
    unfold placesS
    rw [scriptS_short ha hb, scriptS_short ha hc]
    exact h
  exact ⟨I, hI, h', by unfold chunksS; rw [h']⟩
theorem items_clear {a b c : List α} {I : List (It α)} (h : GQ [] [] [] (goS a b) (goS a c) I) : Clear I :=
  h.clear [] [] (goS_kinds a b) (goS_kinds a c) (goS_opt a b) (goS_opt a c) rfl rfl rfl rfl fun _ _ => rfl

/-! ### What is built of items -/
def itM : List (It α) → List α
  | [] => []
  | .gap b o t :: r => (if kindOf b o t = 3 then t else o) ++ itM r
  | .line x :: r => x :: itM r
theorem build_whole (I : List (It α)) : ∀ run, (build run I).flatMap (·.2.1) = run ++ itB I ∧ (build run I).flatMap (·.2.2.1) = run ++ itO I ∧ (build run I).flatMap (·.2.2.2) = run ++ itT I ∧ mergedS (build run I) = run ++ itM I := by
  induction I with
  | nil => exact fun run => ⟨by rw [build, stab_flat _ (fun _ => rfl)]; exact (List.append_nil _).symm, by rw [build, stab_flat _ (fun _ => rfl)]; exact (List.append_nil _).symm, by rw [build, stab_flat _ (fun _ => rfl)]; exact (List.append_nil _).symm,
      by rw [build, mergedS, stab_flat _ (fun _ => rfl)]; exact (List.append_nil _).symm⟩
  | cons x I ih =>
    intro run
    cases x with
    | line z =>
      obtain ⟨h1, h2, h3, h4⟩ := ih (run ++ [z])
      rw [build]
      exact ⟨by rw [h1, itB, List.append_assoc]; rfl, by rw [h2, itO, List.append_assoc]; rfl, by rw [h3, itT, List.append_assoc]; rfl, by rw [h4, itM, List.append_assoc]; rfl⟩
    | gap b o t =>
      rw [build]
      split
      · rename_i h
        obtain ⟨rfl, rfl, rfl⟩ := h
        obtain ⟨h1, h2, h3, h4⟩ := ih run
        exact ⟨h1, h2, h3, by rw [h4, itM, kindOf, if_pos rfl, if_pos rfl]; rfl⟩
      · obtain ⟨h1, h2, h3, h4⟩ := ih []
        unfold mergedS at h4 ⊢
        simp only [List.flatMap_append, List.flatMap_cons, h1, h2, h3, h4]
        rw [stab_flat _ (fun _ => rfl), stab_flat _ (fun _ => rfl), stab_flat _ (fun _ => rfl), stab_flat _ (fun _ => rfl)]
        exact ⟨rfl, rfl, rfl, rfl⟩
theorem build_clean {I : List (It α)} (h : Gaps (fun b o t => kindOf b o t ≠ 5) I) : ∀ run, cleanS (build run I) = true := by
  unfold cleanS
  induction I with
  | nil => exact fun run => stab_all _ (fun _ => rfl) run
  | cons x I ih =>
    intro run
    cases x with
    | line z => exact ih h.tail _
    | gap b o t =>
      rw [build]
      split
      · exact ih h.tail _
      · rw [List.all_append, List.all_cons, stab_all _ (fun _ => rfl), ih h.tail]
        simpa using h.head
theorem kind_ne (b o t : List α) : kindOf b o t ≠ 1 := by
  unfold kindOf
  split
  · decide
  · split
    · decide
    · split <;> decide
theorem build_sep (I : List (It α)) : ∀ run, Sep (build run I) := by
  induction I with
  | nil => intro run; rw [build]; unfold stab; split <;> trivial
  | cons x I ih =>
    intro run
    cases x with
    | line z => exact ih _
    | gap b o t =>
      rw [build]
      split
      · exact ih _
      · have : Sep ((kindOf b o t, b, o, t) :: build [] I) := (ih []).put (kind_ne b o t)
        unfold stab
        split
        · exact this
        · exact ⟨fun q => kind_ne b o t q.2, this⟩
/-- of which kind a chunk should be -/
def kindF (b o t : List α) : Int := if o = b ∧ t = b then 1 else kindOf b o t
theorem build_kinds {I : List (It α)} (h : Clear I) : ∀ run, ∀ c ∈ build run I, c.1 = kindF c.2.1 c.2.2.1 c.2.2.2 ∧ 0 < c.2.1.length + c.2.2.1.length + c.2.2.2.length := by
  have hs : ∀ run : List α, ∀ c ∈ stab run, c.1 = kindF c.2.1 c.2.2.1 c.2.2.2 ∧ 0 < c.2.1.length + c.2.2.1.length + c.2.2.2.length := by
    intro run c hc
    unfold stab at hc
    split at hc
    · cases hc
    · rename_i hr
      rcases List.mem_singleton.1 hc with rfl
      have := List.length_pos_iff.2 hr
      exact ⟨by simp [kindF], by simp only; omega⟩
  induction I with
  | nil => exact fun run => hs run
  | cons x I ih =>
    intro run
    cases x with
    | line z => exact ih h.tail _
    | gap b o t =>
      rw [build]
      split
      · exact ih h.tail _
      · rename_i hne
        intro c hc
        rcases List.mem_append.1 hc with hc | hc
        · exact hs run c hc
        · rcases List.mem_cons.1 hc with rfl | hc
          · have hcl := h.head
            have hn : ¬ (o = b ∧ t = b) := fun q => hne ⟨hcl q.1 q.2, by rw [q.1]; exact hcl q.1 q.2, by rw [q.2]; exact hcl q.1 q.2⟩
            refine ⟨by simp [kindF, hn], ?_⟩
            apply Nat.pos_of_ne_zero
            intro q
            simp only at q
            exact hne ⟨List.eq_nil_of_length_eq_zero (by omega), List.eq_nil_of_length_eq_zero (by omega), List.eq_nil_of_length_eq_zero (by omega)⟩
          · exact ih h.tail _ c hc
theorem kind_turn {b o t : List α} (h : ¬ (o = b ∧ t = b)) : kindOf b t o = if kindOf b o t = 2 then 3 else if kindOf b o t = 3 then 2 else kindOf b o t := by
  unfold kindOf
  by_cases h1 : o = b
  · have h2 : ¬ t = b := fun q => h ⟨h1, q⟩
    simp [h1, h2]
  · by_cases h2 : t = b
    · simp [h1, h2]
    · by_cases h3 : o = t
      · have h4 : t = o := h3.symm
        simp [h3, h2]
      · have h4 : ¬ t = o := fun q => h3 q.symm
        simp [h1, h2, h3, h4]
theorem build_turn {I : List (It α)} (h : Clear I) : ∀ run, build run (I.map turnIt) = (build run I).map turnCk := by
  induction I with
  | nil => exact fun run => (stab_turn run).symm
  | cons x I ih =>
    intro run
    cases x with
    | line z => exact ih h.tail _
    | gap b o t =>
      rw [List.map_cons, turnIt, build, build]
      by_cases hne : b = [] ∧ o = [] ∧ t = []
      · rw [if_pos hne, if_pos ⟨hne.1, hne.2.2, hne.2.1⟩]
        exact ih h.tail _
      · have hcl := h.head
        have hn : ¬ (o = b ∧ t = b) := fun q => hne ⟨hcl q.1 q.2, by rw [q.1]; exact hcl q.1 q.2, by rw [q.2]; exact hcl q.1 q.2⟩
        rw [if_neg hne, if_neg (fun q => hne ⟨q.1, q.2.2, q.2.1⟩), List.map_append, List.map_cons, stab_turn, ih h.tail, kind_turn hn]
        rfl
theorem build_count (I : List (It α)) : ∀ run, (build run I).length ≤ run.length + (itB I).length + (itO I).length + (itT I).length := by
  have hs : ∀ run : List α, (stab run).length ≤ run.length := fun run => by
    unfold stab
    split
    · exact Nat.zero_le _
    · rename_i h
      have := List.length_pos_iff.2 h
      simp only [List.length_singleton]
      omega
  induction I with
  | nil => exact fun run => by have := hs run; simp only [build, itB, itO, itT]; simp; omega
  | cons x I ih =>
    intro run
    cases x with
    | line z =>
      have := ih (run ++ [z])
      simp only [build, itB, itO, itT, List.length_cons, List.length_append, List.length_nil] at this ⊢
      omega
    | gap b o t =>
      rw [build]
      have h1 := ih run
      have h2 := ih []
      have h3 := hs run
      split
      · simp only [itB, itO, itT, List.length_append] at h1 ⊢
        omega
      · rename_i hne
        have : 0 < b.length + o.length + t.length := by
          apply Nat.pos_of_ne_zero
          intro q
          exact hne ⟨List.eq_nil_of_length_eq_zero (by omega), List.eq_nil_of_length_eq_zero (by omega), List.eq_nil_of_length_eq_zero (by omega)⟩
        simp only [itB, itO, itT, List.length_append, List.length_cons, List.length_nil] at h2 ⊢
        omega

/-! ### The laws -/
theorem chunks_whole {a b c : List α} (ha : a.length ≤ 400) (hb : b.length ≤ 400) (hc : c.length ≤ 400) :
    (chunksS a b c).flatMap (·.2.1) = a ∧ (chunksS a b c).flatMap (·.2.2.1) = b ∧ (chunksS a b c).flatMap (·.2.2.2) = c ∧ Sep (chunksS a b c) ∧
      (∀ k ∈ chunksS a b c, k.1 = kindF k.2.1 k.2.2.1 k.2.2.2 ∧ 0 < k.2.1.length + k.2.2.1.length + k.2.2.2.length) ∧ (chunksS a b c).length ≤ a.length + b.length + c.length := by
  obtain ⟨I, hI, _, he⟩ := chunks_items ha hb hc
  obtain ⟨h1, h2, h3⟩ := hI.sides
  rw [(goS_sides a b).1, List.nil_append] at h1
  rw [(goS_sides a b).2.1, List.nil_append] at h2
  rw [(goS_sides a c).2.1, List.nil_append] at h3
  obtain ⟨g1, g2, g3, _⟩ := build_whole I []
  have g4 := build_count I []
  rw [he]
  refine ⟨by rw [g1, h1]; rfl, by rw [g2, h2]; rfl, by rw [g3, h3]; rfl, build_sep I [], build_kinds (items_clear hI) [], ?_⟩
  rw [h1, h2, h3] at g4
  simpa using g4
theorem chunks_turn {a b c : List α} (ha : a.length ≤ 400) (hb : b.length ≤ 400) (hc : c.length ≤ 400) : chunksS a c b = (chunksS a b c).map turnCk := by
  obtain ⟨I, hI, _, he⟩ := chunks_items ha hb hc
  obtain ⟨J, hJ, hp, he2⟩ := chunks_items ha hc hb
  have h := hI.turn.places (ours := c) (theirs := b) 0 0 0 0 rfl rfl (by rw [(goS_sides a c).2.1]; rfl) (by rw [(goS_sides a b).2.1]; rfl)
  rw [(goS_sides a c).1] at h
  have hJI : J = I.map turnIt := by
    rw [← hp]
    unfold placesS
    rw [scriptS_short ha hc, scriptS_short ha hb]
    exact h
  rw [he2, he, hJI, build_turn (items_clear hI)]
theorem itM_theirs {I : List (It α)} (h : Gaps (fun b o _ => o = b) I) : itM I = itT I := by
  induction I with
  | nil => rfl
  | cons x I ih =>
    cases x with
    | line z => rw [itM, itT, ih h.tail]
    | gap b o t => rw [itM, itT, ih h.tail, if_pos (by rw [kindOf, if_pos h.head])]
theorem itM_ours {I : List (It α)} (h : Gaps (fun b _ t => t = b) I) : itM I = itO I := by
  induction I with
  | nil => rfl
  | cons x I ih =>
    cases x with
    | line z => rw [itM, itO, ih h.tail]
    | gap b o t =>
      rw [itM, itO, ih h.tail]
      split
      · rename_i hk
        unfold kindOf at hk
        split at hk
        · rename_i e; rw [show t = b from h.head, e]
        · rw [if_pos h.head] at hk; cases hk
      · rfl
theorem itM_both {I : List (It α)} (h : Gaps (fun _ o t => o = t) I) : itM I = itO I := by
  induction I with
  | nil => rfl
  | cons x I ih =>
    cases x with
    | line z => rw [itM, itO, ih h.tail]
    | gap b o t =>
      rw [itM, itO, ih h.tail, show o = t from h.head]
      split <;> rfl
theorem kind5_o {b o t : List α} (h : o = b) : kindOf b o t ≠ 5 := by rw [kindOf, if_pos h]; decide
theorem kind5_t {b o t : List α} (h : t = b) : kindOf b o t ≠ 5 := by
  unfold kindOf
  split
  · decide
  · first | decide | (rw [if_pos h]; decide)
theorem kind5_e {b o t : List α} (h : o = t) : kindOf b o t ≠ 5 := by
  unfold kindOf
  split
  · decide
  · split
    · decide
    · first | decide | (rw [if_pos h]; decide)
theorem goS_self (a : List α) : goS a a = a.map fun x => ((1 : Int), x) := by
  induction a with
  | nil => rfl
  | cons x a ih => rw [goS_cons, if_pos rfl, ih]; rfl
theorem self_kept (a : List α) : ∀ e ∈ goS a a, e.1 = 1 := by
  rw [goS_self]
  intro e he
  obtain ⟨x, _, rfl⟩ := List.mem_map.1 he
  rfl
theorem chunks_one {a b : List α} (ha : a.length ≤ 400) (hb : b.length ≤ 400) :
    (cleanS (chunksS a a b) = true ∧ mergedS (chunksS a a b) = b) ∧ (cleanS (chunksS a b a) = true ∧ mergedS (chunksS a b a) = b) ∧ (cleanS (chunksS a b b) = true ∧ mergedS (chunksS a b b) = b) := by
  refine ⟨?_, ?_, ?_⟩
  · obtain ⟨I, hI, _, he⟩ := chunks_items ha ha hb
    have hg := hI.keepO (self_kept a) rfl
    rw [he, (build_whole I []).2.2.2, itM_theirs hg, hI.sides.2.2, (goS_sides a b).2.1]
    exact ⟨build_clean (fun b o t hm => kind5_o (hg b o t hm)) [], rfl⟩
  · obtain ⟨I, hI, _, he⟩ := chunks_items ha hb ha
    have hg := hI.keepT (self_kept a) rfl
    rw [he, (build_whole I []).2.2.2, itM_ours hg, hI.sides.2.1, (goS_sides a b).2.1]
    exact ⟨build_clean (fun b o t hm => kind5_t (hg b o t hm)) [], rfl⟩
  · obtain ⟨I, hI, hp, he⟩ := chunks_items ha hb hb
    have hg : Gaps (fun _ o t => o = t) I := by rw [← hp]; exact gapsP_same [] 0 a _ rfl
    rw [he, (build_whole I []).2.2.2, itM_both hg, hI.sides.2.1, (goS_sides a b).2.1]
    exact ⟨build_clean (fun b o t hm => kind5_e (hg b o t hm)) [], rfl⟩
theorem goS_front (l a b : List α) : goS (l ++ a) (l ++ b) = (l.map fun x => ((1 : Int), x)) ++ goS a b := by
  induction l with
  | nil => rfl
  | cons x l ih => rw [List.cons_append, List.cons_append, goS_cons, if_pos rfl, ih]; rfl
theorem goS_behind {a x b : List α} {s : α} (ha : s ∉ a) (hx : s ∉ x) (hb : s ∉ b) : ∃ U, goS (a ++ s :: b) (x ++ s :: b) = U ++ (1, s) :: b.map (fun y => ((1 : Int), y)) ∧ Kinds U ∧ sideS 2 U = a ∧ sideS 3 U = x := by
  have hK := goS_kinds (a ++ s :: b) (x ++ s :: b)
  have hO := goS_opt (a ++ s :: b) (x ++ s :: b)
  obtain ⟨h2, h3, _⟩ := goS_sides (a ++ s :: b) (x ++ s :: b)
  obtain ⟨S, hS⟩ : ∃ S, goS (a ++ s :: b) (x ++ s :: b) = S := ⟨_, rfl⟩
  rw [hS] at hK hO h2 h3 ⊢
  obtain ⟨U, k, V, rfl, hk, hU, hV⟩ := split_at hK h2
  have hKU : Kinds U := fun e he => hK e (List.mem_append_left _ he)
  have hKV : Kinds V := fun e he => hK e (List.mem_append_right _ (List.mem_cons_of_mem _ he))
  rcases hk with rfl | rfl
  · rw [sideS_append, sideS_cons, if_pos (.inl rfl)] at h3
    obtain ⟨e1, e2⟩ := once_at h3 hx hb
    have hOV : Opt V := by
      have := hO.parts.2
      rw [← List.singleton_append] at this
      exact this.parts.2
    have := all_map (hOV.same hKV (by rw [hV, e2]))
    rw [hV] at this
    exact ⟨U, by rw [← this], hKU, hU, e1⟩
  · exfalso
    unfold Opt at hO
    rw [h2, h3, show a ++ s :: b = (a ++ [s]) ++ b by simp, show x ++ s :: b = (x ++ [s]) ++ b by simp, lcs_suffix, lcs_snoc] at hO
    have e : sideS 1 (U ++ (2, s) :: V) = sideS 1 U ++ sideS 1 V := by rw [sideS_append, sideS_cons, if_neg (by simp)]
    have hs : (sideS 1 U ++ sideS 1 V).Sublist (a ++ b) := by
      have p1 := kept_sub U 2
      have p2 := kept_sub V 2
      rw [hU] at p1
      rw [hV] at p2
      exact p1.append p2
    have ht : (sideS 1 U ++ sideS 1 V).Sublist (x ++ s :: b) := by
      have p := kept_sub (U ++ (2, s) :: V) 3
      rw [h3, e] at p
      exact p
    have hn : s ∉ sideS 1 U ++ sideS 1 V := fun q => by
      rcases List.mem_append.1 (hs.subset q) with q | q
      · exact ha q
      · exact hb q
    have := lcs_most _ _ _ hs (sub_without ht hn)
    rw [e] at hO
    rw [lcs_suffix] at this
    omega
theorem chunks_apart {a b x y : List α} {s : α} (ha : s ∉ a) (hb : s ∉ b) (hx : s ∉ x) (l1 : (a ++ s :: b).length ≤ 400) (l2 : (x ++ s :: b).length ≤ 400) (l3 : (a ++ s :: y).length ≤ 400) :
    cleanS (chunksS (a ++ s :: b) (x ++ s :: b) (a ++ s :: y)) = true ∧ mergedS (chunksS (a ++ s :: b) (x ++ s :: b) (a ++ s :: y)) = x ++ s :: y := by
  obtain ⟨I, hI, hp, he⟩ := chunks_items l1 l2 l3
  obtain ⟨U, hU, kU, u2, u3⟩ := goS_behind (b := b) ha hx hb
  have hV : goS (a ++ s :: b) (a ++ s :: y) = (a.map fun x => ((1 : Int), x)) ++ (1, s) :: goS b y := by rw [goS_front, goS_cons, if_pos rfl]
  have q1 : ∀ {l : List α}, ∀ e ∈ l.map (fun x => ((1 : Int), x)), e.1 = 1 := fun e he => by
    obtain ⟨z, _, rfl⟩ := List.mem_map.1 he
    rfl
  obtain ⟨I1, hI1⟩ := GQ.there _ [] [] [] U (a.map fun x => ((1 : Int), x)) (Nat.le_refl _) kU (Kinds.map (.inl rfl)) (by rw [u2, sideS_all 2 1 a (.inl rfl)])
  obtain ⟨I2, hI2⟩ := GQ.there _ [] [] [] (b.map fun x => ((1 : Int), x)) (goS b y) (Nat.le_refl _) (Kinds.map (.inl rfl)) (goS_kinds b y) (by rw [(goS_sides b y).1, sideS_all 2 1 b (.inl rfl)])
  have hJ := hI1.join (x := s) hI2
  rw [← hU, ← hV] at hJ
  have h := hJ.places (ours := x ++ s :: b) (theirs := a ++ s :: y) 0 0 0 0 rfl rfl (by rw [(goS_sides _ _).2.1]; rfl) (by rw [(goS_sides _ _).2.1]; rfl)
  rw [(goS_sides (a ++ s :: b) (x ++ s :: b)).1] at h
  have hIJ : I = I1 ++ .line s :: I2 := by
    rw [← hp]
    unfold placesS
    rw [scriptS_short l1 l2, scriptS_short l1 l3]
    exact h
  have g1 := hI1.keepT q1 rfl
  have g2 := hI2.keepO q1 rfl
  have hm : ∀ A B : List (It α), itM (A ++ B) = itM A ++ itM B := fun A B => by
    induction A with
    | nil => rfl
    | cons z A ih => cases z <;> simp [itM, ih]
  rw [he, (build_whole I []).2.2.2, hIJ, hm, itM, itM_ours g1, itM_theirs g2, hI1.sides.2.1, hI2.sides.2.2, u3, (goS_sides b y).2.1]
  refine ⟨build_clean (fun b o t hm => ?_) [], rfl⟩
  rcases List.mem_append.1 hm with hm | hm
  · exact kind5_t (g1 b o t hm)
  · rcases List.mem_cons.1 hm with e | hm
    · cases e
    · exact kind5_o (g2 b o t hm)
theorem chunks_none {a b c : List α} (ha : a.length ≤ 400) (hb : b.length ≤ 400) (hc : c.length ≤ 400) (h : ∀ x ∈ a, x ∉ b) : chunksS a b c = if a = [] ∧ b = [] ∧ c = [] then [] else [(kindOf a b c, a, b, c)] := by
  obtain ⟨I, hI, _, he⟩ := chunks_items ha hb hc
  have hn := hI.none (fun e he => by
    rw [goS_apart h] at he
    rcases List.mem_append.1 he with he | he <;> obtain ⟨x, _, rfl⟩ := List.mem_map.1 he <;> simp)
  rw [(goS_sides a b).1, (goS_sides a b).2.1, (goS_sides a c).2.1] at hn
  rw [he, hn]
  rfl
end
end Go.Proofs.Ytfldheegebopoaa
