/-
  What leads from one tree to another one: changes, deletions first, applied; of a tree to itself there are none; back, as many.
-/
import Derived.Test.YtndmblelkeepjaaGreatDoorTrP
namespace Go.Proofs.YtndmblelkeepjaaGreatDoor

theorem one_path {a b : List FileS} {p : Txt} {x : ChangeS} (h : x ∈ changeOne a b p) : x.1 = p := by
  unfold changeOne at h
  split at h
  · rw [List.mem_singleton] at h; rw [h]
  · split at h
    · cases h
    · rw [List.mem_singleton] at h; rw [h]
theorem one_len (a b : List FileS) (p : Txt) : (changeOne a b p).length ≤ 1 := by
  unfold changeOne
  split
  · exact Nat.le_refl _
  · split
    · exact Nat.zero_le _
    · exact Nat.le_refl _
theorem flat_len {α β : Type} (f : α → List β) (h : ∀ x, (f x).length ≤ 1) : ∀ l : List α, (l.flatMap f).length ≤ l.length
  | [] => by simp
  | x :: l => by
    have h1 := h x
    have h2 := flat_len f h l
    rw [List.flatMap_cons, List.length_append, List.length_cons]
    omega
theorem changes_len (a b : List FileS) : (changesS a b).length ≤ a.length + b.length := by
  have h1 := flat_len (changeOne a b) (one_len a b) (pathsOf (a ++ b))
  have h2 := pathsOf_len (a ++ b)
  rw [List.length_append] at h2
  unfold changesS
  omega
theorem changes_mem {a b : List FileS} {x : ChangeS} : x ∈ changesS a b ↔ x.1 ∈ pathsOf (a ++ b) ∧ x ∈ changeOne a b x.1 := by
  unfold changesS
  rw [List.mem_flatMap]
  constructor
  · rintro ⟨p, hp, hx⟩
    have := one_path hx
    subst this
    exact ⟨hp, hx⟩
  · rintro ⟨hp, hx⟩
    exact ⟨_, hp, hx⟩
theorem flat_apart (a b : List FileS) : ∀ L : List Txt, RiseP L → (L.flatMap (changeOne a b)).Pairwise fun x y => x.1 ≠ y.1
  | [], _ => List.Pairwise.nil
  | p :: L, h => by
    rw [RiseP, List.pairwise_cons] at h
    rw [List.flatMap_cons]
    refine List.pairwise_append.2 ⟨?_, flat_apart a b L h.2, fun x hx y hy e => ?_⟩
    · have := one_len a b p
      match hc : changeOne a b p, this with
      | [], _ => exact List.Pairwise.nil
      | [x], _ => exact List.pairwise_singleton _ _
    · obtain ⟨q, hq, hyq⟩ := List.mem_flatMap.1 hy
      have h1 := one_path hx
      have h2 := one_path hyq
      exact lt_ne (h.1 q hq) (by rw [← h1, e, h2])
theorem changes_apart (a b : List FileS) : (changesS a b).Pairwise fun x y => x.1 ≠ y.1 := flat_apart a b _ (paths_rise _)
theorem found_in {l : List FileS} {p : Txt} : (findS l p).isSome = true ↔ ∃ f ∈ l, f.1 = p := by
  cases h : findS l p with
  | none =>
    rw [find_none] at h
    simp only [Option.isSome_none, Bool.false_eq_true, false_iff]
    rintro ⟨f, hf, e⟩
    exact h f hf e
  | some g =>
    obtain ⟨h1, h2⟩ := find_some h
    simp only [Option.isSome_some, true_iff]
    exact ⟨g, h1, h2⟩
/-- what a change of the list says -/
theorem change_del {a b : List FileS} {x : ChangeS} (h : x ∈ changesS a b) (hd : x.2.1 = true) : findS b x.1 = none ∧ (findS a x.1).isSome = true := by
  obtain ⟨h1, h2⟩ := changes_mem.1 h
  obtain ⟨f, hf, e⟩ := (paths_mem _ _).1 h1
  unfold changeOne at h2
  split at h2
  · rename_i hb
    refine ⟨hb, found_in.2 ?_⟩
    rcases List.mem_append.1 hf with hf | hf
    · exact ⟨f, hf, e⟩
    · exact absurd e (find_none.1 hb f hf)
  · split at h2
    · cases h2
    · rw [List.mem_singleton] at h2
      rw [h2] at hd
      cases hd
theorem change_put {a b : List FileS} {x : ChangeS} (h : x ∈ changesS a b) (hd : x.2.1 = false) : findS b x.1 = some (x.1, x.2.2.1, x.2.2.2) := by
  obtain ⟨_, h2⟩ := changes_mem.1 h
  unfold changeOne at h2
  split at h2
  · rw [List.mem_singleton] at h2
    rw [h2] at hd
    cases hd
  · rename_i y hb
    split at h2
    · cases h2
    · rw [List.mem_singleton] at h2
      have e := (find_some hb).2
      rw [hb]
      have h3 : x.2.2.1 = y.2.1 ∧ x.2.2.2 = y.2.2 := by rw [h2]; exact ⟨rfl, rfl⟩
      rw [h3.1, h3.2, ← e]
theorem change_none {a b : List FileS} {p : Txt} (h : ∀ x ∈ changesS a b, x.1 ≠ p) : findS a p = findS b p := by
  by_cases hp : p ∈ pathsOf (a ++ b)
  · have hc : changeOne a b p = [] := by
      match hc : changeOne a b p with
      | [] => rfl
      | x :: r =>
        have hx : x ∈ changeOne a b p := by rw [hc]; exact List.mem_cons_self ..
        have e := one_path hx
        exact absurd e (h x (changes_mem.2 ⟨by rw [e]; exact hp, by rw [e]; exact hx⟩))
    unfold changeOne at hc
    split at hc
    · cases hc
    · rename_i y hb
      split at hc
      · rename_i ha
        rw [ha, hb]
      · cases hc
  · have hn : ∀ f ∈ a ++ b, f.1 ≠ p := fun f hf e => hp ((paths_mem _ _).2 ⟨f, hf, e⟩)
    rw [find_none.2 fun f hf => hn f (List.mem_append_left _ hf), find_none.2 fun f hf => hn f (List.mem_append_right _ hf)]
theorem changes_self (a : List FileS) : changesS a a = [] := by
  match h : changesS a a with
  | [] => rfl
  | x :: r =>
    exfalso
    have hx : x ∈ changesS a a := by rw [h]; exact List.mem_cons_self ..
    obtain ⟨h1, h2⟩ := changes_mem.1 hx
    unfold changeOne at h2
    split at h2
    · rename_i hb
      obtain ⟨f, hf, e⟩ := (paths_mem _ _).1 h1
      exact find_none.1 hb f ((List.mem_append.1 hf).elim id id) e
    · rename_i y hb
      rw [if_pos hb] at h2
      cases h2
theorem paths_comm (a b : List FileS) : pathsOf (a ++ b) = pathsOf (b ++ a) := by
  refine sorted_ext (fun x y hxy hyx => by rw [lt_asym hxy] at hyx; cases hyx) _ _ (paths_rise _) (paths_rise _) fun p => ?_
  rw [paths_mem, paths_mem]
  simp only [List.mem_append]
  constructor
  · rintro ⟨f, hf, e⟩; exact ⟨f, hf.symm, e⟩
  · rintro ⟨f, hf, e⟩; exact ⟨f, hf.symm, e⟩
theorem changes_back (a b : List FileS) : (changesS a b).length = (changesS b a).length := by
  unfold changesS
  rw [← paths_comm a b, List.length_flatMap, List.length_flatMap]
  congr 1
  refine List.map_congr_left fun p hp => ?_
  unfold changeOne
  cases ha : findS a p with
  | none =>
    cases hb : findS b p with
    | none =>
      obtain ⟨f, hf, e⟩ := (paths_mem _ _).1 hp
      rcases List.mem_append.1 hf with hf | hf
      · exact absurd e (find_none.1 ha f hf)
      · exact absurd e (find_none.1 hb f hf)
    | some y => simp
  | some x =>
    cases hb : findS b p with
    | none => simp
    | some y =>
      by_cases e : x = y
      · subst e; simp
      · have e2 : ¬ y = x := fun h => e h.symm
        simp [e, e2]
theorem pass_mem {n : Nat} {c : List ChangeS} {x : ChangeS} : x ∈ passS n c ↔ x ∈ c ∧ x.2.1 = (n == 0) := by
  unfold passS
  rw [List.mem_filter, beq_iff_eq]
theorem first_len (c : List ChangeS) : (firstS c).length = c.length := by
  unfold firstS
  rw [List.length_append]
  induction c with
  | nil => rfl
  | cons x c ih =>
    unfold passS at ih ⊢
    rw [List.filter_cons, List.filter_cons]
    cases x.2.1 <;> simp <;> simp at ih <;> omega

/-- deletions, one by one -/
theorem apply_dels : ∀ (ds : List ChangeS) (X : List FileS), IsTree X → ds.Pairwise (fun x y => x.1 ≠ y.1) → (∀ d ∈ ds, d.2.1 = true ∧ (findS X d.1).isSome = true) →
    ∃ Y, (∀ r, applyS X (ds ++ r) = applyS Y r) ∧ IsTree Y ∧ ∀ p, findS Y p = if (ds.any fun d => d.1 == p) = true then none else findS X p
  | [], X, h, _, _ => ⟨X, fun _ => rfl, h, fun p => by simp⟩
  | d :: ds, X, h, hp, hd => by
    rw [List.pairwise_cons] at hp
    obtain ⟨h1, h2⟩ := hd d (List.mem_cons_self ..)
    obtain ⟨k1, k2, k3⟩ := drop_ok h h2
    obtain ⟨Y, y1, y2, y3⟩ := apply_dels ds (withoutS X d.1) k2 hp.2 fun x hx => ⟨(hd x (List.mem_cons_of_mem _ hx)).1, by
      rw [k3, if_neg (fun e => hp.1 x hx e.symm)]
      exact (hd x (List.mem_cons_of_mem _ hx)).2⟩
    refine ⟨Y, fun r => ?_, y2, fun p => ?_⟩
    · have hs : stepS X d = (withoutS X d.1, 0) := by
        unfold stepS
        rw [if_pos h1, k1]
      rw [List.cons_append, applyS, hs, if_pos rfl]
      exact y1 r
    · rw [y3, k3, List.any_cons]
      by_cases e : p = d.1
      · subst e
        simp
      · have e2 : (d.1 == p) = false := beq_false_of_ne fun h => e h.symm
        rw [e2, Bool.false_or, if_neg e]
/-- files put, one by one, of a tree in which they stand -/
theorem apply_puts {B : List FileS} (hB : IsTree B) : ∀ (ps : List ChangeS) (X : List FileS), IsTree X → (∀ p, (findS X p).isSome = true → (findS B p).isSome = true) →
    (∀ c ∈ ps, c.2.1 = false ∧ findS B c.1 = some (c.1, c.2.2.1, c.2.2.2)) →
    ∃ Y, applyS X ps = (Y, 0) ∧ IsTree Y ∧ ∀ p, findS Y p = if (ps.any fun d => d.1 == p) = true then findS B p else findS X p
  | [], X, h, _, _ => ⟨X, rfl, h, fun p => by simp⟩
  | c :: ps, X, h, hX, hc => by
    obtain ⟨h1, h2⟩ := hc c (List.mem_cons_self ..)
    obtain ⟨m1, _⟩ := find_some h2
    have hcl : ∀ g ∈ X, g.1 ≠ c.1 → clashS g.1 c.1 = false := fun g hg e => by
      have hs := hX g.1 (found_in.2 ⟨g, hg, rfl⟩)
      obtain ⟨g', hg', e'⟩ := found_in.1 hs
      have := hB.apart.two hg' m1 fun e2 => e (by rw [← e', e2])
      rw [e'] at this
      exact this
    have hn : (findS X c.1).isSome = true ∨ X.length < 100 := by
      cases hs : (findS X c.1).isSome with
      | true => exact .inl rfl
      | false =>
        refine .inr ?_
        have hnot : c.1 ∉ X.map (·.1) := fun hm => by
          obtain ⟨g, hg, e⟩ := List.mem_map.1 hm
          rw [found_in.2 ⟨g, hg, e⟩] at hs
          cases hs
        have hl := nodup_len (c.1 :: X.map (·.1)) (B.map (·.1)) (List.nodup_cons.2 ⟨hnot, h.rise.nodup⟩) fun p hp => by
          rcases List.mem_cons.1 hp with rfl | hp
          · exact List.mem_map.2 ⟨_, m1, rfl⟩
          · obtain ⟨g, hg, e⟩ := List.mem_map.1 hp
            obtain ⟨g', hg', e'⟩ := found_in.1 (hX p (found_in.2 ⟨g, hg, e⟩))
            exact List.mem_map.2 ⟨g', hg', e'⟩
        have := hB.len
        simp only [List.length_cons, List.length_map] at hl
        omega
    obtain ⟨k1, k2, k3⟩ := put_ok (f := (c.1, c.2.2.1, c.2.2.2)) h (hB.ok _ m1) hcl hn
    have hX2 : ∀ p, (findS (sortedS (withoutS X c.1) (c.1, c.2.2.1, c.2.2.2)) p).isSome = true → (findS B p).isSome = true := fun p hp => by
      rw [k3] at hp
      split at hp
      · rename_i e
        rw [show p = c.1 from e, h2]
        rfl
      · exact hX p hp
    obtain ⟨Y, y1, y2, y3⟩ := apply_puts hB ps _ k2 hX2 fun x hx => hc x (List.mem_cons_of_mem _ hx)
    refine ⟨Y, ?_, y2, fun p => ?_⟩
    · have hs : stepS X c = (sortedS (withoutS X c.1) (c.1, c.2.2.1, c.2.2.2), 0) := by
        unfold stepS
        rw [if_neg (by rw [h1]; simp), k1]
      rw [applyS, hs, if_pos rfl]
      exact y1
    · rw [y3, k3, List.any_cons]
      by_cases e : p = c.1
      · subst e
        rw [if_pos rfl, h2]
        simp
      · have e2 : (c.1 == p) = false := beq_false_of_ne fun h => e h.symm
        rw [e2, Bool.false_or, if_neg e]
/-- what leads from one tree to another one leads there -/
theorem leads {A B : List FileS} (hA : IsTree A) (hB : IsTree B) (hl : (changesS A B).length ≤ 100) : applyT A (firstS (changesS A B)) = (B, 0) := by
  unfold applyT
  rw [if_pos ((rightT_iff A).2 hA), if_pos (by rw [first_len]; exact hl)]
  have hap := changes_apart A B
  unfold firstS
  obtain ⟨Y, y1, y2, y3⟩ := apply_dels (passS 0 (changesS A B)) A hA (List.Pairwise.filter _ hap) fun d hd => by
    obtain ⟨h1, h2⟩ := pass_mem.1 hd
    exact ⟨h2, (change_del h1 h2).2⟩
  rw [y1]
  have hdel : ∀ p, (findS Y p).isSome = true → (findS B p).isSome = true := fun p hp => by
    rw [y3] at hp
    split at hp
    · cases hp
    · rename_i hn
      cases hb : findS B p with
      | some y => rfl
      | none =>
        exfalso
        have hn' : ((passS 0 (changesS A B)).any fun d => d.1 == p) = false := by rwa [Bool.not_eq_true] at hn
        rw [List.any_eq_false] at hn'
        by_cases hx : ∃ x ∈ changesS A B, x.1 = p
        · obtain ⟨x, hx, e⟩ := hx
          cases hd : x.2.1 with
          | true =>
            have := hn' x (pass_mem.2 ⟨hx, hd⟩)
            rw [e] at this
            simp at this
          | false =>
            have := change_put hx hd
            rw [e, hb] at this
            cases this
        · have := change_none (a := A) (b := B) (p := p) fun x hx' e => hx ⟨x, hx', e⟩
          rw [this, hb] at hp
          cases hp
  obtain ⟨Z, z1, z2, z3⟩ := apply_puts hB (passS 1 (changesS A B)) Y y2 hdel fun c hc => by
    obtain ⟨h1, h2⟩ := pass_mem.1 hc
    exact ⟨h2, change_put h1 h2⟩
  rw [z1]
  congr 1
  refine tree_ext z2.rise hB.rise fun p => ?_
  rw [z3]
  split
  · rfl
  · rename_i hn
    have hn' : ((passS 1 (changesS A B)).any fun d => d.1 == p) = false := by rwa [Bool.not_eq_true] at hn
    rw [List.any_eq_false] at hn'
    rw [y3]
    split
    · rename_i hd
      obtain ⟨x, hx, e⟩ := List.any_eq_true.1 hd
      obtain ⟨h1, h2⟩ := pass_mem.1 hx
      rw [beq_iff_eq] at e
      rw [← e]
      exact (change_del h1 h2).1.symm
    · rename_i hd
      have hd' : ((passS 0 (changesS A B)).any fun d => d.1 == p) = false := by rwa [Bool.not_eq_true] at hd
      rw [List.any_eq_false] at hd'
      refine change_none fun x hx e => ?_
      cases hx2 : x.2.1 with
      | true =>
        have := hd' x (pass_mem.2 ⟨hx, hx2⟩)
        rw [e] at this
        simp at this
      | false =>
        have := hn' x (pass_mem.2 ⟨hx, hx2⟩)
        rw [e] at this
        simp at this
end Go.Proofs.YtndmblelkeepjaaGreatDoor
