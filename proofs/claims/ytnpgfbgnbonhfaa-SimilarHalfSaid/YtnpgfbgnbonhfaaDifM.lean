/-
  What two lists have in common, and the script that leads from the one to the other (P6.1), as mathematics.
-/
import Derived.Test.YtnpgfbgnbonhfaaLaw2
namespace Go.Proofs.Ytnpgfbgnbonhfaa

section
variable {α : Type}
/-- two parts of one list have as much in common as they are too long for it -/
theorem parts_meet {b s t : List α} (hs : s.Sublist b) (ht : t.Sublist b) : ∃ u : List α, u.Sublist s ∧ u.Sublist t ∧ s.length + t.length ≤ u.length + b.length := by
  induction b generalizing s t with
  | nil =>
    rw [List.sublist_nil.1 hs, List.sublist_nil.1 ht]
    exact ⟨[], List.nil_sublist _, List.nil_sublist _, by simp⟩
  | cons x b ih =>
    cases hs with
    | cons _ hs' =>
      cases ht with
      | cons _ ht' =>
        obtain ⟨u, h1, h2, h3⟩ := ih hs' ht'
        exact ⟨u, h1, h2, by simp only [List.length_cons]; omega⟩
      | cons_cons _ ht' =>
        obtain ⟨u, h1, h2, h3⟩ := ih hs' ht'
        exact ⟨u, h1, h2.cons x, by simp only [List.length_cons]; omega⟩
    | cons_cons _ hs' =>
      cases ht with
      | cons _ ht' =>
        obtain ⟨u, h1, h2, h3⟩ := ih hs' ht'
        exact ⟨u, h1.cons x, h2, by simp only [List.length_cons]; omega⟩
      | cons_cons _ ht' =>
        obtain ⟨u, h1, h2, h3⟩ := ih hs' ht'
        exact ⟨x :: u, h1.cons_cons x, h2.cons_cons x, by simp only [List.length_cons]; omega⟩
/-- the lines that are kept, or of that kind -/
def sideS (k : Int) (l : List (Int × α)) : List α := (l.filter fun e => e.1 == 1 || e.1 == k).map (·.2)
theorem sideS_nil (k : Int) : sideS k ([] : List (Int × α)) = [] := rfl
theorem sideS_cons (k : Int) (e : Int × α) (l : List (Int × α)) : sideS k (e :: l) = if e.1 = 1 ∨ e.1 = k then e.2 :: sideS k l else sideS k l := by
  unfold sideS
  by_cases h : e.1 = 1 ∨ e.1 = k
  · rw [if_pos h, List.filter_cons_of_pos (by simpa using h), List.map_cons]
  · rw [if_neg h, List.filter_cons_of_neg (by simpa using h)]
theorem sideS_append (k : Int) (l m : List (Int × α)) : sideS k (l ++ m) = sideS k l ++ sideS k m := by simp [sideS]
theorem sideS_all (k j : Int) (a : List α) (h : j = 1 ∨ j = k) : sideS k (a.map fun x => (j, x)) = a := by
  induction a with
  | nil => rfl
  | cons x a ih => rw [List.map_cons, sideS_cons, if_pos h, ih]
theorem sideS_none (k j : Int) (a : List α) (h : ¬ (j = 1 ∨ j = k)) : sideS k (a.map fun x => (j, x)) = [] := by
  induction a with
  | nil => rfl
  | cons x a ih => rw [List.map_cons, sideS_cons, if_neg h, ih]
/-- how many are no Keep -/
def distS (l : List (Int × α)) : Nat := (l.filter fun e => e.1 != 1).length

theorem distS_cons (e : Int × α) (l : List (Int × α)) : distS (e :: l) = if e.1 = 1 then distS l else distS l + 1 := by
  unfold distS
  by_cases h : e.1 = 1
  · rw [if_pos h, List.filter_cons_of_neg (by simpa using h)]
  · rw [if_neg h, List.filter_cons_of_pos (by simpa using h), List.length_cons]
theorem distS_map (j : Int) (a : List α) (h : j ≠ 1) : distS (a.map fun x => (j, x)) = a.length := by
  induction a with
  | nil => rfl
  | cons x a ih => rw [List.map_cons, distS_cons, if_neg h, ih, List.length_cons]
theorem distS_keep (a : List α) : distS (a.map fun x => ((1 : Int), x)) = 0 := by
  induction a with
  | nil => rfl
  | cons x a ih => rw [List.map_cons, distS_cons, if_pos rfl, ih]
theorem distS_append (l m : List (Int × α)) : distS (l ++ m) = distS l + distS m := by simp [distS]
end

section
variable {α : Type} [DecidableEq α]

/-- how much is in common, where the first list begins with x, and f tells it of the rest of it -/
def lcsRow (x : α) (f : List α → Nat) : List α → Nat
  | [] => 0
  | y :: b => if x = y then f b + 1 else max (f (y :: b)) (lcsRow x f b)
/-- how much two lists have in common -/
def lcs : List α → List α → Nat
  | [], _ => 0
  | x :: a, b => lcsRow x (lcs a) b

theorem lcs_nil_left (b : List α) : lcs [] b = 0 := rfl
theorem lcs_nil_right (a : List α) : lcs a [] = 0 := by cases a <;> rfl
theorem lcs_cons (x y : α) (a b : List α) : lcs (x :: a) (y :: b) = if x = y then lcs a b + 1 else max (lcs a (y :: b)) (lcs (x :: a) b) := rfl
theorem lcs_cons_eq (x : α) (a b : List α) : lcs (x :: a) (x :: b) = lcs a b + 1 := by rw [lcs_cons, if_pos rfl]
theorem lcs_cons_ne {x y : α} (h : x ≠ y) (a b : List α) : lcs (x :: a) (y :: b) = max (lcs a (y :: b)) (lcs (x :: a) b) := by rw [lcs_cons, if_neg h]

/-- Along both lists: a proof by rounds. -/
theorem both_ind {p : List α → List α → Prop} (h1 : ∀ b, p [] b) (h2 : ∀ a, p a []) (h3 : ∀ x a b, p a b → p (x :: a) (x :: b)) (h4 : ∀ x y a b, x ≠ y → p a (y :: b) → p (x :: a) b → p (x :: a) (y :: b)) (a b : List α) : p a b := by
  induction a generalizing b with
  | nil => exact h1 b
  | cons x a iha =>
    induction b with
    | nil => exact h2 _
    | cons y b ihb =>
      by_cases h : x = y
      · subst h; exact h3 x a b (iha b)
      · exact h4 x y a b h (iha _) ihb

theorem lcs_comm (a b : List α) : lcs a b = lcs b a := by
  refine both_ind (p := fun a b => lcs a b = lcs b a) (fun b => ?_) (fun a => ?_) (fun x a b ih => ?_) (fun x y a b h ih1 ih2 => ?_) a b
  · rw [lcs_nil_left, lcs_nil_right]
  · rw [lcs_nil_left, lcs_nil_right]
  · rw [lcs_cons_eq, lcs_cons_eq, ih]
  · rw [lcs_cons_ne h, lcs_cons_ne (Ne.symm h), ih1, ih2, Nat.max_comm]
theorem lcs_le (a b : List α) : lcs a b ≤ a.length ∧ lcs a b ≤ b.length := by
  refine both_ind (p := fun a b => lcs a b ≤ a.length ∧ lcs a b ≤ b.length) (fun b => ?_) (fun a => ?_) (fun x a b ih => ?_) (fun x y a b h ih1 ih2 => ?_) a b
  · simp [lcs_nil_left]
  · simp [lcs_nil_right]
  · rw [lcs_cons_eq]; simp only [List.length_cons]; omega
  · rw [lcs_cons_ne h]; simp only [List.length_cons] at *; omega
/-- what both have in common is there .. -/
theorem lcs_there (a b : List α) : ∃ s : List α, s.Sublist a ∧ s.Sublist b ∧ s.length = lcs a b := by
  refine both_ind (p := fun a b => ∃ s : List α, s.Sublist a ∧ s.Sublist b ∧ s.length = lcs a b) (fun b => ?_) (fun a => ?_) (fun x a b ih => ?_) (fun x y a b h ih1 ih2 => ?_) a b
  · exact ⟨[], List.Sublist.slnil, List.nil_sublist _, rfl⟩
  · exact ⟨[], List.nil_sublist _, List.Sublist.slnil, by rw [lcs_nil_right]; rfl⟩
  · obtain ⟨s, h1, h2, h3⟩ := ih
    exact ⟨x :: s, h1.cons_cons x, h2.cons_cons x, by rw [lcs_cons_eq, List.length_cons, h3]⟩
  · rw [lcs_cons_ne h]
    by_cases hle : lcs (x :: a) b ≤ lcs a (y :: b)
    · obtain ⟨s, h1, h2, h3⟩ := ih1
      exact ⟨s, h1.cons x, h2, by omega⟩
    · obtain ⟨s, h1, h2, h3⟩ := ih2
      exact ⟨s, h1, h2.cons y, by omega⟩
/-- .. and nothing is longer. -/
theorem lcs_most (a b : List α) : ∀ s : List α, s.Sublist a → s.Sublist b → s.length ≤ lcs a b := by
  refine both_ind (p := fun a b => ∀ s : List α, s.Sublist a → s.Sublist b → s.length ≤ lcs a b) (fun b s h1 _ => ?_) (fun a s _ h2 => ?_) (fun x a b ih s h1 h2 => ?_) (fun x y a b h ih1 ih2 s h1 h2 => ?_) a b
  · rw [List.sublist_nil.1 h1]; simp
  · rw [List.sublist_nil.1 h2]; simp
  · rw [lcs_cons_eq]
    cases h1 with
    | cons _ h1' =>
      cases h2 with
      | cons _ h2' => exact Nat.le_succ_of_le (ih s h1' h2')
      | cons_cons _ h2' =>
        rename_i s'
        have := ih s' ((List.sublist_cons_self x s').trans h1') h2'
        simp only [List.length_cons]; omega
    | cons_cons _ h1' =>
      rename_i s'
      have h2' : s'.Sublist b := by
        cases h2 with
        | cons _ h2' => exact (List.sublist_cons_self x s').trans h2'
        | cons_cons _ h2' => exact h2'
      have := ih s' h1' h2'
      simp only [List.length_cons]; omega
  · rw [lcs_cons_ne h]
    cases h1 with
    | cons _ h1' => have := ih1 s h1' h2; omega
    | cons_cons _ h1' =>
      rename_i s'
      cases h2 with
      | cons _ h2' => have := ih2 (x :: s') (h1'.cons_cons x) h2'; omega
      | cons_cons _ h2' => exact absurd rfl h
theorem lcs_over (a b c : List α) : lcs a b + lcs b c ≤ lcs a c + b.length := by
  obtain ⟨s, h1, h2, h3⟩ := lcs_there a b
  obtain ⟨t, k1, k2, k3⟩ := lcs_there b c
  obtain ⟨u, m1, m2, m3⟩ := parts_meet h2 k1
  have := lcs_most a c u (m1.trans h1) (m2.trans k2)
  omega
theorem lcs_self (a : List α) : lcs a a = a.length := by
  induction a with
  | nil => rfl
  | cons x a ih => rw [lcs_cons_eq, ih, List.length_cons]
theorem lcs_full {a b : List α} (h : lcs a b = a.length) (h' : lcs a b = b.length) : a = b := by
  obtain ⟨s, h1, h2, h3⟩ := lcs_there a b
  rw [← h1.eq_of_length (by omega), ← h2.eq_of_length (by omega)]
theorem lcs_prefix (l a b : List α) : lcs (l ++ a) (l ++ b) = l.length + lcs a b := by
  induction l with
  | nil => simp
  | cons x l ih => rw [List.cons_append, List.cons_append, lcs_cons_eq, ih, List.length_cons]; omega
theorem lcs_apart {a b : List α} (h : ∀ x ∈ a, x ∉ b) : lcs a b = 0 := by
  obtain ⟨s, h1, h2, h3⟩ := lcs_there a b
  cases s with
  | nil => exact h3.symm
  | cons x s => exact absurd (h2.subset (List.mem_cons_self ..)) (h x (h1.subset (List.mem_cons_self ..)))

/-! ### The script: (1, x) x is kept, (2, x) deleted, (3, x) inserted -/
def goRow (x : α) (a : List α) (f : List α → List (Int × α)) : List α → List (Int × α)
  | [] => (2, x) :: f []
  | y :: b => if x = y then (1, x) :: f b else if lcs (x :: a) b ≤ lcs a (y :: b) then (2, x) :: f (y :: b) else (3, y) :: goRow x a f b
def goS : List α → List α → List (Int × α)
  | [], b => b.map fun y => (3, y)
  | x :: a, b => goRow x a (goS a) b

theorem goS_nil_left (b : List α) : goS [] b = b.map fun y => ((3 : Int), y) := rfl
theorem goS_nil_right (x : α) (a : List α) : goS (x :: a) [] = ((2 : Int), x) :: goS a [] := rfl
theorem goS_cons (x y : α) (a b : List α) : goS (x :: a) (y :: b) = if x = y then (1, x) :: goS a b else if lcs (x :: a) b ≤ lcs a (y :: b) then (2, x) :: goS a (y :: b) else (3, y) :: goS (x :: a) b := rfl
theorem goS_nil (a : List α) : goS a [] = a.map fun x => ((2 : Int), x) := by
  induction a with
  | nil => rfl
  | cons x a ih => rw [goS_nil_right, ih, List.map_cons]

/-- too much for a table -/
def tooLong (a b : List α) : Prop := 400 < a.length ∨ 400 < b.length
instance (a b : List α) : Decidable (tooLong a b) := inferInstanceAs (Decidable (_ ∨ _))
def restS (a b : List α) : List (Int × α) := if tooLong a b then (a.map fun x => (2, x)) ++ b.map fun y => (3, y) else goS a b
def scriptRow (x : α) (a : List α) (f : List α → List (Int × α)) : List α → List (Int × α)
  | [] => restS (x :: a) []
  | y :: b => if x = y then (1, x) :: f b else restS (x :: a) (y :: b)
/-- the script of two lists -/
def scriptS : List α → List α → List (Int × α)
  | [], b => restS [] b
  | x :: a, b => scriptRow x a (scriptS a) b
theorem scriptS_cons (x y : α) (a b : List α) : scriptS (x :: a) (y :: b) = if x = y then (1, x) :: scriptS a b else restS (x :: a) (y :: b) := rfl
theorem scriptS_nil_left (b : List α) : scriptS [] b = restS [] b := rfl
theorem scriptS_nil_right (a : List α) : scriptS a [] = restS a [] := by cases a <;> rfl
/-- short enough: the script is the walk through the table from the beginning -/
theorem scriptS_short {a b : List α} (ha : a.length ≤ 400) (hb : b.length ≤ 400) : scriptS a b = goS a b := by
  induction a generalizing b with
  | nil => rw [scriptS_nil_left, restS, if_neg (by unfold tooLong; simp; omega)]
  | cons x a ih =>
    cases b with
    | nil => rw [scriptS_nil_right, restS, if_neg (by unfold tooLong; simp at ha ⊢; omega)]
    | cons y b =>
      rw [scriptS_cons, goS_cons]
      split
      · rw [ih (by simp at ha; omega) (by simp at hb; omega)]
      · rename_i h
        rw [restS, if_neg (by unfold tooLong; omega), goS_cons, if_neg h]
theorem scriptS_prefix (l a b : List α) : scriptS (l ++ a) (l ++ b) = (l.map fun x => (1, x)) ++ scriptS a b := by
  induction l with
  | nil => rfl
  | cons x l ih => rw [List.cons_append, List.cons_append, scriptS_cons, if_pos rfl, ih, List.map_cons, List.cons_append]

theorem goS_sides (a b : List α) : sideS 2 (goS a b) = a ∧ sideS 3 (goS a b) = b ∧ (goS a b).length + lcs a b = a.length + b.length ∧ distS (goS a b) + 2 * lcs a b = a.length + b.length := by
  refine both_ind (p := fun a b => sideS 2 (goS a b) = a ∧ sideS 3 (goS a b) = b ∧ (goS a b).length + lcs a b = a.length + b.length ∧ distS (goS a b) + 2 * lcs a b = a.length + b.length) (fun b => ?_) (fun a => ?_) (fun x a b ih => ?_) (fun x y a b h ih1 ih2 => ?_) a b
  · rw [goS_nil_left, lcs_nil_left]
    exact ⟨sideS_none 2 3 b (by decide), sideS_all 3 3 b (by decide), by simp, by rw [distS_map 3 b (by decide)]; simp⟩
  · rw [goS_nil, lcs_nil_right]
    exact ⟨sideS_all 2 2 a (by decide), sideS_none 3 2 a (by decide), by simp, by rw [distS_map 2 a (by decide)]; simp⟩
  · obtain ⟨h1, h2, h3, h4⟩ := ih
    rw [goS_cons, if_pos rfl, lcs_cons_eq]
    refine ⟨by rw [sideS_cons, if_pos (by simp), h1], by rw [sideS_cons, if_pos (by simp), h2], by simp only [List.length_cons]; omega, ?_⟩
    have : distS (((1 : Int), x) :: goS a b) = distS (goS a b) := by simp [distS]
    rw [this]; simp only [List.length_cons]; omega
  · rw [goS_cons, if_neg h, lcs_cons_ne h]
    split
    · rename_i hle
      obtain ⟨h1, h2, h3, h4⟩ := ih1
      refine ⟨by rw [sideS_cons, if_pos (by simp), h1], by rw [sideS_cons, if_neg (by simp), h2], by simp only [List.length_cons] at *; omega, ?_⟩
      have : distS (((2 : Int), x) :: goS a (y :: b)) = distS (goS a (y :: b)) + 1 := by simp [distS]
      rw [this]; simp only [List.length_cons] at *; omega
    · rename_i hle
      obtain ⟨h1, h2, h3, h4⟩ := ih2
      refine ⟨by rw [sideS_cons, if_neg (by simp), h1], by rw [sideS_cons, if_pos (by simp), h2], by simp only [List.length_cons] at *; omega, ?_⟩
      have : distS (((3 : Int), y) :: goS (x :: a) b) = distS (goS (x :: a) b) + 1 := by simp [distS]
      rw [this]; simp only [List.length_cons] at *; omega
theorem goS_apart {a b : List α} (h : ∀ x ∈ a, x ∉ b) : goS a b = (a.map fun x => (2, x)) ++ b.map fun y => (3, y) := by
  induction a with
  | nil => rfl
  | cons x a ih =>
    have h' : ∀ z ∈ a, z ∉ b := fun z hz => h z (List.mem_cons_of_mem _ hz)
    cases b with
    | nil => rw [goS_nil]; simp
    | cons y b =>
      have hxy : x ≠ y := fun e => h x (List.mem_cons_self ..) (e ▸ List.mem_cons_self ..)
      rw [goS_cons, if_neg hxy, lcs_apart (a := x :: a) (b := b) (fun z hz hb => h z hz (List.mem_cons_of_mem _ hb)), if_pos (Nat.zero_le _), ih h']
      rfl
end
end Go.Proofs.Ytnpgfbgnbonhfaa
