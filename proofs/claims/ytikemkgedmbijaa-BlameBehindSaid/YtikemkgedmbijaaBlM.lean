/-
  Blame (P8.1), as mathematics: which version each line of the last one comes from.
-/
import Derived.Test.YtikemkgedmbijaaHkT
namespace Go.Proofs.Ytikemkgedmbijaa

section
variable {α : Type}
/-- through one script: what is kept keeps its number, what comes bears v -/
def blameStep (v : Nat) : List (Int × α) → List Nat → List Nat
  | [], _ => []
  | e :: s, out => if e.1 = 1 then out.headD 0 :: blameStep v s out.tail else if e.1 = 2 then blameStep v s out.tail else v :: blameStep v s out
theorem blameStep_keep (v : Nat) (a : List α) (s : List (Int × α)) : ∀ (o1 o2 : List Nat), o1.length = a.length → blameStep v ((a.map fun x => ((1 : Int), x)) ++ s) (o1 ++ o2) = o1 ++ blameStep v s o2 := by
  induction a with
  | nil => intro o1 o2 h; rw [List.eq_nil_of_length_eq_zero h]; rfl
  | cons x a ih =>
    intro o1 o2 h
    cases o1 with
    | nil => simp at h
    | cons o o1 =>
      rw [List.map_cons, List.cons_append, List.cons_append, blameStep, if_pos rfl]
      show o :: blameStep v _ (o1 ++ o2) = o :: (o1 ++ _)
      rw [ih o1 o2 (by simpa using h)]
theorem blameStep_new (v : Nat) (m : List α) (out : List Nat) : blameStep v (m.map fun x => ((3 : Int), x)) out = List.replicate m.length v := by
  induction m with
  | nil => rfl
  | cons x m ih => rw [List.map_cons, blameStep, if_neg (by simp), if_neg (by simp), ih]; rfl

/-- each number goes with its line -/
def Fall (P : Nat → α → Prop) : List Nat → List α → Prop
  | [], [] => True
  | o :: out, x :: xs => P o x ∧ Fall P out xs
  | _, _ => False
theorem Fall.length {P : Nat → α → Prop} {out : List Nat} {xs : List α} (h : Fall P out xs) : out.length = xs.length := by
  induction out generalizing xs with
  | nil => cases xs with | nil => rfl | cons x xs => exact h.elim
  | cons o out ih => cases xs with | nil => exact h.elim | cons x xs => rw [List.length_cons, ih h.2, List.length_cons]
theorem Fall.at {P : Nat → α → Prop} {out : List Nat} {xs : List α} (h : Fall P out xs) {i : Nat} {o : Nat} {x : α} (ho : out[i]? = some o) (hx : xs[i]? = some x) : P o x := by
  induction out generalizing xs i with
  | nil => simp at ho
  | cons o' out ih =>
    cases xs with
    | nil => exact h.elim
    | cons x' xs =>
      cases i with
      | zero => simp at ho hx; subst ho; subst hx; exact h.1
      | succ i => exact ih h.2 (by simpa using ho) (by simpa using hx)
theorem Fall.replicate {P : Nat → α → Prop} {v : Nat} {xs : List α} (h : ∀ x ∈ xs, P v x) : Fall P (List.replicate xs.length v) xs := by
  induction xs with
  | nil => trivial
  | cons x xs ih => exact ⟨h x (List.mem_cons_self ..), ih fun y hy => h y (List.mem_cons_of_mem _ hy)⟩
theorem step_fall (P : Nat → α → Prop) (v : Nat) (s : List (Int × α)) : ∀ out, Kinds s → Fall P out (sideS 2 s) → (∀ x ∈ sideS 3 s, P v x) → Fall P (blameStep v s out) (sideS 3 s) := by
  induction s with
  | nil => exact fun _ _ _ _ => trivial
  | cons e s ih =>
    obtain ⟨k, x⟩ := e
    intro out hK h hv
    rw [sideS_cons] at h hv ⊢
    rcases hK (k, x) (List.mem_cons_self ..) with hk | hk | hk
    · simp only at hk; subst hk
      rw [if_pos (.inl rfl)] at h
      rw [if_pos (.inl rfl)] at hv ⊢
      cases out with
      | nil => exact h.elim
      | cons o out =>
        rw [blameStep, if_pos rfl]
        exact ⟨h.1, ih out hK.tail h.2 fun y hy => hv y (List.mem_cons_of_mem _ hy)⟩
    · simp only at hk; subst hk
      rw [if_pos (.inr rfl)] at h
      rw [if_neg (by simp)] at hv ⊢
      cases out with
      | nil => exact h.elim
      | cons o out =>
        rw [blameStep, if_neg (by simp), if_pos rfl]
        exact ih out hK.tail h.2 hv
    · simp only at hk; subst hk
      rw [if_neg (by simp)] at h
      rw [if_pos (.inr rfl)] at hv ⊢
      rw [blameStep, if_neg (by simp), if_neg (by simp)]
      exact ⟨hv x (List.mem_cons_self ..), ih out hK.tail h fun y hy => hv y (List.mem_cons_of_mem _ hy)⟩
end

section
variable {α : Type} [DecidableEq α]
/-- version behind version -/
def blameFrom (v : Nat) (prev : List α) (out : List Nat) : List (List α) → List Nat
  | [] => out
  | x :: l => blameFrom (v + 1) x (blameStep v (scriptS prev x) out) l
def blameS : List (List α) → List Nat
  | [] => []
  | x :: l => blameFrom 1 x (List.replicate x.length 0) l
theorem blameFrom_snoc (l : List (List α)) (z : List α) : ∀ (v : Nat) (prev : List α) (out : List Nat), blameFrom v prev out (l ++ [z]) = blameStep (v + l.length) (scriptS ((prev :: l).getLast (by simp)) z) (blameFrom v prev out l) := by
  induction l with
  | nil => exact fun _ _ _ => rfl
  | cons x l ih =>
    intro v prev out
    rw [List.cons_append, blameFrom, ih, blameFrom, List.length_cons, show v + 1 + l.length = v + (l.length + 1) by omega]
    rfl
theorem restS_nil (m : List α) : restS [] m = m.map fun y => ((3 : Int), y) := by
  unfold restS
  split
  · rfl
  · rfl
/-- each line bears a version that has it -/
theorem blameFrom_fall (L : List (List α)) (hL : ∀ x ∈ L, x.length ≤ 400) (l : List (List α)) : ∀ (v : Nat) (prev : List α) (out : List Nat), prev.length ≤ 400 → L.drop v = l → Fall (fun o x => ∃ y, L[o]? = some y ∧ x ∈ y) out prev →
    Fall (fun o x => ∃ y, L[o]? = some y ∧ x ∈ y) (blameFrom v prev out l) ((prev :: l).getLast (by simp)) := by
  induction l with
  | nil => exact fun v prev out _ _ h => h
  | cons x l ih =>
    intro v prev out hp hd h
    have hx : L[v]? = some x := by
      have := congrArg (·[0]?) hd
      simpa [List.getElem?_drop] using this
    have hxl := hL x (List.mem_of_getElem? hx)
    rw [blameFrom, List.getLast_cons (by simp)]
    refine ih (v + 1) x _ hxl ?_ ?_
    · rw [← List.drop_drop, hd]; rfl
    · rw [scriptS_short hp hxl]
      obtain ⟨e1, e2, _⟩ := goS_sides prev x
      have := step_fall (fun o x => ∃ y, L[o]? = some y ∧ x ∈ y) v (goS prev x) out (goS_kinds prev x) (by rw [e1]; exact h) (fun z hz => ⟨x, hx, by rw [e2] at hz; exact hz⟩)
      rwa [e2] at this
theorem blameS_fall (L : List (List α)) (hne : L ≠ []) (hL : ∀ x ∈ L, x.length ≤ 400) : Fall (fun o x => ∃ y, L[o]? = some y ∧ x ∈ y) (blameS L) (L.getLast hne) := by
  cases L with
  | nil => exact absurd rfl hne
  | cons x l => exact blameFrom_fall (x :: l) hL l 1 x _ (hL x (List.mem_cons_self ..)) rfl (Fall.replicate fun y hy => ⟨x, rfl, hy⟩)
/-- lines put behind all others come from the version that brings them -/
theorem blameS_behind (L : List (List α)) (hne : L ≠ []) (hL : ∀ x ∈ L, x.length ≤ 400) (m : List α) : blameS (L ++ [L.getLast hne ++ m]) = blameS L ++ List.replicate m.length L.length := by
  have hlen := (blameS_fall L hne hL).length
  cases L with
  | nil => exact absurd rfl hne
  | cons x l =>
    rw [List.cons_append, blameS, blameFrom_snoc]
    have := scriptS_prefix ((x :: l).getLast hne) [] m
    rw [List.append_nil, scriptS_nil_left, restS_nil] at this
    rw [this]
    have h := blameStep_keep (1 + l.length) ((x :: l).getLast hne) (m.map fun y => ((3 : Int), y)) (blameS (x :: l)) [] hlen
    rw [List.append_nil, blameStep_new] at h
    rw [show (x :: l).length = 1 + l.length by rw [List.length_cons]; omega]
    exact h
theorem blameS_same (L : List (List α)) (hne : L ≠ []) (hL : ∀ x ∈ L, x.length ≤ 400) : blameS (L ++ [L.getLast hne]) = blameS L := by
  have := blameS_behind L hne hL []
  rwa [List.append_nil, List.length_nil, List.replicate_zero, List.append_nil] at this
theorem blameS_new (x : List α) : blameS [[], x] = List.replicate x.length 1 := by
  show blameStep 1 (scriptS [] x) [] = _
  rw [scriptS_nil_left, restS_nil, blameStep_new]
end
end Go.Proofs.Ytikemkgedmbijaa
