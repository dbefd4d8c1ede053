/-
  Texts sorted by their bytes.
-/
import Derived.Test.YtnpgfbgnbonhfaaTrM
namespace Go.Proofs.Ytnpgfbgnbonhfaa

theorem le_lt (x y : Txt) : decide (x ≤ y) = !ltS y x := by
  have h : ∀ a b : Txt, ltS a b = true ↔ a < b := by
    intro a
    induction a with
    | nil =>
      intro b
      cases b with
      | nil => simp [ltS, Op.bytesLess]
      | cons c b => simp [ltS, Op.bytesLess]
    | cons c a ih =>
      intro b
      cases b with
      | nil => simp [ltS, Op.bytesLess]
      | cons d b => rw [lt_cons, ih, List.cons_lt_cons_iff]
  have e : (x ≤ y) = ¬ (y < x) := rfl
  cases hl : ltS y x with
  | true => rw [decide_eq_false]; rfl; rw [e]; exact fun hn => hn ((h _ _).1 hl)
  | false => rw [decide_eq_true]; rfl; rw [e]; exact fun hn => by rw [(h _ _).2 hn] at hl; cases hl
theorem sorted_texts (l : List Txt) : (l.mergeSort fun x y => decide (x ≤ y)).Pairwise fun x y => ltS y x = false := by
  have h := List.pairwise_mergeSort (le := fun x y : Txt => decide (x ≤ y)) (fun a b c hab hbc => by
    rw [le_lt, Bool.not_eq_true'] at hab hbc ⊢
    cases e : ltS c a with
    | false => rfl
    | true =>
      exfalso
      cases e2 : ltS a b with
      | true => rw [lt_trans' _ _ _ e e2] at hbc; cases hbc
      | false =>
        have := lt_tri _ _ e2 hab
        rw [this, hbc] at e
        cases e) (fun a b => by
    rw [le_lt, le_lt]
    cases e : ltS b a with
    | false => rfl
    | true => rw [lt_asym e]; rfl) l
  refine h.imp fun {x y} hxy => ?_
  rw [le_lt] at hxy
  simpa using hxy
end Go.Proofs.Ytnpgfbgnbonhfaa
