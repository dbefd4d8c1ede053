/-
  Lines, as mathematics (P5.1).
-/
import Derived.Test.YtnpgfbgnbonhfaaLaw2
namespace Go.Proofs.Ytnpgfbgnbonhfaa

/-- a text's lines: each up to, and with, its byte 10 -/
def linesOf : List UInt8 → List (List UInt8)
  | [] => []
  | b :: s => if b = 10 then [b] :: linesOf s else match linesOf s with
    | [] => [[b]]
    | l :: ls => (b :: l) :: ls

theorem linesOf_line (x r : List UInt8) (h : ∀ b ∈ x, b ≠ 10) : linesOf (x ++ 10 :: r) = (x ++ [10]) :: linesOf r := by
  induction x with
  | nil => simp [linesOf]
  | cons b x ih =>
    have hb := h b (List.mem_cons_self ..)
    have := ih (fun c hc => h c (List.mem_cons_of_mem _ hc))
    simp only [List.cons_append, linesOf, if_neg hb, this]
theorem linesOf_last (x : List UInt8) (h : ∀ b ∈ x, b ≠ 10) (hx : x ≠ []) : linesOf x = [x] := by
  induction x with
  | nil => exact absurd rfl hx
  | cons b x ih =>
    have hb := h b (List.mem_cons_self ..)
    by_cases hx' : x = []
    · subst hx'
      simp [linesOf, hb]
    · have := ih (fun c hc => h c (List.mem_cons_of_mem _ hc)) hx'
      simp only [linesOf, if_neg hb, this]
theorem linesOf_join (s : List UInt8) : (linesOf s).flatten = s := by
  induction s with
  | nil => rfl
  | cons b s ih =>
    simp only [linesOf]
    split
    · simp [ih]
    · cases hl : linesOf s with
      | nil => rw [hl] at ih; simp at ih; subst ih; simp
      | cons l ls => rw [hl] at ih; simp at ih ⊢; exact ih
theorem linesOf_count (s : List UInt8) : (linesOf s).length ≤ s.length := by
  induction s with
  | nil => simp [linesOf]
  | cons b s ih =>
    simp only [linesOf]
    split
    · simpa using ih
    · cases hl : linesOf s with
      | nil => simp
      | cons l ls => rw [hl] at ih; simp at ih ⊢; omega
/-- behind a line's end lines begin anew -/
theorem linesOf_append (s t : List UInt8) : linesOf (s ++ 10 :: t) = linesOf (s ++ [10]) ++ linesOf t := by
  induction s with
  | nil => simp [linesOf]
  | cons b s ih =>
    simp only [List.cons_append, linesOf]
    split
    · simp [ih]
    · rw [ih]
      cases hl : linesOf (s ++ [10]) with
      | nil =>
        have := linesOf_join (s ++ [10])
        rw [hl] at this
        simp at this
      | cons l ls => simp
theorem linesOf_ne (s : List UInt8) : ∀ x ∈ linesOf s, x ≠ [] := by
  induction s with
  | nil => simp [linesOf]
  | cons b s ih =>
    simp only [linesOf]
    split
    · intro x hx
      rcases List.mem_cons.1 hx with rfl | h
      · simp
      · exact ih x h
    · cases hl : linesOf s with
      | nil => simp
      | cons l ls =>
        rw [hl] at ih
        intro x hx
        rcases List.mem_cons.1 hx with rfl | h
        · simp
        · exact ih x (List.mem_cons_of_mem _ h)

/-- How far a scan for lines has come: what is done; 'from' is where the line at hand begins; up to i it has no end. -/
structure LinesAt (s : List UInt8) (done : List (List UInt8)) (f i : Nat) : Prop where
  fi : f ≤ i
  il : i ≤ s.length
  cnt : done.length ≤ f
  all : linesOf s = done ++ linesOf (s.drop f)
  none : ∀ b ∈ (s.drop f).take (i - f), b ≠ 10
theorem LinesAt.start (s : List UInt8) : LinesAt s [] 0 0 := ⟨Nat.le_refl _, Nat.zero_le _, Nat.le_refl _, by simp, by simp⟩
theorem LinesAt.more {s : List UInt8} {done : List (List UInt8)} {f i : Nat} {b : UInt8} (h : LinesAt s done f i) (hb : s[i]? = some b) (hne : b ≠ 10) : LinesAt s done f (i + 1) := by
  have hi := (List.getElem?_eq_some_iff.1 hb).1
  have hfi := h.fi
  refine ⟨by omega, hi, h.cnt, h.all, ?_⟩
  have e : (s.drop f).take (i + 1 - f) = (s.drop f).take (i - f) ++ [b] := by
    rw [show i + 1 - f = i - f + 1 by omega]
    exact take_snoc (by rw [List.getElem?_drop, show f + (i - f) = i by omega]; exact hb)
  rw [e]
  intro c hc
  rcases List.mem_append.1 hc with h1 | h1
  · exact h.none c h1
  · simp at h1
    rw [h1]; exact hne
theorem LinesAt.line {s : List UInt8} {done : List (List UInt8)} {f i : Nat} (h : LinesAt s done f i) (hb : s[i]? = some 10) : LinesAt s (done ++ [(s.drop f).take (i + 1 - f)]) (i + 1) (i + 1) := by
  have hi := (List.getElem?_eq_some_iff.1 hb).1
  have hfi := h.fi
  have hcnt := h.cnt
  have e : (s.drop f).take (i + 1 - f) = (s.drop f).take (i - f) ++ [10] := by
    rw [show i + 1 - f = i - f + 1 by omega]
    exact take_snoc (by rw [List.getElem?_drop, show f + (i - f) = i by omega]; exact hb)
  have e2 : s.drop f = (s.drop f).take (i - f) ++ 10 :: s.drop (i + 1) := by
    conv => lhs; rw [← List.take_append_drop (i - f) (s.drop f)]
    rw [List.drop_drop, show f + (i - f) = i by omega, List.drop_eq_getElem_cons hi]
    obtain ⟨_, h10⟩ := List.getElem?_eq_some_iff.1 hb
    rw [h10]
  refine ⟨Nat.le_refl _, hi, by simp; omega, ?_, by simp⟩
  rw [h.all]
  conv => lhs; rw [e2]
  rw [linesOf_line _ _ h.none, e]
  simp
theorem LinesAt.stop {s : List UInt8} {done : List (List UInt8)} {f : Nat} (h : LinesAt s done f s.length) : linesOf s = if f < s.length then done ++ [s.drop f] else done := by
  have hn := h.none
  have hfi := h.fi
  rw [List.take_of_length_le (by rw [List.length_drop]; omega)] at hn
  rw [h.all]
  split
  · rw [linesOf_last _ hn (by
      intro e
      have := congrArg List.length e
      rw [List.length_drop] at this
      simp at this
      omega)]
  · rw [List.drop_of_length_le (by omega)]
    simp [linesOf]
end Go.Proofs.Ytnpgfbgnbonhfaa
