/-
  How many lines a text has, and how each of them ends. Mathematics.
-/
import Derived.Test.YtfldheegebopoaaLinM
namespace Go.Proofs.Ytfldheegebopoaa

theorem linesOf_nil_iff (s : List UInt8) : linesOf s = [] ↔ s = [] := by
  constructor
  · intro h
    have := linesOf_join s
    rw [h] at this
    simpa using this.symm
  · rintro rfl
    rfl
/-- is there something behind the last end of a line? -/
def openEnd (s : List UInt8) : Bool := match s.getLast? with
  | none => false
  | some b => b != 10
theorem openEnd_cons (b : UInt8) (s : List UInt8) (h : s ≠ []) : openEnd (b :: s) = openEnd s := by
  unfold openEnd
  rw [List.getLast?_cons]
  cases hs : s.getLast? with
  | none => exact absurd (List.getLast?_eq_none_iff.1 hs) h
  | some c => rfl
theorem linesOf_length (s : List UInt8) : (linesOf s).length = s.count 10 + (if openEnd s then 1 else 0) := by
  induction s with
  | nil => rfl
  | cons b s ih =>
    simp only [linesOf]
    by_cases hb : b = 10
    · subst hb
      rw [if_pos rfl, List.length_cons, ih, List.count_cons_self]
      by_cases hs : s = []
      · subst hs
        rfl
      · rw [openEnd_cons _ _ hs]
        omega
    · rw [if_neg hb, List.count_cons_of_ne (fun h => hb h)]
      by_cases hs : s = []
      · subst hs
        simp [linesOf, openEnd, hb]
      · rw [openEnd_cons _ _ hs, ← ih]
        cases hl : linesOf s with
        | nil => exact absurd ((linesOf_nil_iff s).1 hl) hs
        | cons l ls => rfl

/-- each line is something; its end stands at its end alone; all but the last one have it. -/
def Ended (ls : List (List UInt8)) : Prop := ∀ i x, ls[i]? = some x → x ≠ [] ∧ (∀ k, k + 1 < x.length → x[k]? ≠ some 10) ∧ (i + 1 < ls.length → x[x.length - 1]? = some 10)
theorem linesOf_ended (s : List UInt8) : Ended (linesOf s) := by
  induction s with
  | nil => intro i x h; simp [linesOf] at h
  | cons b s ih =>
    simp only [linesOf]
    by_cases hb : b = 10
    · rw [if_pos hb]
      intro i x h
      cases i with
      | zero =>
        simp at h
        subst h
        subst hb
        exact ⟨by simp, fun k hk => by simp at hk, fun _ => by simp⟩
      | succ i =>
        have h' := ih i x (by simpa using h)
        exact ⟨h'.1, h'.2.1, fun hi => h'.2.2 (by simpa using hi)⟩
    · rw [if_neg hb]
      cases hl : linesOf s with
      | nil =>
        intro i x h
        cases i with
        | zero =>
          simp at h
          subst h
          exact ⟨by simp, fun k hk => by simp at hk, fun hi => by simp at hi⟩
        | succ i => simp at h
      | cons l ls =>
        rw [hl] at ih
        intro i x h
        cases i with
        | zero =>
          simp at h
          subst h
          have h' := ih 0 l rfl
          refine ⟨by simp, fun k hk => ?_, fun hi => ?_⟩
          · cases k with
            | zero => simpa using hb
            | succ k => simpa using h'.2.1 k (by simpa using hk)
          · have := h'.2.2 (by simpa using hi)
            have hp : 0 < l.length := List.length_pos_iff.2 h'.1
            rw [List.length_cons, Nat.add_sub_cancel]
            obtain ⟨n, hn⟩ : ∃ n, l.length = n + 1 := ⟨l.length - 1, by omega⟩
            rw [hn] at this ⊢
            simpa using this
        | succ i =>
          have h' := ih (i + 1) x (by simpa using h)
          exact ⟨h'.1, h'.2.1, fun hi => h'.2.2 (by simpa using hi)⟩
theorem mem_flatten_len {ls : List (List UInt8)} {x : List UInt8} (h : x ∈ ls) : x.length ≤ ls.flatten.length := by
  induction ls with
  | nil => cases h
  | cons y ys ih =>
    rw [List.flatten_cons, List.length_append]
    rcases List.mem_cons.1 h with rfl | h'
    · omega
    · have := ih h'; omega
theorem count_take_succ (s : List UInt8) (k : Nat) (b : UInt8) (h : s[k]? = some b) : (s.take (k + 1)).count 10 = (s.take k).count 10 + (if b = 10 then 1 else 0) := by
  rw [take_snoc h, List.count_append]
  by_cases hb : b = 10
  · subst hb; simp
  · rw [if_neg hb, List.count_singleton]
    simp [hb]
theorem openEnd_last (s : List UInt8) (b : UInt8) (h : s[s.length - 1]? = some b) : openEnd s = (b != 10) := by
  unfold openEnd
  rw [List.getLast?_eq_getElem?, h]

/-- nothing, or a text that ends with a line's end: what comes behind begins a line. -/
def Closed (s : List UInt8) : Prop := s = [] ∨ ∃ t, s = t ++ [10]
theorem linesOf_closed {s : List UInt8} (h : Closed s) (t : List UInt8) : linesOf (s ++ t) = linesOf s ++ linesOf t := by
  rcases h with rfl | ⟨u, rfl⟩
  · simp [linesOf]
  · rw [List.append_assoc]
    exact linesOf_append u t
theorem Closed.line (s x : List UInt8) : Closed (s ++ (x ++ [10])) := .inr ⟨s ++ x, by simp⟩
end Go.Proofs.Ytfldheegebopoaa
