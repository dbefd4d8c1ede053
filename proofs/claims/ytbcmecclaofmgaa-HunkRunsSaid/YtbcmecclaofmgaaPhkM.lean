/-
  The hunks of edits, run by run (mathematics); lists of edits cut; how many edits begin a list that are no Keep.
-/
import Derived.Test.YtbcmecclaofmgaaHkM
import Derived.Test.YtbcmecclaofmgaaEdB
namespace Go.Proofs.Ytbcmecclaofmgaa
open Go.RowKit

section
variable {α : Type}
def runN : List (Int × α) → Nat
  | [] => 0
  | (k, _) :: t => if k = 1 then 0 else runN t + 1
theorem runN_le (l : List (Int × α)) : runN l ≤ l.length := by
  induction l with
  | nil => exact Nat.le_refl _
  | cons e t ih =>
    obtain ⟨k, x⟩ := e
    rw [runN, List.length_cons]
    split <;> omega
theorem runN_stop {l : List (Int × α)} {n : Nat} {k : Int} {x : α} (h : ∀ i e, i < n → l[i]? = some e → e.1 ≠ 1) (hn : l[n]? = some (k, x)) (hk : k = 1) : runN l = n := by
  induction l generalizing n with
  | nil => simp at hn
  | cons e t ih =>
    obtain ⟨c, y⟩ := e
    rw [runN]
    cases n with
    | zero =>
      rw [List.getElem?_cons_zero] at hn
      obtain ⟨rfl, -⟩ := Prod.mk.inj (Option.some.inj hn)
      rw [if_pos hk]
    | succ n =>
      have h0 := h 0 (c, y) (by omega) rfl
      rw [if_neg h0, ih (n := n) (fun i e hi he => h (i + 1) e (by omega) (by rw [List.getElem?_cons_succ]; exact he)) (by rw [List.getElem?_cons_succ] at hn; exact hn)]
theorem runN_all {l : List (Int × α)} (h : ∀ i e, i < l.length → l[i]? = some e → e.1 ≠ 1) : runN l = l.length := by
  induction l with
  | nil => rfl
  | cons e t ih =>
    obtain ⟨c, y⟩ := e
    have h0 := h 0 (c, y) (by rw [List.length_cons]; omega) rfl
    rw [runN, if_neg h0, ih (fun i e hi he => h (i + 1) e (by rw [List.length_cons]; omega) (by rw [List.getElem?_cons_succ]; exact he)), List.length_cons]
theorem hunks_open (l : List (Int × α)) (s at' : Nat) (o d : List α) : hunksG (some (s, o, d)) at' l = ((s : Int), o ++ sideS 2 (l.take (runN l)), d ++ sideS 3 (l.take (runN l))) :: hunksG none (at' + (sideS 2 (l.take (runN l))).length) (l.drop (runN l)) := by
  induction l generalizing at' o d with
  | nil => simp [hunksG, runN, sideS]
  | cons e t ih =>
    obtain ⟨k, x⟩ := e
    rw [hunksG, runN]
    by_cases h1 : k = 1
    · subst h1
      simp [sideS, hunksG]
    · rw [if_neg h1, if_neg h1, List.take_succ_cons, List.drop_succ_cons]
      have e2 : sideS 2 ((k, x) :: t.take (runN t)) = if k = 2 then x :: sideS 2 (t.take (runN t)) else sideS 2 (t.take (runN t)) := by rw [sideS_cons]; simp [h1]
      have e3 : sideS 3 ((k, x) :: t.take (runN t)) = if k = 3 then x :: sideS 3 (t.take (runN t)) else sideS 3 (t.take (runN t)) := by rw [sideS_cons]; simp [h1]
      rw [e2, e3]
      by_cases h2 : k = 2
      · subst h2
        rw [if_pos rfl, ih, if_pos rfl, if_neg (by decide), List.append_assoc, List.length_cons, show at' + 1 + (sideS 2 (t.take (runN t))).length = at' + ((sideS 2 (t.take (runN t))).length + 1) by omega]
        rfl
      · rw [if_neg h2, if_neg h2]
        by_cases h3 : k = 3
        · subst h3
          rw [if_pos rfl, ih, if_pos rfl, List.append_assoc]
          rfl
        · rw [if_neg h3, ih, if_neg h3]
theorem hunks_run (l : List (Int × α)) (at' : Nat) (h : 0 < runN l) : hunksG none at' l = ((at' : Int), sideS 2 (l.take (runN l)), sideS 3 (l.take (runN l))) :: hunksG none (at' + (sideS 2 (l.take (runN l))).length) (l.drop (runN l)) := by
  have e : hunksG none at' l = hunksG (some (at', [], [])) at' l := by
    cases l with
    | nil => simp [runN] at h
    | cons e t =>
      obtain ⟨k, x⟩ := e
      have h1 : k ≠ 1 := by
        rintro rfl
        simp [runN] at h
      rw [hunksG, hunksG, if_neg h1, if_neg h1]
      rfl
  rw [e, hunks_open, List.nil_append, List.nil_append]
theorem hunks_keep {l : List (Int × α)} (at' : Nat) (h : runN l = 0) (hl : 0 < l.length) : hunksG none at' l = hunksG none (at' + 1) (l.drop 1) := by
  cases l with
  | nil => cases hl
  | cons e t =>
    obtain ⟨k, x⟩ := e
    have h1 : k = 1 := by
      apply Decidable.byContradiction
      intro hk
      rw [runN, if_neg hk] at h
      omega
    rw [hunksG, if_pos h1]
    rfl
end

/-- 's[:n]', of edits. -/
theorem slice_edits_to {P : Program} {w : World} {v : Value} {es : List (Int × List UInt8)} (t e : TypeId) {i : TypeInfo} (ht : P.underlying t = some (.slice e)) (hi : P.info? e = some i) (h : SlE w v es) (n : Nat) (hn : n ≤ es.length) :
    ∃ ao c, (∀ wx, (Instr.slice t v none (some (.int .i64 n)) none).run P wx = .ok (.slice ao n c) wx) ∧ SlE w (.slice ao n c) (es.take n) := by
  obtain ⟨ao, cap, rfl, hnone, hcap, hc⟩ := h
  refine ⟨if cap = 0 then ao else ao.map (·.add (0 * i.size)), cap, fun wx => ?_, ⟨_, cap, by rw [List.length_take, Nat.min_eq_left hn], fun h => ?_, by rw [List.length_take]; omega, fun a ha j u hu => ?_⟩⟩
  · have h3 : (n : Int) ≤ cap := by omega
    simp [Instr.slice, run_underlying ht, Instr.sliceBounds, run_sliceBound, sizeOf, typeInfo, hi, h3]
  · have : ao = none := by
      split at h
      · exact h
      · simpa using h
    rw [hnone this, List.take_nil]
  · rw [List.getElem?_take] at hu
    split at hu
    · have h4 := (List.getElem?_eq_some_iff.1 hu).1
      rw [if_neg (by omega)] at ha
      cases ao with
      | none => cases ha
      | some b =>
        cases ha
        show w.cell? ((b.add (0 * i.size)).add (j * 2)) = _ ∧ w.cell? ((b.add (0 * i.size)).add (j * 2 + 1)) = _
        rw [Nat.zero_mul, show b.add 0 = b from rfl]
        exact hc b rfl j u hu
    · cases hu
end Go.Proofs.Ytbcmecclaofmgaa
