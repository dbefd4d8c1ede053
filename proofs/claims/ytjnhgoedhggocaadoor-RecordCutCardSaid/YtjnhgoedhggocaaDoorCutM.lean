/-
  Frames, one behind the other, cut anywhere: the whole ones are told. Mathematics.
-/
import Derived.Test.YtjnhgoedhggocaaDoorScanM
namespace Go.Proofs.YtjnhgoedhggocaaDoor
open Go.RowKit

/-- frames, one behind the other -/
def framesOf : List (List UInt8) → List UInt8
  | [] => []
  | x :: xs => frameOf x ++ framesOf xs
/-- where the frame number j ends -/
def endOf : List (List UInt8) → Nat → Nat
  | _, 0 => 0
  | [], _ + 1 => 0
  | x :: xs, j + 1 => 8 + x.length + endOf xs j
/-- how many frames are whole within k bytes -/
def wholeN : List (List UInt8) → Nat → Nat
  | [], _ => 0
  | x :: xs, k => if 8 + x.length ≤ k then wholeN xs (k - (8 + x.length)) + 1 else 0

theorem wholeN_le (xs : List (List UInt8)) (k : Nat) : wholeN xs k ≤ xs.length := by
  induction xs generalizing k with
  | nil => simp [wholeN]
  | cons x xs ih =>
    simp only [wholeN]
    split
    · have := ih (k - (8 + x.length)); simp only [List.length_cons]; omega
    · omega
theorem endOf_iff (xs : List (List UInt8)) (k j : Nat) (hj : j ≤ xs.length) : endOf xs j ≤ k ↔ j ≤ wholeN xs k := by
  induction xs generalizing k j with
  | nil =>
    have : j = 0 := by simpa using hj
    subst this
    simp [endOf, wholeN]
  | cons x xs ih =>
    cases j with
    | zero => simp [endOf]
    | succ j =>
      simp only [endOf, wholeN]
      simp only [List.length_cons] at hj
      split
      · rename_i h
        have := ih (k - (8 + x.length)) j (by omega)
        omega
      · omega
theorem framesOf_snoc (xs : List (List UInt8)) (x : List UInt8) : framesOf (xs ++ [x]) = framesOf xs ++ frameOf x := by
  induction xs with
  | nil => simp [framesOf]
  | cons y ys ih => rw [List.cons_append, framesOf, ih, framesOf, List.append_assoc]
theorem framesOf_length (xs : List (List UInt8)) : (framesOf xs).length = endOf xs xs.length := by
  induction xs with
  | nil => rfl
  | cons x xs ih => rw [framesOf, List.length_append, frameOf_length, ih, List.length_cons, endOf]
theorem endOf_take (xs : List (List UInt8)) (j i : Nat) (h : j ≤ i) : endOf (xs.take i) j = endOf xs j := by
  induction xs generalizing i j with
  | nil => simp
  | cons x xs ih =>
    cases i with
    | zero =>
      have : j = 0 := by omega
      subst this
      simp [endOf]
    | succ i =>
      cases j with
      | zero => simp [endOf]
      | succ j => rw [List.take_succ_cons, endOf, endOf, ih j i (by omega)]
theorem framesOf_take_length (xs : List (List UInt8)) (i : Nat) (h : i ≤ xs.length) : (framesOf (xs.take i)).length = endOf xs i := by
  rw [framesOf_length, List.length_take, Nat.min_eq_left h, endOf_take _ _ _ (Nat.le_refl _)]
theorem scan_cut (xs : List (List UInt8)) (k : Nat) (hx : ∀ x ∈ xs, x.length ≤ 200000) : scanOf ((framesOf xs).take k) = (xs.take (wholeN xs k), endOf xs (wholeN xs k)) := by
  induction xs generalizing k with
  | nil =>
    simp only [framesOf, wholeN, List.take_nil, endOf]
    rw [scanOf_none (oneOf_none (by simp))]
  | cons x xs ih =>
    have hxl := hx x (List.mem_cons_self ..)
    have hfl := frameOf_length x
    simp only [framesOf, wholeN]
    split
    · rename_i h
      rw [List.take_append, List.take_of_length_le (by omega), hfl, scanOf_frame _ _ hxl, ih _ (fun y hy => hx y (List.mem_cons_of_mem _ hy))]
      simp [endOf]
    · rename_i h
      rw [List.take_append_of_le_length (by omega), scanOf_none (oneOf_cut x k hxl (by omega))]
      simp [endOf]
end Go.Proofs.YtjnhgoedhggocaaDoor
