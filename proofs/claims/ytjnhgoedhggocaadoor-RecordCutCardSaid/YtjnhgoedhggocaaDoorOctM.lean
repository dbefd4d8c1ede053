/-
  What is read of bytes, what is left, what is wrong: plain mathematics.
-/
import Derived.Test.YtjnhgoedhggocaaDoorBase
import Derived.Test.YtjnhgoedhggocaaDoorLaw2
namespace Go.Proofs.YtjnhgoedhggocaaDoor
open Go.RowKit

/-- h bytes are asked for: what is taken, what is left, what is wrong then. -/
def stV (h : Nat) (l : List UInt8) (c : Int) : List UInt8 := if c ≠ 0 then [] else if l.length < h then [] else l.take h
def stL (h : Nat) (l : List UInt8) (c : Int) : List UInt8 := if c ≠ 0 then l else if l.length < h then [] else l.drop h
def stE (h : Nat) (l : List UInt8) (c : Int) : Int := if c ≠ 0 then c else if l.length < h then 4 else 0

theorem st_bad {h : Nat} {l : List UInt8} {c : Int} (hc : c ≠ 0) : stV h l c = [] ∧ stL h l c = l ∧ stE h l c = c := by simp [stV, stL, stE, hc]
theorem st_short {h : Nat} {l : List UInt8} (hl : l.length < h) : stV h l 0 = [] ∧ stL h l 0 = [] ∧ stE h l 0 = 4 := by simp [stV, stL, stE, hl]
theorem st_ok {h : Nat} {l : List UInt8} (hl : h ≤ l.length) : stV h l 0 = l.take h ∧ stL h l 0 = l.drop h ∧ stE h l 0 = 0 := by simp [stV, stL, stE, Nat.not_lt.2 hl]

/-- What Int answers. -/
def intV (l : List UInt8) (c : Int) : Int := if stE 4 l c = 0 then (numOf (stV 4 l c) : Int) - 1 else 0
theorem intV_ok {l : List UInt8} {c : Int} (h : stE 4 l c = 0) : intV l c = (numOf (stV 4 l c) : Int) - 1 := by simp [intV, h]
theorem intV_bad {l : List UInt8} {c : Int} (h : stE 4 l c ≠ 0) : intV l c = 0 := by simp [intV, h]
theorem stV_lt (h : Nat) (l : List UInt8) (c : Int) : numOf (stV h l c) < 2 ^ (8 * h) := by
  refine Nat.lt_of_lt_of_le (numOf_lt _) (Nat.pow_le_pow_right (by omega) ?_)
  unfold stV
  split
  · simp
  · split
    · simp
    · rw [List.length_take]; omega
/-- What a number's low bytes make. -/
theorem numOf_lowBytes (v n : Nat) : numOf (lowBytes v n) = v % 2 ^ (8 * n) := by
  induction n generalizing v with
  | zero => simp [lowBytes, numOf, Nat.mod_one]
  | succ n ih =>
    rw [lowBytes, numOf, ih, UInt8.toNat_ofNat', show 8 * (n + 1) = 8 + 8 * n from by omega, Nat.pow_add, Nat.mod_mul]
end Go.Proofs.YtjnhgoedhggocaaDoor
