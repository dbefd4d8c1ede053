/-
  What is written is read: the plain mathematics of numbers in bytes.
-/
import Derived.Test.YtccfhbdafoamoaaOctE
namespace Go.Proofs.Ytccfhbdafoamoaa
open Go.RowKit

theorem st_app {xs r : List UInt8} {h : Nat} (hl : xs.length = h) : stV h (xs ++ r) 0 = xs ∧ stL h (xs ++ r) 0 = r ∧ stE h (xs ++ r) 0 = 0 := by
  obtain ⟨e1, e2, e3⟩ := st_ok (h := h) (l := xs ++ r) (by rw [List.length_append]; omega)
  subst hl
  exact ⟨by rw [e1, List.take_left], by rw [e2, List.drop_left], e3⟩

theorem numOf_lowBytes (v h : Nat) : numOf (lowBytes v h) = v % 2 ^ (8 * h) := by
  induction h generalizing v with
  | zero => simp [lowBytes, numOf, Nat.mod_one]
  | succ h ih =>
    rw [lowBytes, numOf, ih, show 8 * (h + 1) = 8 + 8 * h from by omega, Nat.pow_add, Nat.mod_mul]
    simp

theorem incr_in {n : Int} (h0 : -1 ≤ n) (h1 : n ≤ 4294967294) : (incr n).toNat = (n + 1).toNat := by
  unfold incr
  rw [IntKind.wrap_u64, IntKind.wrap_u64]
  omega
theorem intV_app {n : Int} {r : List UInt8} (h0 : -1 ≤ n) (h1 : n ≤ 4294967294) : intV (intBytes n ++ r) 0 = n := by
  obtain ⟨e1, e2, e3⟩ := st_app (r := r) (intBytes_length n)
  rw [intV_ok e3, e1]
  unfold intBytes
  rw [numOf_lowBytes, incr_in h0 h1]
  have : (2 : Nat) ^ (8 * 4) = 4294967296 := by decide
  rw [this]
  omega
theorem int_app (n : Int) (r : List UInt8) : stL 4 (intBytes n ++ r) 0 = r ∧ stE 4 (intBytes n ++ r) 0 = 0 := (st_app (intBytes_length n)).2

theorem text_app {s : ByteArray} {r : List UInt8} (hs : s.size ≤ 300) : txV (intBytes s.size ++ s.data.toList ++ r) 0 = s.data.toList ∧ txL (intBytes s.size ++ s.data.toList ++ r) 0 = r ∧ txE (intBytes s.size ++ s.data.toList ++ r) 0 = 0 := by
  rw [List.append_assoc]
  have hi := intV_app (n := (s.size : Int)) (r := s.data.toList ++ r) (by omega) (by omega)
  obtain ⟨e1, e2⟩ := int_app (s.size : Int) (s.data.toList ++ r)
  have hl : s.data.toList.length = s.size := Array.length_toList
  obtain ⟨f1, f2, f3⟩ := st_app (r := r) hl
  have hn : ¬ ((s.size : Int) < 0) := by omega
  unfold txV txL txE
  rw [hi, e1, e2, if_neg hn, if_neg hn, if_neg hn, Int.toNat_natCast, f1, f2, f3]
  exact ⟨rfl, rfl, rfl⟩

theorem bool_app (b : Bool) (r : List UInt8) : blV ((if b then 1 else 0 : UInt8) :: r) 0 = b ∧ blL ((if b then 1 else 0 : UInt8) :: r) 0 = r ∧ blE ((if b then 1 else 0 : UInt8) :: r) 0 = 0 := by
  cases b <;> simp [blV, blL, blE, blX, stV, stL, stE, numOf]

/-- 'v << (64-8n) >> (64-8n)': the lowest n bytes. -/
theorem low_shift (v h : Nat) (h1 : 1 ≤ h) (h8 : h ≤ 8) : (v * 2 ^ (64 - 8 * h)) % 18446744073709551616 / 2 ^ (64 - 8 * h) = v % 2 ^ (8 * h) := by
  have e : (18446744073709551616 : Nat) = 2 ^ (8 * h) * 2 ^ (64 - 8 * h) := by
    rw [← Nat.pow_add, show 8 * h + (64 - 8 * h) = 64 from by omega]
  rw [e, Nat.mul_mod_mul_right, Nat.mul_div_cancel _ (Nat.two_pow_pos _)]
end Go.Proofs.Ytccfhbdafoamoaa
