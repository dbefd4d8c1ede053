/-
  Lists of texts, cut.
-/
import Derived.Test.YtfldheegebopoaaHelpS
import Derived.Test.YtfldheegebopoaaLaw3
namespace Go.Proofs.Ytfldheegebopoaa
open Go.RowKit

theorem cutS_mid {w : World} {v : Value} {xs : List (List UInt8)} (h : Sl w v (strCells xs)) (n m : Nat) (hnm : n ≤ m) (hm : m ≤ xs.length) :
    ∃ ao c, (∀ wx, (Instr.slice 32 v (some (.int .i64 n)) (some (.int .i64 m)) none).run Try.prog wx = .ok (.slice ao (m - n) c) wx) ∧ Sl w (.slice ao (m - n) c) (strCells ((xs.drop n).take (m - n))) := by
  obtain ⟨j0, hj0, hj1, hj2, hj3⟩ := info_parts Try.infoStr
  obtain ⟨ao, c, h1, h2, _⟩ := run_slice_mid 32 9 Try.underlying32 hj0 hj2 h n m hnm (by rw [strCells_length]; exact hm)
  exact ⟨ao, c, h1, by rw [show strCells ((xs.drop n).take (m - n)) = ((strCells xs).drop n).take (m - n) by simp [strCells]]; exact h2⟩
theorem cutS_from {w : World} {v : Value} {xs : List (List UInt8)} (h : Sl w v (strCells xs)) (n : Nat) (hn : n ≤ xs.length) :
    ∃ ao c, (∀ wx, (Instr.slice 32 v (some (.int .i64 n)) none none).run Try.prog wx = .ok (.slice ao (xs.length - n) c) wx) ∧ Sl w (.slice ao (xs.length - n) c) (strCells (xs.drop n)) := by
  obtain ⟨j0, hj0, hj1, hj2, hj3⟩ := info_parts Try.infoStr
  obtain ⟨v', h1, h2, _, ao, c, rfl⟩ := run_slice_from 32 9 Try.underlying32 hj0 hj2 h n (by rw [strCells_length]; exact hn)
  rw [strCells_length] at h1 h2
  exact ⟨ao, c, h1, by rw [show strCells (xs.drop n) = (strCells xs).drop n by simp [strCells]]; exact h2⟩
theorem cutS_to {w : World} {v : Value} {xs : List (List UInt8)} (h : Sl w v (strCells xs)) (n : Nat) (hn : n ≤ xs.length) :
    ∃ ao c, (∀ wx, (Instr.slice 32 v none (some (.int .i64 n)) none).run Try.prog wx = .ok (.slice ao n c) wx) ∧ Sl w (.slice ao n c) (strCells (xs.take n)) := by
  obtain ⟨j0, hj0, hj1, hj2, hj3⟩ := info_parts Try.infoStr
  obtain ⟨v', h1, h2, _, ao, c, rfl⟩ := run_slice_to 32 9 Try.underlying32 hj0 h n (by rw [strCells_length]; exact hn)
  exact ⟨ao, c, h1, by rw [show strCells (xs.take n) = (strCells xs).take n by simp [strCells]]; exact h2⟩
end Go.Proofs.Ytfldheegebopoaa
