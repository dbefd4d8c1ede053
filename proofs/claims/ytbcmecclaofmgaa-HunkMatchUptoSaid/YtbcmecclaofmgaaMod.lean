/-
  'int(uint(a) % q)': a number below q. Nothing of the program.
-/
import Derived.WalkKit
import Derived.IntWalk
import Derived.Laws.Bits64
namespace Go.Proofs.Ytbcmecclaofmgaa
open Go.RowKit

theorem mod_nat (a : Int) (q : Nat) (hq : 0 < q) (hq' : q < 1000000) : ∃ m : Nat, wrap64 ((IntKind.u64.wrap a).tmod (q : Int)) = (m : Int) ∧ m < q := by
  have h0 : 0 ≤ IntKind.u64.wrap a := by simp only [IntKind.wrap_u64]; omega
  generalize IntKind.u64.wrap a = x at h0
  obtain ⟨x, rfl⟩ := Int.eq_ofNat_of_zero_le h0
  have hx := Nat.mod_lt x hq
  have e : (x : Int).tmod (q : Int) = ((x % q : Nat) : Int) := by rw [Int.tmod_eq_emod_of_nonneg (by omega)]; omega
  exact ⟨x % q, by rw [e]; exact IntWalk.wrap64_in _ (by omega), hx⟩
end Go.Proofs.Ytbcmecclaofmgaa
