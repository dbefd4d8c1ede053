/-
  The name of by, by+1, .. (n bytes, n below 300) is not the name of that with by behind. No condition.
-/
import Derived.Test.YtaaeciiehoedhaaDoorShaRel
import Derived.Test.YtaaeciiehoedhaaDoorFar0
import Derived.Test.YtaaeciiehoedhaaDoorFar1
import Derived.Test.YtaaeciiehoedhaaDoorFar2
import Derived.Test.YtaaeciiehoedhaaDoorFar3
import Derived.Test.YtaaeciiehoedhaaDoorFar4
namespace Go.Proofs.YtaaeciiehoedhaaDoor.Sha

theorem far (n i : Nat) (hn : n < 300) (hi : i < 256) : (sha one (msg one n i)).h ≠ (sha one (msg one n i ++ [i])).h := by
  refine apart_by ?_ i hi
  by_cases h0 : n < 100
  · exact far_0 (Nat.zero_le _) h0
  by_cases h1 : n < 170
  · exact far_1 (by omega) h1
  by_cases h2 : n < 225
  · exact far_2 (by omega) h2
  by_cases h3 : n < 265
  · exact far_3 (by omega) h3
  exact far_4 (by omega) hn

theorem msg_get (n i j : Nat) (hi : i < 256) (hj : j < n) : (msg one n i)[j]? = some ((i + j) % 256) := by
  induction n generalizing i j with
  | zero => omega
  | succ n ih =>
    unfold msg
    cases j with
    | zero => rw [List.getElem?_cons_zero, Nat.add_zero, Nat.mod_eq_of_lt hi]
    | succ j =>
      have e : one.and (one.add i (one.con 1)) (one.con 255) = (i + 1) % 256 := by
        show ((i + (1 &&& 4294967295)) &&& 4294967295) &&& (255 &&& 4294967295) = (i + 1) % 256
        rw [show (1 &&& 4294967295 : Nat) = 1 from rfl, show (255 &&& 4294967295 : Nat) = 2 ^ 8 - 1 from rfl, show (4294967295 : Nat) = 2 ^ 32 - 1 from rfl, Nat.and_two_pow_sub_one_eq_mod, Nat.and_two_pow_sub_one_eq_mod]
        omega
      rw [List.getElem?_cons_succ, e, ih _ _ (by omega) (by omega)]
      congr 1
      omega
theorem msg_length {α : Type} (A : Alg α) (n : Nat) (p : α) : (msg A n p).length = n := by
  induction n generalizing p with
  | zero => rfl
  | succ n ih => simp [msg, ih]
end Go.Proofs.YtaaeciiehoedhaaDoor.Sha
