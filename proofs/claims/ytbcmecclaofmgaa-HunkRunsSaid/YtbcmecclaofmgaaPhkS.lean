/-
  Package hunk: whether a hunk stands in a text.
-/
import Derived.Test.YtbcmecclaofmgaaEqS
import Derived.Test.YtbcmecclaofmgaaCutS
namespace Go.Proofs.Ytbcmecclaofmgaa
open Go.RowKit

section
set_option maxRecDepth 100000
set_option maxHeartbeats 4000000
theorem DStands_any (va vo vn : Value) (a old new : List (List UInt8)) (n : Nat) (w : World) (ha : Sl w va (strCells a)) (ho : Sl w vo (strCells old)) (hz1 : (n : Int) ≤ 2147483647) (hal : a.length ≤ 1000000) (hol : old.length ≤ 1000000) :
    Calls Try.prog 27 #[va, .agg #[.int .i64 (n : Int), vo, vn]] w fun e w' => e = .returned (.bool (stands a ((n : Int), old, new))) ∧ Below w.heap.size w w' := by
  obtain ⟨aa, ca, rfl⟩ := ha.form
  obtain ⟨ao, co, rfl⟩ := ho.form
  rw [strCells_length] at ha ho ⊢
  rw [strCells_length]
  have hz0 : (0 : Int) ≤ (n : Int) := Int.natCast_nonneg _
  have sw : IntKind.i64.wrap ((a.length : Int) - (n : Int)) = (a.length : Int) - (n : Int) := IntWalk.i64_in _ (by omega)
  have aw : IntKind.i64.wrap ((n : Int) + (old.length : Int)) = ((n + old.length : Nat) : Int) := (IntWalk.i64_in _ (by omega)).trans (by omega)
  have HST := hid (show stands a ((n : Int), old, new) = (decide (n + old.length ≤ a.length) && decide ((a.drop n).take old.length = old)) by
    unfold stands
    rw [Int.toNat_natCast])
  have hda : ∀ ob q, Below w.heap.size w ((w.alloc ob).drewN q) := fun ob q => ((Below.refl _ w).alloc (Nat.le_refl _) ob).trans (below_drewN _ _ |>.mono (by simp))
  by_cases h1 : (old.length : Int) ≤ (a.length : Int) - (n : Int)
  · have d1 : decide ((old.length : Int) ≤ (a.length : Int) - (n : Int)) = true := decide_eq_true h1
    have hN : n + old.length ≤ a.length := by omega
    obtain ⟨ko, kc, rk, hk⟩ := cutS_mid ha n (n + old.length) (by omega) hN
    rw [show n + old.length - n = old.length by omega] at rk hk
    have HPL := hid (fun (wx : World) (hx : Below w.heap.size w wx) => SEqual_any (.slice ao old.length co) (.slice ko old.length kc) old ((a.drop n).take old.length) wx (Sl.old ho hx) (Sl.old hk hx) (by unfold maxLen; omega))
    have HV := hid (show (old == (a.drop n).take old.length) = stands a ((n : Int), old, new) by
      rw [HST.out, decide_eq_true hN, Bool.true_and, Bool.eq_iff_iff]
      simp only [beq_iff_eq, decide_eq_true_iff]
      exact eq_comm)
    have n1 : (n : Int) ≤ ((n + old.length : Nat) : Int) := by omega
    have n2 : ((n + old.length : Nat) : Int) ≤ (a.length : Int) := by omega
    generalize n + old.length = N at aw rk n1 n2
    clear ha ho hk h1 hN HST
    go_enter Try.func27, Try.ntmps27
    go_wp2_with fail
    go_quiet ((go_at_call 36; exact Calls.quiet_of (HPL.out _ (hda _ _))))
    go_wp2_with fail
    go_ret
    exact ⟨by rw [HV.out]; rfl, hda _ _⟩
  · have d1 : decide ((old.length : Int) ≤ (a.length : Int) - (n : Int)) = false := decide_eq_false h1
    have HV := hid (show stands a ((n : Int), old, new) = false by
      rw [HST.out, decide_eq_false (show ¬ n + old.length ≤ a.length by omega)]
      rfl)
    clear ha ho HST
    go_enter Try.func27, Try.ntmps27
    go_wp2_with fail
    go_quiet (fail)
    go_wp2_with fail
    go_ret
    exact ⟨by rw [HV.out]; rfl, hda _ _⟩
end
end Go.Proofs.Ytbcmecclaofmgaa
