/-
  slices.Equal at lists of texts.
-/
import Derived.Test.YtgmopmlhggdefaaHelpS
import Derived.Test.YtgmopmlhggdefaaEdit
import Derived.Deep.RegionHeld3
import Derived.Deep.QuietTactic
import Derived.Deep.DrawnRows
namespace Go.Proofs.Ytgmopmlhggdefaa
open Go.RowKit

section
set_option maxRecDepth 100000
set_option maxHeartbeats 2000000
theorem SEqualL_any (a b : Value) (x y : List (List UInt8)) (w : World) (ha : Sl w a (strCells x)) (hb : Sl w b (strCells y)) (hx : x.length ≤ maxLen) :
    Calls Try.prog 36 #[a, b] w fun e w' => e = .returned (.bool (x == y)) ∧ ∃ m, w' = w.drewN m := by
  obtain ⟨aa, ca, rfl⟩ := ha.form
  obtain ⟨ab, cb, rfl⟩ := hb.form
  rw [strCells_length] at ha hb ⊢
  rw [strCells_length]
  unfold maxLen at hx
  by_cases hl : x.length = y.length
  · have hne : (x.length != y.length) = false := by simp [hl]
    have hne' : ((x.length : Int) != (y.length : Int)) = false := by simp [hl]
    have HL := hid hl
    clear hl
    go_enter Try.func36, Try.ntmps36
    go_wp2
    go_loopw [13] (fun i wr => ∃ k : Nat, k ≤ x.length ∧ i = .int .i64 k ∧ x.take k = y.take k ∧ ∃ q, wr = w.drewN q) (fun i _ => x.length - (intOf i).toNat)
    case atStart => exact ⟨0, Nat.zero_le _, rfl, rfl, 0, rfl⟩
    case round =>
      obtain ⟨k, hk, rfl, heq, q, rfl⟩ := hrel
      by_cases hlt : k < x.length
      · obtain ⟨a1, b1, rfl, hc1, hb1⟩ := ha.strAt' (i := k) hlt
        obtain ⟨a2, b2, rfl, hc2, hb2⟩ := hb.strAt' (i := k) (by rw [← HL.out]; exact hlt)
        have hlt2 : k < y.length := by rw [← HL.out]; exact hlt
        have i0 : (0 : Int) ≤ (k : Int) := Int.natCast_nonneg _
        have i1 : (k : Int) < (x.length : Int) := by omega
        have i2 : (k : Int) < (y.length : Int) := by omega
        by_cases he : b1 = b2
        · subst he
          have hbe : (b1 == b1) = true := by simp
          have HEQ := hid (show x.take (k + 1) = y.take (k + 1) by rw [take_snoc hb1, take_snoc hb2, heq])
          clear hb1 hb2 heq
          go_wp2_with fail
          go_quiet (fail)
          go_wp2
          go_roundw
          case rel => exact ⟨k + 1, by omega, by go_num, HEQ.out, _, rfl⟩
          case measure => simp [intOf]; omega
        · have hbe : (b1 == b2) = false := by simpa using he
          have hxy := hid (show (x == y) = false by
            simp
            rintro rfl
            rw [hb1] at hb2
            exact he (by simpa using hb2))
          clear hb1 hb2 heq he
          go_wp2_with fail
          go_quiet (fail)
          go_wp2
          go_ret
          rw [hxy.out]
          exact ⟨rfl, _, World.drewN_drewN _ _ _⟩
      · obtain rfl : k = x.length := by omega
        have hxy := hid (show (x == y) = true by
          rw [List.take_length, HL.out, List.take_length] at heq
          simpa using heq)
        clear heq
        go_wp2
        go_ret
        rw [hxy.out]
        exact ⟨rfl, _, rfl⟩
  · have hne : (x.length != y.length) = true := by simpa using hl
    have hne' : ((x.length : Int) != (y.length : Int)) = true := by simp; omega
    have hxy := hid (show (x == y) = false by
      simp
      rintro rfl
      exact hl rfl)
    clear hl
    go_enter Try.func36, Try.ntmps36
    go_wp2
    go_ret
    rw [hxy.out]
    exact ⟨rfl, 0, rfl⟩

end
end Go.Proofs.Ytgmopmlhggdefaa
