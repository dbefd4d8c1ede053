/-
  Package hunk: Right; whether a hunk stands; how many edits begin a list that are no Keep.
-/
import Derived.Test.YtbcmecclaofmgaaHk
import Derived.Test.YtbcmecclaofmgaaPhkM
import Derived.Test.YtbcmecclaofmgaaCutS
import Derived.Deep.LoopGhost
namespace Go.Proofs.Ytbcmecclaofmgaa
open Go.RowKit

section
set_option maxRecDepth 100000
set_option maxHeartbeats 4000000
theorem DRight_all (v : Value) (hs : List HkS) (w : World) (hv : SlH w v hs) (hf : hkFew hs) (hl : hs.length ≤ 1000000) :
    Calls Try.prog 18 #[v] w fun e w' => e = .returned (.bool (rightS hs)) ∧ Below w.heap.size w w' := by
  obtain ⟨ao, cap, rfl⟩ := hv.form
  have HV := hid hv
  have HF := hid hf
  clear hv hf
  go_enter Try.func18, Try.ntmps18
  go_wp2_with fail
  go_loopg [3, 9] hs.length (fun g f i wr => ∃ (k : Nat) (F : Int), k ≤ hs.length ∧ g = hs.length - k ∧ i = .int .i64 k ∧ f = .int .i64 F ∧ Hid (rightS hs = rightFrom F (hs.drop k)) ∧ Hid (0 ≤ F ∧ F ≤ 2148483647) ∧ Below w.heap.size w wr)
  case atStart => exact ⟨0, 0, Nat.zero_le _, rfl, rfl, rfl, hid rfl, hid (by omega), Below.refl _ _⟩
  case round =>
    obtain ⟨k, F, hk, rfl, rfl, rfl, HR, HFF, hbel⟩ := hrel
    have hz := hbel.size
    have k0 : (0 : Int) ≤ (k : Int) := Int.natCast_nonneg _
    by_cases hlt : k < hs.length
    · have k1 : (k : Int) < (hs.length : Int) := by omega
      have kw : IntKind.i64.wrap ((k : Int) + 1) = (k : Int) + 1 := IntWalk.i64_in _ (by omega)
      obtain ⟨b, o, z, old, new, vo, vn, rfl, c1, c2, c3, s1, s2, he⟩ := (HV.out.old hbel).at' (i := k) hlt
      obtain ⟨oo, oc, rfl⟩ := s1.form
      obtain ⟨no, nc, rfl⟩ := s2.form
      rw [strCells_length] at c2 c3
      obtain ⟨l1, l2⟩ := HF.out.at he
      obtain ⟨F0, F1⟩ := HFF.out
      have HST := hid (right_step he F)
      have sw : IntKind.i64.wrap ((old.length : Int) + (new.length : Int)) = (old.length : Int) + (new.length : Int) := IntWalk.i64_in _ (by omega)
      clear he s1 s2
      rcases (show z < F ∨ (¬ z < F ∧ 2147483647 < z) ∨ (¬ z < F ∧ ¬ 2147483647 < z ∧ (old.length : Int) + (new.length : Int) = 0) ∨ (¬ z < F ∧ ¬ 2147483647 < z ∧ ¬ (old.length : Int) + (new.length : Int) = 0) by omega) with h1 | ⟨h1, h2⟩ | ⟨h1, h2, h3⟩ | ⟨h1, h2, h3⟩
      · have HN := hid (show rightS hs = false by
          rw [HR.out, HST.out, decide_eq_false (show ¬ F ≤ (z, old, new).1 from by show ¬ F ≤ z; omega), Bool.and_false, Bool.false_and])
        have d1 : decide (z < F) = true := decide_eq_true h1
        go_wp2_with fail
        go_ret
        exact ⟨by rw [HN.out]; rfl, hbel.alloc hz _⟩
      · have HN := hid (show rightS hs = false by
          rw [HR.out, HST.out, show okOne (z, old, new) = false by rw [Bool.eq_false_iff]; intro h; exact absurd (okOne_iff.1 h).2.1 (by show ¬ z ≤ 2147483647; omega)]
          rfl)
        have d1 : decide (z < F) = false := decide_eq_false h1
        have d2 : decide (2147483647 < z) = true := decide_eq_true h2
        go_wp2_with fail
        go_ret
        exact ⟨by rw [HN.out]; rfl, hbel.alloc hz _⟩
      · have HN := hid (show rightS hs = false by
          rw [HR.out, HST.out, show okOne (z, old, new) = false by rw [Bool.eq_false_iff]; intro h; exact absurd (okOne_iff.1 h).2.2 (by show ¬ 0 < old.length + new.length; omega)]
          rfl)
        have d1 : decide (z < F) = false := decide_eq_false h1
        have d2 : decide (2147483647 < z) = false := decide_eq_false h2
        have h3b : ((old.length : Int) + (new.length : Int) == 0) = true := by simpa using h3
        go_wp2_with fail
        go_ret
        exact ⟨by rw [HN.out]; rfl, hbel.alloc hz _⟩
      · have HOK := hid (show okOne (z, old, new) = true from okOne_iff.2 ⟨by show 0 ≤ z; omega, by show z ≤ 2147483647; omega, by show 0 < old.length + new.length; omega⟩)
        have HNX := hid (show rightS hs = rightFrom (z + (old.length : Int)) (hs.drop (k + 1)) by
          rw [HR.out, HST.out, HOK.out, decide_eq_true (show F ≤ (z, old, new).1 from by show F ≤ z; omega)]
          rfl)
        have HB := hid (show 0 ≤ z + (old.length : Int) ∧ z + (old.length : Int) ≤ 2148483647 by omega)
        have zw : IntKind.i64.wrap (z + (old.length : Int)) = z + (old.length : Int) := IntWalk.i64_in _ (by omega)
        have d1 : decide (z < F) = false := decide_eq_false h1
        have d2 : decide (2147483647 < z) = false := decide_eq_false h2
        have h3b : ((old.length : Int) + (new.length : Int) == 0) = false := by simpa using h3
        go_wp2_with fail
        go_roundg (hs.length - (k + 1))
        case measure => omega
        case rel => exact ⟨k + 1, _, by omega, rfl, rfl, rfl, HNX, HB, hbel.alloc hz _⟩
    · obtain rfl : k = hs.length := by omega
      have hneg : ¬ (hs.length : Int) < (hs.length : Int) := by omega
      have HN := hid (show rightS hs = true by rw [HR.out, List.drop_length]; rfl)
      go_wp2_with fail
      go_ret
      exact ⟨by rw [HN.out]; rfl, hbel⟩
theorem DRun_any (v : Value) (es : List (Int × List UInt8)) (w : World) (hv : SlE w v es) (hn : es.length ≤ 1099511627776) :
    Calls Try.prog 28 #[v] w fun e w' => e = .returned (.int .i64 (runN es : Nat)) ∧ Below w.heap.size w w' := by
  obtain ⟨ao, cap, rfl⟩ := hv.form
  have HV := hid hv
  clear hv
  go_enter Try.func28, Try.ntmps28
  go_wp2_with fail
  go_loopg [3] es.length (fun g i wr => ∃ k : Nat, k ≤ es.length ∧ g = es.length - k ∧ i = .int .i64 k ∧ Hid (∀ i e, i < k → es[i]? = some e → e.1 ≠ 1) ∧ wr = w)
  case atStart => exact ⟨0, Nat.zero_le _, rfl, rfl, hid (fun i e h => absurd h (Nat.not_lt_zero _)), rfl⟩
  case round =>
    obtain ⟨k, hk, rfl, rfl, HB, rfl⟩ := hrel
    have k0 : (0 : Int) ≤ (k : Int) := Int.natCast_nonneg _
    by_cases hlt : k < es.length
    · have k1 : (k : Int) < (es.length : Int) := by omega
      have kw : IntKind.i64.wrap ((k : Int) + 1) = (k : Int) + 1 := IntWalk.i64_in _ (by omega)
      obtain ⟨b, o, c, x, rfl, hc, hd, he⟩ := HV.out.at' (i := k) hlt
      by_cases h1 : c = 1
      · have HN := hid (show runN es = k from runN_stop HB.out he h1)
        have hc1 : (c != 1) = false := by simpa using h1
        clear he hd
        go_wp2_with fail
        go_ret
        exact ⟨by rw [HN.out]; rfl, Below.refl _ _⟩
      · have hc1 : (c != 1) = true := by simpa using h1
        have HB2 := hid (show ∀ i e, i < k + 1 → es[i]? = some e → e.1 ≠ 1 from fun i e hi h => by
          by_cases h2 : i < k
          · exact HB.out i e h2 h
          · obtain rfl : i = k := by omega
            rw [he] at h
            cases h
            exact h1)
        clear he hd
        go_wp2_with fail
        go_roundg (es.length - (k + 1))
        case measure => omega
        case rel => exact ⟨k + 1, by omega, rfl, rfl, HB2, rfl⟩
    · obtain rfl : k = es.length := by omega
      have hneg : ¬ (es.length : Int) < (es.length : Int) := by omega
      have HN := hid (show runN es = es.length from runN_all HB.out)
      go_wp2_with fail
      go_ret
      exact ⟨by rw [HN.out]; rfl, Below.refl _ _⟩
end
end Go.Proofs.Ytbcmecclaofmgaa
