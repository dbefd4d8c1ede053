/-
  rickhelp.In at strings.
-/
import Derived.Test.YtgmopmlhggdefaaHelpS
import Derived.Deep.LoopGhost
namespace Go.Proofs.Ytgmopmlhggdefaa
open Go.RowKit

section
set_option maxRecDepth 100000
set_option maxHeartbeats 2000000
theorem SIn_any (v : Value) (bs : List (List UInt8)) (x : List UInt8) (w : World) (hv : Sl w v (strCells bs)) (hlen : bs.length ≤ 1099511627776) :
    Calls Try.prog 22 #[v, .string ⟨x.toArray⟩] w fun e w' => e = .returned (.bool (decide (x ∈ bs))) ∧ ∃ k, w' = w.drewN k := by
  obtain ⟨ao, cap, rfl⟩ := hv.form
  rw [strCells_length] at hv ⊢
  go_enter Try.func22, Try.ntmps22
  go_wp2_with fail
  go_loopg [5] bs.length (fun g i wr => ∃ k : Nat, k ≤ bs.length ∧ g = bs.length - k ∧ i = .int .i64 k ∧ Hid (x ∉ bs.take k) ∧ Hid (∃ q, wr = w.drewN q))
  case atStart => exact ⟨0, Nat.zero_le _, rfl, rfl, hid (by simp), hid ⟨0, rfl⟩⟩
  case round =>
    obtain ⟨k, hk, rfl, rfl, HN, HQ⟩ := hrel
    have hbel : Below w.heap.size w wr := by
      obtain ⟨q, hq⟩ := HQ.out
      rw [hq]
      exact below_drewN _ _
    have k0 : (0 : Int) ≤ (k : Int) := Int.natCast_nonneg _
    have kw : IntKind.i64.wrap ((k : Int) + 1) = (k : Int) + 1 := IntWalk.i64_in _ (by omega)
    by_cases hlt : k < bs.length
    · obtain ⟨a, y, rfl, hc, hy⟩ := (Sl.old hv hbel).strAt' (i := k) hlt
      have k1 : (k : Int) < (bs.length : Int) := by omega
      by_cases hxy : y = x
      · subst hxy
        have hbe : (y == y) = true := by simp
        have HY := hid (show decide (y ∈ bs) = true from decide_eq_true (List.mem_of_getElem? hy))
        clear hy
        go_wp2
        go_ret
        exact ⟨by rw [HY.out]; rfl, HQ.out⟩
      · have hbe : (y == x) = false := by simpa using hxy
        have HN' := hid (show x ∉ bs.take (k + 1) by
          rw [take_snoc hy, List.mem_append, List.mem_singleton]
          rintro (h | h)
          · exact HN.out h
          · exact hxy h.symm)
        clear hy
        go_wp2
        go_roundg (bs.length - (k + 1))
        case measure => omega
        case rel => exact ⟨k + 1, by omega, rfl, rfl, HN', HQ⟩
    · obtain rfl : k = bs.length := by omega
      have HY := hid (show decide (x ∈ bs) = false from decide_eq_false (by have := HN.out; rwa [List.take_length] at this))
      go_wp2
      go_ret
      exact ⟨by rw [HY.out]; rfl, HQ.out⟩
end
end Go.Proofs.Ytgmopmlhggdefaa
