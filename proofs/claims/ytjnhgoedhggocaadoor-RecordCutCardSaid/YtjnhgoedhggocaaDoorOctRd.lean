/-
  Package octets' Read.
-/
import Derived.Test.YtjnhgoedhggocaaDoorOctC
namespace Go.Proofs.YtjnhgoedhggocaaDoor
open Go.RowKit

set_option maxHeartbeats 400000 in
/-! ### Read -/
theorem Read_any (v : Value) (bs : List UInt8) (w : World) (hv : Sl w v (Lib.byteCells bs)) (hlen : bs.length ≤ 70368744177664) :
    Calls Tryd.prog 27 #[v] w fun e w' => ∃ br, e = .returned (.pointer (some ⟨br, 0, none⟩)) ∧ Rd w' br bs 0 ∧ w.heap.size ≤ br ∧ br < w'.heap.size ∧ Below w.heap.size w w' := by
  go_enter Tryd.func27, Tryd.ntmps27
  go_wp2_with fail
  refine (Clone_any v bs w hv hlen).mono ?_
  rintro e w1 ⟨v', rfl, hown, hbel⟩
  obtain ⟨ao, cap, rfl⟩ := owns_form hown
  have hz := hbel.size
  go_wp2
  go_ret
  refine ⟨w1.heap.size, rfl, ⟨_, heap_alloc_new w1 _, (Sl.ofOwns hown).alloc _, fun a n c e => ?_⟩, hz, by simp, hbel.alloc hz _⟩
  have := (hown.lt a.block (by rw [e]; rfl)).2
  omega
end Go.Proofs.YtjnhgoedhggocaaDoor
