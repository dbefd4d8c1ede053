/-
  The Writer's Bytes.
-/
import Derived.Test.YtjnhgoedhggocaaDoorOctA
import Derived.Test.YtjnhgoedhggocaaDoorClone
namespace Go.Proofs.YtjnhgoedhggocaaDoor
open Go.RowKit

theorem Bytes_nil (w : World) : Calls Tryd.prog 24 #[.pointer none] w fun e w' => e = .returned (.slice none 0 0) ∧ w = w' := by
  go_enter Tryd.func24, Tryd.ntmps24
  go_wp2
  go_ret
  exact ⟨rfl, rfl⟩

set_option maxHeartbeats 400000 in
/-- Bytes: new memory. -/
theorem Bytes_any (B bw : Nat) (v : Value) (bs : List UInt8) (w : World) (hw : Wr w B bw v bs) (hlen : bs.length ≤ 70368744177664) :
    Calls Tryd.prog 24 #[.pointer (some ⟨bw, 0, none⟩)] w fun e w' => ∃ v', e = .returned v' ∧ w'.ownsRow w.heap.size 5 1 v' bs.length (Lib.byteCells bs) ∧ Below w.heap.size w w' := by
  have hc := cell_of_one hw.block
  go_enter Tryd.func24, Tryd.ntmps24
  go_wp2_with fail
  refine (Clone_any v bs w (Sl.ofOwns hw.own) hlen).mono ?_
  rintro e w' ⟨v', rfl, hown, hbel⟩
  go_wp2
  go_ret
  exact ⟨v', rfl, hown, hbel⟩
end Go.Proofs.YtjnhgoedhggocaaDoor
