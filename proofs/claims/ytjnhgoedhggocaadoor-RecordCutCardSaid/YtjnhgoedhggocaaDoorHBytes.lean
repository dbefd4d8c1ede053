/-
  rickhelp.Bytes.
-/
import Derived.Test.YtjnhgoedhggocaaDoorBase
import Derived.Test.YtjnhgoedhggocaaDoorLaw3
namespace Go.Proofs.YtjnhgoedhggocaaDoor
open Go.RowKit

/-! ### rickhelp.Bytes -/
theorem HBytes_any (a b : Value) (x y : List UInt8) (w : World) (ha : Sl w a (Lib.byteCells x)) (hb : Sl w b (Lib.byteCells y)) :
    Calls Tryd.prog 13 #[a, b] w fun e w' => e = .returned (.bool (x == y)) ∧ w = w' := by
  have h1 := run_string_of (P := Tryd.prog) 22 9 5 Tryd.underlying22 Tryd.underlying5 Tryd.underlying9 ha
  have h2 := run_string_of (P := Tryd.prog) 22 9 5 Tryd.underlying22 Tryd.underlying5 Tryd.underlying9 hb
  go_enter Tryd.func13, Tryd.ntmps13
  go_wp2
  go_ret
  exact ⟨rfl, rfl⟩
end Go.Proofs.YtjnhgoedhggocaaDoor
