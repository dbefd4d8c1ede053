/-
  What every package's texts share: the bytes' row of the table; new blocks leave what was below.
-/
import Derived.Test.YtbcpfakdmnccmaaDoorRows
import Derived.Test.YtbcpfakdmnccmaaDoorLaw
namespace Go.Proofs.YtbcpfakdmnccmaaDoor
open Go.RowKit

theorem Tryd.info5 : (Tryd.prog.info? 5).map (fun i => (i.zero, i.size, i.bytes)) = some (some (.int .u8 0), 1, 1) := by kernel_rfl
theorem Sl.old {w w' : World} {v : Value} {cs : List Value} (h : Sl w v cs) (hk : Below w.heap.size w w') : Sl w' v cs :=
  h.kept fun _ _ _ _ hlt => hk.block _ hlt
/-- New blocks leave what was below as it was. -/
theorem below_step {B : Nat} {a b c : World} (h : Below B a b) (k : Below b.heap.size b c) (hB : B ≤ b.heap.size) : Below B a c := h.trans (k.mono hB)
theorem below_drewN (w : World) (n : Nat) : Below w.heap.size w (w.drewN n) := ⟨rfl, rfl, rfl, Nat.le_refl _, fun _ _ => rfl⟩
theorem byteCells_take (l : List UInt8) (n : Nat) : Lib.byteCells (l.take n) = (Lib.byteCells l).take n := by simp [Lib.byteCells]
theorem byteCells_drop (l : List UInt8) (n : Nat) : Lib.byteCells (l.drop n) = (Lib.byteCells l).drop n := by simp [Lib.byteCells]
/-- How many bytes a number takes. -/
def heldN (n : Int) : Nat := (min (max n 1) 8).toNat
theorem heldN_bd (n : Int) : 1 ≤ heldN n ∧ heldN n ≤ 8 := by unfold heldN; omega
/-- The lowest n bytes of v. -/
def lowBytes (v : Nat) : Nat → List UInt8
  | 0 => []
  | n + 1 => UInt8.ofNat v :: lowBytes (v / 256) n

theorem lowBytes_length (v n : Nat) : (lowBytes v n).length = n := by
  induction n generalizing v with
  | zero => rfl
  | succ n ih => simp [lowBytes, ih]
theorem lowBytes_snoc (v n : Nat) : lowBytes v (n + 1) = lowBytes v n ++ [UInt8.ofNat (v / 2 ^ (8 * n))] := by
  induction n generalizing v with
  | zero => simp [lowBytes]
  | succ n ih =>
    rw [lowBytes, ih, lowBytes, List.cons_append, Nat.div_div_eq_div_mul, show 8 * (n + 1) = 8 + 8 * n from by omega, Nat.pow_add]
theorem byteCells_snoc_int (bs : List UInt8) (x : Int) (h0 : 0 ≤ x) (k : Nat) :
    Lib.byteCells bs ++ [Value.int .u8 (IntKind.u8.wrap (x / 2 ^ (8 * k)))] = Lib.byteCells (bs ++ [UInt8.ofNat (x.toNat / 2 ^ (8 * k))]) := by
  obtain ⟨m, rfl⟩ := Int.eq_ofNat_of_zero_le h0
  simp only [Lib.byteCells, List.map_append, List.map_cons, List.map_nil]
  congr 3
end Go.Proofs.YtbcpfakdmnccmaaDoor
