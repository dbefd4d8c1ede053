/-
  Strings, read and cut. Nothing of the program.
-/
import Derived.Test.YtnpgfbgnbonhfaaLaw2
import Derived.Laws.Strings2
import Derived.WalkKit
namespace Go.Proofs.Ytnpgfbgnbonhfaa
open Go.RowKit

section
variable {P : Program}
theorem str_extract (s : List UInt8) (a b : Nat) : (⟨s.toArray⟩ : ByteArray).extract a b = ⟨((s.drop a).take (b - a)).toArray⟩ := by
  apply ByteArray.ext
  simp [ByteArray.data_extract]
/-- 's[i]'. -/
theorem run_str_at (t : TypeId) (ht : P.underlying t = some .string) {s : List UInt8} {i : Nat} {b : UInt8} (hb : s[i]? = some b) (wx : World) :
    (Instr.index t (.string ⟨s.toArray⟩) (.int .i64 (i : Nat))).run P wx = .ok (.int .u8 (b.toNat : Nat)) wx := by
  obtain ⟨hi, rfl⟩ := List.getElem?_eq_some_iff.1 hb
  rw [run_index_string (P := P) wx t _ _ _ ht]
  have hs : (⟨s.toArray⟩ : ByteArray).size = s.length := by simp [ByteArray.size]
  rw [dif_pos ⟨by omega, by rw [hs]; omega⟩]
  rfl
/-- 's[a:b]'. -/
theorem run_str_mid (t : TypeId) (ht : P.underlying t = some .string) (s : List UInt8) (a b : Nat) (hab : a ≤ b) (hb : b ≤ s.length) (wx : World) :
    (Instr.slice t (.string ⟨s.toArray⟩) (some (.int .i64 (a : Nat))) (some (.int .i64 (b : Nat))) none).run P wx = .ok (.string ⟨((s.drop a).take (b - a)).toArray⟩) wx := by
  have hs : (⟨s.toArray⟩ : ByteArray).size = s.length := by simp [ByteArray.size]
  rw [run_slice_string (P := P) wx t _ _ _ _ _ ht (by omega) (by omega) (by rw [hs]; omega), str_extract]
  simp
/-- 's[a:]'. -/
theorem run_str_from (t : TypeId) (ht : P.underlying t = some .string) (s : List UInt8) (a : Nat) (ha : a ≤ s.length) (wx : World) :
    (Instr.slice t (.string ⟨s.toArray⟩) (some (.int .i64 (a : Nat))) none none).run P wx = .ok (.string ⟨(s.drop a).toArray⟩) wx := by
  have hs : (⟨s.toArray⟩ : ByteArray).size = s.length := by simp [ByteArray.size]
  rw [run_slice_string_l (P := P) wx t _ ht _ _ (by omega) (by rw [hs]; omega), str_extract, hs, Int.toNat_natCast, List.take_of_length_le (by rw [List.length_drop]; omega)]
/-- 's[:b]'. -/
theorem run_str_to (t : TypeId) (ht : P.underlying t = some .string) (s : List UInt8) (b : Nat) (hb : b ≤ s.length) (wx : World) :
    (Instr.slice t (.string ⟨s.toArray⟩) none (some (.int .i64 (b : Nat))) none).run P wx = .ok (.string ⟨(s.take b).toArray⟩) wx := by
  have hs : (⟨s.toArray⟩ : ByteArray).size = s.length := by simp [ByteArray.size]
  rw [run_slice_string_h (P := P) wx t _ ht _ _ (by omega) (by rw [hs]; omega), str_extract, Int.toNat_natCast]
  simp
/-- 's + t'. -/
theorem run_str_add (x y : List UInt8) (h : x.length + y.length ≤ 9223372036854775807) (wx : World) :
    (Op.stringOp .add ⟨x.toArray⟩ ⟨y.toArray⟩).run P wx = .ok (.string ⟨(x ++ y).toArray⟩) wx := by
  have hx : (⟨x.toArray⟩ : ByteArray).size = x.length := by simp [ByteArray.size]
  have hy : (⟨y.toArray⟩ : ByteArray).size = y.length := by simp [ByteArray.size]
  have hm : ¬ (((x.length + y.length : Nat) : Int) > IntKind.i64.max) := by
    simp [IntKind.max, IntKind.signed, IntKind.bits]
    omega
  simp only [Op.stringOp, hx, hy, if_neg hm]
  rw [Sem.run_pure]
  congr 2
end
end Go.Proofs.Ytnpgfbgnbonhfaa
