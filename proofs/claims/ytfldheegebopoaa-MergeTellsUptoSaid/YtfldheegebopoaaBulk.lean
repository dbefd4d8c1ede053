/-
  What the bound of a statement of the second form gives: how long texts, and lists of texts, are in all.
-/
import Derived.Test.YtfldheegebopoaaRows
import Derived.Test.YtfldheegebopoaaOpenS
namespace Go.Proofs.Ytfldheegebopoaa
open Go.RowKit

theorem bulk_part {H : Type} {d : DataW H} {l : List (DataW H)} (h : d ∈ l) : Rows.uptoBulk d ≤ Rows.uptoBulkAll l := by
  induction l with
  | nil => cases h
  | cons x r ih =>
    simp only [Rows.uptoBulkAll]
    cases List.mem_cons.1 h with
    | inl e => subst e; omega
    | inr e => have := ih e; omega
theorem bulk_bound {H : Type} {l : List (DataW H)} (hk : Rows.uptoSmall H l = true) : Rows.uptoBulkAll l ≤ 1048576 := of_decide_eq_true hk
theorem bulk_str {H : Type} (s : List UInt8) : Rows.uptoBulk (DataW.lit (H := H) (.string s)) = s.length + 1 := by simp [Rows.uptoBulk]
theorem bulk_strs {H : Type} (ss : List (List UInt8)) : Rows.uptoBulkAll (dataStrs (H := H) ss) = ss.flatten.length + ss.length := by
  induction ss with
  | nil => simp [dataStrs, Rows.uptoBulkAll]
  | cons s ss ih =>
    show Rows.uptoBulk (DataW.lit (.string s)) + Rows.uptoBulkAll (dataStrs ss) = _
    rw [bulk_str, ih]
    simp
    omega
/-- a list of strings among what is bounded -/
theorem bulk_list {H : Type} {d : DataW H} {l : List (DataW H)} {ss : List (List UInt8)} (hk : Rows.uptoSmall H l = true) (hm : d ∈ l) (hd : (d = .nil ∧ ss = []) ∨ ∃ rest, d = .slice (dataStrs ss) rest) : ss.flatten.length + ss.length ≤ 1048576 := by
  have h1 := bulk_bound hk
  have h2 := bulk_part hm
  rcases hd with ⟨_, rfl⟩ | ⟨rest, rfl⟩
  · simp
  · have h3 := bulk_strs (H := H) ss
    simp only [Rows.uptoBulk] at h2
    omega
/-- a string among what is bounded -/
theorem bulk_text {H : Type} {l : List (DataW H)} {s : List UInt8} (hk : Rows.uptoSmall H l = true) (hm : DataW.lit (.string s) ∈ l) : s.length ≤ 1048576 := by
  have h1 := bulk_bound hk
  have h2 := bulk_part hm
  rw [bulk_str] at h2
  omega
end Go.Proofs.Ytfldheegebopoaa
