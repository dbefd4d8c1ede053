/-
  No two names are alike, of texts of 100 to 169 bytes that go up by one, and of these with the first byte behind: counted out. No condition.
-/
import Derived.Test.YtaaeciiehoedhaaDoorSha
namespace Go.Proofs.YtaaeciiehoedhaaDoor.Sha
set_option maxRecDepth 100000
theorem far100 : (List.range' 100 5).all apart = true := by decide +kernel
theorem far105 : (List.range' 105 5).all apart = true := by decide +kernel
theorem far110 : (List.range' 110 5).all apart = true := by decide +kernel
theorem far115 : (List.range' 115 5).all apart = true := by decide +kernel
theorem far120 : (List.range' 120 5).all apart = true := by decide +kernel
theorem far125 : (List.range' 125 5).all apart = true := by decide +kernel
theorem far130 : (List.range' 130 5).all apart = true := by decide +kernel
theorem far135 : (List.range' 135 5).all apart = true := by decide +kernel
theorem far140 : (List.range' 140 5).all apart = true := by decide +kernel
theorem far145 : (List.range' 145 5).all apart = true := by decide +kernel
theorem far150 : (List.range' 150 5).all apart = true := by decide +kernel
theorem far155 : (List.range' 155 5).all apart = true := by decide +kernel
theorem far160 : (List.range' 160 5).all apart = true := by decide +kernel
theorem far165 : (List.range' 165 5).all apart = true := by decide +kernel
theorem far_1 {n : Nat} (h0 : 100 ≤ n) (h1 : n < 170) : apart n = true := by
  by_cases h : n < 105
  · exact List.all_eq_true.1 far100 n (List.mem_range'.2 ⟨n - 100, by omega, by omega⟩)
  by_cases h : n < 110
  · exact List.all_eq_true.1 far105 n (List.mem_range'.2 ⟨n - 105, by omega, by omega⟩)
  by_cases h : n < 115
  · exact List.all_eq_true.1 far110 n (List.mem_range'.2 ⟨n - 110, by omega, by omega⟩)
  by_cases h : n < 120
  · exact List.all_eq_true.1 far115 n (List.mem_range'.2 ⟨n - 115, by omega, by omega⟩)
  by_cases h : n < 125
  · exact List.all_eq_true.1 far120 n (List.mem_range'.2 ⟨n - 120, by omega, by omega⟩)
  by_cases h : n < 130
  · exact List.all_eq_true.1 far125 n (List.mem_range'.2 ⟨n - 125, by omega, by omega⟩)
  by_cases h : n < 135
  · exact List.all_eq_true.1 far130 n (List.mem_range'.2 ⟨n - 130, by omega, by omega⟩)
  by_cases h : n < 140
  · exact List.all_eq_true.1 far135 n (List.mem_range'.2 ⟨n - 135, by omega, by omega⟩)
  by_cases h : n < 145
  · exact List.all_eq_true.1 far140 n (List.mem_range'.2 ⟨n - 140, by omega, by omega⟩)
  by_cases h : n < 150
  · exact List.all_eq_true.1 far145 n (List.mem_range'.2 ⟨n - 145, by omega, by omega⟩)
  by_cases h : n < 155
  · exact List.all_eq_true.1 far150 n (List.mem_range'.2 ⟨n - 150, by omega, by omega⟩)
  by_cases h : n < 160
  · exact List.all_eq_true.1 far155 n (List.mem_range'.2 ⟨n - 155, by omega, by omega⟩)
  by_cases h : n < 165
  · exact List.all_eq_true.1 far160 n (List.mem_range'.2 ⟨n - 160, by omega, by omega⟩)
  by_cases h : n < 170
  · exact List.all_eq_true.1 far165 n (List.mem_range'.2 ⟨n - 165, by omega, by omega⟩)
  omega
end Go.Proofs.YtaaeciiehoedhaaDoor.Sha
