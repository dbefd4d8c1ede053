/-
  No two names are alike, of texts of 0 to 99 bytes that go up by one, and of these with the first byte behind: counted out. No condition.
-/
import Derived.Test.YtaaeciiehoedhaaDoorSha
namespace Go.Proofs.YtaaeciiehoedhaaDoor.Sha
set_option maxRecDepth 100000
theorem far0 : (List.range' 0 5).all apart = true := by decide +kernel
theorem far5 : (List.range' 5 5).all apart = true := by decide +kernel
theorem far10 : (List.range' 10 5).all apart = true := by decide +kernel
theorem far15 : (List.range' 15 5).all apart = true := by decide +kernel
theorem far20 : (List.range' 20 5).all apart = true := by decide +kernel
theorem far25 : (List.range' 25 5).all apart = true := by decide +kernel
theorem far30 : (List.range' 30 5).all apart = true := by decide +kernel
theorem far35 : (List.range' 35 5).all apart = true := by decide +kernel
theorem far40 : (List.range' 40 5).all apart = true := by decide +kernel
theorem far45 : (List.range' 45 5).all apart = true := by decide +kernel
theorem far50 : (List.range' 50 5).all apart = true := by decide +kernel
theorem far55 : (List.range' 55 5).all apart = true := by decide +kernel
theorem far60 : (List.range' 60 5).all apart = true := by decide +kernel
theorem far65 : (List.range' 65 5).all apart = true := by decide +kernel
theorem far70 : (List.range' 70 5).all apart = true := by decide +kernel
theorem far75 : (List.range' 75 5).all apart = true := by decide +kernel
theorem far80 : (List.range' 80 5).all apart = true := by decide +kernel
theorem far85 : (List.range' 85 5).all apart = true := by decide +kernel
theorem far90 : (List.range' 90 5).all apart = true := by decide +kernel
theorem far95 : (List.range' 95 5).all apart = true := by decide +kernel
theorem far_0 {n : Nat} (h0 : 0 ≤ n) (h1 : n < 100) : apart n = true := by
  by_cases h : n < 5
  · exact List.all_eq_true.1 far0 n (List.mem_range'.2 ⟨n - 0, by omega, by omega⟩)
  by_cases h : n < 10
  · exact List.all_eq_true.1 far5 n (List.mem_range'.2 ⟨n - 5, by omega, by omega⟩)
  by_cases h : n < 15
  · exact List.all_eq_true.1 far10 n (List.mem_range'.2 ⟨n - 10, by omega, by omega⟩)
  by_cases h : n < 20
  · exact List.all_eq_true.1 far15 n (List.mem_range'.2 ⟨n - 15, by omega, by omega⟩)
  by_cases h : n < 25
  · exact List.all_eq_true.1 far20 n (List.mem_range'.2 ⟨n - 20, by omega, by omega⟩)
  by_cases h : n < 30
  · exact List.all_eq_true.1 far25 n (List.mem_range'.2 ⟨n - 25, by omega, by omega⟩)
  by_cases h : n < 35
  · exact List.all_eq_true.1 far30 n (List.mem_range'.2 ⟨n - 30, by omega, by omega⟩)
  by_cases h : n < 40
  · exact List.all_eq_true.1 far35 n (List.mem_range'.2 ⟨n - 35, by omega, by omega⟩)
  by_cases h : n < 45
  · exact List.all_eq_true.1 far40 n (List.mem_range'.2 ⟨n - 40, by omega, by omega⟩)
  by_cases h : n < 50
  · exact List.all_eq_true.1 far45 n (List.mem_range'.2 ⟨n - 45, by omega, by omega⟩)
  by_cases h : n < 55
  · exact List.all_eq_true.1 far50 n (List.mem_range'.2 ⟨n - 50, by omega, by omega⟩)
  by_cases h : n < 60
  · exact List.all_eq_true.1 far55 n (List.mem_range'.2 ⟨n - 55, by omega, by omega⟩)
  by_cases h : n < 65
  · exact List.all_eq_true.1 far60 n (List.mem_range'.2 ⟨n - 60, by omega, by omega⟩)
  by_cases h : n < 70
  · exact List.all_eq_true.1 far65 n (List.mem_range'.2 ⟨n - 65, by omega, by omega⟩)
  by_cases h : n < 75
  · exact List.all_eq_true.1 far70 n (List.mem_range'.2 ⟨n - 70, by omega, by omega⟩)
  by_cases h : n < 80
  · exact List.all_eq_true.1 far75 n (List.mem_range'.2 ⟨n - 75, by omega, by omega⟩)
  by_cases h : n < 85
  · exact List.all_eq_true.1 far80 n (List.mem_range'.2 ⟨n - 80, by omega, by omega⟩)
  by_cases h : n < 90
  · exact List.all_eq_true.1 far85 n (List.mem_range'.2 ⟨n - 85, by omega, by omega⟩)
  by_cases h : n < 95
  · exact List.all_eq_true.1 far90 n (List.mem_range'.2 ⟨n - 90, by omega, by omega⟩)
  by_cases h : n < 100
  · exact List.all_eq_true.1 far95 n (List.mem_range'.2 ⟨n - 95, by omega, by omega⟩)
  omega
end Go.Proofs.YtaaeciiehoedhaaDoor.Sha
