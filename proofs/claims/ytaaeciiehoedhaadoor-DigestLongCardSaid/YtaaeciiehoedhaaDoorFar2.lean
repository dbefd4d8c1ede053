/-
  No two names are alike, of texts of 170 to 224 bytes that go up by one, and of these with the first byte behind: counted out. No condition.
-/
import Derived.Test.YtaaeciiehoedhaaDoorSha
namespace Go.Proofs.YtaaeciiehoedhaaDoor.Sha
set_option maxRecDepth 100000
theorem far170 : (List.range' 170 5).all apart = true := by decide +kernel
theorem far175 : (List.range' 175 5).all apart = true := by decide +kernel
theorem far180 : (List.range' 180 5).all apart = true := by decide +kernel
theorem far185 : (List.range' 185 5).all apart = true := by decide +kernel
theorem far190 : (List.range' 190 5).all apart = true := by decide +kernel
theorem far195 : (List.range' 195 5).all apart = true := by decide +kernel
theorem far200 : (List.range' 200 5).all apart = true := by decide +kernel
theorem far205 : (List.range' 205 5).all apart = true := by decide +kernel
theorem far210 : (List.range' 210 5).all apart = true := by decide +kernel
theorem far215 : (List.range' 215 5).all apart = true := by decide +kernel
theorem far220 : (List.range' 220 5).all apart = true := by decide +kernel
theorem far_2 {n : Nat} (h0 : 170 ≤ n) (h1 : n < 225) : apart n = true := by
  by_cases h : n < 175
  · exact List.all_eq_true.1 far170 n (List.mem_range'.2 ⟨n - 170, by omega, by omega⟩)
  by_cases h : n < 180
  · exact List.all_eq_true.1 far175 n (List.mem_range'.2 ⟨n - 175, by omega, by omega⟩)
  by_cases h : n < 185
  · exact List.all_eq_true.1 far180 n (List.mem_range'.2 ⟨n - 180, by omega, by omega⟩)
  by_cases h : n < 190
  · exact List.all_eq_true.1 far185 n (List.mem_range'.2 ⟨n - 185, by omega, by omega⟩)
  by_cases h : n < 195
  · exact List.all_eq_true.1 far190 n (List.mem_range'.2 ⟨n - 190, by omega, by omega⟩)
  by_cases h : n < 200
  · exact List.all_eq_true.1 far195 n (List.mem_range'.2 ⟨n - 195, by omega, by omega⟩)
  by_cases h : n < 205
  · exact List.all_eq_true.1 far200 n (List.mem_range'.2 ⟨n - 200, by omega, by omega⟩)
  by_cases h : n < 210
  · exact List.all_eq_true.1 far205 n (List.mem_range'.2 ⟨n - 205, by omega, by omega⟩)
  by_cases h : n < 215
  · exact List.all_eq_true.1 far210 n (List.mem_range'.2 ⟨n - 210, by omega, by omega⟩)
  by_cases h : n < 220
  · exact List.all_eq_true.1 far215 n (List.mem_range'.2 ⟨n - 215, by omega, by omega⟩)
  by_cases h : n < 225
  · exact List.all_eq_true.1 far220 n (List.mem_range'.2 ⟨n - 220, by omega, by omega⟩)
  omega
end Go.Proofs.YtaaeciiehoedhaaDoor.Sha
