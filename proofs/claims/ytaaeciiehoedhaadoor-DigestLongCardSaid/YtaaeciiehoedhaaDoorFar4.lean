/-
  No two names are alike, of texts of 265 to 299 bytes that go up by one, and of these with the first byte behind: counted out. No condition.
-/
import Derived.Test.YtaaeciiehoedhaaDoorSha
namespace Go.Proofs.YtaaeciiehoedhaaDoor.Sha
set_option maxRecDepth 100000
theorem far265 : (List.range' 265 5).all apart = true := by decide +kernel
theorem far270 : (List.range' 270 5).all apart = true := by decide +kernel
theorem far275 : (List.range' 275 5).all apart = true := by decide +kernel
theorem far280 : (List.range' 280 5).all apart = true := by decide +kernel
theorem far285 : (List.range' 285 5).all apart = true := by decide +kernel
theorem far290 : (List.range' 290 5).all apart = true := by decide +kernel
theorem far295 : (List.range' 295 5).all apart = true := by decide +kernel
theorem far_4 {n : Nat} (h0 : 265 ≤ n) (h1 : n < 300) : apart n = true := by
  by_cases h : n < 270
  · exact List.all_eq_true.1 far265 n (List.mem_range'.2 ⟨n - 265, by omega, by omega⟩)
  by_cases h : n < 275
  · exact List.all_eq_true.1 far270 n (List.mem_range'.2 ⟨n - 270, by omega, by omega⟩)
  by_cases h : n < 280
  · exact List.all_eq_true.1 far275 n (List.mem_range'.2 ⟨n - 275, by omega, by omega⟩)
  by_cases h : n < 285
  · exact List.all_eq_true.1 far280 n (List.mem_range'.2 ⟨n - 280, by omega, by omega⟩)
  by_cases h : n < 290
  · exact List.all_eq_true.1 far285 n (List.mem_range'.2 ⟨n - 285, by omega, by omega⟩)
  by_cases h : n < 295
  · exact List.all_eq_true.1 far290 n (List.mem_range'.2 ⟨n - 290, by omega, by omega⟩)
  by_cases h : n < 300
  · exact List.all_eq_true.1 far295 n (List.mem_range'.2 ⟨n - 295, by omega, by omega⟩)
  omega
end Go.Proofs.YtaaeciiehoedhaaDoor.Sha
