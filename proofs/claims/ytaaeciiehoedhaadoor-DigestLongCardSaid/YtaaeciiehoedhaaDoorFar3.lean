/-
  No two names are alike, of texts of 225 to 264 bytes that go up by one, and of these with the first byte behind: counted out. No condition.
-/
import Derived.Test.YtaaeciiehoedhaaDoorSha
namespace Go.Proofs.YtaaeciiehoedhaaDoor.Sha
set_option maxRecDepth 100000
theorem far225 : (List.range' 225 5).all apart = true := by decide +kernel
theorem far230 : (List.range' 230 5).all apart = true := by decide +kernel
theorem far235 : (List.range' 235 5).all apart = true := by decide +kernel
theorem far240 : (List.range' 240 5).all apart = true := by decide +kernel
theorem far245 : (List.range' 245 5).all apart = true := by decide +kernel
theorem far250 : (List.range' 250 5).all apart = true := by decide +kernel
theorem far255 : (List.range' 255 5).all apart = true := by decide +kernel
theorem far260 : (List.range' 260 5).all apart = true := by decide +kernel
theorem far_3 {n : Nat} (h0 : 225 ≤ n) (h1 : n < 265) : apart n = true := by
  by_cases h : n < 230
  · exact List.all_eq_true.1 far225 n (List.mem_range'.2 ⟨n - 225, by omega, by omega⟩)
  by_cases h : n < 235
  · exact List.all_eq_true.1 far230 n (List.mem_range'.2 ⟨n - 230, by omega, by omega⟩)
  by_cases h : n < 240
  · exact List.all_eq_true.1 far235 n (List.mem_range'.2 ⟨n - 235, by omega, by omega⟩)
  by_cases h : n < 245
  · exact List.all_eq_true.1 far240 n (List.mem_range'.2 ⟨n - 240, by omega, by omega⟩)
  by_cases h : n < 250
  · exact List.all_eq_true.1 far245 n (List.mem_range'.2 ⟨n - 245, by omega, by omega⟩)
  by_cases h : n < 255
  · exact List.all_eq_true.1 far250 n (List.mem_range'.2 ⟨n - 250, by omega, by omega⟩)
  by_cases h : n < 260
  · exact List.all_eq_true.1 far255 n (List.mem_range'.2 ⟨n - 255, by omega, by omega⟩)
  by_cases h : n < 265
  · exact List.all_eq_true.1 far260 n (List.mem_range'.2 ⟨n - 260, by omega, by omega⟩)
  omega
end Go.Proofs.YtaaeciiehoedhaaDoor.Sha
