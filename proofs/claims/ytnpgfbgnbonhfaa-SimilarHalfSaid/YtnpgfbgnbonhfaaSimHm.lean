/-
  Two texts that have a share of their lines in common (SimilarHalf), as mathematics.
-/
import Derived.Test.YtnpgfbgnbonhfaaSimM
namespace Go.Proofs.Ytnpgfbgnbonhfaa
open Go.RowKit

def hlS (c : UInt8) (i : Nat) : Txt := c :: digS i ++ [10]
def hsS (c : UInt8) (n : Nat) : List Txt := (List.range n).map (hlS c)
theorem hs_len (c : UInt8) (n : Nat) : (hsS c n).length = n := by simp [hsS]
theorem hs_zero (c : UInt8) : hsS c 0 = [] := rfl
theorem hs_succ (c : UInt8) (n : Nat) : hsS c (n + 1) = hsS c n ++ [hlS c n] := by
  unfold hsS
  rw [List.range_succ, List.map_append]
  rfl
theorem dig_len (n : Nat) : (digS n).length ≤ 3 := by
  unfold digS
  split
  · simp
  · split <;> simp
theorem hs_flat (c : UInt8) : ∀ n, (hsS c n).flatten.length ≤ 5 * n
  | 0 => by simp [hs_zero]
  | n + 1 => by
    rw [hs_succ, List.flatten_append, List.length_append]
    have h1 := hs_flat c n
    have h2 := dig_len n
    have h3 : ([hlS c n] : List Txt).flatten.length = (digS n).length + 2 := by simp [hlS]
    omega
theorem dig_ten : (List.range 40).all (fun i => (digS i).all fun b => b != 10) = true := by decide +kernel
theorem hl_line {c : UInt8} (hc : c ≠ 10) {i : Nat} (hi : i < 40) : ∃ y : Txt, hlS c i = y ++ [10] ∧ ∀ b ∈ y, b ≠ 10 := by
  refine ⟨c :: digS i, rfl, fun b hb => ?_⟩
  rcases List.mem_cons.1 hb with rfl | hb
  · exact hc
  · have := List.all_eq_true.1 (List.all_eq_true.1 dig_ten i (List.mem_range.2 hi)) b hb
    simpa using this
theorem half_lines {c : UInt8} (hc : c ≠ 10) {s o : Nat} (hs : s ≤ 40) (ho : o ≤ 40) : linesOf (hsS 115 s ++ hsS c o).flatten = hsS 115 s ++ hsS c o := by
  refine linesOf_flat _ fun x hx => ?_
  rcases List.mem_append.1 hx with hx | hx
  · obtain ⟨i, hi, rfl⟩ := List.mem_map.1 hx
    exact hl_line (by decide) (by have := List.mem_range.1 hi; omega)
  · obtain ⟨i, hi, rfl⟩ := List.mem_map.1 hx
    exact hl_line hc (by have := List.mem_range.1 hi; omega)
theorem half_ratio {s o : Nat} (hs : s ≤ 40) (ho : o ≤ 40) (h0 : 0 < o) : ratioS (hsS 115 s ++ hsS 97 o).flatten (hsS 115 s ++ hsS 98 o).flatten = 100 * s / (s + o) := by
  unfold ratioS
  rw [half_lines (by decide) hs ho, half_lines (by decide) hs ho]
  have := ratioL_half (hsS 115 s) (hsS 97 o) (hsS 98 o) (fun x hx hy => by
    obtain ⟨i, _, rfl⟩ := List.mem_map.1 hx
    obtain ⟨j, _, e⟩ := List.mem_map.1 hy
    have := (List.cons.inj e).1
    revert this
    decide) (by rw [hs_len, hs_len]) (by rw [hs_len]; exact h0) (by rw [hs_len, hs_len]; omega)
  rwa [hs_len, hs_len] at this
theorem half_ne {s o : Nat} (h0 : 0 < o) : (hsS 115 s ++ hsS 97 o).flatten ≠ (hsS 115 s ++ hsS 98 o).flatten := by
  rw [List.flatten_append, List.flatten_append]
  intro e
  have e := List.append_cancel_left e
  obtain ⟨k, rfl⟩ : ∃ k, o = k + 1 := ⟨o - 1, by omega⟩
  have h : ∀ c, hsS c (k + 1) = hlS c 0 :: (List.range k).map (fun i => hlS c (i + 1)) := fun c => by
    unfold hsS
    rw [List.range_succ_eq_map, List.map_cons, List.map_map]
    rfl
  rw [h, h, List.flatten_cons, List.flatten_cons] at e
  have := (List.cons.inj e).1
  revert this
  decide
theorem half_some {c : UInt8} {s o : Nat} (h0 : 0 < o) : (hsS 115 s ++ hsS c o).flatten ≠ [] := by
  intro e
  have h1 : (hsS 115 s ++ hsS c o).flatten.length = 0 := by rw [e]; rfl
  rw [List.flatten_append, List.length_append] at h1
  obtain ⟨k, rfl⟩ : ∃ k, o = k + 1 := ⟨o - 1, by omega⟩
  rw [hs_succ, List.flatten_append, List.length_append] at h1
  have h3 : ([hlS c k] : List Txt).flatten.length = (digS k).length + 2 := by simp [hlS]
  omega
theorem half_len (c : UInt8) (s o : Nat) : (hsS 115 s ++ hsS c o).flatten.length ≤ 5 * s + 5 * o := by
  rw [List.flatten_append, List.length_append]
  have h1 := hs_flat 115 s
  have h2 := hs_flat c o
  omega
theorem half_more (s : Nat) : (hsS 115 s).flatten ++ [115] ++ digS s ++ [10] = (hsS 115 (s + 1)).flatten := by
  rw [hs_succ]
  simp [hlS]
theorem half_next (c : UInt8) (s o : Nat) : (hsS 115 s ++ hsS c o).flatten ++ [c] ++ digS o ++ [10] = (hsS 115 s ++ hsS c (o + 1)).flatten := by
  rw [hs_succ]
  simp [hlS]
/-! ### 'int(uint(a) % q)' -/
theorem low_mod (a : Int) (q : Nat) (h0 : 0 < q) (_hq : q < 1000) : ∃ s : Nat, s < q ∧ Int.tmod (IntKind.u64.wrap a) (q : Int) = (s : Int) := by
  have hw : 0 ≤ IntKind.u64.wrap a := by simp [IntKind.wrap, IntKind.bits, IntKind.signed]; omega
  have h1 := Int.emod_nonneg (IntKind.u64.wrap a) (show (q : Int) ≠ 0 by omega)
  have h2 := Int.emod_lt_of_pos (IntKind.u64.wrap a) (show (0 : Int) < (q : Int) by omega)
  rw [Int.tmod_eq_emod_of_nonneg hw]
  generalize IntKind.u64.wrap a % (q : Int) = x at h1 h2
  exact ⟨x.toNat, by omega, by omega⟩
theorem half_bounds {s p o : Nat} (hs : s < 20) (hp : p < 20) (h : p + 1 = o) : s ≤ 40 ∧ o ≤ 40 ∧ 0 < o := by omega
theorem low_in (p : Nat) (h : p < 1000) : wrap64 (p : Int) = (p : Int) ∧ IntKind.i64.wrap (p : Int) = (p : Int) ∧ IntKind.i64.wrap (1 + (p : Int)) = ((p + 1 : Nat) : Int) :=
  ⟨by unfold wrap64; omega, IntWalk.i64_in _ (by omega), (IntWalk.i64_in _ (by omega)).trans (by omega)⟩
end Go.Proofs.Ytnpgfbgnbonhfaa
