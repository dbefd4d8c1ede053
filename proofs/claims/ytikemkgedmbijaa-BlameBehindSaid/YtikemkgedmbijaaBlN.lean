/-
  Blame: places as numbers; what scripts of short lists do.
-/
import Derived.Test.YtikemkgedmbijaaBlM
import Derived.Test.YtikemkgedmbijaaBlO
import Derived.Test.YtikemkgedmbijaaIntS
import Derived.Deep.LoopGhost
import Derived.Deep.RegionHeld3
namespace Go.Proofs.Ytikemkgedmbijaa
open Go.RowKit

/-- places, as numbers -/
def nI (O : List Nat) : List Int := O.map fun (n : Nat) => (n : Int)
theorem nI_length (O : List Nat) : (nI O).length = O.length := by simp [nI]
theorem nI_append (A B : List Nat) : nI (A ++ B) = nI A ++ nI B := by simp [nI]
theorem nI_at {O : List Nat} {i : Nat} {z : Int} (h : (nI O)[i]? = some z) : ∃ n : Nat, z = (n : Int) ∧ O[i]? = some n := by
  unfold nI at h
  rw [List.getElem?_map] at h
  cases ho : O[i]? with
  | none => rw [ho] at h; cases h
  | some n => rw [ho] at h; cases h; exact ⟨n, rfl, rfl⟩
section
variable {α : Type}
theorem step_at {s : List (Int × α)} {j : Nat} {k : Int} {x : α} (h : s[j]? = some (k, x)) (v : Nat) (out : List Nat) :
    blameStep v (s.drop j) out = if k = 1 then out.headD 0 :: blameStep v (s.drop (j + 1)) out.tail else if k = 2 then blameStep v (s.drop (j + 1)) out.tail else v :: blameStep v (s.drop (j + 1)) out := by
  obtain ⟨q, e⟩ := List.getElem?_eq_some_iff.1 h
  rw [List.drop_eq_getElem_cons q, e]
  rfl
theorem side2_at {s : List (Int × α)} {j : Nat} {k : Int} {x : α} (h : s[j]? = some (k, x)) : (sideS 2 (s.drop j)).length = (if k = 1 ∨ k = 2 then 1 else 0) + (sideS 2 (s.drop (j + 1))).length := by
  obtain ⟨q, e⟩ := List.getElem?_eq_some_iff.1 h
  rw [List.drop_eq_getElem_cons q, e, sideS_cons]
  split <;> simp; omega
theorem fall_true {out : List Nat} {xs : List α} (h : out.length = xs.length) : Fall (fun _ _ => True) out xs := by
  induction out generalizing xs with
  | nil => cases xs with
    | nil => trivial
    | cons x xs => cases h
  | cons o out ih => cases xs with
    | nil => cases h
    | cons x xs => exact ⟨trivial, ih (by simpa using h)⟩
end
theorem step_length {a b : List (List UInt8)} (ha : a.length ≤ 400) (hb : b.length ≤ 400) (v : Nat) {out : List Nat} (h : out.length = a.length) : (blameStep v (scriptS a b) out).length = b.length := by
  rw [scriptS_short ha hb]
  obtain ⟨e1, e2, _⟩ := goS_sides a b
  have := step_fall (fun _ _ => True) v (goS a b) out (goS_kinds a b) (fall_true (by rw [e1]; exact h)) (fun _ _ => trivial)
  rw [e2] at this
  exact this.length
theorem script_side2 {a b : List (List UInt8)} (ha : a.length ≤ 400) (hb : b.length ≤ 400) : (sideS 2 (scriptS a b)).length = a.length := by
  rw [scriptS_short ha hb, (goS_sides a b).1]
theorem script_few {a b : List (List UInt8)} (ha : a.length ≤ 400) (hb : b.length ≤ 400) : (scriptS a b).length ≤ 800 := by
  rw [scriptS_short ha hb]
  have := (goS_sides a b).2.2.1
  omega
theorem blame_at {ls : List (List (List UInt8))} {k : Nat} {cur : List (List UInt8)} (h : ls[k]? = some cur) (prev : List (List UInt8)) (O : List Nat) : blameFrom k prev O (ls.drop k) = blameFrom (k + 1) cur (blameStep k (scriptS prev cur) O) (ls.drop (k + 1)) := by
  obtain ⟨q, e⟩ := List.getElem?_eq_some_iff.1 h
  rw [List.drop_eq_getElem_cons q, e]
  rfl
theorem blameS_len (ls : List (List (List UInt8))) (hl : ∀ l ∈ ls, l.length ≤ 400) : (blameS ls).length ≤ 400 := by
  by_cases h : ls = []
  · subst h
    exact Nat.zero_le _
  · rw [(blameS_fall ls h hl).length]
    exact hl _ (List.getLast_mem h)
end Go.Proofs.Ytikemkgedmbijaa
