/-
  Hunks (P7.1, P7.2), as mathematics: (at, old, new).
-/
import Derived.Test.YtfldheegebopoaaDifM
namespace Go.Proofs.Ytfldheegebopoaa

abbrev Hk (α : Type) := Int × List α × List α
section
variable {α : Type}
/-- the hunks of edits: a run under way (where it began, what it deletes, what it inserts), and how many lines are behind -/
def hunksG : Option (Nat × List α × List α) → Nat → List (Int × α) → List (Hk α)
  | none, _, [] => []
  | some (s, o, n), _, [] => [((s : Int), o, n)]
  | none, at', (k, x) :: l => if k = 1 then hunksG none (at' + 1) l else if k = 2 then hunksG (some (at', [x], [])) (at' + 1) l else if k = 3 then hunksG (some (at', [], [x])) at' l else hunksG (some (at', [], [])) at' l
  | some (s, o, n), at', (k, x) :: l => if k = 1 then ((s : Int), o, n) :: hunksG none (at' + 1) l else if k = 2 then hunksG (some (s, o ++ [x], n)) (at' + 1) l else if k = 3 then hunksG (some (s, o, n ++ [x])) at' l else hunksG (some (s, o, n)) at' l
def hunksS (l : List (Int × α)) : List (Hk α) := hunksG none 0 l

def okOne (h : Hk α) : Bool := decide (0 ≤ h.1) && decide (h.1 ≤ 2147483647) && decide (0 < h.2.1.length + h.2.2.length)
def rightFrom (lo : Int) : List (Hk α) → Bool
  | [] => true
  | h :: t => okOne h && decide (lo ≤ h.1) && rightFrom (h.1 + h.2.1.length) t
def rightS (hs : List (Hk α)) : Bool := rightFrom 0 hs
def loAt (hs : List (Hk α)) (i : Nat) : Int := if i = 0 then 0 else match hs[i - 1]? with
  | some p => p.1 + p.2.1.length
  | none => 0
theorem loAt_zero (hs : List (Hk α)) : loAt hs 0 = 0 := rfl
theorem loAt_succ {hs : List (Hk α)} {i : Nat} {p : Hk α} (h : hs[i]? = some p) : loAt hs (i + 1) = p.1 + p.2.1.length := by
  unfold loAt
  rw [if_neg (by omega), Nat.add_sub_cancel, h]
theorem right_step {hs : List (Hk α)} {i : Nat} {p : Hk α} (h : hs[i]? = some p) (lo : Int) : rightFrom lo (hs.drop i) = (okOne p && decide (lo ≤ p.1) && rightFrom (p.1 + p.2.1.length) (hs.drop (i + 1))) := by
  obtain ⟨q, e⟩ := List.getElem?_eq_some_iff.1 h
  rw [List.drop_eq_getElem_cons q, e]
  rfl
theorem right_at {lo : Int} {hs : List (Hk α)} (h : rightFrom lo hs = true) : ∀ p ∈ hs, okOne p = true := by
  induction hs generalizing lo with
  | nil => intro p hp; cases hp
  | cons x t ih =>
    rw [rightFrom, Bool.and_eq_true, Bool.and_eq_true] at h
    intro p hp
    rcases List.mem_cons.1 hp with rfl | hp
    · exact h.1.1
    · exact ih h.2 p hp
theorem okOne_iff {h : Hk α} : okOne h = true ↔ 0 ≤ h.1 ∧ h.1 ≤ 2147483647 ∧ 0 < h.2.1.length + h.2.2.length := by
  unfold okOne
  rw [Bool.and_eq_true, Bool.and_eq_true, decide_eq_true_iff, decide_eq_true_iff, decide_eq_true_iff, and_assoc]

/-- inverted -/
def invertFrom (more : Int) : List (Hk α) → List (Hk α)
  | [] => []
  | h :: t => (h.1 + more, h.2.2, h.2.1) :: invertFrom (more + h.2.2.length - h.2.1.length) t
def invertS (hs : List (Hk α)) : List (Hk α) := if rightS hs then invertFrom 0 hs else []
end
section
variable {α : Type} [DecidableEq α]
def stands (a : List α) (h : Hk α) : Bool := decide (h.1.toNat + h.2.1.length ≤ a.length) && decide ((a.drop h.1.toNat).take h.2.1.length = h.2.1)
def applyFrom (a : List α) (at' : Nat) : List (Hk α) → Option (List α)
  | [] => some (a.drop at')
  | h :: t => if stands a h then (applyFrom a (h.1.toNat + h.2.1.length) t).map fun r => (a.take h.1.toNat).drop at' ++ (h.2.2 ++ r) else none
/-- what an application answers: the lines, and the reason -/
def applyS (a : List α) (hs : List (Hk α)) : List α × Int := if rightS hs then (match applyFrom a 0 hs with
  | some r => (r, 0)
  | none => ([], 13)) else ([], 1)
end
end Go.Proofs.Ytfldheegebopoaa
