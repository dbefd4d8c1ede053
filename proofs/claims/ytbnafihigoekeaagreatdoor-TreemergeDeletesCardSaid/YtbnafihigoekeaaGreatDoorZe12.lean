/-
  TmDe, part 12.
-/
import Derived.Test.YtbnafihigoekeaaGreatDoorZe3
namespace Go.Proofs.YtbnafihigoekeaaGreatDoor
abbrev Hk (α : Type) := Int × List α × List α
section
variable {α : Type}
def hunksG : Option (Nat × List α × List α) → Nat → List (Int × α) → List (Hk α)
  | none, _, [] => []
  | some (s, o, n), _, [] => [((s : Int), o, n)]
  | none, at', (k, x) :: l => if k = 1 then hunksG none (at' + 1) l else if k = 2 then hunksG (some (at', [x], [])) (at' + 1) l else if k = 3 then hunksG (some (at', [], [x])) at' l else hunksG (some (at', [], [])) at' l
  | some (s, o, n), at', (k, x) :: l => if k = 1 then ((s : Int), o, n) :: hunksG none (at' + 1) l else if k = 2 then hunksG (some (s, o ++ [x], n)) (at' + 1) l else if k = 3 then hunksG (some (s, o, n ++ [x])) at' l else hunksG (some (s, o, n)) at' l
def hunksS (l : List (Int × α)) : List (Hk α) := hunksG none 0 l
def okOneH (h : Hk α) : Bool := decide (0 ≤ h.1) && decide (h.1 ≤ 2147483647) && decide (0 < h.2.1.length + h.2.2.length)
def rightFrom (lo : Int) : List (Hk α) → Bool
  | [] => true
  | h :: t => okOneH h && decide (lo ≤ h.1) && rightFrom (h.1 + h.2.1.length) t
def rightH (hs : List (Hk α)) : Bool := rightFrom 0 hs
def loAt (hs : List (Hk α)) (i : Nat) : Int := if i = 0 then 0 else match hs[i - 1]? with
  | some p => p.1 + p.2.1.length
  | none => 0
def invertFrom (more : Int) : List (Hk α) → List (Hk α)
  | [] => []
  | h :: t => (h.1 + more, h.2.2, h.2.1) :: invertFrom (more + h.2.2.length - h.2.1.length) t
def invertS (hs : List (Hk α)) : List (Hk α) := if rightH hs then invertFrom 0 hs else []
end
section
variable {α : Type} [DecidableEq α]
def stands (a : List α) (h : Hk α) : Bool := decide (h.1.toNat + h.2.1.length ≤ a.length) && decide ((a.drop h.1.toNat).take h.2.1.length = h.2.1)
def applyFrom (a : List α) (at' : Nat) : List (Hk α) → Option (List α)
  | [] => some (a.drop at')
  | h :: t => if stands a h then (applyFrom a (h.1.toNat + h.2.1.length) t).map fun r => (a.take h.1.toNat).drop at' ++ (h.2.2 ++ r) else none
def applyH (a : List α) (hs : List (Hk α)) : List α × Int := if rightH hs then (match applyFrom a 0 hs with
  | some r => (r, 0)
  | none => ([], 13)) else ([], 1)
end
end Go.Proofs.YtbnafihigoekeaaGreatDoor
namespace Go.Proofs.YtbnafihigoekeaaGreatDoor
section
variable {α : Type}
def Kinds (l : List (Int × α)) : Prop := ∀ e ∈ l, e.1 = 1 ∨ e.1 = 2 ∨ e.1 = 3
theorem Kinds.tail {e : Int × α} {l : List (Int × α)} (h : Kinds (e :: l)) : Kinds l := fun x hx => h x (List.mem_cons_of_mem _ hx)
theorem Kinds.append {l m : List (Int × α)} (h : Kinds l) (k : Kinds m) : Kinds (l ++ m) := fun e he => (List.mem_append.1 he).elim (h e) (k e)
theorem Kinds.map {a : List α} {k : Int} (h : k = 1 ∨ k = 2 ∨ k = 3) : Kinds (a.map fun x => (k, x)) := fun e he => by
  obtain ⟨x, _, rfl⟩ := List.mem_map.1 he
  exact h
theorem Kinds.cons {e : Int × α} {l : List (Int × α)} (h : e.1 = 1 ∨ e.1 = 2 ∨ e.1 = 3) (k : Kinds l) : Kinds (e :: l) := fun x hx => by
  rcases List.mem_cons.1 hx with rfl | hx
  · exact h
  · exact k x hx
def swapS (l : List (Int × α)) : List (Int × α) := l.map fun e => (if e.1 = 2 then 3 else if e.1 = 3 then 2 else e.1, e.2)
end
section
variable {α : Type} [DecidableEq α]
theorem goS_kinds (a b : List α) : Kinds (goS a b) := by
  refine both_ind (p := fun a b => Kinds (goS a b)) (fun b => ?_) (fun a => ?_) (fun x a b ih => ?_) (fun x y a b h ih1 ih2 => ?_) a b
  · rw [goS_nil_left]
    exact Kinds.map (.inr (.inr rfl))
  · rw [goS_nil]
    exact Kinds.map (.inr (.inl rfl))
  · rw [goS_cons, if_pos rfl]
    exact ih.cons (.inl rfl)
  · rw [goS_cons, if_neg h]
    split
    · exact ih1.cons (.inr (.inl rfl))
    · exact ih2.cons (.inr (.inr rfl))
end
end Go.Proofs.YtbnafihigoekeaaGreatDoor
