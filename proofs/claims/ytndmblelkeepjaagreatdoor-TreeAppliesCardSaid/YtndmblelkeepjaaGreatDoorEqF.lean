/-
  Files and changes held against each other by '==' and '!='.
-/
import Derived.Test.YtndmblelkeepjaaGreatDoorChg
import Derived.Test.YtndmblelkeepjaaGreatDoorTxt
import Derived.Deep.RegionLaw
namespace Go.Proofs.YtndmblelkeepjaaGreatDoor
open Go.RowKit

theorem file_eql (p1 t1 p2 t2 : Txt) (x1 x2 : Bool) (wx : World) : (binOp .eql 35 (.agg #[.string ⟨p1.toArray⟩, .bool x1, .string ⟨t1.toArray⟩]) (.agg #[.string ⟨p2.toArray⟩, .bool x2, .string ⟨t2.toArray⟩])).run Tryz.prog wx = .ok (.bool (((p1, x1, t1) : FileS) == (p2, x2, t2))) wx := by
  by_cases h1 : p1 = p2
  · subst h1
    have n1 : (p1 == p1) = true := by simp
    by_cases h2 : x1 = x2
    · subst h2
      have n2 : (x1 == x1) = true := by simp
      by_cases h3 : t1 = t2
      · subst h3
        have n3 : (t1 == t1) = true := by simp
        have n4 : (((p1, x1, t1) : FileS) == (p1, x1, t1)) = true := by simp
        rw [n4]
        go_simp
      · have n3 : (t1 == t2) = false := by simpa using h3
        have n4 : (((p1, x1, t1) : FileS) == (p1, x1, t2)) = false := by simpa using h3
        rw [n4]
        clear h3
        go_simp
    · have n2 : (x1 == x2) = false := by simpa using h2
      have n4 : (((p1, x1, t1) : FileS) == (p1, x2, t2)) = false := by
        rw [beq_eq_false_iff_ne]
        exact fun e => h2 (congrArg (fun f : FileS => f.2.1) e)
      rw [n4]
      clear h2
      go_simp
  · have n1 : (p1 == p2) = false := by simpa using h1
    have n4 : (((p1, x1, t1) : FileS) == (p2, x2, t2)) = false := by
      rw [beq_eq_false_iff_ne]
      exact fun e => h1 (congrArg Prod.fst e)
    rw [n4]
    clear h1
    go_simp
theorem file_neq (p1 t1 p2 t2 : Txt) (x1 x2 : Bool) (wx : World) : (binOp .neq 35 (.agg #[.string ⟨p1.toArray⟩, .bool x1, .string ⟨t1.toArray⟩]) (.agg #[.string ⟨p2.toArray⟩, .bool x2, .string ⟨t2.toArray⟩])).run Tryz.prog wx = .ok (.bool (((p1, x1, t1) : FileS) != (p2, x2, t2))) wx := by
  by_cases h1 : p1 = p2
  · subst h1
    have n1 : (p1 == p1) = true := by simp
    by_cases h2 : x1 = x2
    · subst h2
      have n2 : (x1 == x1) = true := by simp
      by_cases h3 : t1 = t2
      · subst h3
        have n3 : (t1 == t1) = true := by simp
        have n4 : (((p1, x1, t1) : FileS) != (p1, x1, t1)) = false := by simp
        rw [n4]
        go_simp
      · have n3 : (t1 == t2) = false := by simpa using h3
        have n4 : (((p1, x1, t1) : FileS) != (p1, x1, t2)) = true := by simpa using h3
        rw [n4]
        clear h3
        go_simp
    · have n2 : (x1 == x2) = false := by simpa using h2
      have n4 : (((p1, x1, t1) : FileS) != (p1, x2, t2)) = true := by
        rw [bne_iff_ne]
        exact fun e => h2 (congrArg (fun f : FileS => f.2.1) e)
      rw [n4]
      clear h2
      go_simp
  · have n1 : (p1 == p2) = false := by simpa using h1
    have n4 : (((p1, x1, t1) : FileS) != (p2, x2, t2)) = true := by
      rw [bne_iff_ne]
      exact fun e => h1 (congrArg Prod.fst e)
    rw [n4]
    clear h1
    go_simp
theorem change_eql (p1 t1 p2 t2 : Txt) (d1 d2 x1 x2 : Bool) (wx : World) : (binOp .eql 29 (.agg #[.string ⟨p1.toArray⟩, .bool d1, .bool x1, .string ⟨t1.toArray⟩]) (.agg #[.string ⟨p2.toArray⟩, .bool d2, .bool x2, .string ⟨t2.toArray⟩])).run Tryz.prog wx = .ok (.bool (((p1, d1, x1, t1) : ChangeS) == (p2, d2, x2, t2))) wx := by
  by_cases h1 : p1 = p2
  · subst h1
    have n1 : (p1 == p1) = true := by simp
    by_cases h0 : d1 = d2
    · subst h0
      have n0 : (d1 == d1) = true := by simp
      by_cases h2 : x1 = x2
      · subst h2
        have n2 : (x1 == x1) = true := by simp
        by_cases h3 : t1 = t2
        · subst h3
          have n3 : (t1 == t1) = true := by simp
          have n4 : (((p1, d1, x1, t1) : ChangeS) == (p1, d1, x1, t1)) = true := by simp
          rw [n4]
          go_simp
        · have n3 : (t1 == t2) = false := by simpa using h3
          have n4 : (((p1, d1, x1, t1) : ChangeS) == (p1, d1, x1, t2)) = false := by simpa using h3
          rw [n4]
          clear h3
          go_simp
      · have n2 : (x1 == x2) = false := by simpa using h2
        have n4 : (((p1, d1, x1, t1) : ChangeS) == (p1, d1, x2, t2)) = false := by
          rw [beq_eq_false_iff_ne]
          exact fun e => h2 (congrArg (fun f : ChangeS => f.2.2.1) e)
        rw [n4]
        clear h2
        go_simp
    · have n0 : (d1 == d2) = false := by simpa using h0
      have n4 : (((p1, d1, x1, t1) : ChangeS) == (p1, d2, x2, t2)) = false := by
        rw [beq_eq_false_iff_ne]
        exact fun e => h0 (congrArg (fun f : ChangeS => f.2.1) e)
      rw [n4]
      clear h0
      go_simp
  · have n1 : (p1 == p2) = false := by simpa using h1
    have n4 : (((p1, d1, x1, t1) : ChangeS) == (p2, d2, x2, t2)) = false := by
      rw [beq_eq_false_iff_ne]
      exact fun e => h1 (congrArg Prod.fst e)
    rw [n4]
    clear h1
    go_simp
theorem change_neq (p1 t1 p2 t2 : Txt) (d1 d2 x1 x2 : Bool) (wx : World) : (binOp .neq 29 (.agg #[.string ⟨p1.toArray⟩, .bool d1, .bool x1, .string ⟨t1.toArray⟩]) (.agg #[.string ⟨p2.toArray⟩, .bool d2, .bool x2, .string ⟨t2.toArray⟩])).run Tryz.prog wx = .ok (.bool (((p1, d1, x1, t1) : ChangeS) != (p2, d2, x2, t2))) wx := by
  by_cases h1 : p1 = p2
  · subst h1
    have n1 : (p1 == p1) = true := by simp
    by_cases h0 : d1 = d2
    · subst h0
      have n0 : (d1 == d1) = true := by simp
      by_cases h2 : x1 = x2
      · subst h2
        have n2 : (x1 == x1) = true := by simp
        by_cases h3 : t1 = t2
        · subst h3
          have n3 : (t1 == t1) = true := by simp
          have n4 : (((p1, d1, x1, t1) : ChangeS) != (p1, d1, x1, t1)) = false := by simp
          rw [n4]
          go_simp
        · have n3 : (t1 == t2) = false := by simpa using h3
          have n4 : (((p1, d1, x1, t1) : ChangeS) != (p1, d1, x1, t2)) = true := by simpa using h3
          rw [n4]
          clear h3
          go_simp
      · have n2 : (x1 == x2) = false := by simpa using h2
        have n4 : (((p1, d1, x1, t1) : ChangeS) != (p1, d1, x2, t2)) = true := by
          rw [bne_iff_ne]
          exact fun e => h2 (congrArg (fun f : ChangeS => f.2.2.1) e)
        rw [n4]
        clear h2
        go_simp
    · have n0 : (d1 == d2) = false := by simpa using h0
      have n4 : (((p1, d1, x1, t1) : ChangeS) != (p1, d2, x2, t2)) = true := by
        rw [bne_iff_ne]
        exact fun e => h0 (congrArg (fun f : ChangeS => f.2.1) e)
      rw [n4]
      clear h0
      go_simp
  · have n1 : (p1 == p2) = false := by simpa using h1
    have n4 : (((p1, d1, x1, t1) : ChangeS) != (p2, d2, x2, t2)) = true := by
      rw [bne_iff_ne]
      exact fun e => h1 (congrArg Prod.fst e)
    rw [n4]
    clear h1
    go_simp
end Go.Proofs.YtndmblelkeepjaaGreatDoor
