/-
  awake (hunk): one application; literals.
-/
import Derived.Test.YtbcmecclaofmgaaPhkD
namespace Go.Proofs.Ytbcmecclaofmgaa
open Go.RowKit

theorem litS {w : World} {b : Nat} {t : TypeId} {fr : Nat × Nat} (l : List (List UInt8)) (h : w.heap[b]? = some (.cells (strCells l).toArray t fr)) : Sl w (.slice (some ⟨b, 0, none⟩) l.length l.length) (strCells l) := by
  have := Sl.ofBlock h
  simpa [strCells_length] using this
theorem litH {w : World} {b : Nat} {t : TypeId} {fr : Nat × Nat} {k : Int} {vo vn : Value} {old new : List (List UInt8)} (h : w.heap[b]? = some (.cells #[.int .i64 k, vo, vn] t fr)) (h1 : Sl w vo (strCells old)) (h2 : Sl w vn (strCells new)) : SlH w (.slice (some ⟨b, 0, none⟩) 1 1) [(k, old, new)] := by
  refine ⟨some ⟨b, 0, none⟩, 1, rfl, (fun h => by cases h), Nat.le_refl _, fun a ha i x hx => ?_⟩
  cases ha
  have hi : i = 0 := by have := (List.getElem?_eq_some_iff.1 hx).1; simp at this; omega
  subst hi
  cases hx
  have c : ∀ {j : Nat} {u : Value}, (#[.int .i64 k, vo, vn] : Array Value)[j]? = some u → w.cell? ⟨b, j, none⟩ = some u := fun {j u} hu => by simp [World.cell?, h, hu]
  have e : ∀ j, (⟨b, 0, none⟩ : Addr).add j = ⟨b, j, none⟩ := fun j => by rw [Addr.add_lit, Nat.zero_add]
  exact ⟨vo, vn, by rw [e]; exact c rfl, by rw [e]; exact c rfl, by rw [e]; exact c rfl, h1, h2⟩
theorem four_lits (w : World) (o0 o1 o2 o3 : Obj) : let X := (((w.alloc o0).alloc o1).alloc o2).alloc o3
    X.heap[w.heap.size]? = some o0 ∧ X.heap[w.heap.size + 1]? = some o1 ∧ X.heap[w.heap.size + 1 + 1]? = some o2 ∧ X.heap[w.heap.size + 1 + 1 + 1]? = some o3 ∧ Below w.heap.size w X := by
  have s0 : (w.alloc o0).heap.size = w.heap.size + 1 := by simp
  have s1 : ((w.alloc o0).alloc o1).heap.size = w.heap.size + 1 + 1 := by simp
  have s2 : (((w.alloc o0).alloc o1).alloc o2).heap.size = w.heap.size + 1 + 1 + 1 := by simp
  intro X
  refine ⟨?_, ?_, ?_, ?_, (((((Below.refl _ w).alloc (Nat.le_refl _) o0).alloc (by omega) o1).alloc (by omega) o2).alloc (by omega) o3)⟩
  · show ((((w.alloc o0).alloc o1).alloc o2).alloc o3).heap[_]? = _
    rw [Below.heap_alloc _ _ _ (by omega), Below.heap_alloc _ _ _ (by omega), Below.heap_alloc _ _ _ (by omega), heap_alloc_new]
  · show ((((w.alloc o0).alloc o1).alloc o2).alloc o3).heap[_]? = _
    rw [Below.heap_alloc _ _ _ (by omega), Below.heap_alloc _ _ _ (by omega), ← s0, heap_alloc_new]
  · show ((((w.alloc o0).alloc o1).alloc o2).alloc o3).heap[_]? = _
    rw [Below.heap_alloc _ _ _ (by omega), ← s1, heap_alloc_new]
  · show ((((w.alloc o0).alloc o1).alloc o2).alloc o3).heap[_]? = _
    rw [← s2, heap_alloc_new]
theorem one_few {k : Int} {old new : List (List UInt8)} (h1 : old.length ≤ 1000000) (h2 : new.length ≤ 1000000) : hkFew [(k, old, new)] := fun h hh => by
  rcases List.mem_singleton.1 hh with rfl
  exact ⟨h1, h2⟩

section
set_option maxRecDepth 100000
set_option maxHeartbeats 2000000
theorem awake_any (w : World) : Calls Try.prog 9 #[] w fun e w' => e = .returned (.bool true) ∧ Below w.heap.size w w' := by
  obtain ⟨f0, f1, f2, f3, fb⟩ := four_lits w (.cells #[.string ⟨#[97]⟩, .string ⟨#[98]⟩] 9) (.cells #[.string ⟨#[98]⟩] 9) (.cells #[.string ⟨#[99]⟩] 9) (.cells #[.int .i64 1, .slice (some ⟨w.heap.size + 1, 0, none⟩) 1 1, .slice (some ⟨w.heap.size + 1 + 1, 0, none⟩) 1 1] 36)
  have HB := hid fb
  have HD := hid (DApply_any _ _ [[97], [98]] [(1, [[98]], [[99]])] _ (litS [[97], [98]] f0) (litH f3 (litS [[98]] f1) (litS [[99]] f2)) (one_few (by simp) (by simp)) (by simp) (by simp))
  rw [show applyS [[97], [98]] [((1 : Int), [[98]], [[99]])] = (([[97], [99]] : List (List UInt8)), (0 : Int)) by decide] at HD
  clear f0 f1 f2 f3 fb
  go_enter Try.func9, Try.ntmps9
  go_wp2_with fail
  refine HD.out.mono ?_
  rintro e w4 ⟨u, rfl, hu, hb4⟩
  have hb5 := below_step HB.out hb4 HB.out.size
  obtain ⟨ao, cap, rfl⟩ := hu.form
  have HP := hid (SPlain_any _ _ [[97], [99]] [[97], [99]] (w4.alloc (.cells #[.string ⟨#[97]⟩, .string ⟨#[99]⟩] 9)) (hu.alloc _) (litS [[97], [99]] (heap_alloc_new w4 _)) (by unfold maxLen; simp))
  clear hu HD hb4
  go_wp2_with fail
  refine HP.out.mono ?_
  rintro e w6 ⟨rfl, q6, rfl⟩
  go_wp2_with fail
  go_ret
  exact ⟨by simp, (hb5.alloc hb5.size _).trans ⟨rfl, rfl, rfl, Nat.le_refl _, fun _ _ => rfl⟩⟩
end
end Go.Proofs.Ytbcmecclaofmgaa
