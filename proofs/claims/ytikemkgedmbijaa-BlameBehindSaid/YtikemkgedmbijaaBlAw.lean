/-
  awake (blame): literals.
-/
import Derived.Test.YtikemkgedmbijaaPblD
import Derived.Test.YtikemkgedmbijaaBlR
namespace Go.Proofs.Ytikemkgedmbijaa
open Go.RowKit

theorem litS {w : World} {b : Nat} {t : TypeId} {fr : Nat × Nat} (l : List (List UInt8)) (h : w.heap[b]? = some (.cells (strCells l).toArray t fr)) : Sl w (.slice (some ⟨b, 0, none⟩) l.length l.length) (strCells l) := by
  have := Sl.ofBlock h
  simpa [strCells_length] using this
theorem litI {w : World} {b : Nat} {t : TypeId} {fr : Nat × Nat} (l : List Int) (h : w.heap[b]? = some (.cells (intCells l).toArray t fr)) : Sl w (.slice (some ⟨b, 0, none⟩) l.length l.length) (intCells l) := by
  have := Sl.ofBlock h
  simpa [intCells_length] using this
theorem litLL {w : World} {b : Nat} {t : TypeId} {fr : Nat × Nat} {v0 v1 : Value} {l0 l1 : List (List UInt8)} (h : w.heap[b]? = some (.cells #[v0, v1] t fr)) (h0 : Sl w v0 (strCells l0)) (h1 : Sl w v1 (strCells l1)) : SlLL w (.slice (some ⟨b, 0, none⟩) 2 2) [l0, l1] := by
  refine ⟨some ⟨b, 0, none⟩, 2, rfl, (fun h => by cases h), Nat.le_refl _, fun a ha i x hx => ?_⟩
  cases ha
  have c : ∀ {j : Nat} {u : Value}, (#[v0, v1] : Array Value)[j]? = some u → w.cell? ((⟨b, 0, none⟩ : Addr).add j) = some u := fun {j u} hu => by
    rw [Addr.add_lit, Nat.zero_add]
    simp [World.cell?, h, hu]
  match i with
  | 0 => cases hx; exact ⟨v0, c rfl, h0⟩
  | 1 => cases hx; exact ⟨v1, c rfl, h1⟩
  | (n + 2) => simp at hx
theorem three_lits (w : World) (o0 o1 o2 : Obj) : let X := ((w.alloc o0).alloc o1).alloc o2
    X.heap[w.heap.size]? = some o0 ∧ X.heap[w.heap.size + 1]? = some o1 ∧ X.heap[w.heap.size + 1 + 1]? = some o2 ∧ Below w.heap.size w X := by
  have s0 : (w.alloc o0).heap.size = w.heap.size + 1 := by simp
  have s1 : ((w.alloc o0).alloc o1).heap.size = w.heap.size + 1 + 1 := by simp
  intro X
  refine ⟨?_, ?_, ?_, ((((Below.refl _ w).alloc (Nat.le_refl _) o0).alloc (by omega) o1).alloc (by omega) o2)⟩
  · show (((w.alloc o0).alloc o1).alloc o2).heap[_]? = _
    rw [Below.heap_alloc _ _ _ (by omega), Below.heap_alloc _ _ _ (by omega), heap_alloc_new]
  · show (((w.alloc o0).alloc o1).alloc o2).heap[_]? = _
    rw [Below.heap_alloc _ _ _ (by omega), ← s0, heap_alloc_new]
  · show (((w.alloc o0).alloc o1).alloc o2).heap[_]? = _
    rw [← s1, heap_alloc_new]
section
set_option maxRecDepth 100000
set_option maxHeartbeats 2000000
theorem awake_any (w : World) : Calls Try.prog 6 #[] w fun e w' => e = .returned (.bool true) ∧ Below w.heap.size w w' := by
  have b1 : blameS [[[97, 10]], [[97, 10], ([98, 10] : List UInt8)]] = [0, 1] := by decide
  have b2 : blameS [[[97]], [[98], ([97] : List UInt8)]] = [1, 0] := by decide
  have b3 : [[97, 10], [97, 10, 98, 10]].map linesOf = [[[97, 10]], [[97, 10], ([98, 10] : List UInt8)]] := by decide
  have HST := hid (DStack_any _ [[97, 10], [97, 10, 98, 10]] (w.alloc (.cells #[.string ⟨#[97, 10]⟩, .string ⟨#[97, 10, 98, 10]⟩] 9)) (litS [[97, 10], [97, 10, 98, 10]] (heap_alloc_new w _)) (by simp) (by simp))
  rw [b3, b1] at HST
  have HB1 := hid ((Below.refl _ w).alloc (Nat.le_refl _) (.cells #[.string ⟨#[97, 10]⟩, .string ⟨#[97, 10, 98, 10]⟩] 9))
  clear b1 b3
  go_enter Try.func6, Try.ntmps6
  go_wp2_with fail
  refine HST.out.mono ?_
  rintro e w1 ⟨u, rfl, hu, hb1⟩
  have hb2 := below_step HB1.out hb1 HB1.out.size
  obtain ⟨ao, cap, rfl⟩ := hu.form
  have HP := hid (IPlain_any _ _ [0, 1] [0, 1] (w1.alloc (.cells #[.int .i64 0, .int .i64 1] 3)) (hu.alloc _) (litI [0, 1] (heap_alloc_new w1 _)) (by unfold maxLen; simp))
  have hb3 := (hb2.alloc hb2.size (.cells #[.int .i64 0, .int .i64 1] 3))
  clear hu HST hb1 hb2 HB1
  go_wp2_with fail
  refine HP.out.mono ?_
  rintro e w3 ⟨rfl, q3, rfl⟩
  have hb4 : Below w.heap.size w ((w1.alloc (.cells #[.int .i64 0, .int .i64 1] 3)).drewN q3) := hb3.trans ⟨rfl, rfl, rfl, Nat.le_refl _, fun _ _ => rfl⟩
  generalize (w1.alloc (.cells #[.int .i64 0, .int .i64 1] 3)).drewN q3 = w4 at hb4 ⊢
  clear HP hb3
  have z4 := hb4.size
  obtain ⟨f0, f1, f2, fb⟩ := three_lits w4 (.cells #[.string ⟨#[97]⟩] 9) (.cells #[.string ⟨#[98]⟩, .string ⟨#[97]⟩] 9) (.cells #[.slice (some ⟨w4.heap.size, 0, none⟩) 1 1, .slice (some ⟨w4.heap.size + 1, 0, none⟩) 2 2] 23)
  have HL := hid (DLines_any _ [[[97]], [[98], [97]]] _ (litLL f2 (litS [[97]] f0) (litS [[98], [97]] f1)) (by simp) (by simp))
  rw [b2] at HL
  have hb5 := below_step hb4 fb z4
  have z5 := hb5.size
  have HB5 := hid (And.intro hb5 z5)
  clear f0 f1 f2 fb hb5 b2 z5
  go_wp2_with fail
  refine HL.out.mono ?_
  rintro e w6 ⟨u6, rfl, hu6, hb6⟩
  have hb7 := below_step HB5.out.1 hb6 HB5.out.2
  obtain ⟨ao6, cap6, rfl⟩ := hu6.form
  have HP := hid (IPlain_any _ _ [1, 0] [1, 0] (w6.alloc (.cells #[.int .i64 1, .int .i64 0] 3)) (hu6.alloc _) (litI [1, 0] (heap_alloc_new w6 _)) (by unfold maxLen; simp))
  have hb8 := (hb7.alloc hb7.size (.cells #[.int .i64 1, .int .i64 0] 3))
  clear hu6 HL hb6 hb7 HB5
  go_wp2_with fail
  refine HP.out.mono ?_
  rintro e w9 ⟨rfl, q9, rfl⟩
  go_wp2_with fail
  go_ret
  exact ⟨by simp, hb8.trans ⟨rfl, rfl, rfl, Nat.le_refl _, fun _ _ => rfl⟩⟩
end
end Go.Proofs.Ytikemkgedmbijaa
