/-
  Package diff's statements: awake.
-/
import Derived.Test.YtiieomikpcjihaaPdfD
namespace Go.Proofs.Ytiieomikpcjihaa
open Go.RowKit

theorem Sl.litS {w : World} {b : Nat} {t : TypeId} {fr : Nat × Nat} (l : List (List UInt8)) (h : w.heap[b]? = some (.cells (strCells l).toArray t fr)) : Sl w (.slice (some ⟨b, 0, none⟩) l.length l.length) (strCells l) := by
  have := Sl.ofBlock h
  simpa [strCells_length] using this
theorem SlE.lit {w : World} {b : Nat} {t : TypeId} {fr : Nat × Nat} (es : List (Int × List UInt8)) (h : w.heap[b]? = some (.cells (edFlat es).toArray t fr)) : SlE w (.slice (some ⟨b, 0, none⟩) es.length es.length) es := by
  refine ⟨some ⟨b, 0, none⟩, es.length, rfl, (fun h => by cases h), Nat.le_refl _, fun a ha i x hx => ?_⟩
  cases ha
  obtain ⟨h1, h2⟩ := edFlat_at es i x hx
  exact ⟨World.news_of_block h _ _ (by simpa using h1), World.news_of_block h _ _ (by simpa using h2)⟩

section
set_option maxRecDepth 100000
set_option maxHeartbeats 2000000
theorem awake_any (w : World) :
    Calls Try.prog 9 #[] w fun e w' => e = .returned (.bool true) ∧ Below w.heap.size w w' := by
  go_enter Try.func9, Try.ntmps9
  have sc : scriptS ([[97], [98]] : List (List UInt8)) [[98], [99]] = [(2, [97]), (1, [98]), (3, [99])] := by decide
  have lc : lcs ([[97]] : List (List UInt8)) [[97]] = 1 := by decide
  have s1 : Sl ((w.alloc (.cells #[.string ⟨#[97]⟩, .string ⟨#[98]⟩] 9)).alloc (.cells #[.string ⟨#[98]⟩, .string ⟨#[99]⟩] 9)) (.slice (some ⟨w.heap.size, 0, none⟩) 2 2) (strCells [[97], [98]]) := Sl.litS [[97], [98]] (heap_alloc2_old w _ _)
  have s2 : Sl ((w.alloc (.cells #[.string ⟨#[97]⟩, .string ⟨#[98]⟩] 9)).alloc (.cells #[.string ⟨#[98]⟩, .string ⟨#[99]⟩] 9)) (.slice (some ⟨w.heap.size + 1, 0, none⟩) 2 2) (strCells [[98], [99]]) := Sl.litS [[98], [99]] (heap_alloc2_new w _ _)
  have b2 : Below w.heap.size w ((w.alloc (.cells #[.string ⟨#[97]⟩, .string ⟨#[98]⟩] 9)).alloc (.cells #[.string ⟨#[98]⟩, .string ⟨#[99]⟩] 9)) := ((Below.refl _ _).alloc (Nat.le_refl _) _).alloc (by simp) _
  have HSC := hid sc
  have HLC := hid lc
  clear sc lc
  go_wp2_with fail
  generalize (w.alloc (.cells #[.string ⟨#[97]⟩, .string ⟨#[98]⟩] 9)).alloc (.cells #[.string ⟨#[98]⟩, .string ⟨#[99]⟩] 9) = w2 at s1 s2 b2 ⊢
  have hD := DScript_any _ _ _ _ w2 s1 s2 (by decide) (by decide)
  rw [HSC.out] at hD
  refine hD.mono ?_
  rintro e w3 ⟨l, rfl, hO, hb3⟩
  have hbw3 := below_step b2 hb3 b2.size
  have hS := hO.slE
  obtain ⟨ao, cap, hf⟩ := hS.form
  subst hf
  have hS2 := SlE.old hS ((Below.refl _ w3).alloc (Nat.le_refl _) (.cells #[.int .i64 2, .string ⟨#[97]⟩, .int .i64 1, .string ⟨#[98]⟩, .int .i64 3, .string ⟨#[99]⟩] 29))
  have s3 : SlE (w3.alloc (.cells #[.int .i64 2, .string ⟨#[97]⟩, .int .i64 1, .string ⟨#[98]⟩, .int .i64 3, .string ⟨#[99]⟩] 29)) (.slice (some ⟨w3.heap.size, 0, none⟩) 3 3) [(2, [97]), (1, [98]), (3, [99])] := SlE.lit [(2, [97]), (1, [98]), (3, [99])] (heap_alloc_new w3 _)
  have b4 := hbw3.alloc hbw3.size (.cells #[.int .i64 2, .string ⟨#[97]⟩, .int .i64 1, .string ⟨#[98]⟩, .int .i64 3, .string ⟨#[99]⟩] 29)
  clear hO hb3 hS hD s1 s2
  go_wp2_with fail
  generalize w3.alloc (.cells #[.int .i64 2, .string ⟨#[97]⟩, .int .i64 1, .string ⟨#[98]⟩, .int .i64 3, .string ⟨#[99]⟩] 29) = w4 at hS2 s3 b4 ⊢
  refine (EPlain_any _ _ _ _ w4 hS2 s3 (by unfold maxLen; decide)).mono ?_
  rw [show (([(2, [97]), (1, [98]), (3, [99])] : List (Int × List UInt8)) == [(2, [97]), (1, [98]), (3, [99])]) = true from by decide]
  rintro e w5 ⟨rfl, hb5⟩
  have hbw5 := below_step b4 hb5 b4.size
  have hz5 := hbw5.size
  have s5 : Sl ((w5.alloc (.cells #[.string ⟨#[97]⟩] 9)).alloc (.cells #[.string ⟨#[97]⟩] 9)) (.slice (some ⟨w5.heap.size, 0, none⟩) 1 1) (strCells [[97]]) := Sl.litS [[97]] (heap_alloc2_old w5 _ _)
  have s6 : Sl ((w5.alloc (.cells #[.string ⟨#[97]⟩] 9)).alloc (.cells #[.string ⟨#[97]⟩] 9)) (.slice (some ⟨w5.heap.size + 1, 0, none⟩) 1 1) (strCells [[97]]) := Sl.litS [[97]] (heap_alloc2_new w5 _ _)
  have b6 : Below w.heap.size w ((w5.alloc (.cells #[.string ⟨#[97]⟩] 9)).alloc (.cells #[.string ⟨#[97]⟩] 9)) := (hbw5.alloc hz5 _).alloc (by simp; omega) _
  clear hS2 s3 hb5
  go_wp2_with fail
  generalize (w5.alloc (.cells #[.string ⟨#[97]⟩] 9)).alloc (.cells #[.string ⟨#[97]⟩] 9) = w6 at s5 s6 b6 ⊢
  have hC := DCommon_any _ _ _ _ w6 s5 s6 (by decide) (by decide)
  rw [HLC.out] at hC
  refine hC.mono ?_
  rintro e w7 ⟨rfl, hb7⟩
  go_wp2
  go_ret
  exact ⟨rfl, below_step b6 hb7 b6.size⟩
end
end Go.Proofs.Ytiieomikpcjihaa
