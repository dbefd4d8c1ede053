/-
  Package digest: Less by plain lists; the statements' first line (awake) answers true.
-/
import Derived.Test.YtaaeciiehoedhaaDoorDigE
namespace Go.Proofs.YtaaeciiehoedhaaDoor
open Go.RowKit

/-- Byte by byte, the first one first. -/
def lessK : List UInt8 → List UInt8 → Bool
  | a :: l, b :: m => if a = b then lessK l m else decide (a.toNat < b.toNat)
  | _, _ => false
theorem lessK_same (l : List UInt8) : lessK l l = false := by
  induction l with
  | nil => rfl
  | cons a l ih => simp [lessK, ih]
theorem lessK_at {a b : List UInt8} {j : Nat} (h : a.take j = b.take j) {x y : UInt8} (hx : a[j]? = some x) (hy : b[j]? = some y) (hne : x ≠ y) : lessK a b = decide (x.toNat < y.toNat) := by
  induction j generalizing a b with
  | zero =>
    match a, b, hx, hy with
    | _ :: _, _ :: _, hx, hy =>
      simp at hx hy
      subst hx hy
      simp [lessK, hne]
  | succ j ih =>
    match a, b, hx, hy with
    | c :: l, d :: m, hx, hy =>
      simp at hx hy h
      rw [lessK, if_pos h.1]
      exact ih h.2 hx hy

set_option maxRecDepth 100000 in
set_option maxHeartbeats 1000000 in
theorem Less_any (a b : List UInt8) (ha : a.length = 32) (hb : b.length = 32) (w : World) :
    Calls Tryd.prog 11 #[keyV a, keyV b] w fun e w' => e = .returned (.bool (lessK a b)) ∧ Below w.heap.size w w' := by
  have hb2 : Below w.heap.size w ((w.alloc (.cells (Lib.byteCells a).toArray 24)).alloc (.cells (Lib.byteCells b).toArray 24)) := ((Below.refl _ _).alloc (Nat.le_refl _) _).alloc (by simp) _
  have hg0 := heap_alloc2_old w (.cells (Lib.byteCells a).toArray 24) (.cells (Lib.byteCells b).toArray 24)
  have hg1 := heap_alloc2_new w (.cells (Lib.byteCells a).toArray 24) (.cells (Lib.byteCells b).toArray 24)
  unfold keyV
  go_enter Tryd.func11, Tryd.ntmps11
  go_wp2
  go_loopw [6] (fun i wr => ∃ j : Nat, j ≤ 32 ∧ i = .int .i64 (j : Int) ∧ a.take j = b.take j ∧ Calm ((w.alloc (.cells (Lib.byteCells a).toArray 24)).alloc (.cells (Lib.byteCells b).toArray 24)) wr) (fun i _ => 32 - (intOf i).toNat)
  case atStart => exact ⟨0, by omega, rfl, rfl, Calm.refl _⟩
  case round =>
    obtain ⟨j, hj, rfl, heq, hcalm⟩ := hrel
    have hbw : Below w.heap.size w wr := hb2.trans ⟨hcalm.os, hcalm.tape, hcalm.output, by rw [hcalm.heap]; exact Nat.le_refl _, fun _ _ => by rw [hcalm.heap]⟩
    by_cases hlt : j < 32
    · obtain ⟨x, hx⟩ : ∃ x, a[j]? = some x := ⟨_, List.getElem?_eq_getElem (by omega)⟩
      obtain ⟨y, hy⟩ : ∃ y, b[j]? = some y := ⟨_, List.getElem?_eq_getElem (by omega)⟩
      have c0 := hcalm.cell (blk8_at hg0 hx)
      have c1 := hcalm.cell (blk8_at hg1 hy)
      have i1 : (j : Int) < 32 := by omega
      have i0' : (0 : Int) ≤ (j : Int) := Int.natCast_nonneg _
      by_cases hxy : x = y
      · subst hxy
        have hne : (((x.toNat : Nat) : Int) != ((x.toNat : Nat) : Int)) = false := by simp
        have HT := hid (show a.take (j + 1) = b.take (j + 1) by rw [take_snoc hx, take_snoc hy, heq])
        clear hx hy heq
        go_wp2
        go_region
        go_wp2
        exact ⟨⟨j + 1, by omega, by go_num, HT.out, hcalm.drew⟩, by simp [intOf]; omega⟩
      · have hne : (((x.toNat : Nat) : Int) != ((y.toNat : Nat) : Int)) = true := by
          simp
          intro h
          exact hxy (UInt8.toNat_inj.1 (by omega))
        have HL := hid (lessK_at heq hx hy hxy)
        clear hx hy heq hxy
        go_wp2
        go_region
        go_wp2
        go_region
        go_wp2
        go_ret
        rw [HL.out]
        exact ⟨by simp, hbw.drew.drew⟩
    · obtain rfl : j = 32 := by omega
      rw [List.take_of_length_le (by omega), List.take_of_length_le (by omega)] at heq
      subst heq
      have HL := hid (lessK_same a)
      rw [show ((32 : Nat) : Int) = 32 from rfl]
      clear hj hlt
      go_wp2
      go_ret
      rw [HL.out]
      exact ⟨rfl, hbw⟩

namespace Sha
theorem nil_a : (sha one []).a = 3820012610 := by decide +kernel
theorem nil_b : (sha one []).b = 2566659092 := by decide +kernel
theorem nil_c : (sha one []).c = 2600203464 := by decide +kernel
theorem nil_d : (sha one []).d = 2574235940 := by decide +kernel
theorem nil_e : (sha one []).e = 665731556 := by decide +kernel
theorem nil_f : (sha one []).f = 1687917388 := by decide +kernel
theorem nil_g : (sha one []).g = 2761267483 := by decide +kernel
theorem nil_h : (sha one []).h = 2018687061 := by decide +kernel
theorem st_of {s : St UInt32} {a b c d e f g h : Nat} (ha : RU s.a a) (hb : RU s.b b) (hc : RU s.c c) (hd : RU s.d d) (he : RU s.e e) (hf : RU s.f f) (hg : RU s.g g) (hh : RU s.h h) :
    s = ⟨UInt32.ofNat a, UInt32.ofNat b, UInt32.ofNat c, UInt32.ofNat d, UInt32.ofNat e, UInt32.ofNat f, UInt32.ofNat g, UInt32.ofNat h⟩ := by
  cases s
  cases ha; cases hb; cases hc; cases hd; cases he; cases hf; cases hg; cases hh
  simp
theorem nil_st : sha u32 [] = ⟨UInt32.ofNat 3820012610, UInt32.ofNat 2566659092, UInt32.ofNat 2600203464, UInt32.ofNat 2574235940, UInt32.ofNat 665731556, UInt32.ofNat 1687917388, UInt32.ofNat 2761267483, UInt32.ofNat 2018687061⟩ := by
  have h := sum_nat []
  rw [List.map_nil, List.map_nil] at h
  exact st_of (nil_a ▸ h.a) (nil_b ▸ h.b) (nil_c ▸ h.c) (nil_d ▸ h.d) (nil_e ▸ h.e) (nil_f ▸ h.f) (nil_g ▸ h.g) (nil_h ▸ h.h)
theorem nil_hex : hex (sum []) = [101, 51, 98, 48, 99, 52, 52, 50, 57, 56, 102, 99, 49, 99, 49, 52, 57, 97, 102, 98, 102, 52, 99, 56, 57, 57, 54, 102, 98, 57, 50, 52, 50, 55, 97, 101, 52, 49, 101, 52, 54, 52, 57, 98, 57, 51, 52, 99, 97, 52, 57, 53, 57, 57, 49, 98, 55, 56, 53, 50, 98, 56, 53, 53] := by
  unfold sum
  rw [List.map_nil, nil_st]
  decide +kernel
end Sha

set_option maxRecDepth 100000 in
set_option maxHeartbeats 1000000 in
theorem awake_any (w : World) (ht : Tab w) :
    Calls Tryd.prog 5 #[] w fun e w' => e = .returned (.bool true) ∧ Below w.heap.size w w' := by
  go_enter Tryd.func5, Tryd.ntmps5
  go_wp2_with fail
  refine (Sum_any (.slice none 0 0) [] (by decide) w (Sl.nil w) ht).mono ?_
  rintro e w1 ⟨rfl, hb1⟩
  have hz1 := hb1.size
  go_wp2_with fail
  refine (Hex_any (Sha.sum []) (Sha.sum_length _) w1).mono ?_
  rw [Sha.nil_hex]
  rintro e w2 ⟨rfl, hb2⟩
  have hb := below_step hb1 hb2 hz1
  go_wp2
  go_ret
  exact ⟨rfl, hb⟩
end Go.Proofs.YtaaeciiehoedhaaDoor
