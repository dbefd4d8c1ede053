/-
  What statements share (rickhelp), at strings: a copy with spare room (Own), whether it is as it was (Kept), two lists held against each other (Plain, Same).
-/
import Derived.Test.YtifdgpfhpedmeaaDoorBase
import Derived.Test.YtifdgpfhpedmeaaDoorLaw3
import Derived.Deep.QuietTactic
import Derived.BigQuiet
import Derived.Deep.RegionHeld3
import Derived.Deep.DrawnRows
namespace Go.Proofs.YtifdgpfhpedmeaaDoor
open Go.RowKit

section
set_option maxHeartbeats 1000000
set_option maxRecDepth 100000

/-- A string of these bytes. -/
def strV (l : List UInt8) : Value := .string ⟨l.toArray⟩
/-- Strings, as a slice's cells. -/
def strCells (l : List (List UInt8)) : List Value := l.map strV
theorem strCells_length (l : List (List UInt8)) : (strCells l).length = l.length := by simp [strCells]
theorem strCells_append (l m : List (List UInt8)) : strCells (l ++ m) = strCells l ++ strCells m := by simp [strCells]
theorem str_one (l : List (List UInt8)) : ∀ v ∈ strCells l, v.oneCell' = true := by
  intro v hv
  obtain ⟨b, _, rfl⟩ := List.mem_map.1 hv
  rfl
/-- A string, read: the text behind a name. -/
theorem Sl.strAt' {w : World} {ao : Option Addr} {n cap : Nat} {l : List (List UInt8)} (h : Sl w (.slice ao n cap) (strCells l)) {i : Nat} (hi : i < l.length) :
    ∃ a b, ao = some a ∧ w.cell? (a.add i) = some (.string ⟨List.toArray b⟩) ∧ l[i]? = some b := Sl.elemAt' (f := strV) h hi
theorem Tryd.infoStr : (Tryd.prog.info? 9).map (fun i => (i.zero, i.size, i.bytes)) = some (some (strV []), 1, 16) := by kernel_rfl

theorem seq1_any (x y : List UInt8) (w : World) : Calls Tryd.prog 18 #[strV x, strV y] w fun e w' => e = .returned (.bool (x == y)) ∧ w = w' := by
  unfold strV
  go_enter Tryd.func18, Tryd.ntmps18
  go_wp2
  go_ret
  exact ⟨rfl, rfl⟩

theorem SSame_at (a b : Value) (x y : List (List UInt8)) (w : World) (ha : Sl w a (strCells x)) (hb : Sl w b (strCells y)) (hx : x.length ≤ maxLen) :
    Calls Tryd.prog 17 #[a, b, .func (Fn.func 18) #[] #[]] w fun e w' => e = .returned (.bool (x == y)) ∧ ∃ k, w' = w.drewN k := by
  obtain ⟨aa, ca, rfl⟩ := ha.form
  obtain ⟨ab, cb, rfl⟩ := hb.form
  rw [strCells_length] at ha hb ⊢
  rw [strCells_length]
  unfold maxLen at hx
  by_cases hl : x.length = y.length
  · have hne : (x.length != y.length) = false := by simp [hl]
    have hne' : ((x.length : Int) != (y.length : Int)) = false := by simp [hl]
    have HL := hid hl
    clear hl
    go_enter Tryd.func17, Tryd.ntmps17
    go_wp2
    go_loopw [7] (fun i wr => ∃ k : Nat, k ≤ x.length ∧ i = .int .i64 k ∧ x.take k = y.take k ∧ ∃ q, wr = w.drewN q) (fun i _ => x.length - (intOf i).toNat)
    case atStart => exact ⟨0, Nat.zero_le _, rfl, rfl, 0, rfl⟩
    case round =>
      obtain ⟨k, hk, rfl, heq, q, rfl⟩ := hrel
      by_cases hlt : k < x.length
      · obtain ⟨a1, b1, rfl, hc1, hb1⟩ := ha.strAt' (i := k) hlt
        obtain ⟨a2, b2, rfl, hc2, hb2⟩ := hb.strAt' (i := k) (by rw [← HL.out]; exact hlt)
        have hlt2 : k < y.length := by rw [← HL.out]; exact hlt
        have i0 : (0 : Int) ≤ (k : Int) := Int.natCast_nonneg _
        have i1 : (k : Int) < (x.length : Int) := by omega
        have i2 : (k : Int) < (y.length : Int) := by omega
        by_cases he : b1 = b2
        · subst he
          have hbe : (b1 == b1) = true := by simp
          have HEQ := hid (show x.take (k + 1) = y.take (k + 1) by rw [take_snoc hb1, take_snoc hb2, heq])
          clear hb1 hb2 heq
          go_wp2_with fail
          go_region_held3 (fun wy => wy.cell? (a1.add k) = some (.string ⟨b1.toArray⟩) ∧ wy.cell? (a2.add k) = some (.string ⟨b1.toArray⟩)) (go_keep) ((go_at_call 18; refine (seq1_any _ _ _).mono ?_; rintro e w7 ⟨rfl, rfl⟩))
          go_wp2
          go_roundw
          case rel => exact ⟨k + 1, by omega, by go_num, HEQ.out, q + 1, rfl⟩
          case measure => simp [intOf]; omega
        · have hbe : (b1 == b2) = false := by simpa using he
          have hxy := hid (show (x == y) = false by
            simp
            rintro rfl
            rw [hb1] at hb2
            exact he (by simpa using hb2))
          clear hb1 hb2 heq he
          go_wp2_with fail
          go_region_held3 (fun wy => wy.cell? (a1.add k) = some (.string ⟨b1.toArray⟩) ∧ wy.cell? (a2.add k) = some (.string ⟨b2.toArray⟩)) (go_keep) ((go_at_call 18; refine (seq1_any _ _ _).mono ?_; rintro e w7 ⟨rfl, rfl⟩))
          go_wp2
          go_ret
          rw [hxy.out]
          exact ⟨rfl, q + 1, rfl⟩
      · obtain rfl : k = x.length := by omega
        have hxy := hid (show (x == y) = true by
          rw [List.take_length, HL.out, List.take_length] at heq
          simpa using heq)
        clear heq
        go_wp2
        go_ret
        rw [hxy.out]
        exact ⟨rfl, q, rfl⟩
  · have hne : (x.length != y.length) = true := by simpa using hl
    have hne' : ((x.length : Int) != (y.length : Int)) = true := by simp; omega
    have hxy := hid (show (x == y) = false by
      simp
      rintro rfl
      exact hl rfl)
    clear hl
    go_enter Tryd.func17, Tryd.ntmps17
    go_wp2
    go_ret
    rw [hxy.out]
    exact ⟨rfl, 0, rfl⟩

theorem SPlain_any (a b : Value) (x y : List (List UInt8)) (w : World) (ha : Sl w a (strCells x)) (hb : Sl w b (strCells y)) (hx : x.length ≤ maxLen) :
    Calls Tryd.prog 8 #[a, b] w fun e w' => e = .returned (.bool (x == y)) ∧ ∃ k, w' = w.drewN k := by
  go_enter Tryd.func8, Tryd.ntmps8
  go_wp2_with fail
  refine (SSame_at a b x y w ha hb hx).mono ?_
  rintro e w' ⟨rfl, k, rfl⟩
  go_wp2
  go_ret
  exact ⟨rfl, k, rfl⟩

/-- A copy with three places of spare room, each of which holds f. -/
structure OwnCopyS (w : World) (g : Nat) (bs : List (List UInt8)) (f : List UInt8) : Prop where
  block : w.heap[g]? = some (.cells (strCells (bs ++ [f, f, f])).toArray 9 (0, 0))




end
end Go.Proofs.YtifdgpfhpedmeaaDoor
