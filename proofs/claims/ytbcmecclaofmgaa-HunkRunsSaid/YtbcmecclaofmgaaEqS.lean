/-
  slices.Equal and slices.Clone, at lists of texts.
-/
import Derived.Test.YtbcmecclaofmgaaHkI
import Derived.Deep.RegionHeld3
import Derived.Deep.AppendLies
import Derived.Deep.DrawnRows
namespace Go.Proofs.Ytbcmecclaofmgaa
open Go.RowKit

theorem Fresh.ofOwns {w0 w : World} {v : Value} {xs : List (List UInt8)} (h : w.ownsRow w0.heap.size 9 1 v xs.length (strCells xs)) : Fresh w0 w v xs := by
  refine ⟨Sl.ofOwns h, fun b n c e => ?_, ?_⟩
  · rcases h.2 with ⟨rfl, _⟩ | ⟨g, cap, cur, rfl, r1, r2, r3⟩
    · cases e
    · cases e
      exact ⟨r1, lt_of_block r2⟩
  · obtain ⟨ao, cap, rfl⟩ := owns_form h
    rfl
section
set_option maxRecDepth 100000
set_option maxHeartbeats 2000000
/-- slices.Clone, of a slice that can be read. -/
theorem SClone_any (v : Value) (bs : List (List UInt8)) (w : World) (hv : Sl w v (strCells bs)) (hlen : bs.length ≤ 4000000000) :
    Calls Try.prog 33 #[v] w fun e w' => ∃ v', e = .returned v' ∧ Fresh w w' v' bs ∧ Below w.heap.size w w' := by
  obtain ⟨ao, cap, rfl, hn, hcap, hc⟩ := hv
  obtain ⟨i0, hi0, hz0, hz1, hz2⟩ := info_parts Try.infoStr
  have hbl : (strCells bs).length = bs.length := strCells_length bs
  cases ao with
  | none =>
    have hb : strCells bs = [] := hn rfl
    have hb' : bs = [] := by simpa [strCells] using hb
    subst hb'
    show Calls Try.prog 33 #[.slice none 0 cap] w _
    have he := fun wx => Lib.run_eql_slice_nil (P := Try.prog) wx 23 9 none 0 cap 0 0 Try.underlying23
    go_enter Try.func33, Try.ntmps33
    go_wp2
    go_ret
    exact ⟨_, rfl, Fresh.ofOwns (World.ownsRow_nil _ _ _ _), Below.refl _ _⟩
  | some a =>
    have hv : Sl w (.slice (some a) (strCells bs).length cap) (strCells bs) := ⟨some a, cap, rfl, hn, hcap, hc⟩
    have he := fun wx => Lib.run_eql_slice_nil (P := Try.prog) wx 23 9 (some a) (strCells bs).length cap 0 0 Try.underlying23
    have hbs := run_buildSlice_none (P := Try.prog) w 23 9 Try.underlying23 hi0
    have H := hid hbl
    have h63 : 0 + (strCells bs).length ≤ maxLen := by unfold maxLen; omega
    have h47 : (0 + (strCells bs).length) * 16 ≤ 140737488355328 := by omega
    clear hbl hlen hc hn hcap
    go_enter Try.func33, Try.ntmps33
    go_wp2_with (refine wpList_append_any _ rfl _ _ _ _ rfl w.heap.size 9 i0 _ 1 16 Try.underlying23 hi0 hz0 hz1 hz2 rfl (by omega) (.slice (some ⟨w.heap.size, 0, none⟩) 0 0) 0 [] rfl (World.ownsRow_made w #[] 0 (Nat.le_refl _) (by unfold maxLen; omega) rfl) _ _ _ rfl ((hv.alloc _).src Try.underlying23 (str_one bs)) h63 h47 (by simp) ?_; intro v1 w1 hown hgrow hat; have hbel := ((Below.refl w.heap.size w).alloc (Nat.le_refl _) (.cells #[] 9)).grown hgrow (by simp) (by simp [Value.ownBlock]))
    go_ret
    rw [Nat.zero_add, List.nil_append, H.out] at hown
    exact ⟨v1, rfl, Fresh.ofOwns hown, hbel⟩
theorem SEqual_any (a b : Value) (x y : List (List UInt8)) (w : World) (ha : Sl w a (strCells x)) (hb : Sl w b (strCells y)) (hx : x.length ≤ maxLen) :
    Calls Try.prog 36 #[a, b] w fun e w' => e = .returned (.bool (x == y)) ∧ ∃ m, w' = w.drewN m := by
  obtain ⟨aa, ca, rfl⟩ := ha.form
  obtain ⟨ab, cb, rfl⟩ := hb.form
  rw [strCells_length] at ha hb ⊢
  rw [strCells_length]
  unfold maxLen at hx
  by_cases hl : x.length = y.length
  · have hne : (x.length != y.length) = false := by simp [hl]
    have hne' : ((x.length : Int) != (y.length : Int)) = false := by simp [hl]
    have HL := hid hl
    clear hl
    go_enter Try.func36, Try.ntmps36
    go_wp2
    go_loopw [13] (fun i wr => ∃ k : Nat, k ≤ x.length ∧ i = .int .i64 k ∧ x.take k = y.take k ∧ ∃ q, wr = w.drewN q) (fun i _ => x.length - (intOf i).toNat)
    case atStart => exact ⟨0, Nat.zero_le _, rfl, rfl, 0, rfl⟩
    case round =>
      obtain ⟨k, hk, rfl, heq, q, rfl⟩ := hrel
      by_cases hlt : k < x.length
      · obtain ⟨a1, b1, rfl, hc1, hb1⟩ := ha.strAt' (i := k) hlt
        obtain ⟨a2, b2, rfl, hc2, hb2⟩ := hb.strAt' (i := k) (by rw [← HL.out]; exact hlt)
        have hlt2 : k < y.length := by rw [← HL.out]; exact hlt
        have i0 : (0 : Int) ≤ (k : Int) := Int.natCast_nonneg _
        have i1 : (k : Int) < (x.length : Int) := by omega
        have i2 : (k : Int) < (y.length : Int) := by omega
        by_cases he : b1 = b2
        · subst he
          have hbe : (b1 == b1) = true := by simp
          have HEQ := hid (show x.take (k + 1) = y.take (k + 1) by rw [take_snoc hb1, take_snoc hb2, heq])
          clear hb1 hb2 heq
          go_wp2_with fail
          go_quiet (fail)
          go_wp2
          go_roundw
          case rel => exact ⟨k + 1, by omega, by go_num, HEQ.out, _, rfl⟩
          case measure => simp [intOf]; omega
        · have hbe : (b1 == b2) = false := by simpa using he
          have hxy := hid (show (x == y) = false by
            simp
            rintro rfl
            rw [hb1] at hb2
            exact he (by simpa using hb2))
          clear hb1 hb2 heq he
          go_wp2_with fail
          go_quiet (fail)
          go_wp2
          go_ret
          rw [hxy.out]
          exact ⟨rfl, _, World.drewN_drewN _ _ _⟩
      · obtain rfl : k = x.length := by omega
        have hxy := hid (show (x == y) = true by
          rw [List.take_length, HL.out, List.take_length] at heq
          simpa using heq)
        clear heq
        go_wp2
        go_ret
        rw [hxy.out]
        exact ⟨rfl, _, rfl⟩
  · have hne : (x.length != y.length) = true := by simpa using hl
    have hne' : ((x.length : Int) != (y.length : Int)) = true := by simp; omega
    have hxy := hid (show (x == y) = false by
      simp
      rintro rfl
      exact hl rfl)
    clear hl
    go_enter Try.func36, Try.ntmps36
    go_wp2
    go_ret
    rw [hxy.out]
    exact ⟨rfl, 0, rfl⟩

end
end Go.Proofs.Ytbcmecclaofmgaa
