/-
  rickhelp.Same at lists of texts of bytes, by rickhelp.Bytes.
-/
import Derived.Test.YtjnhgoedhggocaaDoorSlB
import Derived.Test.YtjnhgoedhggocaaDoorHBytes
import Derived.Deep.QuietTactic
import Derived.BigQuiet
import Derived.Deep.RegionHeld3
namespace Go.Proofs.YtjnhgoedhggocaaDoor
open Go.RowKit

theorem Sl.ofHeap {w wy : World} {v : Value} {cs : List Value} (h : Sl w v cs) (e : wy.heap = w.heap) : Sl wy v cs :=
  h.kept fun _ _ _ _ _ => by rw [e]

section
set_option maxHeartbeats 1000000
set_option maxRecDepth 100000
theorem HSame_any (a b : Value) (x y : List (List UInt8)) (w : World) (ha : SlB w a x) (hb : SlB w b y) (hx : x.length ≤ maxLen) :
    Calls Tryd.prog 16 #[a, b, .func (Fn.func 13) #[] #[]] w fun e w' => e = .returned (.bool (x == y)) ∧ ∃ k, w' = w.drewN k := by
  obtain ⟨aa, ca, rfl⟩ := ha.form
  obtain ⟨ab, cb, rfl⟩ := hb.form
  unfold maxLen at hx
  by_cases hl : x.length = y.length
  · have hne : (x.length != y.length) = false := by simp [hl]
    have hne' : ((x.length : Int) != (y.length : Int)) = false := by simp [hl]
    have HL := hid hl
    clear hl
    go_enter Tryd.func16, Tryd.ntmps16
    go_wp2
    go_loopw [7] (fun i wr => ∃ k : Nat, k ≤ x.length ∧ i = .int .i64 k ∧ x.take k = y.take k ∧ ∃ q, wr = w.drewN q) (fun i _ => x.length - (intOf i).toNat)
    case atStart => exact ⟨0, Nat.zero_le _, rfl, rfl, 0, rfl⟩
    case round =>
      obtain ⟨k, hk, rfl, heq, q, rfl⟩ := hrel
      by_cases hlt : k < x.length
      · obtain ⟨a1, b1, c1, t1, rfl, hc1, hb1, hs1⟩ := ha.at (i := k) hlt
        obtain ⟨a2, b2, c2, t2, rfl, hc2, hb2, hs2⟩ := hb.at (i := k) (by rw [← HL.out]; exact hlt)
        have hlt2 : k < y.length := by rw [← HL.out]; exact hlt
        have i0 : (0 : Int) ≤ (k : Int) := Int.natCast_nonneg _
        have i1 : (k : Int) < (x.length : Int) := by omega
        have i2 : (k : Int) < (y.length : Int) := by omega
        have HS1 := hid hs1
        have HS2 := hid hs2
        obtain ⟨tt, htt⟩ : ∃ tt, (t1 == t2) = tt := ⟨_, rfl⟩
        have HB := hid (show ∀ wy : World, wy.heap = w.heap → Calls Tryd.prog 13 #[.slice b1 t1.length c1, .slice b2 t2.length c2] wy fun e w' => e = .returned (.bool tt) ∧ wy = w' from fun wy e => by
          rw [← htt]
          exact HBytes_any _ _ _ _ _ (hs1.ofHeap e) (hs2.ofHeap e))
        have HT := hid htt
        have HE := hid heq
        have HB1 := hid hb1
        have HB2 := hid hb2
        clear htt heq hs1 hs2 hb1 hb2
        cases tt with
        | true =>
          go_wp2_with fail
          go_region_held3 (fun wy => wy.cell? (a1.add k) = some (.slice b1 t1.length c1) ∧ wy.cell? (a2.add k) = some (.slice b2 t2.length c2) ∧ wy.heap = w.heap) (go_keep) ((go_at_call 13; refine (HB.out _ (by simp_all)).mono ?_; rintro e w7 ⟨rfl, rfl⟩))
          go_wp2
          go_roundw
          case rel =>
            refine ⟨k + 1, by omega, by go_num, ?_, q + 1, rfl⟩
            have h12 : t1 = t2 := by simpa using HT.out
            rw [take_snoc HB1.out, take_snoc HB2.out, HE.out, h12]
          case measure => simp [intOf]; omega
        | false =>
          go_wp2_with fail
          go_region_held3 (fun wy => wy.cell? (a1.add k) = some (.slice b1 t1.length c1) ∧ wy.cell? (a2.add k) = some (.slice b2 t2.length c2) ∧ wy.heap = w.heap) (go_keep) ((go_at_call 13; refine (HB.out _ (by simp_all)).mono ?_; rintro e w7 ⟨rfl, rfl⟩))
          have hxy := hid (show (x == y) = false by
            simp
            rintro rfl
            have h12 : t1 ≠ t2 := by simpa using HT.out
            have e := HB1.out.symm.trans HB2.out
            exact h12 (by simpa using e))
          go_wp2
          go_ret
          rw [hxy.out]
          exact ⟨rfl, q + 1, rfl⟩
      · obtain rfl : k = x.length := by omega
        have hxy := hid (show (x == y) = true by
          rw [List.take_length, HL.out, List.take_length] at heq
          simpa using heq)
        clear heq
        go_wp2
        go_ret
        rw [hxy.out]
        exact ⟨rfl, q, rfl⟩
  · have hne : (x.length != y.length) = true := by simpa using hl
    have hne' : ((x.length : Int) != (y.length : Int)) = true := by simp; omega
    have hxy := hid (show (x == y) = false by
      simp
      rintro rfl
      exact hl rfl)
    clear hl
    go_enter Tryd.func16, Tryd.ntmps16
    go_wp2
    go_ret
    rw [hxy.out]
    exact ⟨rfl, 0, rfl⟩
end
end Go.Proofs.YtjnhgoedhggocaaDoor
