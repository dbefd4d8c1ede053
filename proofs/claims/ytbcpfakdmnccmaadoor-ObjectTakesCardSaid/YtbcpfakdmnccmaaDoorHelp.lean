/-
  What statements share (rickhelp), at bytes: a copy with spare room (Own), whether it is as it was (Kept), two lists held against each other (Plain, Same).
-/
import Derived.Test.YtbcpfakdmnccmaaDoorBase
import Derived.Test.YtbcpfakdmnccmaaDoorLaw3
import Derived.Deep.QuietTactic
import Derived.BigQuiet
import Derived.Deep.RegionHeld3
import Derived.Deep.DrawnRows
namespace Go.Proofs.YtbcpfakdmnccmaaDoor
open Go.RowKit

section
set_option maxHeartbeats 1000000
set_option maxRecDepth 100000

theorem eq1_any (x y : Int) (w : World) : Calls Tryd.prog 69 #[.int .u8 x, .int .u8 y] w fun e w' => e = .returned (.bool (x == y)) ∧ w = w' := by
  go_enter Tryd.func69, Tryd.ntmps69
  go_wp2
  go_ret
  exact ⟨rfl, rfl⟩

theorem Same_at (a b : Value) (x y : List UInt8) (w : World) (ha : Sl w a (Lib.byteCells x)) (hb : Sl w b (Lib.byteCells y)) (hx : x.length ≤ maxLen) :
    Calls Tryd.prog 68 #[a, b, .func (Fn.func 69) #[] #[]] w fun e w' => e = .returned (.bool (x == y)) ∧ ∃ k, w' = w.drewN k := by
  obtain ⟨aa, ca, rfl⟩ := ha.form
  obtain ⟨ab, cb, rfl⟩ := hb.form
  rw [Lib.byteCells_length] at ha hb ⊢
  rw [Lib.byteCells_length]
  unfold maxLen at hx
  by_cases hl : x.length = y.length
  · have hne : (x.length != y.length) = false := by simp [hl]
    have hne' : ((x.length : Int) != (y.length : Int)) = false := by simp [hl]
    have HL := hid hl
    clear hl
    go_enter Tryd.func68, Tryd.ntmps68
    go_wp2
    go_loopw [7] (fun i wr => ∃ k : Nat, k ≤ x.length ∧ i = .int .i64 k ∧ x.take k = y.take k ∧ ∃ q, wr = w.drewN q) (fun i _ => x.length - (intOf i).toNat)
    case atStart => exact ⟨0, Nat.zero_le _, rfl, rfl, 0, rfl⟩
    case round =>
      obtain ⟨k, hk, rfl, heq, q, rfl⟩ := hrel
      by_cases hlt : k < x.length
      · obtain ⟨a1, b1, rfl, hc1, hb1⟩ := ha.byteAt' (i := k) hlt
        obtain ⟨a2, b2, rfl, hc2, hb2⟩ := hb.byteAt' (i := k) (by rw [← HL.out]; exact hlt)
        have hlt2 : k < y.length := by rw [← HL.out]; exact hlt
        have i0 : (0 : Int) ≤ (k : Int) := Int.natCast_nonneg _
        have i1 : (k : Int) < (x.length : Int) := by omega
        have i2 : (k : Int) < (y.length : Int) := by omega
        by_cases he : b1 = b2
        · subst he
          have hbe : (((b1.toNat : Nat) : Int) == ((b1.toNat : Nat) : Int)) = true := by simp
          have HEQ := hid (show x.take (k + 1) = y.take (k + 1) by rw [take_snoc hb1, take_snoc hb2, heq])
          clear hb1 hb2 heq
          go_wp2_with fail
          go_region_held3 (fun wy => wy.cell? (a1.add k) = some (.int .u8 ((b1.toNat : Nat) : Int)) ∧ wy.cell? (a2.add k) = some (.int .u8 ((b1.toNat : Nat) : Int))) (go_keep) ((go_at_call 69; refine (eq1_any _ _ _).mono ?_; rintro e w7 ⟨rfl, rfl⟩))
          go_wp2
          go_roundw
          case rel => exact ⟨k + 1, by omega, by go_num, HEQ.out, q + 1, rfl⟩
          case measure => simp [intOf]; omega
        · have hbe : (((b1.toNat : Nat) : Int) == ((b2.toNat : Nat) : Int)) = false := by
            simp
            intro h
            exact he (UInt8.toNat_inj.1 (by omega))
          have hxy := hid (show (x == y) = false by
            simp
            rintro rfl
            rw [hb1] at hb2
            exact he (by simpa using hb2))
          clear hb1 hb2 heq he
          go_wp2_with fail
          go_region_held3 (fun wy => wy.cell? (a1.add k) = some (.int .u8 ((b1.toNat : Nat) : Int)) ∧ wy.cell? (a2.add k) = some (.int .u8 ((b2.toNat : Nat) : Int))) (go_keep) ((go_at_call 69; refine (eq1_any _ _ _).mono ?_; rintro e w7 ⟨rfl, rfl⟩))
          go_wp2
          go_ret
          rw [hxy.out]
          exact ⟨rfl, q + 1, rfl⟩
      · obtain rfl : k = x.length := by omega
        have hxy := hid (show (x == y) = true by
          rw [List.take_length, HL.out, List.take_length] at heq
          simpa using heq)
        clear heq
        go_wp2
        go_ret
        rw [hxy.out]
        exact ⟨rfl, q, rfl⟩
  · have hne : (x.length != y.length) = true := by simpa using hl
    have hne' : ((x.length : Int) != (y.length : Int)) = true := by simp; omega
    have hxy := hid (show (x == y) = false by
      simp
      rintro rfl
      exact hl rfl)
    clear hl
    go_enter Tryd.func68, Tryd.ntmps68
    go_wp2
    go_ret
    rw [hxy.out]
    exact ⟨rfl, 0, rfl⟩

theorem Plain_any (a b : Value) (x y : List UInt8) (w : World) (ha : Sl w a (Lib.byteCells x)) (hb : Sl w b (Lib.byteCells y)) (hx : x.length ≤ maxLen) :
    Calls Tryd.prog 50 #[a, b] w fun e w' => e = .returned (.bool (x == y)) ∧ ∃ k, w' = w.drewN k := by
  go_enter Tryd.func50, Tryd.ntmps50
  go_wp2_with fail
  refine (Same_at a b x y w ha hb hx).mono ?_
  rintro e w' ⟨rfl, k, rfl⟩
  go_wp2
  go_ret
  exact ⟨rfl, k, rfl⟩

/-- A copy with three places of spare room, each of which holds f. -/
structure OwnCopy (w : World) (g : Nat) (bs : List UInt8) (f : UInt8) : Prop where
  block : w.heap[g]? = some (.cells (Lib.byteCells (bs ++ [f, f, f])).toArray 5 (0, 0))

theorem fill_step (A r : List Value) (x : Value) (k : Nat) (hk : k < r.length) : (A ++ (List.replicate k x ++ r.drop k)).set (A.length + k) x = A ++ (List.replicate (k + 1) x ++ r.drop (k + 1)) := by
  rw [List.set_append_right _ _ (by omega), Nat.add_sub_cancel_left, List.set_append_right _ _ (by simp), List.length_replicate, Nat.sub_self, List.drop_eq_getElem_cons hk, List.set_cons_zero, List.replicate_succ']
  simp

theorem Own_any (v : Value) (bs : List UInt8) (f : UInt8) (w : World) (hv : Sl w v (Lib.byteCells bs)) (hlen : bs.length ≤ 70368744177664) :
    Calls Tryd.prog 17 #[v, .int .u8 (UInt8.toNat f)] w fun e w' => e = .returned (.slice (some ⟨w.heap.size, 0, none⟩) bs.length (bs.length + 3)) ∧ OwnCopy w' w.heap.size bs f ∧ Below w.heap.size w w' := by
  obtain ⟨i0, hi0, hi1, hi2, hi3⟩ := info_parts Tryd.info5
  obtain ⟨ao, cap, rfl⟩ := hv.form
  rw [Lib.byteCells_length] at hv ⊢
  have hmk := run_make (P := Tryd.prog) w 32 5 i0 (.int .u8 0) Tryd.underlying32 hi0 hi1 .i64 .i64 0 ((bs.length : Int) + 3) (by omega) (by omega) (by rw [hi3]; omega) (by omega)
  obtain ⟨mc, hmc, hms⟩ : ∃ mc, mc = madeCells (Value.int .u8 0).cells (((bs.length : Int) + 3).toNat * i0.size) ∧ mc.size = bs.length + 3 := ⟨_, rfl, by rw [size_madeCells, hi2]; omega⟩
  rw [← hmc, show ((0 : Int)).toNat = 0 from rfl, show ((bs.length : Int) + 3).toNat = bs.length + 3 from by omega] at hmk
  have HMS := hid hms
  have g1 : 0 + (Lib.byteCells bs).length ≤ bs.length + 3 := by rw [Lib.byteCells_length]; omega
  have g2 : 0 * 1 + (Lib.byteCells bs).length ≤ mc.size := by rw [hms, Lib.byteCells_length]; omega
  have hsl : (bs.length : Int) + 3 ≤ ((bs.length + 3 : Nat) : Int) := by omega
  clear hmc hms
  go_enter Tryd.func17, Tryd.ntmps17
  go_wp2_with (refine wpList_append_exact rfl (.tmp 12) (.tmp 13) _ _ rfl 5 1 Tryd.underlying32 hi0 hi2 w.heap.size 0 (bs.length + 3) mc rfl (heap_alloc_new w _) _ _ _ rfl ((hv.alloc _).src Tryd.underlying32 (byte_one bs)) g1 g2 ?_; intro w2 hb2 hk2)
  obtain ⟨r, hr, hrl⟩ : ∃ r : List Value, List.take (0 * 1) mc.toList ++ Lib.byteCells bs ++ List.drop (0 * 1 + (Lib.byteCells bs).length) mc.toList = Lib.byteCells bs ++ (List.replicate 0 (Value.int .u8 (UInt8.toNat f)) ++ r.drop 0) ∧ r.length = 3 := by
    refine ⟨List.drop (0 * 1 + (Lib.byteCells bs).length) mc.toList, by simp, ?_⟩
    rw [List.length_drop, Array.length_toList, HMS.out, Lib.byteCells_length]
    omega
  rw [hr] at hb2
  have hk2' : Below w.heap.size w w2 := ((Below.refl w.heap.size w).alloc (Nat.le_refl _) (.cells mc 5)).trans (hk2.below (by simp) fun i hi => by show ¬ i = _; omega)
  have HRL := hid hrl
  clear hr hrl hk2 hmk g2
  have hn3 : (bs.length : Int) + 3 ≤ 9223372036854775807 := by omega
  go_loopw [7] (fun i wr => ∃ j : Nat, bs.length ≤ j ∧ j ≤ bs.length + 3 ∧ i = .int .i64 (j : Int) ∧ wr.heap[w.heap.size]? = some (.cells (Lib.byteCells bs ++ (List.replicate (j - bs.length) (Value.int .u8 (UInt8.toNat f)) ++ r.drop (j - bs.length))).toArray 5 (0, 0)) ∧ Below w.heap.size w wr) (fun i _ => bs.length + 3 - (intOf i).toNat)
  case atStart => exact ⟨bs.length, Nat.le_refl _, by omega, rfl, by rw [Nat.sub_self]; exact hb2, hk2'⟩
  case round =>
    obtain ⟨j, hj0, hj, rfl, hbk, hbel⟩ := hrel
    by_cases hlt : j < bs.length + 3
    · obtain ⟨u, hu⟩ : ∃ u, (Lib.byteCells bs ++ (List.replicate (j - bs.length) (Value.int .u8 (UInt8.toNat f)) ++ r.drop (j - bs.length))).toArray[j]? = some u := by
        refine ⟨_, Array.getElem?_eq_getElem ?_⟩
        simp [Lib.byteCells_length, HRL.out]
        omega
      have hc := blk_cell hbk hu
      have hf := blk_free (i := j) hbk
      have HB := hid hbk
      have HBEL := hid hbel
      have i0 : (0 : Int) ≤ (j : Int) := Int.natCast_nonneg _
      have i1 : (j : Int) < (bs.length : Int) + 3 := by omega
      clear hbk hu hbel
      have hb' := blk_set (i := j) (u := .int .u8 (UInt8.toNat f)) HB.out
      rw [List.setIfInBounds_toArray] at hb'
      have hst := fill_step (Lib.byteCells bs) r (.int .u8 (UInt8.toNat f)) (j - bs.length) (by rw [HRL.out]; omega)
      rw [Lib.byteCells_length, show bs.length + (j - bs.length) = j from by omega, show j - bs.length + 1 = j + 1 - bs.length from by omega] at hst
      rw [hst] at hb'
      have HB' := hid hb'
      clear hb' hst
      go_wp2
      go_roundw
      case rel => exact ⟨j + 1, by omega, by omega, by go_num, HB'.out, HBEL.out.setCell (Nat.le_refl _) _⟩
      case measure => simp [intOf]; omega
    · obtain rfl : j = bs.length + 3 := by omega
      have hown : OwnCopy wr w.heap.size bs f := by
        refine ⟨?_⟩
        rw [hbk, Nat.add_sub_cancel_left, List.drop_of_length_le (by rw [HRL.out]; exact Nat.le_refl _), Lib.byteCells_append]
        rfl
      have hbl := hid (Lib.byteCells_length bs)
      have hlt' : decide ((bs.length : Int) + 3 < (bs.length : Int) + 3) = false := by simp
      clear hbk hj0 hj hlt
      go_wp2
      go_ret
      refine ⟨?_, hown, hbel⟩
      show Ending.returned (.slice (some ⟨w.heap.size, 0, none⟩) (Lib.byteCells bs).length (bs.length + 3)) = _
      rw [hbl.out]

theorem OwnCopy.sl {w : World} {g : Nat} {bs : List UInt8} {f : UInt8} (h : OwnCopy w g bs f) : Sl w (.slice (some ⟨g, 0, none⟩) bs.length (bs.length + 3)) (Lib.byteCells bs) := by
  refine ⟨some ⟨g, 0, none⟩, bs.length + 3, by rw [Lib.byteCells_length], (fun h => by cases h), by rw [Lib.byteCells_length]; omega, fun a ha j u hu => ?_⟩
  cases ha
  refine World.news_of_block h.block j u ?_
  have hlt := (List.getElem?_eq_some_iff.1 hu).1
  rw [Lib.byteCells_append, List.getElem?_append_left hlt]
  exact hu
theorem OwnCopy.full {w : World} {g : Nat} {bs : List UInt8} {f : UInt8} (h : OwnCopy w g bs f) : Sl w (.slice (some ⟨g, 0, none⟩) (bs.length + 3) (bs.length + 3)) (Lib.byteCells (bs ++ [f, f, f])) := by
  have := Sl.ofBlock h.block
  simpa [Lib.byteCells_length] using this
theorem OwnCopy.old {w w' : World} {g : Nat} {bs : List UInt8} {f : UInt8} (h : OwnCopy w g bs f) (hk : Below w.heap.size w w') : OwnCopy w' g bs f := ⟨(hk.block g (lt_of_block h.block)).trans h.block⟩

theorem Kept_any (g : Nat) (v : Value) (bs : List UInt8) (f : UInt8) (w : World) (ho : OwnCopy w g bs f) (hv : Sl w v (Lib.byteCells bs)) (hlen : bs.length ≤ 70368744177664) :
    Calls Tryd.prog 27 #[.slice (some ⟨g, 0, none⟩) bs.length (bs.length + 3), v, .int .u8 (UInt8.toNat f)] w fun e w' => e = .returned (.bool true) ∧ ∃ k, w' = w.drewN k := by
  obtain ⟨ao, cap, rfl⟩ := hv.form
  rw [Lib.byteCells_length] at hv ⊢
  go_enter Tryd.func27, Tryd.ntmps27
  go_wp2_with fail
  refine (Plain_any _ _ bs bs w ho.sl hv (by unfold maxLen; omega)).mono ?_
  rw [show (bs == bs) = true from by simp]
  rintro e w' ⟨rfl, q, rfl⟩
  have hcmp : decide ((bs.length : Int) + 3 < (bs.length : Int) + 3) = false := by simp
  have hb3 : (bs.length : Int) + 3 ≤ 9223372036854775807 := by omega
  have hsl : (bs.length : Int) + 3 ≤ ((bs.length + 3 : Nat) : Int) := by omega
  have hF := hid ho.full
  have hfull := ho.full
  clear ho hv
  go_wp2
  go_loop [8] (fun i => ∃ j : Nat, bs.length ≤ j ∧ j ≤ bs.length + 3 ∧ i = .int .i64 (j : Int)) (fun i => bs.length + 3 - (intOf i).toNat)
  case atStart => exact ⟨bs.length, Nat.le_refl _, by omega, rfl⟩
  case round =>
    obtain ⟨j, hj0, hj, rfl⟩ := hrel
    by_cases hlt : j < bs.length + 3
    · obtain ⟨a, b, ha, hc, hb⟩ := hfull.byteAt' (i := j) (by simp; omega)
      obtain rfl : a = ⟨g, 0, none⟩ := by simpa using ha.symm
      obtain rfl : b = f := by
        rw [List.getElem?_append_right (by omega)] at hb
        have h3 : j - bs.length = 0 ∨ j - bs.length = 1 ∨ j - bs.length = 2 := by omega
        rcases h3 with h | h | h <;> rw [h] at hb <;> simpa using hb.symm
      have hbb : (((b.toNat : Nat) : Int) != ((b.toNat : Nat) : Int)) = false := by simp
      have i0 : (0 : Int) ≤ (j : Int) := Int.natCast_nonneg _
      have i1 : (j : Int) < (bs.length : Int) + 3 := by omega
      have hc' : w.cell? ⟨g, j, none⟩ = some (.int .u8 ((b.toNat : Nat) : Int)) := by
        rw [Addr.add_lit, Nat.zero_add] at hc
        exact hc
      clear hb hc hfull
      go_wp2
      go_round
      case rel => exact ⟨j + 1, by omega, by omega, by go_num⟩
      case measure => simp [intOf]; omega
    · obtain rfl : j = bs.length + 3 := by omega
      have hlt' : decide ((bs.length : Int) + 3 < (bs.length : Int) + 3) = false := by simp
      clear hlt hj hj0 hfull
      go_wp2
      go_ret
      exact ⟨rfl, q, rfl⟩
end
end Go.Proofs.YtbcpfakdmnccmaaDoor
