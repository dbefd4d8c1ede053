/-
  Package tree (landed): Same (slices.Equal at files), by a contract.
-/
import Derived.Test.YtndmblelkeepjaaGreatDoorEqF
import Derived.Test.YtndmblelkeepjaaGreatDoorRtrA
import Derived.Deep.QuietTactic
import Derived.Deep.LoopGhost
namespace Go.Proofs.YtndmblelkeepjaaGreatDoor
open Go.RowKit

section
set_option maxRecDepth 100000
set_option maxHeartbeats 4000000
theorem PEqualF_any (va vb : Value) (x y : List FileS) (w : World) (ha : SlF w va x) (hb : SlF w vb y) (hx : x.length ≤ 1000000) :
    Calls Tryz.prog 37 #[va, vb] w fun e w' => e = .returned (.bool (x == y)) ∧ Below w.heap.size w w' := by
  obtain ⟨aa, ca, rfl⟩ := SlR.form ha
  obtain ⟨ab, cb, rfl⟩ := SlR.form hb
  by_cases hl : x.length = y.length
  · have hne : (x.length != y.length) = false := by simp [hl]
    have hne' : ((x.length : Int) != (y.length : Int)) = false := by simp [hl]
    have HL := hid hl
    have HX := hid hx
    have HA := hid ha
    have HB := hid hb
    clear hl ha hb hx
    go_enter Tryz.func37, Tryz.ntmps37
    go_wp2_with fail
    go_loopg [5, 13] x.length (fun g _ i wr => ∃ k : Nat, k ≤ x.length ∧ x.length - k = g ∧ i = .int .i64 k ∧ Hid (x.take k = y.take k) ∧ Hid (Below w.heap.size w wr))
    case atStart => exact ⟨0, Nat.zero_le _, rfl, rfl, hid rfl, hid (Below.refl _ _)⟩
    case round =>
      obtain ⟨k, hk, rfl, rfl, HE, HW⟩ := hrel
      have k0 : (0 : Int) ≤ (k : Int) := Int.natCast_nonneg _
      by_cases hlt : k < x.length
      · have k1 : (k : Int) < (x.length : Int) := by omega
        have k2 : (k : Int) < (y.length : Int) := by have := HL.out; omega
        have kw : IntKind.i64.wrap ((k : Int) + 1) = (k : Int) + 1 := IntWalk.i64_in _ (by have := HX.out; omega)
        obtain ⟨b1, o1, p1, x1, t1, hao, he1, c1, c2, c3⟩ := SlF.at (SlR.old HA.out HW.out) hlt
        subst hao
        obtain ⟨b2, o2, p2, x2, t2, hao, he2, d1, d2, d3⟩ := SlF.at (SlR.old HB.out HW.out) (i := k) (by rw [← HL.out]; exact hlt)
        subst hao
        have hne := file_neq p1 t1 p2 t2 x1 x2
        obtain ⟨nn, hnn⟩ : ∃ z, (((p1, x1, t1) : FileS) != (p2, x2, t2)) = z := ⟨_, rfl⟩
        rw [hnn] at hne
        cases nn with
        | true =>
          have HF := hid (show (x == y) = false by
            rw [beq_eq_false_iff_ne]
            intro e
            subst e
            cases he1.symm.trans he2
            simp at hnn)
          clear he1 he2 hnn
          go_wp2_with fail
          go_quiet (fail)
          have HB3 := hid (below_step HW.out (below_drewN wr nq) HW.out.size)
          go_wp2_with fail
          go_ret
          exact ⟨by rw [HF.out]; rfl, HB3.out⟩
        | false =>
          have hxy : ((p1, x1, t1) : FileS) = (p2, x2, t2) := by rwa [bne_eq_false_iff_eq] at hnn
          have HE2 := hid (show x.take (k + 1) = y.take (k + 1) by rw [List.take_add_one, List.take_add_one, he1, he2, HE.out, hxy])
          clear he1 he2 hnn hxy
          go_wp2_with fail
          go_quiet (fail)
          have HB3 := hid (below_step HW.out (below_drewN wr nq) HW.out.size)
          go_wp2_with fail
          go_roundg (x.length - (k + 1))
          case measure => omega
          case rel => exact ⟨k + 1, by omega, rfl, by go_num, HE2, HB3⟩
      · obtain rfl : k = x.length := by omega
        have hneg : ¬ (x.length : Int) < (x.length : Int) := by omega
        have HF := hid (show (x == y) = true by
          rw [beq_iff_eq]
          have := HE.out
          rwa [List.take_length, HL.out, List.take_length] at this)
        go_wp2_with fail
        go_ret
        exact ⟨by rw [HF.out]; rfl, HW.out⟩
  · have hne : (x.length != y.length) = true := by simpa using hl
    have hne' : ((x.length : Int) != (y.length : Int)) = true := by simp; omega
    have HF := hid (show (x == y) = false by
      rw [beq_eq_false_iff_ne]
      intro e
      subst e
      exact hl rfl)
    clear hl
    go_enter Tryz.func37, Tryz.ntmps37
    go_wp2_with fail
    go_ret
    exact ⟨by rw [HF.out]; rfl, Below.refl _ _⟩
theorem DSame_any (va vb : Value) (x y : List FileS) (w : World) (ha : SlF w va x) (hb : SlF w vb y) (hx : x.length ≤ 1000000) :
    Calls Tryz.prog 18 #[va, vb] w fun e w' => e = .returned (.bool (x == y)) ∧ Below w.heap.size w w' := by
  have HC := hid (PEqualF_any va vb x y w ha hb hx)
  obtain ⟨r, hr⟩ : ∃ r, (x == y) = r := ⟨_, rfl⟩
  rw [hr] at HC ⊢
  clear ha hb hx hr
  go_enter Tryz.func18, Tryz.ntmps18
  go_wp2_with (go_at_call 37; refine HC.out.mono ?_; rintro e w1 ⟨rfl, hb1⟩; have HB1 := hid hb1; clear hb1)
  go_ret
  exact ⟨rfl, HB1.out⟩
end
end Go.Proofs.YtndmblelkeepjaaGreatDoor
