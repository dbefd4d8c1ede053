/-
  Trees (the document's own): Apply, by a contract.
-/
import Derived.Test.YtndmblelkeepjaaGreatDoorRtrC
import Derived.Test.YtndmblelkeepjaaGreatDoorChg
import Derived.Deep.RegionHeldLaw
namespace Go.Proofs.YtndmblelkeepjaaGreatDoor
open Go.RowKit
open BigFrame

def stepS (l : List FileS) (c : ChangeS) : List FileS × Nat := if c.2.1 = true then dropS l c.1 else putS l (c.1, c.2.2.1, c.2.2.2)
def applyS : List FileS → List ChangeS → List FileS × Nat
  | l, [] => (l, 0)
  | l, c :: r => if (stepS l c).2 = 0 then applyS (stepS l c).1 r else ([], (stepS l c).2)
def applyT (l : List FileS) (c : List ChangeS) : List FileS × Nat :=
  if rightT l = true then (if c.length ≤ 100 then applyS l c else ([], 6)) else ([], 5)
section
set_option maxRecDepth 100000
set_option maxHeartbeats 4000000
theorem RApply_any (v v2 : Value) (l : List FileS) (c : List ChangeS) (w : World) (hv : SlF w v l) (hc : SlH w v2 c) :
    Calls Tryz.prog 8 #[v, v2] w fun e w' => ∃ u, e = .returned (.tuple #[u, .int .i64 (applyT l c).2]) ∧ OwnF w' w.heap.size u (applyT l c).1 ∧ Below w.heap.size w w' := by
  obtain ⟨ao, cap, rfl⟩ := hv.form
  obtain ⟨bo, cbp, rfl⟩ := hc.form
  have HV := hid hv
  have HC := hid hc
  have HR := hid (RRight_any _ l w hv)
  clear hv hc
  obtain ⟨r, hr⟩ : ∃ r, rightT l = r := ⟨_, rfl⟩
  rw [hr] at HR
  cases r with
  | false =>
    have HD := hid (show applyT l c = ([], 5) by unfold applyT; rw [hr]; rfl)
    clear hr
    go_enter Tryz.func8, Tryz.ntmps8
    go_wp2_with (go_at_call 21; refine HR.out.mono ?_; rintro e w1 ⟨rfl, hb1⟩; have HB1 := hid hb1; clear hb1)
    refine bodyPost_ret (results_tmp2 rfl _ _ _) rfl ?_
    rw [HD.out]
    exact ⟨_, rfl, World.ownsRow_nil _ _ _ _, HB1.out⟩
  | true =>
  have HL := hid (rightT_len hr)
  by_cases hcl : c.length ≤ 100
  case neg =>
    have t1 : decide (100 < (c.length : Int)) = true := decide_eq_true (by omega)
    have t2 : decide (100 < c.length) = true := decide_eq_true (by omega)
    have HD := hid (show applyT l c = ([], 6) by unfold applyT; rw [hr, if_pos rfl, if_neg hcl])
    clear hr hcl
    go_enter Tryz.func8, Tryz.ntmps8
    go_wp2_with (go_at_call 21; refine HR.out.mono ?_; rintro e w1 ⟨rfl, hb1⟩; have HB1 := hid hb1; clear hb1)
    refine bodyPost_ret (results_tmp2 rfl _ _ _) rfl ?_
    rw [HD.out]
    exact ⟨_, rfl, World.ownsRow_nil _ _ _ _, HB1.out⟩
  have t1 : decide (100 < (c.length : Int)) = false := decide_eq_false (by omega)
  have t2 : decide (100 < c.length) = false := decide_eq_false (by omega)
  have HD := hid (show applyT l c = applyS l c by unfold applyT; rw [hr, if_pos rfl, if_pos hcl])
  have HCL := hid hcl
  clear hr hcl
  go_enter Tryz.func8, Tryz.ntmps8
  go_wp2_with (first
    | (go_at_call 21; refine HR.out.mono ?_; rintro e w1 ⟨rfl, hb1⟩; have HB1 := hid hb1; clear hb1)
    | (at_builtin; refine wpList_append_fs rfl (.const (.slice none 0 0)) (.tmp 16) rfl _ (.slice none 0 0) [] l rfl (World.ownsRow_nil _ _ _ _) _ rfl (HV.out.old HB1.out) (by have := HL.out; simp only [List.length_nil]; omega) (Nat.le_refl _) ?_; intro v5 w5 hO5 hb5; have HO5 := hid (owns_lower hO5 HB1.out.size); have HB5 := hid (below_step HB1.out hb5 HB1.out.size); clear hO5 hb5))
  go_loopg [6, 7, 8, 9] c.length (fun g o i e n wr => ∃ (k : Nat) (X : List FileS), k ≤ c.length ∧ c.length - k = g ∧ i = .int .i64 k ∧ Hid (applyT l c = applyS X (c.drop k)) ∧ Hid (OwnF wr w.heap.size o X) ∧ Below w.heap.size w wr)
  case atStart => exact ⟨0, l, Nat.zero_le _, rfl, rfl, hid (by rw [HD.out]; rfl), hid (by simpa using HO5.out), HB5.out⟩
  case round =>
    obtain ⟨k, X, hk, rfl, rfl, HA, HN, hbel⟩ := hrel
    have hz := hbel.size
    have k0 : (0 : Int) ≤ (k : Int) := Int.natCast_nonneg _
    by_cases hlt : k < c.length
    · have k1 : (k : Int) < (c.length : Int) := by omega
      have kw : IntKind.i64.wrap ((k : Int) + 1) = (k : Int) + 1 := IntWalk.i64_in _ (by have := HCL.out; omega)
      obtain ⟨b, o, p, d, x, t, rfl, he, c0, c1, c2, c3⟩ := SlH.at (HC.out.old hbel) hlt
      have hd := drop_one he
      clear he
      obtain ⟨⟨Y, en⟩, hY⟩ : ∃ y, stepS X (p, d, x, t) = y := ⟨_, rfl⟩
      have HX := hid (show applyT l c = if en = 0 then applyS Y (c.drop (k + 1)) else ([], en) by rw [HA.out, hd, applyS, hY])
      clear hd HA
      have HDr := hid (RDrop_any _ X p wr (HN.out.sl))
      have HPu := hid (fun (wy : World) (h : Below wr.heap.size wr wy) => RPut_any _ X p t x wy (HN.out.sl.old h))
      unfold strV at HDr HPu
      go_upto_if 28 with fail
      go_cut [8, 9] from 29 to 60 (fun e n wx => e = .int .i64 en ∧ Hid (OwnF wx w.heap.size n Y) ∧ Below w.heap.size w wx)
      case first =>
        cases d with
        | true =>
          have HQ : dropS X p = (Y, en) := hY
          rw [HQ] at HDr
          clear hY HQ HX HPu
          go_wp2_with (go_at_call 22; refine HDr.out.mono ?_; rintro e w2 ⟨u2, rfl, ho2, hb2⟩; have HO2 := hid (owns_lower ho2 hz); have HB2 := hid (below_step hbel hb2 hz); clear ho2 hb2)
          go_meet
          exact ⟨rfl, HO2, HB2.out⟩
        | false =>
          have HQ : putS X (p, x, t) = (Y, en) := hY
          rw [HQ] at HPu
          clear hY HQ HX HDr
          go_wp2_with fail
          go_region_held3 (fun wy => wy.cell? ⟨b, o + k * 4, none⟩ = some (.string ⟨List.toArray p⟩) ∧ wy.cell? ⟨b, o + k * 4 + 2, none⟩ = some (.bool x) ∧ wy.cell? ⟨b, o + k * 4 + 3, none⟩ = some (.string ⟨List.toArray t⟩)) (first | exact ⟨c0, c2, c3⟩ | exact ⟨d0, d2, d3⟩ | go_keep) ((go_at_call 23; refine (HPu.out _ (Below.refl _ _).drew).mono ?_; rintro e w2 ⟨u2, rfl, ho2, hb2⟩; have HO2 := hid (owns_lower ho2 (show w.heap.size ≤ wr.drew.heap.size from hz)); have hB2 := below_step hbel.drew hb2 hz; have d0 := below_cell (W := wr.drew) hb2 c0; have d2 := below_cell (W := wr.drew) hb2 c2; have d3 := below_cell (W := wr.drew) hb2 c3; have HB2 := hid hB2; clear ho2 hb2 hB2))
          all_goals (
            go_wp2_with fail
            go_meet
            exact ⟨rfl, HO2, HB2.out⟩)
      case rest =>
        obtain ⟨rfl, HO, hbc⟩ := hcut
        clear HDr HPu hY
        by_cases hen : en = 0
        · subst hen
          have HX2 := hid (show applyT l c = applyS Y (c.drop (k + 1)) by rw [HX.out, if_pos rfl])
          clear HX
          go_wp2_with fail
          go_roundg (c.length - (k + 1))
          case measure => omega
          case rel => exact ⟨k + 1, Y, by omega, rfl, by go_num, HX2, HO, hbc⟩
        · have HX2 := hid (show applyT l c = ([], en) by rw [HX.out, if_neg hen])
          have e1 : ((en : Int) == 0) = false := beq_false_of_ne (by omega)
          have e2 : (en == 0) = false := beq_false_of_ne hen
          have e3 : decide ((en : Int) = 0) = false := decide_eq_false (by omega)
          clear HX
          go_wp2_with fail
          refine bodyPost_ret (results_tmp2 rfl _ _ _) rfl ?_
          rw [HX2.out]
          exact ⟨_, rfl, World.ownsRow_nil _ _ _ _, hbc⟩
    · obtain rfl : k = c.length := by omega
      have hneg : ¬ (c.length : Int) < (c.length : Int) := by omega
      have HF := hid (show applyT l c = (X, 0) by rw [HA.out, List.drop_length]; rfl)
      go_wp2_with fail
      refine bodyPost_ret (results_tmp2 rfl _ _ _) rfl ?_
      rw [HF.out]
      exact ⟨_, rfl, HN.out, hbel⟩
end
end Go.Proofs.YtndmblelkeepjaaGreatDoor
