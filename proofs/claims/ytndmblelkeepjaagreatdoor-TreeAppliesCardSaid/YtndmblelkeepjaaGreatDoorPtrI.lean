/-
  Package tree (landed): Clone, change, Apply, each by a contract.
-/
import Derived.Test.YtndmblelkeepjaaGreatDoorPtrG
namespace Go.Proofs.YtndmblelkeepjaaGreatDoor
open Go.RowKit
open BigFrame

section
set_option maxRecDepth 100000
set_option maxHeartbeats 4000000
theorem PClone_any (v : Value) (l : List FileS) (w : World) (hv : SlF w v l) (hl : l.length ≤ 100000) :
    Calls Tryz.prog 19 #[v] w fun e w' => ∃ u, e = .returned u ∧ OwnF w' w.heap.size u l ∧ Below w.heap.size w w' := by
  obtain ⟨ao, cap, rfl⟩ := hv.form
  have hnil : ao = none → l = [] := by
    obtain ⟨ao', cap', hv', hn, _⟩ := hv
    intro h
    obtain ⟨h1, _, _⟩ := Value.slice.inj hv'
    exact hn (h1 ▸ h)
  have HB := hid (((Below.refl _ w).alloc (Nat.le_refl w.heap.size) (.cells #[] 35)))
  have HV := hid (hv.old HB.out)
  have HL := hid hl
  have HOE := hid (show OwnF (w.alloc (.cells #[] 35)) w.heap.size (.slice (some ⟨w.heap.size, 0, none⟩) 0 0) [] from own_empty (heap_alloc_new w _) (Nat.le_refl _) (by unfold maxLen; omega) rfl)
  clear hv hl
  cases ao with
  | none =>
    obtain rfl := hnil rfl
    have he := fun wx => Lib.run_eql_slice_nil (P := Tryz.prog) wx 22 35 none 0 cap 0 0 Tryz.underlying22
    go_enter Tryz.func19, Tryz.ntmps19
    go_wp2_with fail
    go_ret
    exact ⟨_, rfl, World.ownsRow_nil _ _ _ _, Below.refl _ _⟩
  | some a =>
    clear hnil
    have he := fun wx => Lib.run_eql_slice_nil (P := Tryz.prog) wx 22 35 (some a) l.length cap 0 0 Tryz.underlying22
    go_enter Tryz.func19, Tryz.ntmps19
    go_wp2_with (at_builtin; refine wpList_append_fs rfl (.tmp 5) (.tmp 6) rfl w.heap.size _ [] l rfl HOE.out _ rfl HV.out (by have := HL.out; simp only [List.length_nil]; omega) HB.out.size ?_; intro v5 w5 hO5 hb5; have HO5 := hid hO5; have HB5 := hid (HB.out.trans hb5); clear hO5 hb5)
    go_ret
    exact ⟨_, rfl, by simpa using HO5.out, HB5.out⟩
theorem PChange_any (v : Value) (l : List FileS) (c : ChangeS) (w : World) (hv : SlF w v l) (ht : IsTree l) :
    Calls Tryz.prog 20 #[v, changeV c] w fun e w' => ∃ u, e = .returned (.tuple #[u, .int .i64 (stepS l c).2]) ∧ OwnF w' w.heap.size u (stepS l c).1 ∧ Below w.heap.size w w' := by
  obtain ⟨ao, cap, rfl⟩ := hv.form
  obtain ⟨p, d, x, t⟩ := c
  have HB := hid ((Below.refl _ w).alloc (Nat.le_refl w.heap.size) (.cells #[.string ⟨p.toArray⟩, .bool d, .bool x, .string ⟨t.toArray⟩] 29))
  have HD := hid (PDrop_any _ l p _ (hv.old HB.out) ht)
  have HP := hid (PPut_any _ l (p, x, t) _ (hv.old HB.out) ht)
  clear hv ht
  unfold strV at HD
  unfold fileV strV at HP
  unfold changeV strV
  cases d with
  | true =>
    rw [show stepS l (p, true, x, t) = dropS l p from rfl]
    obtain ⟨⟨Y, en⟩, hY⟩ : ∃ y, dropS l p = y := ⟨_, rfl⟩
    rw [hY] at HD ⊢
    clear hY
    go_enter Tryz.func20, Tryz.ntmps20
    go_wp2_with (go_at_call 38; refine HD.out.mono ?_; rintro e w2 ⟨u2, rfl, ho2, hb2⟩; have HO2 := hid (owns_lower ho2 HB.out.size); have HB2 := hid (below_step HB.out hb2 HB.out.size); clear ho2 hb2)
    refine bodyPost_ret (results_tmp2 rfl _ _ _) rfl ?_
    exact ⟨_, rfl, HO2.out, HB2.out⟩
  | false =>
    rw [show stepS l (p, false, x, t) = putS l (p, x, t) from rfl]
    obtain ⟨⟨Y, en⟩, hY⟩ : ∃ y, putS l (p, x, t) = y := ⟨_, rfl⟩
    rw [hY] at HP ⊢
    clear hY
    go_enter Tryz.func20, Tryz.ntmps20
    go_wp2_with (go_at_call 34; refine HP.out.mono ?_; rintro e w2 ⟨u2, rfl, ho2, hb2⟩; have HO2 := hid (owns_lower ho2 HB.out.size); have HB2 := hid (below_step HB.out hb2 HB.out.size); clear ho2 hb2)
    refine bodyPost_ret (results_tmp2 rfl _ _ _) rfl ?_
    exact ⟨_, rfl, HO2.out, HB2.out⟩
theorem DApply_any (v v2 : Value) (l : List FileS) (c : List ChangeS) (w : World) (hv : SlF w v l) (hc : SlH w v2 c) :
    Calls Tryz.prog 7 #[v, v2] w fun e w' => ∃ u, e = .returned (.tuple #[u, .int .i64 (applyT l c).2]) ∧ OwnF w' w.heap.size u (applyT l c).1 ∧ Below w.heap.size w w' := by
  obtain ⟨ao, cap, rfl⟩ := hv.form
  obtain ⟨bo, cbp, rfl⟩ := hc.form
  have HV := hid hv
  have HC := hid hc
  have HR := hid (DRightT_any _ l w hv)
  clear hv hc
  obtain ⟨r, hr⟩ : ∃ r, rightT l = r := ⟨_, rfl⟩
  rw [hr] at HR
  cases r with
  | false =>
    have HD := hid (show applyT l c = ([], 5) by unfold applyT; rw [hr]; rfl)
    clear hr
    go_enter Tryz.func7, Tryz.ntmps7
    go_wp2_with (go_at_call 17; refine HR.out.mono ?_; rintro e w1 ⟨rfl, hb1⟩; have HB1 := hid hb1; clear hb1)
    refine bodyPost_ret (results_tmp2 rfl _ _ _) rfl ?_
    rw [HD.out]
    exact ⟨_, rfl, World.ownsRow_nil _ _ _ _, HB1.out⟩
  | true =>
  have HT := hid ((rightT_iff l).1 hr)
  by_cases hcl : c.length ≤ 100
  case neg =>
    have t1 : decide (100 < (c.length : Int)) = true := decide_eq_true (by omega)
    have t2 : decide (100 < c.length) = true := decide_eq_true (by omega)
    have HD := hid (show applyT l c = ([], 6) by unfold applyT; rw [hr, if_pos rfl, if_neg hcl])
    clear hr hcl
    go_enter Tryz.func7, Tryz.ntmps7
    go_wp2_with (go_at_call 17; refine HR.out.mono ?_; rintro e w1 ⟨rfl, hb1⟩; have HB1 := hid hb1; clear hb1)
    refine bodyPost_ret (results_tmp2 rfl _ _ _) rfl ?_
    rw [HD.out]
    exact ⟨_, rfl, World.ownsRow_nil _ _ _ _, HB1.out⟩
  have t1 : decide (100 < (c.length : Int)) = false := decide_eq_false (by omega)
  have t2 : decide (100 < c.length) = false := decide_eq_false (by omega)
  have HD := hid (show applyT l c = applyS l c by unfold applyT; rw [hr, if_pos rfl, if_pos hcl])
  have HCL := hid hcl
  have HCN := hid (fun (wy : World) (h : Below w.heap.size w wy) => PClone_any _ l wy (HV.out.old h) (by have := HT.out.len; omega))
  clear hr hcl
  go_enter Tryz.func7, Tryz.ntmps7
  go_wp2_with (first
    | (go_at_call 17; refine HR.out.mono ?_; rintro e w1 ⟨rfl, hb1⟩; have HB1 := hid hb1; clear hb1)
    | (go_at_call 19; refine (HCN.out _ HB1.out).mono ?_; rintro e w5 ⟨u5, rfl, hO5, hb5⟩; have HO5 := hid (owns_lower hO5 HB1.out.size); have HB5 := hid (below_step HB1.out hb5 HB1.out.size); clear hO5 hb5))
  go_loopg [6, 21] c.length (fun g o i wr => ∃ (k : Nat) (X : List FileS), k ≤ c.length ∧ c.length - k = g ∧ i = .int .i64 k ∧ Hid (applyT l c = applyS X (c.drop k)) ∧ Hid (IsTree X) ∧ Hid (OwnF wr w.heap.size o X) ∧ Hid (Below w.heap.size w wr))
  case atStart => exact ⟨0, l, Nat.zero_le _, rfl, rfl, hid (by rw [HD.out]; rfl), HT, HO5, HB5⟩
  case round =>
    obtain ⟨k, X, hk, rfl, rfl, HA, HTX, HN, HB⟩ := hrel
    have hz := HB.out.size
    have k0 : (0 : Int) ≤ (k : Int) := Int.natCast_nonneg _
    by_cases hlt : k < c.length
    · have k1 : (k : Int) < (c.length : Int) := by omega
      have kw : IntKind.i64.wrap ((k : Int) + 1) = (k : Int) + 1 := IntWalk.i64_in _ (by have := HCL.out; omega)
      obtain ⟨b, o, p, d, x, t, rfl, he, c0, c1, c2, c3⟩ := SlH.at (HC.out.old HB.out) hlt
      have hd := drop_one he
      clear he
      have HBA := hid (HB.out.alloc hz (.cells #[.string ⟨p.toArray⟩, .bool d, .bool x, .string ⟨t.toArray⟩] 29))
      have HPC := hid (PChange_any _ X (p, d, x, t) (wr.alloc (.cells #[.string ⟨p.toArray⟩, .bool d, .bool x, .string ⟨t.toArray⟩] 29)) (HN.out.sl.alloc _) HTX.out)
      have HTY := hid (fun h => step_tree (l := X) (c := (p, d, x, t)) h)
      obtain ⟨⟨Y, en⟩, hY⟩ : ∃ y, stepS X (p, d, x, t) = y := ⟨_, rfl⟩
      have HX := hid (show applyT l c = if en = 0 then applyS Y (c.drop (k + 1)) else ([], en) by rw [HA.out, hd, applyS, hY])
      rw [hY] at HPC HTY
      unfold changeV strV at HPC
      clear hd HA hY
      by_cases hen : en = 0
      · subst hen
        have HX2 := hid (show applyT l c = applyS Y (c.drop (k + 1)) by rw [HX.out, if_pos rfl])
        clear HX
        go_wp2_with (go_at_call 20; refine HPC.out.mono ?_; rintro e w6 ⟨u6, rfl, ho6, hb6⟩; have HO6 := hid (owns_lower ho6 HBA.out.size); have HB6 := hid (below_step HBA.out hb6 HBA.out.size); clear ho6 hb6)
        go_roundg (c.length - (k + 1))
        case measure => omega
        case rel => exact ⟨k + 1, Y, by omega, rfl, by go_num, HX2, hid (HTY.out (by first | trivial | rfl)), HO6, HB6⟩
      · have HX2 := hid (show applyT l c = ([], en) by rw [HX.out, if_neg hen])
        have e1 : ((en : Int) == 0) = false := beq_false_of_ne (by omega)
        have e2 : (en == 0) = false := beq_false_of_ne hen
        have e3 : decide ((en : Int) = 0) = false := decide_eq_false (by omega)
        clear HX
        go_wp2_with (go_at_call 20; refine HPC.out.mono ?_; rintro e w6 ⟨u6, rfl, ho6, hb6⟩; have HB6 := hid (below_step HBA.out hb6 HBA.out.size); clear ho6 hb6)
        refine bodyPost_ret (results_tmp2 rfl _ _ _) rfl ?_
        rw [HX2.out]
        exact ⟨_, rfl, World.ownsRow_nil _ _ _ _, HB6.out⟩
    · obtain rfl : k = c.length := by omega
      have hneg : ¬ (c.length : Int) < (c.length : Int) := by omega
      have HF := hid (show applyT l c = (X, 0) by rw [HA.out, List.drop_length]; rfl)
      go_wp2_with fail
      refine bodyPost_ret (results_tmp2 rfl _ _ _) rfl ?_
      rw [HF.out]
      exact ⟨_, rfl, HN.out, HB.out⟩
end
end Go.Proofs.YtndmblelkeepjaaGreatDoor
