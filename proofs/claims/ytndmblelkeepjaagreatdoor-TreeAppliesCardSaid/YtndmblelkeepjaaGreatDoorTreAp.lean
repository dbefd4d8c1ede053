/-
  TreeApplies: what any changes make of any files, or why nothing; the changes from any files to others, and those of some paths; what is handed in stays.
-/
import Derived.Test.YtndmblelkeepjaaGreatDoorTreAw
import Derived.Test.YtndmblelkeepjaaGreatDoorPtrI
import Derived.Test.YtndmblelkeepjaaGreatDoorPtrO
import Derived.Test.YtndmblelkeepjaaGreatDoorRtrF
import Derived.Test.YtndmblelkeepjaaGreatDoorOwnF
import Derived.Test.YtndmblelkeepjaaGreatDoorOwnH
import Derived.Test.YtndmblelkeepjaaGreatDoorTrL
import Derived.Test.YtndmblelkeepjaaGreatDoorOpenF
import Derived.Test.YtndmblelkeepjaaGreatDoorTabU
import Derived.ProofKit
import Derived.OpenShut
namespace Go.Proofs.YtndmblelkeepjaaGreatDoor.treeApplies
open Go.ChangeShapes Go.WideShapes Go.ChangeAt Go.RowKit
open BigFrame

section
set_option maxRecDepth 100000
set_option maxHeartbeats 4000000
theorem applyS_len : ∀ (c : List ChangeS) (X : List FileS), IsTree X → (applyS X c).1.length ≤ 100
  | [], X, h => h.len
  | x :: c, X, h => by
    rw [applyS]
    by_cases h0 : (stepS X x).2 = 0
    · rw [if_pos h0]
      exact applyS_len c _ (step_tree h0)
    · rw [if_neg h0]
      simp
theorem apply_len (l : List FileS) (c : List ChangeS) : (applyT l c).1.length ≤ 100 := by
  unfold applyT
  by_cases h : rightT l = true
  · rw [if_pos h]
    by_cases h2 : c.length ≤ 100
    · rw [if_pos h2]; exact applyS_len c l ((rightT_iff l).1 h)
    · rw [if_neg h2]; simp
  · rw [if_neg h]; simp
theorem walk (va : Value) (l : List FileS) (vm : Value) (m : List FileS) (vc : Value) (c : List ChangeS) (vp : Value) (ps : List (List UInt8)) (w : World) (ha : FactFiles w va l) (hm : FactFiles w vm m) (hc : FactChanges w vc c) (hp : FactStrs w vp ps) :
    Calls Tryz.prog 3 #[va, vm, vc, vp] w fun e w' => e = .returned (.bool true) ∧ Below w.heap.size w w' := by
  have HA := hid ha.1
  have HM := hid hm.1
  have HCC := hid hc.1
  have HPS := hid hp.1
  have HLA := hid ha.2.1
  have HLM := hid hm.2.1
  have HLC := hid hc.2.1
  have HPA := hid (show ∀ f ∈ l, f.1.length ≤ maxLen from fun f hf => (ha.2.2 f hf).1)
  have HPM := hid (show ∀ f ∈ m, f.1.length ≤ maxLen from fun f hf => (hm.2.2 f hf).1)
  have HPC := hid (show ∀ f ∈ c, f.1.length ≤ maxLen from fun f hf => (hc.2.2 f hf).1)
  have HPP := hid hp.2.2
  have HLP := hid hp.2.1
  obtain ⟨ao, ac, rfl⟩ := SlR.form ha.1
  obtain ⟨mo, mc, rfl⟩ := SlR.form hm.1
  obtain ⟨co, cc, rfl⟩ := SlR.form hc.1
  obtain ⟨po, pc, rfl⟩ := hp.1.form
  rw [strCells_length] at HPS ⊢
  clear ha hm hc hp
  have HB0 := hid (Below.refl w.heap.size w)
  have HAW := hid (fun (wy : World) => awake_any wy)
  obtain ⟨ra, hra⟩ : ∃ r, fewS l c = r := ⟨_, rfl⟩
  have hFA := few_any _ _ l c w HA.out HCC.out HLA.out HLC.out
  rw [hra] at hFA
  go_enter Tryz.func3, Tryz.ntmps3
  go_wp2_with fail
  refine hFA.mono ?_
  rintro e _ ⟨rfl, rfl⟩
  clear hFA
  cases ra with
  | false =>
    go_wp2_with (go_at_call 5; refine (HAW.out _).mono ?_; rintro e w2 ⟨rfl, hb2⟩; have HB2 := hid (below_step HB0.out hb2 HB0.out.size); clear hb2)
    go_ret
    exact ⟨rfl, HB2.out⟩
  | true =>
  have HFL := hid (fewS_len hra)
  obtain ⟨rb, hrb⟩ : ∃ r, fewS m [] = r := ⟨_, rfl⟩
  have hFM := few_any _ (.slice none 0 0) m [] _ HM.out (SlR.nil _) HLM.out (by simp [maxLen])
  rw [hrb] at hFM
  go_wp2_with fail
  refine hFM.mono ?_
  rintro e _ ⟨rfl, rfl⟩
  clear hFM
  cases rb with
  | false =>
    go_wp2_with (go_at_call 5; refine (HAW.out _).mono ?_; rintro e w2 ⟨rfl, hb2⟩; have HB2 := hid (below_step HB0.out hb2 HB0.out.size); clear hb2)
    go_ret
    exact ⟨rfl, HB2.out⟩
  | true =>
  have HFM := hid (fewS_len hrb).1
  clear hra hrb
  by_cases h20 : ps.length ≤ 20
  case neg =>
    have t1 : decide (20 < (ps.length : Int)) = true := decide_eq_true (by omega)
    have t2 : decide (20 < ps.length) = true := decide_eq_true (by omega)
    go_wp2_with (go_at_call 5; refine (HAW.out _).mono ?_; rintro e w2 ⟨rfl, hb2⟩; have HB2 := hid (below_step HB0.out hb2 HB0.out.size); clear hb2)
    go_ret
    exact ⟨rfl, HB2.out⟩
  have t1 : decide (20 < (ps.length : Int)) = false := decide_eq_false (by omega)
  have t2 : decide (20 < ps.length) = false := decide_eq_false (by omega)
  have HPSL := hid h20
  clear h20
  have HAP := hid (apply_len l c)
  have HCL := hid (changes_len l m)
  have HOL := hid (show (onlyS c ps).length ≤ 40 from Nat.le_trans (List.length_filter_le _ _) HFL.out.2)
  obtain ⟨⟨Y, en⟩, hY⟩ : ∃ y, applyT l c = y := ⟨_, rfl⟩
  obtain ⟨C, hC⟩ : ∃ y, changesS l m = y := ⟨_, rfl⟩
  obtain ⟨O, hO⟩ : ∃ y, onlyS c ps = y := ⟨_, rfl⟩
  rw [hY] at HAP
  rw [hC] at HCL
  rw [hO] at HOL
  have HHY := hid hY
  have HHC := hid hC
  have HHO := hid hO
  clear hY hC hO
  go_wp2_with fail
  have hT : Calls Tryz.prog 6 #[.slice co c.length cc, .agg #[.string ⟨#[55, 49]⟩, .bool false, .bool false, .string ⟨#[]⟩]] w _ := OwnH_any _ c ([55, 49], false, false, []) w HCC.out (by have := HFL.out; omega)
  refine hT.mono ?_
  rintro e x1 ⟨g, hg, rfl, ho, hb⟩
  have hB1 := hid (below_step HB0.out hb HB0.out.size)
  have HA := hid (SlR.old HA.out hb)
  have HM := hid (SlR.old HM.out hb)
  have HCC := hid (SlR.old HCC.out hb)
  have HPS := hid (Sl.old HPS.out hb)
  have HOC := hid ho
  clear hb hT ho hg
  go_wp2_with fail
  have hT := DApply_any _ _ l c x1 HA.out HOC.out.sl
  rw [HHY.out] at hT
  refine hT.mono ?_
  rintro e x2 ⟨u, rfl, ho, hb⟩
  have hB2 := hid (below_step hB1.out hb hB1.out.size)
  have HA := hid (SlR.old HA.out hb)
  have HM := hid (SlR.old HM.out hb)
  have HCC := hid (SlR.old HCC.out hb)
  have HPS := hid (Sl.old HPS.out hb)
  have HOC := hid (HOC.out.old hb)
  have X1 := hid ho.sl
  obtain ⟨uo2, uc2, rfl⟩ := owns_form ho
  clear hb hT ho
  go_wp2_with fail
  have hT := RApply_any _ _ l c x2 HA.out HCC.out
  rw [HHY.out] at hT
  refine hT.mono ?_
  rintro e x3 ⟨u, rfl, ho, hb⟩
  have hB3 := hid (below_step hB2.out hb hB2.out.size)
  have HA := hid (SlR.old HA.out hb)
  have HM := hid (SlR.old HM.out hb)
  have HCC := hid (SlR.old HCC.out hb)
  have HPS := hid (Sl.old HPS.out hb)
  have HOC := hid (HOC.out.old hb)
  have X1 := hid (SlR.old X1.out hb)
  have X2 := hid ho.sl
  obtain ⟨uo3, uc3, rfl⟩ := owns_form ho
  clear hb hT ho
  go_wp2_with fail
  have hT := awake_any x3
  refine hT.mono ?_
  rintro e x4 ⟨rfl, hb⟩
  have hB4 := hid (below_step hB3.out hb hB3.out.size)
  have HA := hid (SlR.old HA.out hb)
  have HM := hid (SlR.old HM.out hb)
  have HCC := hid (SlR.old HCC.out hb)
  have HPS := hid (Sl.old HPS.out hb)
  have HOC := hid (HOC.out.old hb)
  have X1 := hid (SlR.old X1.out hb)
  have X2 := hid (SlR.old X2.out hb)
  clear hb hT
  go_wp2_with fail
  have hT := PlainF_any _ _ Y Y x4 X1.out X2.out (by have := HAP.out; omega)
  rw [show (Y == Y) = true by simp] at hT
  refine hT.mono ?_
  rintro e x5 ⟨rfl, hb⟩
  have hB5 := hid (below_step hB4.out hb hB4.out.size)
  have HA := hid (SlR.old HA.out hb)
  have HM := hid (SlR.old HM.out hb)
  have HCC := hid (SlR.old HCC.out hb)
  have HPS := hid (Sl.old HPS.out hb)
  have HOC := hid (HOC.out.old hb)
  have X1 := hid (SlR.old X1.out hb)
  have X2 := hid (SlR.old X2.out hb)
  clear hb hT
  clear X1 X2
  go_wp2_with fail
  have hT := DChanges_any _ _ l m x5 HA.out HM.out (by have := HFL.out; omega) (by have := HFM.out; omega) HPA.out HPM.out
  rw [HHC.out] at hT
  refine hT.mono ?_
  rintro e x6 ⟨u, rfl, ho, hb⟩
  have hB6 := hid (below_step hB5.out hb hB5.out.size)
  have HA := hid (SlR.old HA.out hb)
  have HM := hid (SlR.old HM.out hb)
  have HCC := hid (SlR.old HCC.out hb)
  have HPS := hid (Sl.old HPS.out hb)
  have HOC := hid (HOC.out.old hb)
  have X1 := hid ho.sl
  obtain ⟨uo6, uc6, rfl⟩ := owns_form ho
  clear hb hT ho
  go_wp2_with fail
  have hT := RChanges_any _ _ l m x6 HA.out HM.out (by have := HFL.out; omega) (by have := HFM.out; omega)
  rw [HHC.out] at hT
  refine hT.mono ?_
  rintro e x7 ⟨u, rfl, ho, hb⟩
  have hB7 := hid (below_step hB6.out hb hB6.out.size)
  have HA := hid (SlR.old HA.out hb)
  have HM := hid (SlR.old HM.out hb)
  have HCC := hid (SlR.old HCC.out hb)
  have HPS := hid (Sl.old HPS.out hb)
  have HOC := hid (HOC.out.old hb)
  have X1 := hid (SlR.old X1.out hb)
  have X2 := hid ho.sl
  obtain ⟨uo7, uc7, rfl⟩ := owns_form ho
  clear hb hT ho
  go_wp2_with fail
  have hT := PlainH_any _ _ C C x7 X1.out X2.out (by have := HCL.out; have := HFL.out; have := HFM.out; omega)
  rw [show (C == C) = true by simp] at hT
  refine hT.mono ?_
  rintro e x8 ⟨rfl, hb⟩
  have hB8 := hid (below_step hB7.out hb hB7.out.size)
  have HA := hid (SlR.old HA.out hb)
  have HM := hid (SlR.old HM.out hb)
  have HCC := hid (SlR.old HCC.out hb)
  have HPS := hid (Sl.old HPS.out hb)
  have HOC := hid (HOC.out.old hb)
  have X1 := hid (SlR.old X1.out hb)
  have X2 := hid (SlR.old X2.out hb)
  clear hb hT
  clear X1 X2
  go_wp2_with fail
  have hT := DOnly_any _ _ c ps x8 HOC.out.sl (slT_of HPS.out) (by have := HFL.out; omega) (by have := HPSL.out; omega) HPP.out HPC.out
  rw [HHO.out] at hT
  refine hT.mono ?_
  rintro e x9 ⟨u, rfl, ho, hb⟩
  have hB9 := hid (below_step hB8.out hb hB8.out.size)
  have HA := hid (SlR.old HA.out hb)
  have HM := hid (SlR.old HM.out hb)
  have HCC := hid (SlR.old HCC.out hb)
  have HPS := hid (Sl.old HPS.out hb)
  have HOC := hid (HOC.out.old hb)
  have X1 := hid ho.sl
  obtain ⟨uo9, uc9, rfl⟩ := owns_form ho
  clear hb hT ho
  go_wp2_with fail
  have hT := ROnly_any _ _ c ps x9 HCC.out HPS.out (by have := HFL.out; omega) (by have := HPSL.out; omega)
  rw [HHO.out] at hT
  refine hT.mono ?_
  rintro e x10 ⟨u, rfl, ho, hb⟩
  have hB10 := hid (below_step hB9.out hb hB9.out.size)
  have HA := hid (SlR.old HA.out hb)
  have HM := hid (SlR.old HM.out hb)
  have HCC := hid (SlR.old HCC.out hb)
  have HPS := hid (Sl.old HPS.out hb)
  have HOC := hid (HOC.out.old hb)
  have X1 := hid (SlR.old X1.out hb)
  have X2 := hid ho.sl
  obtain ⟨uo10, uc10, rfl⟩ := owns_form ho
  clear hb hT ho
  go_wp2_with fail
  have hT := PlainH_any _ _ O O x10 X1.out X2.out (by have := HOL.out; omega)
  rw [show (O == O) = true by simp] at hT
  refine hT.mono ?_
  rintro e x11 ⟨rfl, hb⟩
  have hB11 := hid (below_step hB10.out hb hB10.out.size)
  have HA := hid (SlR.old HA.out hb)
  have HM := hid (SlR.old HM.out hb)
  have HCC := hid (SlR.old HCC.out hb)
  have HPS := hid (Sl.old HPS.out hb)
  have HOC := hid (HOC.out.old hb)
  have X1 := hid (SlR.old X1.out hb)
  have X2 := hid (SlR.old X2.out hb)
  clear hb hT
  clear X1 X2
  go_wp2_with fail
  have hT : Calls Tryz.prog 15 #[.slice (some ⟨g, 0, none⟩) c.length (c.length + 3), .slice co c.length cc, .agg #[.string ⟨#[55, 49]⟩, .bool false, .bool false, .string ⟨#[]⟩]] x11 _ := KeptH_any g _ c ([55, 49], false, false, []) x11 HOC.out HCC.out (by have := HFL.out; omega)
  refine hT.mono ?_
  rintro e x12 ⟨rfl, hb⟩
  have hB12 := hid (below_step hB11.out hb hB11.out.size)
  have HA := hid (SlR.old HA.out hb)
  have HM := hid (SlR.old HM.out hb)
  have HCC := hid (SlR.old HCC.out hb)
  have HPS := hid (Sl.old HPS.out hb)
  have HOC := hid (HOC.out.old hb)
  clear hb hT
  go_wp2_with fail
  go_ret
  exact ⟨rfl, hB12.out⟩
end

theorem own : ownKnob Tryz.prog.godebug = none := by kernel_rfl
theorem laidOut : laidOutB Tryz.prog = true := by kernel_rfl
theorem laid_met (os : Os) : laidMet Tryz.prog Rows.treeAppliesRow.laid ((laidWorld os).forCall (fun _ _ => 0) ⟨#[], #[.slice none 0 0, .slice none 0 0, .slice none 0 0, .slice none 0 0], []⟩).memory :=
  laidMet_of_run' 8 (by kernel_rfl) (by kernel_rfl)
theorem reads (os : Os) {H : Type} (enc : TypeId × Value → H) : ∃ places, DataW.whole enc Tryz.prog ((laidWorld os).forCall (fun _ _ => 0) ⟨#[], #[.slice none 0 0, .slice none 0 0, .slice none 0 0, .slice none 0 0], []⟩).memory Tryz.f3.params.toList Rows.treeAppliesSpec.vars false (#[.slice none 0 0, .slice none 0 0, .slice none 0 0, .slice none 0 0] : Array Value).toList 8 = some ([.nil, .nil, .nil, .nil], [], places) :=
  ⟨[], by kernel_rfl⟩

set_option maxRecDepth 100000 in
theorem contract (H : Type) (enc : TypeId × Value → H) (W : World) (base : Nat) (args : Array Value) (ds gs : List (DataW H)) (before : List MemPlace)
    (hval : ∀ (j : Nat) t v, Tryz.f3.params[j]? = some t → args[j]? = some v → Value.okWide Tryz.prog W .any base t v)
    (hW : DataW.Whole enc Tryz.prog Tryz.f3.params.toList Rows.treeAppliesSpec.vars false W args.toList ds gs before) (_hL : laidMetH Tryz.prog Rows.treeAppliesRow.laid W) :
    Calls Tryz.prog 3 args W fun e W' => ∃ v, e = .returned v ∧ Rows.treeAppliesSpec.post enc Tryz.prog Tryz.f3 false true false false W args v W' := by
  have hW' := hW
  obtain ⟨p, q, hA0, hV, rfl, hfz, hnd⟩ := hW
  have hA : DataW.TrodAll enc Tryz.prog W 0 (fun _ => true) true Tryz.f3.params.toList args.toList ds p := hA0
  rw [Tryz.params3] at hA hval
  obtain ⟨v0, vs0, d0, ds0, p0, q0, hargs, rfl, rfl, h0, r0⟩ := trodAll_cons hA
  obtain ⟨v1, vs1, d1, ds1, p1, q1, rfl, rfl, rfl, h1, r1⟩ := trodAll_cons r0
  obtain ⟨v2, vs2, d2, ds2, p2, q2, rfl, rfl, rfl, h2, r2⟩ := trodAll_cons r1
  obtain ⟨v3, vs3, d3, ds3, p3, q3, rfl, rfl, rfl, h3, r3⟩ := trodAll_cons r2
  obtain ⟨rfl, rfl, rfl⟩ := trodAll_nil r3
  obtain rfl : args = #[v0, v1, v2, v3] := by cases args; simp_all
  obtain ⟨rfl, rfl⟩ := trodVars_none hV
  have k0 := h0
  have lt0 : ∀ x ∈ p0, x.block < W.heap.size := by obtain ⟨m, hm⟩ := k0; exact DataW.trod_lt m _ _ _ hm
  obtain ⟨x0, l0, c0, rfl⟩ := okWide_slice Tryz.underlying22 (hval 0 22 v0 rfl rfl)
  obtain ⟨a0, w0⟩ : ∃ a, FactFiles W (.slice x0 l0 c0) a := by
    obtain ⟨fuel, hf⟩ := h0
    obtain ⟨v', a, hcs, hs⟩ := open_files hf
    obtain rfl : v' = .slice x0 l0 c0 := by simpa [Value.cells] using hcs.symm
    exact ⟨a, hs⟩
  have k1 := h1
  have lt1 : ∀ x ∈ p1, x.block < W.heap.size := by obtain ⟨m, hm⟩ := k1; exact DataW.trod_lt m _ _ _ hm
  obtain ⟨x1, l1, c1, rfl⟩ := okWide_slice Tryz.underlying22 (hval 1 22 v1 rfl rfl)
  obtain ⟨a1, w1⟩ : ∃ a, FactFiles W (.slice x1 l1 c1) a := by
    obtain ⟨fuel, hf⟩ := h1
    obtain ⟨v', a, hcs, hs⟩ := open_files hf
    obtain rfl : v' = .slice x1 l1 c1 := by simpa [Value.cells] using hcs.symm
    exact ⟨a, hs⟩
  have k2 := h2
  have lt2 : ∀ x ∈ p2, x.block < W.heap.size := by obtain ⟨m, hm⟩ := k2; exact DataW.trod_lt m _ _ _ hm
  obtain ⟨x2, l2, c2, rfl⟩ := okWide_slice Tryz.underlying23 (hval 2 23 v2 rfl rfl)
  obtain ⟨a2, w2⟩ : ∃ a, FactChanges W (.slice x2 l2 c2) a := by
    obtain ⟨fuel, hf⟩ := h2
    obtain ⟨v', a, hcs, hs⟩ := open_changes hf
    obtain rfl : v' = .slice x2 l2 c2 := by simpa [Value.cells] using hcs.symm
    exact ⟨a, hs⟩
  have k3 := h3
  have lt3 : ∀ x ∈ p3, x.block < W.heap.size := by obtain ⟨m, hm⟩ := k3; exact DataW.trod_lt m _ _ _ hm
  obtain ⟨x3, l3, c3, rfl⟩ := okWide_slice Tryz.underlying24 (hval 3 24 v3 rfl rfl)
  obtain ⟨a3, w3, e3⟩ : ∃ a, FactStrs W (.slice x3 l3 c3) a ∧ ((d3 = .nil ∧ a = []) ∨ ∃ rest, d3 = .slice (dataStrs a) rest) := by
    obtain ⟨fuel, hf⟩ := h3
    obtain ⟨v', a, hcs, hs, hx⟩ := open_strL Tryz.underlying24 Tryz.underlying9 (by kernel_rfl) hf
    obtain rfl : v' = .slice x3 l3 c3 := by simpa [Value.cells] using hcs.symm
    exact ⟨a, hs, hx⟩
  clear e3
  clear hA0
  refine (walk (.slice x0 l0 c0) a0 (.slice x1 l1 c1) a1 (.slice x2 l2 c2) a2 (.slice x3 l3 c3) a3 W w0 w1 w2 w3).mono fun e W' ⟨he, bel⟩ => ?_
  subst he
  exact ⟨_, rfl, _, _, _, [], _, [], hW', trodAll_mk1 (shut_bool Tryz.underlying4 _), (trodAll_cons_mk (Below.trod laidOut (by kernel_rfl) (of_decide_eq_true (by kernel_rfl)) k0 bel lt0) (trodAll_cons_mk (Below.trod laidOut (by kernel_rfl) (of_decide_eq_true (by kernel_rfl)) k1 bel lt1) (trodAll_cons_mk (Below.trod laidOut (by kernel_rfl) (of_decide_eq_true (by kernel_rfl)) k2 bel lt2) (trodAll_cons_mk (Below.trod laidOut (by kernel_rfl) (of_decide_eq_true (by kernel_rfl)) k3 bel lt3) trodAll_mk0)))), rfl, bel.frame _, fun h => by cases h⟩

set_option maxRecDepth 100000 in
theorem lifted (os : Os) (started : os.Started) (H : Type) (enc : TypeId × Value → H) (F : Stop.Interp) :
    ReturnsInHanded {} Tryz.checked os 3 .any ((OpenSpec.ofChange Rows.treeAppliesSpec).preRow enc Tryz.prog Tryz.f3 Rows.treeAppliesRow.domain false Rows.treeAppliesRow.laid) (((OpenSpec.ofChange Rows.treeAppliesSpec).at F).post enc Tryz.prog Tryz.f3 false true false false) := by
  obtain ⟨places, hx⟩ := reads os enc
  refine returnsInHanded_of_row (C := Tryz.checked) (s := OpenSpec.ofChange Rows.treeAppliesSpec) own started (by kernel_rfl) Tryz.func3
    (witness_row_at (enc := enc) (C := Tryz.checked) false (laidWorld os) #[.slice none 0 0, .slice none 0 0, .slice none 0 0, .slice none 0 0] rfl (by kernel_rfl) (by kernel_rfl) (by kernel_rfl)
      (OpenSpec.preRow_of_cond 8 hx (by kernel_rfl) (fun k hk => by cases hk) (by kernel_rfl) (laid_met os))) ?_
  intro W base args ds gs before hval hW _ _ _ hL _ _
  exact contract H enc W base args ds gs before hval hW hL

theorem said : Rows.TreeAppliesSaid :=
  OpenClaim.holds_of_cond 3 Tryz.f3 rfl rfl rfl rfl rfl rfl rfl ⟨rfl, rfl, rfl, rfl, rfl⟩ rfl rfl rfl rfl rfl (by kernel_rfl) Tryz.func3 (by kernel_rfl)
    (of_decide_eq_true (by kernel_rfl)) (by unfold Func.isWrapper; first | (rw [if_pos (by decide +kernel)]; kernel_rfl) | (rw [if_neg (by decide +kernel)]; exact ⟨rfl, rfl⟩))
    (fun os started H enc _ F => by rw [OpenClaim.pre_eq_preRow]; exact lifted os started H enc F)

theorem plain (f : FuncId) (fn : Func) (hf : Tryz.pinned.checked.prog.funcNamed "rick/ricklaw12.TreeApplies" = some f) (hfn : Tryz.pinned.checked.prog.funcs[f]? = some fn) :
    false = Tryz.pinned.checked.prog.looks [] ∧ ∀ (j : Nat) t, fn.params[j]? = some t → Tryz.pinned.checked.prog.wantsStandIn t = false := by
  obtain rfl : f = 3 := Option.some.inj ((show Tryz.prog.funcNamed "rick/ricklaw12.TreeApplies" = some 3 by kernel_rfl).symm.trans hf) |>.symm
  obtain rfl : fn = Tryz.f3 := (Option.some.inj (Tryz.func3.symm.trans hfn)).symm
  refine ⟨by kernel_rfl, fun j t ht => ?_⟩
  rw [Tryz.params3] at ht
  have hm := Array.mem_of_getElem? ht
  simp only [List.mem_toArray, List.mem_cons, List.not_mem_nil, or_false] at hm
  rcases hm with rfl | rfl | rfl | rfl
  · exact (show Tryz.prog.wantsStandIn 22 = false by kernel_rfl)
  · exact (show Tryz.prog.wantsStandIn 22 = false by kernel_rfl)
  · exact (show Tryz.prog.wantsStandIn 23 = false by kernel_rfl)
  · exact (show Tryz.prog.wantsStandIn 24 = false by kernel_rfl)

/-- The statement. -/
theorem proved : Rows.TreeAppliesCardSaid :=
  Claim7.holds_tied_plain_at .later [] _ _ _ _ said (fun _ h => by cases h) (by kernel_rfl) (fun _ h => by cases h) treeApplies_row_tie rfl ⟨rfl, rfl⟩ (by kernel_rfl) rfl plain (by kernel_rfl)
#print axioms proved

end Go.Proofs.YtndmblelkeepjaaGreatDoor.treeApplies
