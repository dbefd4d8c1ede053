/-
  TreeLeads: changes from one tree to another one, applied, deletions first, are that one; of a tree to itself there are none; back, likewise.
-/
import Derived.Test.YtndmblelkeepjaaDoorTreAw
import Derived.Test.YtndmblelkeepjaaDoorPtrI
import Derived.Test.YtndmblelkeepjaaDoorTrL
import Derived.Test.YtndmblelkeepjaaDoorOpenF
import Derived.Test.YtndmblelkeepjaaDoorTabU
import Derived.ProofKit
import Derived.OpenShut
namespace Go.Proofs.YtndmblelkeepjaaDoor.treeLeads
open Go.ChangeShapes Go.WideShapes Go.ChangeAt Go.RowKit
open BigFrame

section
set_option maxRecDepth 100000
set_option maxHeartbeats 4000000
theorem walk (va : Value) (l : List FileS) (vm : Value) (m : List FileS) (w : World) (ha : FactFiles w va l) (hm : FactFiles w vm m) :
    Calls Tryd.prog 4 #[va, vm] w fun e w' => e = .returned (.bool true) ∧ Below w.heap.size w w' := by
  have HA := hid ha.1
  have HM := hid hm.1
  clear ha hm
  obtain ⟨A, hA⟩ : ∃ y, treeS l = y := ⟨_, rfl⟩
  have TA := treeS_is l
  rw [hA] at TA
  have HTA := hid TA.1
  have HLA := hid TA.2.1
  have HPA := hid (show ∀ f ∈ A, f.1.length ≤ maxLen from fun f hf => by
    have := okOne_len (TA.1.ok f hf)
    unfold maxLen
    omega)
  have HEA := hid hA
  clear TA hA
  obtain ⟨B, hB⟩ : ∃ y, treeS m = y := ⟨_, rfl⟩
  have TB := treeS_is m
  rw [hB] at TB
  have HTB := hid TB.1
  have HLB := hid TB.2.1
  have HPB := hid (show ∀ f ∈ B, f.1.length ≤ maxLen from fun f hf => by
    have := okOne_len (TB.1.ok f hf)
    unfold maxLen
    omega)
  have HEB := hid hB
  clear TB hB
  have HC := hid (changes_len A B)
  have HD := hid (changes_len B A)
  have HLE := hid (leads HTA.out HTB.out (by have := changes_len A B; have := HLA.out; have := HLB.out; omega))
  have HLF := hid (leads HTB.out HTA.out (by have := changes_len B A; have := HLA.out; have := HLB.out; omega))
  have HRB := hid ((rightT_iff B).2 HTB.out)
  have HBK := hid (changes_back A B)
  obtain ⟨C, hC⟩ : ∃ y, changesS A B = y := ⟨_, rfl⟩
  obtain ⟨D, hD⟩ : ∃ y, changesS B A = y := ⟨_, rfl⟩
  rw [hC] at HLE HC HBK
  rw [hD] at HLF HD HBK
  have HEC := hid hC
  have HED := hid hD
  clear hC hD
  obtain ⟨n, hn⟩ : ∃ n, C.length = n := ⟨_, rfl⟩
  have HNC := hid hn
  have HND := hid (show D.length = n by rw [← HBK.out, hn])
  clear hn
  have HB0 := hid (Below.refl w.heap.size w)
  go_enter Tryd.func4, Tryd.ntmps4
  go_wp2_with fail
  have hT := PTree_any _ l w HA.out
  rw [HEA.out] at hT
  refine hT.mono ?_
  rintro e x1 ⟨u, rfl, ho, hb⟩
  have hB1 := hid (below_step HB0.out hb HB0.out.size)
  have HA := hid (SlR.old HA.out hb)
  have HM := hid (SlR.old HM.out hb)
  have TA := hid ho.sl
  obtain ⟨uo1, uc1, rfl⟩ := owns_form ho
  clear hb hT ho
  go_wp2_with fail
  have hT := PTree_any _ m x1 HM.out
  rw [HEB.out] at hT
  refine hT.mono ?_
  rintro e x2 ⟨u, rfl, ho, hb⟩
  have hB2 := hid (below_step hB1.out hb hB1.out.size)
  have HA := hid (SlR.old HA.out hb)
  have HM := hid (SlR.old HM.out hb)
  have TA := hid (SlR.old TA.out hb)
  have TB := hid ho.sl
  obtain ⟨uo2, uc2, rfl⟩ := owns_form ho
  clear hb hT ho
  go_wp2_with fail
  have hT := DChanges_any _ _ A B x2 TA.out TB.out (by have := HLA.out; omega) (by have := HLB.out; omega) HPA.out HPB.out
  rw [HEC.out] at hT
  refine hT.mono ?_
  rintro e x3 ⟨u, rfl, ho, hb⟩
  have hB3 := hid (below_step hB2.out hb hB2.out.size)
  have HA := hid (SlR.old HA.out hb)
  have HM := hid (SlR.old HM.out hb)
  have TA := hid (SlR.old TA.out hb)
  have TB := hid (SlR.old TB.out hb)
  have CH := hid ho.sl
  obtain ⟨uo3, uc3, rfl⟩ := own_n n ho HNC.out
  clear hb hT ho
  go_wp2_with fail
  have hT := RFirst_any _ C x3 CH.out (by have := HC.out; have := HLA.out; have := HLB.out; omega)
  refine hT.mono ?_
  rintro e x4 ⟨u, rfl, ho, hb⟩
  have hB4 := hid (below_step hB3.out hb hB3.out.size)
  have HA := hid (SlR.old HA.out hb)
  have HM := hid (SlR.old HM.out hb)
  have TA := hid (SlR.old TA.out hb)
  have TB := hid (SlR.old TB.out hb)
  have CH := hid (SlR.old CH.out hb)
  have FI := hid ho.sl
  obtain ⟨uo4, uc4, rfl⟩ := owns_form ho
  clear hb hT ho
  go_wp2_with fail
  have hT := DApply_any _ _ A (firstS C) x4 TA.out FI.out
  rw [HLE.out] at hT
  refine hT.mono ?_
  rintro e x5 ⟨u, rfl, ho, hb⟩
  have hB5 := hid (below_step hB4.out hb hB4.out.size)
  have HA := hid (SlR.old HA.out hb)
  have HM := hid (SlR.old HM.out hb)
  have TA := hid (SlR.old TA.out hb)
  have TB := hid (SlR.old TB.out hb)
  have CH := hid (SlR.old CH.out hb)
  have FI := hid (SlR.old FI.out hb)
  have XB := hid ho.sl
  obtain ⟨uo5, uc5, rfl⟩ := owns_form ho
  clear hb hT ho
  clear FI
  go_wp2_with fail
  have hT := DChanges_any _ _ B A x5 TB.out TA.out (by have := HLB.out; omega) (by have := HLA.out; omega) HPB.out HPA.out
  rw [HED.out] at hT
  refine hT.mono ?_
  rintro e x6 ⟨u, rfl, ho, hb⟩
  have hB6 := hid (below_step hB5.out hb hB5.out.size)
  have HA := hid (SlR.old HA.out hb)
  have HM := hid (SlR.old HM.out hb)
  have TA := hid (SlR.old TA.out hb)
  have TB := hid (SlR.old TB.out hb)
  have CH := hid (SlR.old CH.out hb)
  have XB := hid (SlR.old XB.out hb)
  have CD := hid ho.sl
  obtain ⟨uo6, uc6, rfl⟩ := own_n n ho HND.out
  clear hb hT ho
  go_wp2_with fail
  have hT := RFirst_any _ D x6 CD.out (by have := HD.out; have := HLA.out; have := HLB.out; omega)
  refine hT.mono ?_
  rintro e x7 ⟨u, rfl, ho, hb⟩
  have hB7 := hid (below_step hB6.out hb hB6.out.size)
  have HA := hid (SlR.old HA.out hb)
  have HM := hid (SlR.old HM.out hb)
  have TA := hid (SlR.old TA.out hb)
  have TB := hid (SlR.old TB.out hb)
  have CH := hid (SlR.old CH.out hb)
  have XB := hid (SlR.old XB.out hb)
  have CD := hid (SlR.old CD.out hb)
  have FI := hid ho.sl
  obtain ⟨uo7, uc7, rfl⟩ := owns_form ho
  clear hb hT ho
  go_wp2_with fail
  have hT := DApply_any _ _ B (firstS D) x7 TB.out FI.out
  rw [HLF.out] at hT
  refine hT.mono ?_
  rintro e x8 ⟨u, rfl, ho, hb⟩
  have hB8 := hid (below_step hB7.out hb hB7.out.size)
  have HA := hid (SlR.old HA.out hb)
  have HM := hid (SlR.old HM.out hb)
  have TA := hid (SlR.old TA.out hb)
  have TB := hid (SlR.old TB.out hb)
  have CH := hid (SlR.old CH.out hb)
  have XB := hid (SlR.old XB.out hb)
  have CD := hid (SlR.old CD.out hb)
  have FI := hid (SlR.old FI.out hb)
  have YA := hid ho.sl
  obtain ⟨uo8, uc8, rfl⟩ := owns_form ho
  clear hb hT ho
  clear FI
  clear CD
  go_wp2_with fail
  have hT := awake_any x8
  refine hT.mono ?_
  rintro e x9 ⟨rfl, hb⟩
  have hB9 := hid (below_step hB8.out hb hB8.out.size)
  have HA := hid (SlR.old HA.out hb)
  have HM := hid (SlR.old HM.out hb)
  have TA := hid (SlR.old TA.out hb)
  have TB := hid (SlR.old TB.out hb)
  have CH := hid (SlR.old CH.out hb)
  have XB := hid (SlR.old XB.out hb)
  have YA := hid (SlR.old YA.out hb)
  clear hb hT
  go_wp2_with fail
  have hT := DSame_any _ _ B B x9 XB.out TB.out (by have := HLB.out; omega)
  rw [show (B == B) = true by simp] at hT
  refine hT.mono ?_
  rintro e x10 ⟨rfl, hb⟩
  have hB10 := hid (below_step hB9.out hb hB9.out.size)
  have HA := hid (SlR.old HA.out hb)
  have HM := hid (SlR.old HM.out hb)
  have TA := hid (SlR.old TA.out hb)
  have TB := hid (SlR.old TB.out hb)
  have CH := hid (SlR.old CH.out hb)
  have XB := hid (SlR.old XB.out hb)
  have YA := hid (SlR.old YA.out hb)
  clear hb hT
  go_wp2_with fail
  have hT := DSame_any _ _ A A x10 YA.out TA.out (by have := HLA.out; omega)
  rw [show (A == A) = true by simp] at hT
  refine hT.mono ?_
  rintro e x11 ⟨rfl, hb⟩
  have hB11 := hid (below_step hB10.out hb hB10.out.size)
  have HA := hid (SlR.old HA.out hb)
  have HM := hid (SlR.old HM.out hb)
  have TA := hid (SlR.old TA.out hb)
  have TB := hid (SlR.old TB.out hb)
  have CH := hid (SlR.old CH.out hb)
  have XB := hid (SlR.old XB.out hb)
  have YA := hid (SlR.old YA.out hb)
  clear hb hT
  go_wp2_with fail
  have hT := DChanges_any _ _ A A x11 TA.out TA.out (by have := HLA.out; omega) (by have := HLA.out; omega) HPA.out HPA.out
  rw [changes_self A] at hT
  refine hT.mono ?_
  rintro e x12 ⟨u, rfl, ho, hb⟩
  have hB12 := hid (below_step hB11.out hb hB11.out.size)
  have HA := hid (SlR.old HA.out hb)
  have HM := hid (SlR.old HM.out hb)
  have TA := hid (SlR.old TA.out hb)
  have TB := hid (SlR.old TB.out hb)
  have CH := hid (SlR.old CH.out hb)
  have XB := hid (SlR.old XB.out hb)
  have YA := hid (SlR.old YA.out hb)
  have C3 := hid ho.sl
  obtain ⟨uo12, uc12, rfl⟩ := own_n 0 ho (by simp)
  clear hb hT ho
  clear C3
  go_wp2_with fail
  have hT := DChanges_any _ _ B A x12 TB.out TA.out (by have := HLB.out; omega) (by have := HLA.out; omega) HPB.out HPA.out
  rw [HED.out] at hT
  refine hT.mono ?_
  rintro e x13 ⟨u, rfl, ho, hb⟩
  have hB13 := hid (below_step hB12.out hb hB12.out.size)
  have HA := hid (SlR.old HA.out hb)
  have HM := hid (SlR.old HM.out hb)
  have TA := hid (SlR.old TA.out hb)
  have TB := hid (SlR.old TB.out hb)
  have CH := hid (SlR.old CH.out hb)
  have XB := hid (SlR.old XB.out hb)
  have YA := hid (SlR.old YA.out hb)
  have CD := hid ho.sl
  obtain ⟨uo13, uc13, rfl⟩ := own_n n ho HND.out
  clear hb hT ho
  clear CD
  go_wp2_with fail
  have hT := DRightT_any _ B x13 XB.out
  rw [HRB.out] at hT
  refine hT.mono ?_
  rintro e x14 ⟨rfl, hb⟩
  have hB14 := hid (below_step hB13.out hb hB13.out.size)
  have HA := hid (SlR.old HA.out hb)
  have HM := hid (SlR.old HM.out hb)
  have TA := hid (SlR.old TA.out hb)
  have TB := hid (SlR.old TB.out hb)
  have CH := hid (SlR.old CH.out hb)
  have XB := hid (SlR.old XB.out hb)
  have YA := hid (SlR.old YA.out hb)
  clear hb hT
  go_wp2_with fail
  go_ret
  exact ⟨rfl, hB14.out⟩
end

theorem own : ownKnob Tryd.prog.godebug = none := by kernel_rfl
theorem laidOut : laidOutB Tryd.prog = true := by kernel_rfl
theorem laid_met (os : Os) : laidMet Tryd.prog Rows.treeLeadsRow.laid ((laidWorld os).forCall (fun _ _ => 0) ⟨#[], #[.slice none 0 0, .slice none 0 0], []⟩).memory :=
  laidMet_of_run' 8 (by kernel_rfl) (by kernel_rfl)
theorem reads (os : Os) {H : Type} (enc : TypeId × Value → H) : ∃ places, DataW.whole enc Tryd.prog ((laidWorld os).forCall (fun _ _ => 0) ⟨#[], #[.slice none 0 0, .slice none 0 0], []⟩).memory Tryd.f4.params.toList Rows.treeLeadsSpec.vars false (#[.slice none 0 0, .slice none 0 0] : Array Value).toList 8 = some ([.nil, .nil], [], places) :=
  ⟨[], by kernel_rfl⟩

set_option maxRecDepth 100000 in
theorem contract (H : Type) (enc : TypeId × Value → H) (W : World) (base : Nat) (args : Array Value) (ds gs : List (DataW H)) (before : List MemPlace)
    (hval : ∀ (j : Nat) t v, Tryd.f4.params[j]? = some t → args[j]? = some v → Value.okWide Tryd.prog W .any base t v)
    (hW : DataW.Whole enc Tryd.prog Tryd.f4.params.toList Rows.treeLeadsSpec.vars false W args.toList ds gs before) (_hL : laidMetH Tryd.prog Rows.treeLeadsRow.laid W) :
    Calls Tryd.prog 4 args W fun e W' => ∃ v, e = .returned v ∧ Rows.treeLeadsSpec.post enc Tryd.prog Tryd.f4 false true false false W args v W' := by
  have hW' := hW
  obtain ⟨p, q, hA0, hV, rfl, hfz, hnd⟩ := hW
  have hA : DataW.TrodAll enc Tryd.prog W 0 (fun _ => true) true Tryd.f4.params.toList args.toList ds p := hA0
  rw [Tryd.params4] at hA hval
  obtain ⟨v0, vs0, d0, ds0, p0, q0, hargs, rfl, rfl, h0, r0⟩ := trodAll_cons hA
  obtain ⟨v1, vs1, d1, ds1, p1, q1, rfl, rfl, rfl, h1, r1⟩ := trodAll_cons r0
  obtain ⟨rfl, rfl, rfl⟩ := trodAll_nil r1
  obtain rfl : args = #[v0, v1] := by cases args; simp_all
  obtain ⟨rfl, rfl⟩ := trodVars_none hV
  have k0 := h0
  have lt0 : ∀ x ∈ p0, x.block < W.heap.size := by obtain ⟨m, hm⟩ := k0; exact DataW.trod_lt m _ _ _ hm
  obtain ⟨x0, l0, c0, rfl⟩ := okWide_slice Tryd.underlying22 (hval 0 22 v0 rfl rfl)
  obtain ⟨a0, w0⟩ : ∃ a, FactFiles W (.slice x0 l0 c0) a := by
    obtain ⟨fuel, hf⟩ := h0
    obtain ⟨v', a, hcs, hs⟩ := open_files hf
    obtain rfl : v' = .slice x0 l0 c0 := by simpa [Value.cells] using hcs.symm
    exact ⟨a, hs⟩
  have k1 := h1
  have lt1 : ∀ x ∈ p1, x.block < W.heap.size := by obtain ⟨m, hm⟩ := k1; exact DataW.trod_lt m _ _ _ hm
  obtain ⟨x1, l1, c1, rfl⟩ := okWide_slice Tryd.underlying22 (hval 1 22 v1 rfl rfl)
  obtain ⟨a1, w1⟩ : ∃ a, FactFiles W (.slice x1 l1 c1) a := by
    obtain ⟨fuel, hf⟩ := h1
    obtain ⟨v', a, hcs, hs⟩ := open_files hf
    obtain rfl : v' = .slice x1 l1 c1 := by simpa [Value.cells] using hcs.symm
    exact ⟨a, hs⟩
  clear hA0
  refine (walk (.slice x0 l0 c0) a0 (.slice x1 l1 c1) a1 W w0 w1).mono fun e W' ⟨he, bel⟩ => ?_
  subst he
  exact ⟨_, rfl, _, _, _, [], _, [], hW', trodAll_mk1 (shut_bool Tryd.underlying4 _), (trodAll_cons_mk (Below.trod laidOut (by kernel_rfl) (of_decide_eq_true (by kernel_rfl)) k0 bel lt0) (trodAll_cons_mk (Below.trod laidOut (by kernel_rfl) (of_decide_eq_true (by kernel_rfl)) k1 bel lt1) trodAll_mk0)), rfl, bel.frame _, fun h => by cases h⟩

set_option maxRecDepth 100000 in
theorem lifted (os : Os) (started : os.Started) (H : Type) (enc : TypeId × Value → H) (F : Stop.Interp) :
    ReturnsInHanded {} Tryd.checked os 4 .any ((OpenSpec.ofChange Rows.treeLeadsSpec).preRow enc Tryd.prog Tryd.f4 Rows.treeLeadsRow.domain false Rows.treeLeadsRow.laid) (((OpenSpec.ofChange Rows.treeLeadsSpec).at F).post enc Tryd.prog Tryd.f4 false true false false) := by
  obtain ⟨places, hx⟩ := reads os enc
  refine returnsInHanded_of_row (C := Tryd.checked) (s := OpenSpec.ofChange Rows.treeLeadsSpec) own started (by kernel_rfl) Tryd.func4
    (witness_row_at (enc := enc) (C := Tryd.checked) false (laidWorld os) #[.slice none 0 0, .slice none 0 0] rfl (by kernel_rfl) (by kernel_rfl) (by kernel_rfl)
      (OpenSpec.preRow_of_cond 8 hx (by kernel_rfl) (fun k hk => by cases hk) (by kernel_rfl) (laid_met os))) ?_
  intro W base args ds gs before hval hW _ _ _ hL _ _
  exact contract H enc W base args ds gs before hval hW hL

theorem said : Rows.TreeLeadsSaid :=
  OpenClaim.holds_of_cond 4 Tryd.f4 rfl rfl rfl rfl rfl rfl rfl ⟨rfl, rfl, rfl, rfl, rfl⟩ rfl rfl rfl rfl rfl (by kernel_rfl) Tryd.func4 (by kernel_rfl)
    (of_decide_eq_true (by kernel_rfl)) (by unfold Func.isWrapper; first | (rw [if_pos (by decide +kernel)]; kernel_rfl) | (rw [if_neg (by decide +kernel)]; exact ⟨rfl, rfl⟩))
    (fun os started H enc _ F => by rw [OpenClaim.pre_eq_preRow]; exact lifted os started H enc F)

theorem plain (f : FuncId) (fn : Func) (hf : Tryd.pinned.checked.prog.funcNamed "rick/ricklaw12.TreeLeads" = some f) (hfn : Tryd.pinned.checked.prog.funcs[f]? = some fn) :
    false = Tryd.pinned.checked.prog.looks [] ∧ ∀ (j : Nat) t, fn.params[j]? = some t → Tryd.pinned.checked.prog.wantsStandIn t = false := by
  obtain rfl : f = 4 := Option.some.inj ((show Tryd.prog.funcNamed "rick/ricklaw12.TreeLeads" = some 4 by kernel_rfl).symm.trans hf) |>.symm
  obtain rfl : fn = Tryd.f4 := (Option.some.inj (Tryd.func4.symm.trans hfn)).symm
  refine ⟨by kernel_rfl, fun j t ht => ?_⟩
  rw [Tryd.params4] at ht
  have hm := Array.mem_of_getElem? ht
  simp only [List.mem_toArray, List.mem_cons, List.not_mem_nil, or_false] at hm
  rcases hm with rfl | rfl
  · exact (show Tryd.prog.wantsStandIn 22 = false by kernel_rfl)
  · exact (show Tryd.prog.wantsStandIn 22 = false by kernel_rfl)

/-- The statement. -/
theorem proved : Rows.TreeLeadsCardSaid :=
  Claim7.holds_tied_plain_at .later [] _ _ _ _ said (fun _ h => by cases h) (by kernel_rfl) (fun _ h => by cases h) treeLeads_row_tie rfl ⟨rfl, rfl⟩ (by kernel_rfl) rfl plain (by kernel_rfl)
#print axioms proved

end Go.Proofs.YtndmblelkeepjaaDoor.treeLeads
