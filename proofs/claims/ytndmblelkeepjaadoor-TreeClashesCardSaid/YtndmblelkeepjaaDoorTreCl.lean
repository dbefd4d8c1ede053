/-
  TreeClashes: a file where a folder is, or within a file, is refused; with the other one gone it is put.
-/
import Derived.Test.YtndmblelkeepjaaDoorTreAw
import Derived.Test.YtndmblelkeepjaaDoorPtrI
import Derived.Test.YtndmblelkeepjaaDoorOwnF
import Derived.Test.YtndmblelkeepjaaDoorTrQ
import Derived.Test.YtndmblelkeepjaaDoorStr
import Derived.Test.YtndmblelkeepjaaDoorOpenF
import Derived.Test.YtndmblelkeepjaaDoorTabU
import Derived.ProofKit
import Derived.OpenShut
namespace Go.Proofs.YtndmblelkeepjaaDoor.treeClashes
open Go.ChangeShapes Go.WideShapes Go.ChangeAt Go.RowKit
open BigFrame

section
set_option maxRecDepth 100000
set_option maxHeartbeats 4000000
theorem walk (p q t : List UInt8) (w : World) (_hp : p.length ≤ maxLen) (_hq : q.length ≤ maxLen) (_ht : t.length ≤ maxLen) :
    Calls Tryd.prog 6 #[strV p, strV q, strV t] w fun e w' => e = .returned (.bool true) ∧ Below w.heap.size w w' := by
  clear _hp _hq _ht
  have HAW := hid (fun wy => awake_any wy)
  unfold strV
  have big : ¬ (p.length ≤ 40 ∧ q.length ≤ 40 ∧ t.length ≤ 300) → Calls Tryd.prog 6 #[.string ⟨p.toArray⟩, .string ⟨q.toArray⟩, .string ⟨t.toArray⟩] w fun e w' => e = .returned (.bool true) ∧ Below w.heap.size w w' := by
    intro hn
    by_cases h1 : p.length ≤ 40
    · have p1 : decide (40 < (p.length : Int)) = false := decide_eq_false (by omega)
      have p2 : decide (40 < p.length) = false := decide_eq_false (by omega)
      by_cases h2 : q.length ≤ 40
      · have q1 : decide (40 < (q.length : Int)) = false := decide_eq_false (by omega)
        have q2 : decide (40 < q.length) = false := decide_eq_false (by omega)
        have t1 : decide (300 < (t.length : Int)) = true := decide_eq_true (by omega)
        have t2 : decide (300 < t.length) = true := decide_eq_true (by omega)
        clear hn h1 h2
        go_enter Tryd.func6, Tryd.ntmps6
        go_wp2_with (go_at_call 9; refine (HAW.out _).mono ?_; rintro e w2 ⟨rfl, hb2⟩; have HB2 := hid hb2; clear hb2)
        go_ret
        exact ⟨rfl, HB2.out⟩
      · have q1 : decide (40 < (q.length : Int)) = true := decide_eq_true (by omega)
        have q2 : decide (40 < q.length) = true := decide_eq_true (by omega)
        clear hn h1 h2
        go_enter Tryd.func6, Tryd.ntmps6
        go_wp2_with (go_at_call 9; refine (HAW.out _).mono ?_; rintro e w2 ⟨rfl, hb2⟩; have HB2 := hid hb2; clear hb2)
        go_ret
        exact ⟨rfl, HB2.out⟩
    · have p1 : decide (40 < (p.length : Int)) = true := decide_eq_true (by omega)
      have p2 : decide (40 < p.length) = true := decide_eq_true (by omega)
      clear hn h1
      go_enter Tryd.func6, Tryd.ntmps6
      go_wp2_with (go_at_call 9; refine (HAW.out _).mono ?_; rintro e w2 ⟨rfl, hb2⟩; have HB2 := hid hb2; clear hb2)
      go_ret
      exact ⟨rfl, HB2.out⟩
  by_cases hs : p.length ≤ 40 ∧ q.length ≤ 40 ∧ t.length ≤ 300
  case neg => exact big hs
  clear big
  obtain ⟨h1, h2, h3⟩ := hs
  have p1 : decide (40 < (p.length : Int)) = false := decide_eq_false (by omega)
  have p2 : decide (40 < p.length) = false := decide_eq_false (by omega)
  have q1 : decide (40 < (q.length : Int)) = false := decide_eq_false (by omega)
  have q2 : decide (40 < q.length) = false := decide_eq_false (by omega)
  have t1 : decide (300 < (t.length : Int)) = false := decide_eq_false (by omega)
  have t2 : decide (300 < t.length) = false := decide_eq_false (by omega)
  have hadd1 : ∀ wx, (Op.stringOp .add ⟨p.toArray⟩ ⟨#[47]⟩).run Tryd.prog wx = .ok (.string ⟨(p ++ [47]).toArray⟩) wx := fun wx => run_str_add (P := Tryd.prog) p [47] (by simp; omega) wx
  have hadd2 : ∀ wx, (Op.stringOp .add ⟨(p ++ [47]).toArray⟩ ⟨q.toArray⟩).run Tryd.prog wx = .ok (.string ⟨(p ++ [47] ++ q).toArray⟩) wx := fun wx => run_str_add (P := Tryd.prog) (p ++ [47]) q (by simp; omega) wx
  obtain ⟨s, hs⟩ : ∃ s, p ++ [47] = s := ⟨_, rfl⟩
  rw [hs] at hadd1 hadd2
  obtain ⟨i, hi⟩ : ∃ i, s ++ q = i := ⟨_, rfl⟩
  rw [hi] at hadd2
  have HI := hid (show i = p ++ 47 :: q by rw [← hi, ← hs]; simp)
  have HT := hid (show t.length ≤ 20000 by omega)
  clear h1 h2 h3 hs hi
  have HP1 := hid (show Calls Tryd.prog 13 #[.slice none 0 0, .agg #[.string ⟨i.toArray⟩, .bool false, .string ⟨t.toArray⟩]] w _ from DPut_any _ [] (i, false, t) w (SlR.nil _))
  have HB0 := hid (Below.refl w.heap.size w)
  go_enter Tryd.func6, Tryd.ntmps6
  obtain ⟨ri, hri⟩ : ∃ r, rightS i = r := ⟨_, rfl⟩
  cases ri with
  | false =>
    have hb : putS [] (i, false, t) = ([], 11) := by
      unfold putS
      rw [if_pos ((rightT_iff _).2 IsTree.nil), if_neg (by rw [hri]; simp)]
    rw [hb] at HP1
    clear hb hri
    go_wp2_with (first
      | (go_at_call 13; refine HP1.out.mono ?_; rintro e w2 ⟨u2, rfl, ho2, hb2⟩; have HB2 := hid hb2; clear hb2 ho2)
      | (go_at_call 9; refine (HAW.out _).mono ?_; rintro e w3 ⟨rfl, hb3⟩; have HB3 := hid (below_step HB2.out hb3 HB2.out.size); clear hb3))
    go_ret
    exact ⟨rfl, HB3.out⟩
  | true =>
  have hr : rightS (p ++ 47 :: q) = true := by rw [← HI.out]; exact hri
  have hrp := right_split hr
  have HR := hid hr
  have HRP := hid hrp
  have HRI := hid hri
  clear hr hrp hri
  rw [show putS [] (i, false, t) = ([(i, false, t)], 0) from put_nil (ok_file HRI.out HT.out)] at HP1
  have HE1 := hid (show putS [(i, false, t)] (p, false, []) = ([], 11) from put_clash (ok_file HRI.out HT.out) HRP.out (by simp) (by rw [HI.out]; exact inn_ne p q) (by rw [HI.out]; exact clash_in p q))
  have HE2 := hid (show putS [] (p, false, ([] : Txt)) = ([(p, false, [])], 0) from put_nil (ok_file HRP.out (by simp)))
  have HE3 := hid (show putS [(p, false, ([] : Txt))] (i, false, []) = ([], 11) from put_clash (ok_file HRP.out (by simp)) HRI.out (by simp) (by rw [HI.out]; exact fun e => inn_ne p q e.symm) (by rw [HI.out]; exact clash_in2 p q))
  have HE4 := hid (show applyT [(i, false, t)] [(i, true, false, []), (p, false, false, t)] = ([(p, false, t)], 0) by rw [HI.out]; exact clash_apply HR.out HT.out)
  go_wp2_with fail
  have hT := HP1.out
  refine hT.mono ?_
  rintro e x1 ⟨u, rfl, ho, hb⟩
  have hB1 := hid (below_step HB0.out hb HB0.out.size)
  have TL := hid ho.sl
  obtain ⟨uo1, uc1, rfl⟩ := own_n 1 ho (by simp)
  clear hb hT ho
  go_wp2_with fail
  have hT : Calls Tryd.prog 13 #[_, .agg #[.string ⟨p.toArray⟩, .bool false, .string ⟨#[]⟩]] x1 _ := DPut_any _ [(i, false, t)] (p, false, []) x1 TL.out
  rw [HE1.out] at hT
  refine hT.mono ?_
  rintro e x2 ⟨u, rfl, ho, hb⟩
  have hB2 := hid (below_step hB1.out hb hB1.out.size)
  have TL := hid (SlR.old TL.out hb)
  obtain ⟨uo2, uc2, rfl⟩ := own_n 0 ho (by simp)
  clear hb hT ho
  go_wp2_with fail
  have hT : Calls Tryd.prog 13 #[_, .agg #[.string ⟨p.toArray⟩, .bool false, .string ⟨#[]⟩]] x2 _ := DPut_any _ [] (p, false, []) x2 (SlR.nil _)
  rw [HE2.out] at hT
  refine hT.mono ?_
  rintro e x3 ⟨u, rfl, ho, hb⟩
  have hB3 := hid (below_step hB2.out hb hB2.out.size)
  have TL := hid (SlR.old TL.out hb)
  have TM := hid ho.sl
  obtain ⟨uo3, uc3, rfl⟩ := own_n 1 ho (by simp)
  clear hb hT ho
  go_wp2_with fail
  have hT : Calls Tryd.prog 13 #[_, .agg #[.string ⟨i.toArray⟩, .bool false, .string ⟨#[]⟩]] x3 _ := DPut_any _ [(p, false, ([] : Txt))] (i, false, []) x3 TM.out
  rw [HE3.out] at hT
  refine hT.mono ?_
  rintro e x4 ⟨u, rfl, ho, hb⟩
  have hB4 := hid (below_step hB3.out hb hB3.out.size)
  have TL := hid (SlR.old TL.out hb)
  have TM := hid (SlR.old TM.out hb)
  obtain ⟨uo4, uc4, rfl⟩ := own_n 0 ho (by simp)
  clear hb hT ho
  have HBA := hid ((Below.refl _ x4).alloc (Nat.le_refl x4.heap.size) (.cells #[.string ⟨i.toArray⟩, .bool true, .bool false, .string ⟨#[]⟩, .string ⟨p.toArray⟩, .bool false, .bool false, .string ⟨t.toArray⟩] 45))
  have HCH := hid (show SlH (x4.alloc (.cells #[.string ⟨i.toArray⟩, .bool true, .bool false, .string ⟨#[]⟩, .string ⟨p.toArray⟩, .bool false, .bool false, .string ⟨t.toArray⟩] 45)) (.slice (some ⟨x4.heap.size, 0, none⟩) 2 2) [(i, true, false, []), (p, false, false, t)] from by
    refine ⟨some ⟨x4.heap.size, 0, none⟩, 2, rfl, (fun h => by cases h), Nat.le_refl _, fun a ha j c hc k u hu => ?_⟩
    cases ha
    have hg := heap_alloc_new x4 (.cells #[.string ⟨i.toArray⟩, .bool true, .bool false, .string ⟨#[]⟩, .string ⟨p.toArray⟩, .bool false, .bool false, .string ⟨t.toArray⟩] 45)
    rw [Addr.add_lit, Nat.zero_add]
    match j, hc with
    | 0, hc =>
      cases hc
      refine blk_cell hg ?_
      match k, hu with
      | 0, hu => cases hu; rfl
      | 1, hu => cases hu; rfl
      | 2, hu => cases hu; rfl
      | 3, hu => cases hu; rfl
      | k + 4, hu => simp [encH] at hu
    | 1, hc =>
      cases hc
      refine blk_cell hg ?_
      match k, hu with
      | 0, hu => cases hu; rfl
      | 1, hu => cases hu; rfl
      | 2, hu => cases hu; rfl
      | 3, hu => cases hu; rfl
      | k + 4, hu => simp [encH] at hu
    | j + 2, hc => simp at hc)
  have HAP := hid (DApply_any _ (.slice (some ⟨x4.heap.size, 0, none⟩) 2 2) [(i, false, t)] [(i, true, false, []), (p, false, false, t)] _ (SlR.old TL.out HBA.out) HCH.out)
  rw [HE4.out] at HAP
  go_wp2_with fail
  refine HAP.out.mono ?_
  rintro e x5 ⟨u, rfl, ho, hb0⟩
  have hb := below_step HBA.out hb0 HBA.out.size
  have hB5 := hid (below_step hB4.out hb hB4.out.size)
  have TL := hid (SlR.old TL.out hb)
  have TM := hid (SlR.old TM.out hb)
  have TX := hid ho.sl
  obtain ⟨uo5, uc5, rfl⟩ := own_n 1 ho (by simp)
  clear hb hb0 ho HAP HCH HBA
  go_wp2_with fail
  have hT := awake_any x5
  refine hT.mono ?_
  rintro e x6 ⟨rfl, hb⟩
  have hB6 := hid (below_step hB5.out hb hB5.out.size)
  have TL := hid (SlR.old TL.out hb)
  have TM := hid (SlR.old TM.out hb)
  have TX := hid (SlR.old TX.out hb)
  clear hb hT
  have HBA := hid ((Below.refl _ x6).alloc (Nat.le_refl x6.heap.size) (.cells #[.string ⟨p.toArray⟩, .bool false, .string ⟨t.toArray⟩] 24))
  have HPL := hid (PlainF_any _ (.slice (some ⟨x6.heap.size, 0, none⟩) 1 1) [(p, false, t)] [(p, false, t)] (x6.alloc (.cells #[.string ⟨p.toArray⟩, .bool false, .string ⟨t.toArray⟩] 24)) (SlR.old TX.out HBA.out) (SlR.one (heap_alloc_new x6 _) rfl) (by simp))
  rw [show (([(p, false, t)] : List FileS) == [(p, false, t)]) = true by simp] at HPL
  go_wp2_with fail
  refine HPL.out.mono ?_
  rintro e x7 ⟨rfl, hb0⟩
  have hb := below_step HBA.out hb0 HBA.out.size
  have hB7 := hid (below_step hB6.out hb hB6.out.size)
  have TL := hid (SlR.old TL.out hb)
  have TM := hid (SlR.old TM.out hb)
  have TX := hid (SlR.old TX.out hb)
  go_wp2_with fail
  go_ret
  exact ⟨rfl, hB7.out⟩
end

theorem own : ownKnob Tryd.prog.godebug = none := by kernel_rfl
theorem laidOut : laidOutB Tryd.prog = true := by kernel_rfl
theorem laid_met (os : Os) : laidMet Tryd.prog Rows.treeClashesRow.laid ((laidWorld os).forCall (fun _ _ => 0) ⟨#[], #[.string ByteArray.empty, .string ByteArray.empty, .string ByteArray.empty], []⟩).memory :=
  laidMet_of_run' 8 (by kernel_rfl) (by kernel_rfl)
theorem reads (os : Os) {H : Type} (enc : TypeId × Value → H) : ∃ places, DataW.whole enc Tryd.prog ((laidWorld os).forCall (fun _ _ => 0) ⟨#[], #[.string ByteArray.empty, .string ByteArray.empty, .string ByteArray.empty], []⟩).memory Tryd.f6.params.toList Rows.treeClashesSpec.vars false (#[.string ByteArray.empty, .string ByteArray.empty, .string ByteArray.empty] : Array Value).toList 8 = some ([.lit (.string []), .lit (.string []), .lit (.string [])], [], places) :=
  ⟨[], by kernel_rfl⟩

set_option maxRecDepth 100000 in
theorem contract (H : Type) (enc : TypeId × Value → H) (W : World) (base : Nat) (args : Array Value) (ds gs : List (DataW H)) (before : List MemPlace)
    (hval : ∀ (j : Nat) t v, Tryd.f6.params[j]? = some t → args[j]? = some v → Value.okWide Tryd.prog W .any base t v)
    (hW : DataW.Whole enc Tryd.prog Tryd.f6.params.toList Rows.treeClashesSpec.vars false W args.toList ds gs before) (_hL : laidMetH Tryd.prog Rows.treeClashesRow.laid W) :
    Calls Tryd.prog 6 args W fun e W' => ∃ v, e = .returned v ∧ Rows.treeClashesSpec.post enc Tryd.prog Tryd.f6 false true false false W args v W' := by
  have hW' := hW
  obtain ⟨p, q, hA0, hV, rfl, hfz, hnd⟩ := hW
  have hA : DataW.TrodAll enc Tryd.prog W 0 (fun _ => true) true Tryd.f6.params.toList args.toList ds p := hA0
  rw [Tryd.params6] at hA hval
  obtain ⟨v0, vs0, d0, ds0, p0, q0, hargs, rfl, rfl, h0, r0⟩ := trodAll_cons hA
  obtain ⟨v1, vs1, d1, ds1, p1, q1, rfl, rfl, rfl, h1, r1⟩ := trodAll_cons r0
  obtain ⟨v2, vs2, d2, ds2, p2, q2, rfl, rfl, rfl, h2, r2⟩ := trodAll_cons r1
  obtain ⟨rfl, rfl, rfl⟩ := trodAll_nil r2
  obtain rfl : args = #[v0, v1, v2] := by cases args; simp_all
  obtain ⟨rfl, rfl⟩ := trodVars_none hV
  have k0 := h0
  have lt0 : ∀ x ∈ p0, x.block < W.heap.size := by obtain ⟨m, hm⟩ := k0; exact DataW.trod_lt m _ _ _ hm
  obtain ⟨a0, rfl, _, _, w0⟩ := open_str Tryd.underlying9 (hval 0 9 v0 rfl rfl) h0
  have k1 := h1
  have lt1 : ∀ x ∈ p1, x.block < W.heap.size := by obtain ⟨m, hm⟩ := k1; exact DataW.trod_lt m _ _ _ hm
  obtain ⟨a1, rfl, _, _, w1⟩ := open_str Tryd.underlying9 (hval 1 9 v1 rfl rfl) h1
  have k2 := h2
  have lt2 : ∀ x ∈ p2, x.block < W.heap.size := by obtain ⟨m, hm⟩ := k2; exact DataW.trod_lt m _ _ _ hm
  obtain ⟨a2, rfl, _, _, w2⟩ := open_str Tryd.underlying9 (hval 2 9 v2 rfl rfl) h2
  clear hA0
  refine (walk a0 a1 a2 W w0 w1 w2).mono fun e W' ⟨he, bel⟩ => ?_
  subst he
  exact ⟨_, rfl, _, _, _, [], _, [], hW', trodAll_mk1 (shut_bool Tryd.underlying4 _), (trodAll_cons_mk (Below.trod laidOut (by kernel_rfl) (of_decide_eq_true (by kernel_rfl)) k0 bel lt0) (trodAll_cons_mk (Below.trod laidOut (by kernel_rfl) (of_decide_eq_true (by kernel_rfl)) k1 bel lt1) (trodAll_cons_mk (Below.trod laidOut (by kernel_rfl) (of_decide_eq_true (by kernel_rfl)) k2 bel lt2) trodAll_mk0))), rfl, bel.frame _, fun h => by cases h⟩

set_option maxRecDepth 100000 in
theorem lifted (os : Os) (started : os.Started) (H : Type) (enc : TypeId × Value → H) (F : Stop.Interp) :
    ReturnsInHanded {} Tryd.checked os 6 .any ((OpenSpec.ofChange Rows.treeClashesSpec).preRow enc Tryd.prog Tryd.f6 Rows.treeClashesRow.domain false Rows.treeClashesRow.laid) (((OpenSpec.ofChange Rows.treeClashesSpec).at F).post enc Tryd.prog Tryd.f6 false true false false) := by
  obtain ⟨places, hx⟩ := reads os enc
  refine returnsInHanded_of_row (C := Tryd.checked) (s := OpenSpec.ofChange Rows.treeClashesSpec) own started (by kernel_rfl) Tryd.func6
    (witness_row_at (enc := enc) (C := Tryd.checked) false (laidWorld os) #[.string ByteArray.empty, .string ByteArray.empty, .string ByteArray.empty] rfl (by kernel_rfl) (by kernel_rfl) (by kernel_rfl)
      (OpenSpec.preRow_of_cond 8 hx (by kernel_rfl) (fun k hk => by cases hk) (by kernel_rfl) (laid_met os))) ?_
  intro W base args ds gs before hval hW _ _ _ hL _ _
  exact contract H enc W base args ds gs before hval hW hL

theorem said : Rows.TreeClashesSaid :=
  OpenClaim.holds_of_cond 6 Tryd.f6 rfl rfl rfl rfl rfl rfl rfl ⟨rfl, rfl, rfl, rfl, rfl⟩ rfl rfl rfl rfl rfl (by kernel_rfl) Tryd.func6 (by kernel_rfl)
    (of_decide_eq_true (by kernel_rfl)) (by unfold Func.isWrapper; first | (rw [if_pos (by decide +kernel)]; kernel_rfl) | (rw [if_neg (by decide +kernel)]; exact ⟨rfl, rfl⟩))
    (fun os started H enc _ F => by rw [OpenClaim.pre_eq_preRow]; exact lifted os started H enc F)

theorem plain (f : FuncId) (fn : Func) (hf : Tryd.pinned.checked.prog.funcNamed "rick/ricklaw12.TreeClashes" = some f) (hfn : Tryd.pinned.checked.prog.funcs[f]? = some fn) :
    false = Tryd.pinned.checked.prog.looks [] ∧ ∀ (j : Nat) t, fn.params[j]? = some t → Tryd.pinned.checked.prog.wantsStandIn t = false := by
  obtain rfl : f = 6 := Option.some.inj ((show Tryd.prog.funcNamed "rick/ricklaw12.TreeClashes" = some 6 by kernel_rfl).symm.trans hf) |>.symm
  obtain rfl : fn = Tryd.f6 := (Option.some.inj (Tryd.func6.symm.trans hfn)).symm
  refine ⟨by kernel_rfl, fun j t ht => ?_⟩
  rw [Tryd.params6] at ht
  have hm := Array.mem_of_getElem? ht
  simp only [List.mem_toArray, List.mem_cons, List.not_mem_nil, or_false] at hm
  rcases hm with rfl | rfl | rfl
  · exact (show Tryd.prog.wantsStandIn 9 = false by kernel_rfl)
  · exact (show Tryd.prog.wantsStandIn 9 = false by kernel_rfl)
  · exact (show Tryd.prog.wantsStandIn 9 = false by kernel_rfl)

/-- The statement. -/
theorem proved : Rows.TreeClashesCardSaid :=
  Claim7.holds_tied_plain_at .later [] _ _ _ _ said (fun _ h => by cases h) (by kernel_rfl) (fun _ h => by cases h) treeClashes_row_tie rfl ⟨rfl, rfl⟩ (by kernel_rfl) rfl plain (by kernel_rfl)
#print axioms proved

end Go.Proofs.YtndmblelkeepjaaDoor.treeClashes
