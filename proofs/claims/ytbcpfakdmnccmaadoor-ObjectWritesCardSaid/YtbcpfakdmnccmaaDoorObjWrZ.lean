/-
  ObjectWrites: the bytes of any text, entries, and commit, or why none; what is handed in stays.
-/
import Derived.Test.YtbcpfakdmnccmaaDoorG4
import Derived.Test.YtbcpfakdmnccmaaDoorG5
import Derived.Test.YtbcpfakdmnccmaaDoorG6
import Derived.Test.YtbcpfakdmnccmaaDoorTabU
import Derived.Test.YtbcpfakdmnccmaaDoorOpenS
import Derived.ProofKit
import Derived.OpenShut
namespace Go.Proofs.YtbcpfakdmnccmaaDoor.objectWrites
open Go.ChangeShapes Go.WideShapes Go.ChangeAt Go.RowKit

section
set_option maxRecDepth 100000
set_option maxHeartbeats 4000000
theorem walk (a : List UInt8) (v : Value) (l : List EntS) (c : ComS) (w : World) (_ha : a.length ≤ maxLen) (hl : FactEnts w v l) (hc : c.2.2.2.1.length ≤ maxLen ∧ c.2.2.2.2 < 18446744073709551616) :
    Calls Tryd.prog 3 #[strV a, v, .agg (comC c).toArray] w fun e w' => e = .returned (.bool true) ∧ Below w.heap.size w w' := by
  obtain ⟨hs, _, _⟩ := hl
  have HSR := hid hc.2
  have hb0 : Below w.heap.size w (w.alloc (.cells (comC c).toArray 27)) := (Below.refl _ w).alloc (Nat.le_refl _) _
  have hg0 := heap_alloc_new w (.cells (comC c).toArray 27)
  have c3 := (ComAt.of hg0).c3
  have HG := hid hg0
  have hB0 := hid hb0
  have HV := hid (SlR.old hs hb0)
  have HCI := hid (show (Tryd.prog.info? 27).map (·.size) = some (comC c).toArray.size by rw [List.size_toArray, comC_len, Tryd.sizeCom])
  have hsz : (⟨c.2.2.2.1.toArray⟩ : ByteArray).size = c.2.2.2.1.length := by simp [ByteArray.size]
  obtain ⟨ao, cap, rfl⟩ := hs.form
  unfold strV
  clear hs hg0 hb0 hc _ha
  by_cases h1 : a.length ≤ 30000
  · have g1 : decide (30000 < (a.length : Int)) = false := decide_eq_false (by omega)
    have g2 : decide (30000 < a.length) = false := decide_eq_false (by omega)
    by_cases h2 : l.length ≤ 110
    · have g3 : decide (110 < (l.length : Int)) = false := decide_eq_false (by omega)
      have g4 : decide (110 < l.length) = false := decide_eq_false (by omega)
      by_cases h3 : c.2.2.2.1.length ≤ 2000
      · have g5 : decide (2000 < (c.2.2.2.1.length : Int)) = false := decide_eq_false (by omega)
        have g6 : decide (2000 < c.2.2.2.1.length) = false := decide_eq_false (by omega)
        have HL := hid (show l.length ≤ 1000000 by omega)
        clear h1 h2 h3
        go_enter Tryd.func3, Tryd.ntmps3
        go_wp2_with (refine wpList_build_path rfl (.const (.string ⟨[55, 49].toArray⟩)) rfl [55, 49] rfl ?_)
        have hT := OwnEn_any _ l ([55, 49], false, kz) _ HV.out HL.out
        refine hT.mono ?_
        rintro e x1 ⟨g, _, rfl, ho, hb⟩
        have hB1 := hid (below_step hB0.out hb hB0.out.size)
        have HG := hid (row_old HG.out hb)
        have HV := hid (SlR.old HV.out hb)
        have HOC := hid ho
        clear hb hT
        clear ho c3
        go_wp2_with fail
        have hT := DBlob_any a x1
        refine hT.mono ?_
        rintro e x2 ⟨u1, rfl, ho, hb⟩
        have hB2 := hid (below_step hB1.out hb hB1.out.size)
        have HG := hid (row_old HG.out hb)
        have HV := hid (SlR.old HV.out hb)
        have HOC := hid (HOC.out.old hb)
        have HU1 := hid ho
        clear hb hT
        clear ho
        go_wp2_with fail
        have hT := RBlob_any a x2
        refine hT.mono ?_
        rintro e x3 ⟨u2, rfl, ho, hb⟩
        have hB3 := hid (below_step hB2.out hb hB2.out.size)
        have HG := hid (row_old HG.out hb)
        have HV := hid (SlR.old HV.out hb)
        have HOC := hid (HOC.out.old hb)
        have HU1 := hid (OwnB.old HU1.out hb)
        have HU2 := hid ho
        clear hb hT
        clear ho
        go_wp2_with fail
        have hT := DTree_any _ l x3 HOC.out.sl
        refine hT.mono ?_
        rintro e x4 ⟨u3, rfl, ho, hb⟩
        have hB4 := hid (below_step hB3.out hb hB3.out.size)
        have HG := hid (row_old HG.out hb)
        have HV := hid (SlR.old HV.out hb)
        have HOC := hid (HOC.out.old hb)
        have HU1 := hid (OwnB.old HU1.out hb)
        have HU2 := hid (OwnB.old HU2.out hb)
        have HU3 := hid ho
        clear hb hT
        clear ho
        go_wp2_with fail
        have hT := RTree_any _ l x4 HV.out
        refine hT.mono ?_
        rintro e x5 ⟨u4, rfl, ho, hb⟩
        have hB5 := hid (below_step hB4.out hb hB4.out.size)
        have HG := hid (row_old HG.out hb)
        have HV := hid (SlR.old HV.out hb)
        have HOC := hid (HOC.out.old hb)
        have HU1 := hid (OwnB.old HU1.out hb)
        have HU2 := hid (OwnB.old HU2.out hb)
        have HU3 := hid (OwnB.old HU3.out hb)
        have HU4 := hid ho
        clear hb hT
        clear ho
        go_wp2_with (refine wpList_load_row rfl 27 _ rfl w.heap.size rfl _ _ _ _ HG.out Tryd.underlying27 rfl HCI.out ?_)
        have hT := DCommit_any c HSR.out x5
        refine hT.mono ?_
        rintro e x6 ⟨u5, rfl, ho, hb⟩
        have hB6 := hid (below_step hB5.out hb hB5.out.size)
        have HG := hid (row_old HG.out hb)
        have HV := hid (SlR.old HV.out hb)
        have HOC := hid (HOC.out.old hb)
        have HU1 := hid (OwnB.old HU1.out hb)
        have HU2 := hid (OwnB.old HU2.out hb)
        have HU3 := hid (OwnB.old HU3.out hb)
        have HU4 := hid (OwnB.old HU4.out hb)
        have HU5 := hid ho
        clear hb hT
        clear ho
        go_wp2_with (refine wpList_load_row rfl 27 _ rfl w.heap.size rfl _ _ _ _ HG.out Tryd.underlying27 rfl HCI.out ?_)
        have hT := RCommit_any c HSR.out x6
        refine hT.mono ?_
        rintro e x7 ⟨u6, rfl, ho, hb⟩
        have hB7 := hid (below_step hB6.out hb hB6.out.size)
        have HG := hid (row_old HG.out hb)
        have HV := hid (SlR.old HV.out hb)
        have HOC := hid (HOC.out.old hb)
        have HU1 := hid (OwnB.old HU1.out hb)
        have HU2 := hid (OwnB.old HU2.out hb)
        have HU3 := hid (OwnB.old HU3.out hb)
        have HU4 := hid (OwnB.old HU4.out hb)
        have HU5 := hid (OwnB.old HU5.out hb)
        have HU6 := hid ho
        clear hb hT
        clear ho
        have z1 : ((blobS a).2 == (blobS a).2) = true := by simp
        have z2 : ((treeW l).2 == (treeW l).2) = true := by simp
        have z3 : ((comW c).2 == (comW c).2) = true := by simp
        generalize (blobS a).2 = n1 at *
        generalize (treeW l).2 = n2 at *
        generalize (comW c).2 = n3 at *
        go_wp2_with fail
        have hT := awake_any x7
        refine hT.mono ?_
        rintro e x8 ⟨rfl, hb⟩
        have hB8 := hid (below_step hB7.out hb hB7.out.size)
        have HG := hid (row_old HG.out hb)
        have HV := hid (SlR.old HV.out hb)
        have HOC := hid (HOC.out.old hb)
        have HU1 := hid (OwnB.old HU1.out hb)
        have HU2 := hid (OwnB.old HU2.out hb)
        have HU3 := hid (OwnB.old HU3.out hb)
        have HU4 := hid (OwnB.old HU4.out hb)
        have HU5 := hid (OwnB.old HU5.out hb)
        have HU6 := hid (OwnB.old HU6.out hb)
        clear hb hT
        go_wp2_with fail
        have hT := HBytes_any _ _ (blobS a).1 (blobS a).1 x8 (Sl.ofOwns HU1.out) (Sl.ofOwns HU2.out)
        rw [show ((blobS a).1 == (blobS a).1) = true by simp] at hT
        refine hT.mono ?_
        rintro e _ ⟨rfl, rfl⟩
        clear hT
        go_wp2_with fail
        have hT := HBytes_any _ _ (treeW l).1 (treeW l).1 x8 (Sl.ofOwns HU3.out) (Sl.ofOwns HU4.out)
        rw [show ((treeW l).1 == (treeW l).1) = true by simp] at hT
        refine hT.mono ?_
        rintro e _ ⟨rfl, rfl⟩
        clear hT
        go_wp2_with fail
        have hT := HBytes_any _ _ (comW c).1 (comW c).1 x8 (Sl.ofOwns HU5.out) (Sl.ofOwns HU6.out)
        rw [show ((comW c).1 == (comW c).1) = true by simp] at hT
        refine hT.mono ?_
        rintro e _ ⟨rfl, rfl⟩
        clear hT
        go_wp2_with (refine wpList_build_path_g (by rfl) (.const (.string ⟨[55, 49].toArray⟩)) rfl [55, 49] rfl ?_)
        have hT := KeptEn_any g _ l ([55, 49], false, kz) x8 HOC.out HV.out HL.out
        refine hT.mono ?_
        rintro e x9 ⟨rfl, hb⟩
        have hB9 := hid (below_step hB8.out hb hB8.out.size)
        have HG := hid (row_old HG.out hb)
        have HV := hid (SlR.old HV.out hb)
        have HOC := hid (HOC.out.old hb)
        have HU1 := hid (OwnB.old HU1.out hb)
        have HU2 := hid (OwnB.old HU2.out hb)
        have HU3 := hid (OwnB.old HU3.out hb)
        have HU4 := hid (OwnB.old HU4.out hb)
        have HU5 := hid (OwnB.old HU5.out hb)
        have HU6 := hid (OwnB.old HU6.out hb)
        clear hb hT
        go_wp2_with fail
        go_ret
        exact ⟨rfl, hB9.out⟩
      · have g5 : decide (2000 < (c.2.2.2.1.length : Int)) = true := decide_eq_true (by omega)
        have g6 : decide (2000 < c.2.2.2.1.length) = true := decide_eq_true (by omega)
        clear h1 h2 h3
        go_enter Tryd.func3, Tryd.ntmps3
        go_wp2_with fail
        refine (awake_any _).mono ?_
        rintro e w2 ⟨rfl, hb⟩
        go_wp2_with fail
        go_ret
        exact ⟨rfl, below_step hB0.out hb hB0.out.size⟩
    · have g3 : decide (110 < (l.length : Int)) = true := decide_eq_true (by omega)
      have g4 : decide (110 < l.length) = true := decide_eq_true (by omega)
      clear h1 h2
      go_enter Tryd.func3, Tryd.ntmps3
      go_wp2_with fail
      refine (awake_any _).mono ?_
      rintro e w2 ⟨rfl, hb⟩
      go_wp2_with fail
      go_ret
      exact ⟨rfl, below_step hB0.out hb hB0.out.size⟩
  · have g1 : decide (30000 < (a.length : Int)) = true := decide_eq_true (by omega)
    have g2 : decide (30000 < a.length) = true := decide_eq_true (by omega)
    clear h1
    go_enter Tryd.func3, Tryd.ntmps3
    go_wp2_with fail
    refine (awake_any _).mono ?_
    rintro e w2 ⟨rfl, hb⟩
    go_wp2_with fail
    go_ret
    exact ⟨rfl, below_step hB0.out hb hB0.out.size⟩
end
theorem own : ownKnob Tryd.prog.godebug = none := by kernel_rfl
theorem laidOut : laidOutB Tryd.prog = true := by kernel_rfl
theorem laid_met (os : Os) : laidMet Tryd.prog Rows.objectWritesRow.laid ((laidWorld os).forCall (fun _ _ => 0) ⟨#[], #[.string ByteArray.empty, .slice none 0 0, com0], []⟩).memory :=
  laidMet_of_run' 8 (by kernel_rfl) (by kernel_rfl)
theorem reads (os : Os) {H : Type} (enc : TypeId × Value → H) : ∃ places, DataW.whole enc Tryd.prog ((laidWorld os).forCall (fun _ _ => 0) ⟨#[], #[.string ByteArray.empty, .slice none 0 0, com0], []⟩).memory Tryd.f3.params.toList Rows.objectWritesSpec.vars false (#[.string ByteArray.empty, .slice none 0 0, com0] : Array Value).toList 8 = some ([.lit (.string []), .nil, .agg [.lit (.bool false), .agg (List.replicate 32 (.lit (.int .u8 0))), .agg (List.replicate 32 (.lit (.int .u8 0))), .lit (.string []), .lit (.int .u64 0)]], [], places) :=
  ⟨[], by kernel_rfl⟩

set_option maxRecDepth 100000 in
theorem contract (H : Type) (enc : TypeId × Value → H) (W : World) (base : Nat) (args : Array Value) (ds gs : List (DataW H)) (before : List MemPlace)
    (hval : ∀ (j : Nat) t v, Tryd.f3.params[j]? = some t → args[j]? = some v → Value.okWide Tryd.prog W .any base t v)
    (hW : DataW.Whole enc Tryd.prog Tryd.f3.params.toList Rows.objectWritesSpec.vars false W args.toList ds gs before) (_hL : laidMetH Tryd.prog Rows.objectWritesRow.laid W) :
    Calls Tryd.prog 3 args W fun e W' => ∃ v, e = .returned v ∧ Rows.objectWritesSpec.post enc Tryd.prog Tryd.f3 false true false false W args v W' := by
  have hW' := hW
  obtain ⟨p, q, hA0, hV, rfl, hfz, hnd⟩ := hW
  have hA : DataW.TrodAll enc Tryd.prog W 0 (fun _ => true) true Tryd.f3.params.toList args.toList ds p := hA0
  rw [Tryd.params3] at hA hval
  obtain ⟨v0, vs0, d0, ds0, p0, q0, hargs, rfl, rfl, h0, r0⟩ := trodAll_cons hA
  obtain ⟨v1, vs1, d1, ds1, p1, q1, rfl, rfl, rfl, h1, r1⟩ := trodAll_cons r0
  obtain ⟨v2, vs2, d2, ds2, p2, q2, rfl, rfl, rfl, h2, r2⟩ := trodAll_cons r1
  obtain ⟨rfl, rfl, rfl⟩ := trodAll_nil r2
  obtain rfl : args = #[v0, v1, v2] := by cases args; simp_all
  obtain ⟨rfl, rfl⟩ := trodVars_none hV
  have k0 := h0
  have lt0 : ∀ x ∈ p0, x.block < W.heap.size := by obtain ⟨m, hm⟩ := k0; exact DataW.trod_lt m _ _ _ hm
  obtain ⟨a0, rfl, _, _, w0⟩ := open_str Tryd.underlying9 (hval 0 9 v0 rfl rfl) h0
  have k1 := h1
  have lt1 : ∀ x ∈ p1, x.block < W.heap.size := by obtain ⟨m, hm⟩ := k1; exact DataW.trod_lt m _ _ _ hm
  obtain ⟨x1, l1, c1, rfl⟩ := okWide_slice Tryd.underlying22 (hval 1 22 v1 rfl rfl)
  obtain ⟨a1, w1⟩ : ∃ a, FactEnts W (.slice x1 l1 c1) a := by
    obtain ⟨fuel, hf⟩ := h1
    obtain ⟨v', a, hcs, hs⟩ := open_ents hf
    obtain rfl : v' = .slice x1 l1 c1 := by simpa [Value.cells] using hcs.symm
    exact ⟨a, hs⟩
  have k2 := h2
  have lt2 : ∀ x ∈ p2, x.block < W.heap.size := by obtain ⟨m, hm⟩ := k2; exact DataW.trod_lt m _ _ _ hm
  obtain ⟨a2, rfl, w2⟩ := open_com (hval 2 27 v2 rfl rfl) h2
  clear hA0
  refine (walk a0 (.slice x1 l1 c1) a1 a2 W w0 w1 w2).mono fun e W' ⟨he, bel⟩ => ?_
  subst he
  exact ⟨_, rfl, _, _, _, [], _, [], hW', trodAll_mk1 (shut_bool Tryd.underlying4 _), (trodAll_cons_mk (Below.trod laidOut (by kernel_rfl) (of_decide_eq_true (by kernel_rfl)) k0 bel lt0) (trodAll_cons_mk (Below.trod laidOut (by kernel_rfl) (of_decide_eq_true (by kernel_rfl)) k1 bel lt1) (trodAll_cons_mk (Below.trod laidOut (by kernel_rfl) (of_decide_eq_true (by kernel_rfl)) k2 bel lt2) trodAll_mk0))), rfl, bel.frame _, fun h => by cases h⟩

set_option maxRecDepth 100000 in
theorem lifted (os : Os) (started : os.Started) (H : Type) (enc : TypeId × Value → H) (F : Stop.Interp) :
    ReturnsInHanded {} Tryd.checked os 3 .any ((OpenSpec.ofChange Rows.objectWritesSpec).preRow enc Tryd.prog Tryd.f3 Rows.objectWritesRow.domain false Rows.objectWritesRow.laid) (((OpenSpec.ofChange Rows.objectWritesSpec).at F).post enc Tryd.prog Tryd.f3 false true false false) := by
  obtain ⟨places, hx⟩ := reads os enc
  refine returnsInHanded_of_row (C := Tryd.checked) (s := OpenSpec.ofChange Rows.objectWritesSpec) own started (by kernel_rfl) Tryd.func3
    (witness_row_at (enc := enc) (C := Tryd.checked) false (laidWorld os) #[.string ByteArray.empty, .slice none 0 0, com0] rfl (by kernel_rfl) (by kernel_rfl) (by kernel_rfl)
      (OpenSpec.preRow_of_cond 8 hx (by kernel_rfl) (fun k hk => by cases hk) (by kernel_rfl) (laid_met os))) ?_
  intro W base args ds gs before hval hW _ _ _ hL _ _
  exact contract H enc W base args ds gs before hval hW hL

theorem said : Rows.ObjectWritesSaid :=
  OpenClaim.holds_of_cond 3 Tryd.f3 rfl rfl rfl rfl rfl rfl rfl ⟨rfl, rfl, rfl, rfl, rfl⟩ rfl rfl rfl rfl rfl (by kernel_rfl) Tryd.func3 (by kernel_rfl)
    (of_decide_eq_true (by kernel_rfl)) (by unfold Func.isWrapper; first | (rw [if_pos (by decide +kernel)]; kernel_rfl) | (rw [if_neg (by decide +kernel)]; exact ⟨rfl, rfl⟩))
    (fun os started H enc _ F => by rw [OpenClaim.pre_eq_preRow]; exact lifted os started H enc F)

theorem plain (f : FuncId) (fn : Func) (hf : Tryd.pinned.checked.prog.funcNamed "rick/ricklaw15.ObjectWrites" = some f) (hfn : Tryd.pinned.checked.prog.funcs[f]? = some fn) :
    false = Tryd.pinned.checked.prog.looks [] ∧ ∀ (j : Nat) t, fn.params[j]? = some t → Tryd.pinned.checked.prog.wantsStandIn t = false := by
  obtain rfl : f = 3 := Option.some.inj ((show Tryd.prog.funcNamed "rick/ricklaw15.ObjectWrites" = some 3 by kernel_rfl).symm.trans hf) |>.symm
  obtain rfl : fn = Tryd.f3 := (Option.some.inj (Tryd.func3.symm.trans hfn)).symm
  refine ⟨by kernel_rfl, fun j t ht => ?_⟩
  rw [Tryd.params3] at ht
  have hm := Array.mem_of_getElem? ht
  simp only [List.mem_toArray, List.mem_cons, List.not_mem_nil, or_false] at hm
  rcases hm with rfl | rfl | rfl
  · exact (show Tryd.prog.wantsStandIn 9 = false by kernel_rfl)
  · exact (show Tryd.prog.wantsStandIn 22 = false by kernel_rfl)
  · exact (show Tryd.prog.wantsStandIn 27 = false by kernel_rfl)

/-- The statement. -/
theorem proved : Rows.ObjectWritesCardSaid :=
  Claim7.holds_tied_plain_at .later [] _ _ _ _ said (fun _ h => by cases h) (by kernel_rfl) (fun _ h => by cases h) objectWrites_row_tie rfl ⟨rfl, rfl⟩ (by kernel_rfl) rfl plain (by kernel_rfl)
#print axioms proved
end Go.Proofs.YtbcpfakdmnccmaaDoor.objectWrites
