/-
  ObjectTakes: what any bytes are, or why nothing; what is handed in stays.
-/
import Derived.Test.YtbcpfakdmnccmaaDoorG4
import Derived.Test.YtbcpfakdmnccmaaDoorG7
import Derived.Test.YtbcpfakdmnccmaaDoorG6
import Derived.Test.YtbcpfakdmnccmaaDoorHelp
import Derived.Test.YtbcpfakdmnccmaaDoorTabU
import Derived.Test.YtbcpfakdmnccmaaDoorOpen
import Derived.ProofKit
import Derived.OpenShut
namespace Go.Proofs.YtbcpfakdmnccmaaDoor.objectTakes
open Go.ChangeShapes Go.WideShapes Go.ChangeAt Go.RowKit

section
set_option maxRecDepth 100000
set_option maxHeartbeats 4000000
theorem walk (v : Value) (b : List UInt8) (w : World) (hb : FactBytes w v b) :
    Calls Tryd.prog 4 #[v] w fun e w' => e = .returned (.bool true) ∧ Below w.heap.size w w' := by
  obtain ⟨hs, _⟩ := hb
  have HV := hid hs
  have hB0 := hid (Below.refl w.heap.size w)
  obtain ⟨ao, cap, rfl⟩ := hs.form
  rw [Lib.byteCells_length] at HV ⊢
  clear hs
  by_cases h1 : b.length ≤ 4000
  · have g1 : decide (4000 < (b.length : Int)) = false := decide_eq_false (by omega)
    have g2 : decide (4000 < b.length) = false := decide_eq_false (by omega)
    have HL := hid (show b.length ≤ 70368744177664 by omega)
    have HL2 := hid (show b.length ≤ 1000000 by omega)
    have HI67 := hid (fun c : ComS => show (comC c).toArray.size = 67 by rw [List.size_toArray, comC_len])
    have HCI := hid (fun c : ComS => show (Tryd.prog.info? 27).map (·.size) = some (comC c).toArray.size by rw [HI67.out, Tryd.sizeCom])
    have HCO := hid (fun c : ComS => arr_one (comC_one c))
    clear h1
    go_enter Tryd.func4, Tryd.ntmps4
    go_wp2_with fail
    have hT := Own_any _ b 71 w HV.out HL.out
    refine hT.mono ?_
    rintro e x1 ⟨rfl, ho, hb⟩
    have hB1 := hid (below_step hB0.out hb hB0.out.size)
    have HV := hid (Sl.old HV.out hb)
    have HOC := hid ho
    clear hb hT
    clear ho
    go_wp2_with fail
    have hT := DTakeBlob_any _ b x1 HOC.out.sl HL.out
    refine hT.mono ?_
    rintro e _ ⟨rfl, rfl⟩
    clear hT
    go_wp2_with fail
    have hT := RTakeBlob_any _ b x1 HV.out HL.out
    refine hT.mono ?_
    rintro e _ ⟨rfl, rfl⟩
    clear hT
    go_wp2_with fail
    have hT := DTakeTree_any _ b x1 HOC.out.sl HL2.out
    refine hT.mono ?_
    rintro e x2 ⟨u1, rfl, ho, hb⟩
    have hB2 := hid (below_step hB1.out hb hB1.out.size)
    have HV := hid (Sl.old HV.out hb)
    have HOC := hid (HOC.out.old hb)
    have HU1 := hid ho
    clear hb hT
    clear ho
    go_wp2_with fail
    have hT := RTakeTree_any _ b x2 HV.out HL2.out
    refine hT.mono ?_
    rintro e x3 ⟨u2, rfl, ho, hb⟩
    have hB3 := hid (below_step hB2.out hb hB2.out.size)
    have HV := hid (Sl.old HV.out hb)
    have HOC := hid (HOC.out.old hb)
    have HU1 := hid (owns_old HU1.out hb)
    have HU2 := hid ho
    clear hb hT
    clear ho
    go_wp2_with fail
    have hT := DTakeCommit_any _ b x3 HOC.out.sl HL2.out
    refine hT.mono ?_
    rintro e x4 ⟨rfl, hb⟩
    have hB4 := hid (below_step hB3.out hb hB3.out.size)
    have HV := hid (Sl.old HV.out hb)
    have HOC := hid (HOC.out.old hb)
    have HU1 := hid (owns_old HU1.out hb)
    have HU2 := hid (owns_old HU2.out hb)
    clear hb hT
    go_wp2_with (refine wpList_store_all rfl 27 _ _ rfl x4.heap.size _ rfl rfl _ _ (heap_alloc_new x4 _) 67 Tryd.sizeCom (HI67.out (takeComS b).1) rfl (HCO.out (takeComS b).1) ?_; intro x5 hg9 hk9; have hb : Below x4.heap.size x4 x5 := ((Below.refl _ x4).alloc (Nat.le_refl _) _).trans (hk9.below (by simp) (fun j hj => by show ¬ j = _; omega)); have hB5 := hid (below_step hB4.out hb hB4.out.size); have HV := hid (Sl.old HV.out hb); have HOC := hid (HOC.out.old hb); have HU1 := hid (owns_old HU1.out hb); have HU2 := hid (owns_old HU2.out hb); have HC1 := hid hg9; clear hb hg9 hk9)
    have hT := RTakeCommit_any _ b x5 HV.out HL2.out
    refine hT.mono ?_
    rintro e x6 ⟨rfl, hb⟩
    have hB6 := hid (below_step hB5.out hb hB5.out.size)
    have HV := hid (Sl.old HV.out hb)
    have HOC := hid (HOC.out.old hb)
    have HU1 := hid (owns_old HU1.out hb)
    have HU2 := hid (owns_old HU2.out hb)
    have HC1 := hid (row_old HC1.out hb)
    clear hb hT
    have z1 : ((takeBlobS b).2 == (takeBlobS b).2) = true := by simp
    have z2 : ((takeTreeS b).2 == (takeTreeS b).2) = true := by simp
    have z3 : ((takeComS b).2 == (takeComS b).2) = true := by simp
    have z4 : ((takeBlobS b).1 == (takeBlobS b).1) = true := by simp
    have z5 : ((kindS b : Int) == (kindS b : Int)) = true := by simp
    have z6 := com_eql (takeComS b).1 (takeComS b).1
    rw [show ((takeComS b).1 == (takeComS b).1) = true by simp] at z6
    generalize (takeBlobS b).2 = n1 at *
    generalize (takeTreeS b).2 = n2 at *
    generalize (takeComS b).2 = n3 at *
    generalize (takeBlobS b).1 = n4 at *
    go_wp2_with (refine wpList_store_all rfl 27 _ _ rfl x6.heap.size _ rfl rfl _ _ (heap_alloc_new x6 _) 67 Tryd.sizeCom (HI67.out (takeComS b).1) rfl (HCO.out (takeComS b).1) ?_; intro x7 hg9 hk9; have hb : Below x6.heap.size x6 x7 := ((Below.refl _ x6).alloc (Nat.le_refl _) _).trans (hk9.below (by simp) (fun j hj => by show ¬ j = _; omega)); have hB7 := hid (below_step hB6.out hb hB6.out.size); have HV := hid (Sl.old HV.out hb); have HOC := hid (HOC.out.old hb); have HU1 := hid (owns_old HU1.out hb); have HU2 := hid (owns_old HU2.out hb); have HC1 := hid (row_old HC1.out hb); have HC2 := hid hg9; clear hb hg9 hk9)
    have hT := awake_any x7
    refine hT.mono ?_
    rintro e x8 ⟨rfl, hb⟩
    have hB8 := hid (below_step hB7.out hb hB7.out.size)
    have HV := hid (Sl.old HV.out hb)
    have HOC := hid (HOC.out.old hb)
    have HU1 := hid (owns_old HU1.out hb)
    have HU2 := hid (owns_old HU2.out hb)
    have HC1 := hid (row_old HC1.out hb)
    have HC2 := hid (row_old HC2.out hb)
    clear hb hT
    go_wp2_with fail
    have hT := DKind_any _ b x8 HOC.out.sl
    refine hT.mono ?_
    rintro e _ ⟨rfl, rfl⟩
    clear hT
    go_wp2_with fail
    have hT := RKind_any _ b x8 HV.out
    refine hT.mono ?_
    rintro e _ ⟨rfl, rfl⟩
    clear hT
    go_wp2_with fail
    have hT := PlainEn_any _ _ (takeTreeS b).1 (takeTreeS b).1 x8 (OwnEnt.sl HU1.out) (OwnEnt.sl HU2.out) (take_len b)
    rw [show ((takeTreeS b).1 == (takeTreeS b).1) = true by simp] at hT
    refine hT.mono ?_
    rintro e x9 ⟨rfl, hb⟩
    have hB9 := hid (below_step hB8.out hb hB8.out.size)
    have HV := hid (Sl.old HV.out hb)
    have HOC := hid (HOC.out.old hb)
    have HU1 := hid (owns_old HU1.out hb)
    have HU2 := hid (owns_old HU2.out hb)
    have HC1 := hid (row_old HC1.out hb)
    have HC2 := hid (row_old HC2.out hb)
    clear hb hT
    go_wp2_with (first | (refine wpList_load_g (by rfl) 27 _ rfl x4.heap.size rfl _ _ _ _ HC1.out Tryd.underlying27 rfl (HCI.out (takeComS b).1) ?_) | (refine wpList_load_g (by rfl) 27 _ rfl x6.heap.size rfl _ _ _ _ HC2.out Tryd.underlying27 rfl (HCI.out (takeComS b).1) ?_))
    have hT := Kept_any w.heap.size _ b 71 x9 HOC.out HV.out HL.out
    refine hT.mono ?_
    rintro e _ ⟨rfl, k9, rfl⟩
    clear hT
    go_wp2_with fail
    go_ret
    exact ⟨rfl, below_step hB9.out (below_drewN _ k9) hB9.out.size⟩
  · have g1 : decide (4000 < (b.length : Int)) = true := decide_eq_true (by omega)
    have g2 : decide (4000 < b.length) = true := decide_eq_true (by omega)
    clear h1
    go_enter Tryd.func4, Tryd.ntmps4
    go_wp2_with fail
    refine (awake_any _).mono ?_
    rintro e w2 ⟨rfl, hb⟩
    go_wp2_with fail
    go_ret
    exact ⟨rfl, hb⟩
end
theorem own : ownKnob Tryd.prog.godebug = none := by kernel_rfl
theorem laidOut : laidOutB Tryd.prog = true := by kernel_rfl
theorem laid_met (os : Os) : laidMet Tryd.prog Rows.objectTakesRow.laid ((laidWorld os).forCall (fun _ _ => 0) ⟨#[], #[.slice none 0 0], []⟩).memory :=
  laidMet_of_run' 8 (by kernel_rfl) (by kernel_rfl)
theorem reads (os : Os) {H : Type} (enc : TypeId × Value → H) : ∃ places, DataW.whole enc Tryd.prog ((laidWorld os).forCall (fun _ _ => 0) ⟨#[], #[.slice none 0 0], []⟩).memory Tryd.f4.params.toList Rows.objectTakesSpec.vars false (#[.slice none 0 0] : Array Value).toList 8 = some ([.nil], [], places) :=
  ⟨[], by kernel_rfl⟩

set_option maxRecDepth 100000 in
theorem contract (H : Type) (enc : TypeId × Value → H) (W : World) (base : Nat) (args : Array Value) (ds gs : List (DataW H)) (before : List MemPlace)
    (hval : ∀ (j : Nat) t v, Tryd.f4.params[j]? = some t → args[j]? = some v → Value.okWide Tryd.prog W .any base t v)
    (hW : DataW.Whole enc Tryd.prog Tryd.f4.params.toList Rows.objectTakesSpec.vars false W args.toList ds gs before) (_hL : laidMetH Tryd.prog Rows.objectTakesRow.laid W) :
    Calls Tryd.prog 4 args W fun e W' => ∃ v, e = .returned v ∧ Rows.objectTakesSpec.post enc Tryd.prog Tryd.f4 false true false false W args v W' := by
  have hW' := hW
  obtain ⟨p, q, hA0, hV, rfl, hfz, hnd⟩ := hW
  have hA : DataW.TrodAll enc Tryd.prog W 0 (fun _ => true) true Tryd.f4.params.toList args.toList ds p := hA0
  rw [Tryd.params4] at hA hval
  obtain ⟨v0, vs0, d0, ds0, p0, q0, hargs, rfl, rfl, h0, r0⟩ := trodAll_cons hA
  obtain ⟨rfl, rfl, rfl⟩ := trodAll_nil r0
  obtain rfl : args = #[v0] := by cases args; simp_all
  obtain ⟨rfl, rfl⟩ := trodVars_none hV
  have k0 := h0
  have lt0 : ∀ x ∈ p0, x.block < W.heap.size := by obtain ⟨m, hm⟩ := k0; exact DataW.trod_lt m _ _ _ hm
  obtain ⟨x0, l0, c0, rfl⟩ := okWide_slice Tryd.underlying32 (hval 0 32 v0 rfl rfl)
  obtain ⟨a0, w0⟩ : ∃ a, FactBytes W (.slice x0 l0 c0) a := by
    obtain ⟨fuel, hf⟩ := h0
    obtain ⟨v', a, hcs, hs⟩ := open_bytes Tryd.underlying32 Tryd.underlying5 (by kernel_rfl) hf
    obtain rfl : v' = .slice x0 l0 c0 := by simpa [Value.cells] using hcs.symm
    exact ⟨a, hs⟩
  clear hA0
  refine (walk (.slice x0 l0 c0) a0 W w0).mono fun e W' ⟨he, bel⟩ => ?_
  subst he
  exact ⟨_, rfl, _, _, _, [], _, [], hW', trodAll_mk1 (shut_bool Tryd.underlying4 _), (trodAll_cons_mk (Below.trod laidOut (by kernel_rfl) (of_decide_eq_true (by kernel_rfl)) k0 bel lt0) trodAll_mk0), rfl, bel.frame _, fun h => by cases h⟩

set_option maxRecDepth 100000 in
theorem lifted (os : Os) (started : os.Started) (H : Type) (enc : TypeId × Value → H) (F : Stop.Interp) :
    ReturnsInHanded {} Tryd.checked os 4 .any ((OpenSpec.ofChange Rows.objectTakesSpec).preRow enc Tryd.prog Tryd.f4 Rows.objectTakesRow.domain false Rows.objectTakesRow.laid) (((OpenSpec.ofChange Rows.objectTakesSpec).at F).post enc Tryd.prog Tryd.f4 false true false false) := by
  obtain ⟨places, hx⟩ := reads os enc
  refine returnsInHanded_of_row (C := Tryd.checked) (s := OpenSpec.ofChange Rows.objectTakesSpec) own started (by kernel_rfl) Tryd.func4
    (witness_row_at (enc := enc) (C := Tryd.checked) false (laidWorld os) #[.slice none 0 0] rfl (by kernel_rfl) (by kernel_rfl) (by kernel_rfl)
      (OpenSpec.preRow_of_cond 8 hx (by kernel_rfl) (fun k hk => by cases hk) (by kernel_rfl) (laid_met os))) ?_
  intro W base args ds gs before hval hW _ _ _ hL _ _
  exact contract H enc W base args ds gs before hval hW hL

theorem said : Rows.ObjectTakesSaid :=
  OpenClaim.holds_of_cond 4 Tryd.f4 rfl rfl rfl rfl rfl rfl rfl ⟨rfl, rfl, rfl, rfl, rfl⟩ rfl rfl rfl rfl rfl (by kernel_rfl) Tryd.func4 (by kernel_rfl)
    (of_decide_eq_true (by kernel_rfl)) (by unfold Func.isWrapper; first | (rw [if_pos (by decide +kernel)]; kernel_rfl) | (rw [if_neg (by decide +kernel)]; exact ⟨rfl, rfl⟩))
    (fun os started H enc _ F => by rw [OpenClaim.pre_eq_preRow]; exact lifted os started H enc F)

theorem plain (f : FuncId) (fn : Func) (hf : Tryd.pinned.checked.prog.funcNamed "rick/ricklaw15.ObjectTakes" = some f) (hfn : Tryd.pinned.checked.prog.funcs[f]? = some fn) :
    false = Tryd.pinned.checked.prog.looks [] ∧ ∀ (j : Nat) t, fn.params[j]? = some t → Tryd.pinned.checked.prog.wantsStandIn t = false := by
  obtain rfl : f = 4 := Option.some.inj ((show Tryd.prog.funcNamed "rick/ricklaw15.ObjectTakes" = some 4 by kernel_rfl).symm.trans hf) |>.symm
  obtain rfl : fn = Tryd.f4 := (Option.some.inj (Tryd.func4.symm.trans hfn)).symm
  refine ⟨by kernel_rfl, fun j t ht => ?_⟩
  rw [Tryd.params4] at ht
  have hm := Array.mem_of_getElem? ht
  simp only [List.mem_toArray, List.mem_cons, List.not_mem_nil, or_false] at hm
  rcases hm with rfl
  · exact (show Tryd.prog.wantsStandIn 32 = false by kernel_rfl)

/-- The statement. -/
theorem proved : Rows.ObjectTakesCardSaid :=
  Claim7.holds_tied_plain_at .later [] _ _ _ _ said (fun _ h => by cases h) (by kernel_rfl) (fun _ h => by cases h) objectTakes_row_tie rfl ⟨rfl, rfl⟩ (by kernel_rfl) rfl plain (by kernel_rfl)
#print axioms proved
end Go.Proofs.YtbcpfakdmnccmaaDoor.objectTakes
