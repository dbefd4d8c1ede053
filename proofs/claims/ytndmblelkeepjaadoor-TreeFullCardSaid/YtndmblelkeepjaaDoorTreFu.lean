/-
  TreeFull: as many files as may be, and one more; as many changes.
-/
import Derived.Test.YtndmblelkeepjaaDoorTreAw
import Derived.Test.YtndmblelkeepjaaDoorPtrI
import Derived.Test.YtndmblelkeepjaaDoorDigts
import Derived.Test.YtndmblelkeepjaaDoorOpenF
import Derived.Test.YtndmblelkeepjaaDoorTabU
import Derived.ProofKit
import Derived.OpenShut
namespace Go.Proofs.YtndmblelkeepjaaDoor.treeFull
open Go.ChangeShapes Go.WideShapes Go.ChangeAt Go.RowKit
open BigFrame

section
set_option maxRecDepth 100000
set_option maxHeartbeats 4000000
theorem walk (a : Int) (w : World) (_ha : (Lit.int .i64 a).wf = true) :
    Calls Tryd.prog 7 #[.int .i64 a] w fun e w' => e = .returned (.bool true) ∧ Below w.heap.size w w' := by
  clear _ha
  obtain ⟨u, hu⟩ : ∃ u, IntKind.u64.wrap a % 6 = u := ⟨_, rfl⟩
  have u0 : 0 ≤ u := by rw [← hu]; exact Int.emod_nonneg _ (by omega)
  have u6 : u < 6 := by rw [← hu]; exact Int.emod_lt_of_pos _ (by omega)
  obtain ⟨N, hN⟩ : ∃ N : Nat, 97 + u = (N : Int) := ⟨(97 + u).toNat, by omega⟩
  have w1 : wrap64 u = u := by unfold wrap64; omega
  have w2 : IntKind.i64.wrap u = u := IntWalk.i64_in _ (by omega)
  have w3 : wrap64 (97 + u) = (N : Int) := by unfold wrap64; omega
  have w4 : IntKind.i64.wrap (97 + u) = (N : Int) := (IntWalk.i64_in _ (by omega)).trans hN
  have w5 : Int.tmod (IntKind.u64.wrap a) 6 = u := by rw [Int.tmod_eq_emod_of_nonneg (by simp [IntKind.wrap, IntKind.bits, IntKind.signed]; omega)]; exact hu
  have HN := hid (show 97 ≤ N ∧ N ≤ 102 by omega)
  have HADD := hid (fun (k : Nat) (hk : k < 1000) (wx : World) => (show (Op.stringOp .add ⟨#[102]⟩ ⟨(digS k).toArray⟩).run Tryd.prog wx = .ok (.string ⟨(nmS k).toArray⟩) wx from run_str_add (P := Tryd.prog) [102] (digS k) (by unfold digS; split <;> (try split) <;> simp) wx))
  have HB0 := hid (Below.refl w.heap.size w)
  go_enter Tryd.func7, Tryd.ntmps7
  go_wp2_with fail
  clear w1 w2 w3 w4 w5 u0 u6 hN hu
  go_loopg [3, 4] N (fun g r i wr => ∃ k : Nat, k ≤ N ∧ N - k = g ∧ i = .int .i64 k ∧ Hid (OwnH wr w.heap.size r (fullC k)) ∧ Hid (Below w.heap.size w wr))
  case atStart => exact ⟨0, Nat.zero_le _, rfl, rfl, hid (World.ownsRow_nil _ _ _ _), HB0⟩
  case round =>
    obtain ⟨k, hk, rfl, rfl, HO, HB⟩ := hrel
    have k0 : (0 : Int) ≤ (k : Int) := Int.natCast_nonneg _
    obtain ⟨X, hX⟩ : ∃ X, fullC k = X := ⟨_, rfl⟩
    have HX := hid hX
    rw [hX] at HO
    clear hX
    obtain ⟨no, nc, rfl⟩ := owns_form HO.out
    by_cases hlt : k < N
    · have k1 : (k : Int) < (N : Int) := by omega
      have kw : IntKind.i64.wrap ((k : Int) + 1) = (k : Int) + 1 := IntWalk.i64_in _ (by have := HN.out; omega)
      have hadd := HADD.out k (by have := HN.out; omega)
      have HD := hid (Digits_any k wr (by have := HN.out; omega))
      have HX2 := hid (show fullC (k + 1) = X ++ [(nmS k, false, false, [])] by rw [fullC_succ, HX.out])
      have HXL := hid (show X.length ≤ 1000 by rw [← HX.out, fullC_len]; have := HN.out; omega)
      obtain ⟨dk, hdk⟩ : ∃ d, digS k = d := ⟨_, rfl⟩
      obtain ⟨nk, hnk⟩ : ∃ d, nmS k = d := ⟨_, rfl⟩
      rw [hdk] at hadd HD
      rw [hnk] at hadd HX2
      unfold strV at HD
      clear hdk hnk
      go_wp2_with (first
        | (go_at_call 26; with_reducible refine HD.out.mono ?_; rintro e w2 ⟨rfl, hb2⟩; have HO2 := hid (owns_below HO.out hb2); have HB2 := hid (below_step HB.out hb2 HB.out.size); clear hb2)
        | (at_builtin; refine wpList_append_h1 rfl (.tmp 18) (.tmp 23) rfl w.heap.size _ X (nk, false, false, []) rfl HO2.out w2.heap.size rfl rfl (by have := HXL.out; omega) HB2.out.size ?_; intro v8 w8 o8 b8; have HO8 := hid o8; have HB8 := hid (HB2.out.trans b8); clear o8 b8))
      go_roundg (N - (k + 1))
      case measure => omega
      case rel => exact ⟨k + 1, by omega, rfl, by go_num, by rw [HX2.out]; exact HO8, HB8⟩
    · obtain rfl : k = N := by omega
      have hneg : ¬ (k : Int) < (k : Int) := by omega
      have HAP := hid (DApply_any (.slice none 0 0) (.slice no X.length nc) [] X wr (SlR.nil _) HO.out.sl)
      have HAW := hid (fun wy => awake_any wy)
      by_cases h100 : k ≤ 100
      · have z1 : decide (100 < (k : Int)) = false := decide_eq_false (by omega)
        have z2 : decide (100 < k) = false := decide_eq_false (by omega)
        obtain ⟨Y, hY, hl⟩ := full_apply h100
        rw [show applyT [] X = (Y, 0) by rw [← HX.out]; exact hY] at HAP
        have HYL := hid hl
        clear hY hl h100
        go_wp2_with (first
          | (go_at_call 24; with_reducible refine HAP.out.mono ?_; rintro e w3 ⟨u3, rfl, ho3, hb3⟩; obtain ⟨xo, xc, rfl⟩ := own_n k ho3 HYL.out; have HB3 := hid (below_step HB.out hb3 HB.out.size); clear ho3 hb3)
          | (go_at_call 9; refine (HAW.out _).mono ?_; rintro e w4 ⟨rfl, hb4⟩; have HB4 := hid (below_step HB3.out hb4 HB3.out.size); clear hb4))
        go_ret
        exact ⟨by simp, HB4.out⟩
      · have z1 : decide (100 < (k : Int)) = true := decide_eq_true (by omega)
        have z2 : decide (100 < k) = true := decide_eq_true (by omega)
        have hY := full_over (n := k) (by omega)
        rw [show applyT [] X = ([], 6) by rw [← HX.out]; exact hY] at HAP
        clear hY h100
        have hk0 : ((0 : Int) == (k : Int)) = false := beq_false_of_ne (by have := HN.out; omega)
        have hk1 : (0 == k) = false := beq_false_of_ne (by have := HN.out; omega)
        go_wp2_with (first
          | (go_at_call 24; with_reducible refine HAP.out.mono ?_; rintro e w3 ⟨u3, rfl, ho3, hb3⟩; obtain ⟨xo, xc, rfl⟩ := own_n 0 ho3 (by simp); have HB3 := hid (below_step HB.out hb3 HB.out.size); clear ho3 hb3)
          | (go_at_call 9; refine (HAW.out _).mono ?_; rintro e w4 ⟨rfl, hb4⟩; have HB4 := hid (below_step HB3.out hb4 HB3.out.size); clear hb4))
        go_ret
        exact ⟨by simp, HB4.out⟩
end

theorem own : ownKnob Tryd.prog.godebug = none := by kernel_rfl
theorem laidOut : laidOutB Tryd.prog = true := by kernel_rfl
theorem laid_met (os : Os) : laidMet Tryd.prog Rows.treeFullRow.laid ((laidWorld os).forCall (fun _ _ => 0) ⟨#[], #[.int .i64 0], []⟩).memory :=
  laidMet_of_run' 8 (by kernel_rfl) (by kernel_rfl)
theorem reads (os : Os) {H : Type} (enc : TypeId × Value → H) : ∃ places, DataW.whole enc Tryd.prog ((laidWorld os).forCall (fun _ _ => 0) ⟨#[], #[.int .i64 0], []⟩).memory Tryd.f7.params.toList Rows.treeFullSpec.vars false (#[.int .i64 0] : Array Value).toList 8 = some ([.lit (.int .i64 0)], [], places) :=
  ⟨[], by kernel_rfl⟩

set_option maxRecDepth 100000 in
theorem contract (H : Type) (enc : TypeId × Value → H) (W : World) (base : Nat) (args : Array Value) (ds gs : List (DataW H)) (before : List MemPlace)
    (hval : ∀ (j : Nat) t v, Tryd.f7.params[j]? = some t → args[j]? = some v → Value.okWide Tryd.prog W .any base t v)
    (hW : DataW.Whole enc Tryd.prog Tryd.f7.params.toList Rows.treeFullSpec.vars false W args.toList ds gs before) (_hL : laidMetH Tryd.prog Rows.treeFullRow.laid W) :
    Calls Tryd.prog 7 args W fun e W' => ∃ v, e = .returned v ∧ Rows.treeFullSpec.post enc Tryd.prog Tryd.f7 false true false false W args v W' := by
  have hW' := hW
  obtain ⟨p, q, hA0, hV, rfl, hfz, hnd⟩ := hW
  have hA : DataW.TrodAll enc Tryd.prog W 0 (fun _ => true) true Tryd.f7.params.toList args.toList ds p := hA0
  rw [Tryd.params7] at hA hval
  obtain ⟨v0, vs0, d0, ds0, p0, q0, hargs, rfl, rfl, h0, r0⟩ := trodAll_cons hA
  obtain ⟨rfl, rfl, rfl⟩ := trodAll_nil r0
  obtain rfl : args = #[v0] := by cases args; simp_all
  obtain ⟨rfl, rfl⟩ := trodVars_none hV
  have k0 := h0
  have lt0 : ∀ x ∈ p0, x.block < W.heap.size := by obtain ⟨m, hm⟩ := k0; exact DataW.trod_lt m _ _ _ hm
  obtain ⟨a0, rfl, _, _, w0⟩ := open_int Tryd.underlying3 (hval 0 3 v0 rfl rfl) h0
  clear hA0
  refine (walk a0 W w0).mono fun e W' ⟨he, bel⟩ => ?_
  subst he
  exact ⟨_, rfl, _, _, _, [], _, [], hW', trodAll_mk1 (shut_bool Tryd.underlying4 _), (trodAll_cons_mk (Below.trod laidOut (by kernel_rfl) (of_decide_eq_true (by kernel_rfl)) k0 bel lt0) trodAll_mk0), rfl, bel.frame _, fun h => by cases h⟩

set_option maxRecDepth 100000 in
theorem lifted (os : Os) (started : os.Started) (H : Type) (enc : TypeId × Value → H) (F : Stop.Interp) :
    ReturnsInHanded {} Tryd.checked os 7 .any ((OpenSpec.ofChange Rows.treeFullSpec).preRow enc Tryd.prog Tryd.f7 Rows.treeFullRow.domain false Rows.treeFullRow.laid) (((OpenSpec.ofChange Rows.treeFullSpec).at F).post enc Tryd.prog Tryd.f7 false true false false) := by
  obtain ⟨places, hx⟩ := reads os enc
  refine returnsInHanded_of_row (C := Tryd.checked) (s := OpenSpec.ofChange Rows.treeFullSpec) own started (by kernel_rfl) Tryd.func7
    (witness_row_at (enc := enc) (C := Tryd.checked) false (laidWorld os) #[.int .i64 0] rfl (by kernel_rfl) (by kernel_rfl) (by kernel_rfl)
      (OpenSpec.preRow_of_cond 8 hx (by kernel_rfl) (fun k hk => by cases hk) (by kernel_rfl) (laid_met os))) ?_
  intro W base args ds gs before hval hW _ _ _ hL _ _
  exact contract H enc W base args ds gs before hval hW hL

theorem said : Rows.TreeFullSaid :=
  OpenClaim.holds_of_cond 7 Tryd.f7 rfl rfl rfl rfl rfl rfl rfl ⟨rfl, rfl, rfl, rfl, rfl⟩ rfl rfl rfl rfl rfl (by kernel_rfl) Tryd.func7 (by kernel_rfl)
    (of_decide_eq_true (by kernel_rfl)) (by unfold Func.isWrapper; first | (rw [if_pos (by decide +kernel)]; kernel_rfl) | (rw [if_neg (by decide +kernel)]; exact ⟨rfl, rfl⟩))
    (fun os started H enc _ F => by rw [OpenClaim.pre_eq_preRow]; exact lifted os started H enc F)

theorem plain (f : FuncId) (fn : Func) (hf : Tryd.pinned.checked.prog.funcNamed "rick/ricklaw12.TreeFull" = some f) (hfn : Tryd.pinned.checked.prog.funcs[f]? = some fn) :
    false = Tryd.pinned.checked.prog.looks [] ∧ ∀ (j : Nat) t, fn.params[j]? = some t → Tryd.pinned.checked.prog.wantsStandIn t = false := by
  obtain rfl : f = 7 := Option.some.inj ((show Tryd.prog.funcNamed "rick/ricklaw12.TreeFull" = some 7 by kernel_rfl).symm.trans hf) |>.symm
  obtain rfl : fn = Tryd.f7 := (Option.some.inj (Tryd.func7.symm.trans hfn)).symm
  refine ⟨by kernel_rfl, fun j t ht => ?_⟩
  rw [Tryd.params7] at ht
  have hm := Array.mem_of_getElem? ht
  simp only [List.mem_toArray, List.mem_cons, List.not_mem_nil, or_false] at hm
  rcases hm with rfl
  · exact (show Tryd.prog.wantsStandIn 3 = false by kernel_rfl)

/-- The statement. -/
theorem proved : Rows.TreeFullCardSaid :=
  Claim7.holds_tied_plain_at .later [] _ _ _ _ said (fun _ h => by cases h) (by kernel_rfl) (fun _ h => by cases h) treeFull_row_tie rfl ⟨rfl, rfl⟩ (by kernel_rfl) rfl plain (by kernel_rfl)
#print axioms proved

end Go.Proofs.YtndmblelkeepjaaDoor.treeFull
