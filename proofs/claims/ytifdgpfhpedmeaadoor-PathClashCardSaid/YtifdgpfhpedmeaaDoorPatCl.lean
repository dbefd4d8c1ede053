/-
  PathClash: clashing goes both ways; what stands within something is not that; of three, within within is within.
-/
import Derived.Test.YtifdgpfhpedmeaaDoorPthAw
import Derived.Test.YtifdgpfhpedmeaaDoorTabU
import Derived.Test.YtifdgpfhpedmeaaDoorLit
import Derived.Test.YtifdgpfhpedmeaaDoorOpenS
import Derived.ProofKit
import Derived.OpenShut
namespace Go.Proofs.YtifdgpfhpedmeaaDoor.pathClash
open Go.ChangeShapes Go.WideShapes Go.ChangeAt Go.RowKit

section
set_option maxRecDepth 100000
set_option maxHeartbeats 4000000
theorem walk (a b c : List UInt8) (w : World) (_ha : a.length ≤ maxLen) (_hb : b.length ≤ maxLen) (_hc : c.length ≤ maxLen) :
    Calls Tryd.prog 4 #[strV a, strV b, strV c] w fun e w' => e = .returned (.bool true) ∧ Below w.heap.size w w' := by
  clear _ha _hb _hc
  by_cases ha : a.length ≤ 100
  · have a1 : decide (100 < (a.length : Int)) = false := decide_eq_false (by omega)
    have a2 : decide (100 < a.length) = false := decide_eq_false (by omega)
    by_cases hb : b.length ≤ 100
    · have b1 : decide (100 < (b.length : Int)) = false := decide_eq_false (by omega)
      have b2 : decide (100 < b.length) = false := decide_eq_false (by omega)
      by_cases hc : c.length ≤ 100
      · have c1 : decide (100 < (c.length : Int)) = false := decide_eq_false (by omega)
        have c2 : decide (100 < c.length) = false := decide_eq_false (by omega)
        have l1 : (a ++ [47]).length = a.length + 1 := by simp
        have l2 : (a ++ [47] ++ b).length = a.length + 1 + b.length := by simp; omega
        have l3 : (a ++ [47] ++ b ++ [47]).length = a.length + 1 + b.length + 1 := by simp; omega
        have l4 : (a ++ [47] ++ b ++ [47] ++ c).length = a.length + 1 + b.length + 1 + c.length := by simp; omega
        have e1 := run_str_add (P := Tryd.prog) a [47] (by simp; omega)
        have e2 := run_str_add (P := Tryd.prog) (a ++ [47]) b (by omega)
        have e3 := run_str_add (P := Tryd.prog) (a ++ [47] ++ b) [47] (by rw [l2]; simp; omega)
        have e4 := run_str_add (P := Tryd.prog) (a ++ [47] ++ b ++ [47]) c (by omega)
        have f1 := clash_comm b a
        have f2 : withinS (a ++ [47] ++ b) a = true := by rw [show a ++ [47] ++ b = a ++ 47 :: b by simp]; exact within_put a b
        have f3 : withinS (a ++ [47] ++ b ++ [47] ++ c) (a ++ [47] ++ b) = true := by rw [show a ++ [47] ++ b ++ [47] ++ c = (a ++ [47] ++ b) ++ 47 :: c by simp]; exact within_put _ c
        have f4 : withinS (a ++ [47] ++ b ++ [47] ++ c) a = true := by rw [show a ++ [47] ++ b ++ [47] ++ c = a ++ 47 :: (b ++ 47 :: c) by simp]; exact within_put a _
        have f5 := within_both a b
        have H1 := hid (fun wx => DClash_any a b wx (by omega) (by omega))
        have H2 := hid (fun wx => DClash_any b a wx (by omega) (by omega))
        have H3 := hid (fun wx => DClash_any a a wx (by omega) (by omega))
        have H4 := hid (fun wx => DWithin_any a a wx (by omega) (by omega))
        have H5 := hid (fun wx => DWithin_any (a ++ [47] ++ b) a wx (by omega) (by omega))
        have H6 := hid (fun wx => DWithin_any (a ++ [47] ++ b ++ [47] ++ c) (a ++ [47] ++ b) wx (by omega) (by omega))
        have H7 := hid (fun wx => DWithin_any (a ++ [47] ++ b ++ [47] ++ c) a wx (by omega) (by omega))
        have H8 := hid (fun wx => DWithin_any a b wx (by omega) (by omega))
        have H9 := hid (fun wx => DWithin_any b a wx (by omega) (by omega))
        rw [f1] at H2
        rw [clash_self] at H3
        rw [within_self] at H4
        rw [f2] at H5
        rw [f3] at H6
        rw [f4] at H7
        obtain ⟨x1, hx1⟩ : ∃ z, a ++ [47] = z := ⟨_, rfl⟩
        rw [hx1] at e1 e2 e3 e4 H5 H6 H7
        obtain ⟨x2, hx2⟩ : ∃ z, x1 ++ b = z := ⟨_, rfl⟩
        rw [hx2] at e2 e3 e4 H5 H6 H7
        obtain ⟨x3, hx3⟩ : ∃ z, x2 ++ [47] = z := ⟨_, rfl⟩
        rw [hx3] at e3 e4 H6 H7
        obtain ⟨x4, hx4⟩ : ∃ z, x3 ++ c = z := ⟨_, rfl⟩
        rw [hx4] at e4 H6 H7
        obtain ⟨k, hk⟩ : ∃ k, clashS a b = k := ⟨_, rfl⟩
        rw [hk] at H1 H2
        obtain ⟨m, hm⟩ : ∃ m, withinS a b = m := ⟨_, rfl⟩
        obtain ⟨n, hn⟩ : ∃ n, withinS b a = n := ⟨_, rfl⟩
        rw [hm] at H8 f5
        rw [hn] at H9 f5
        unfold strV at H1 H2 H3 H4 H5 H6 H7 H8 H9 ⊢
        clear l1 l2 l3 l4 f1 f2 f3 f4 hx1 hx2 hx3 hx4 hk hm hn ha hb hc
        have HF := hid f5
        clear f5
        cases m with
        | true =>
          have f5 := HF.out
          simp only [Bool.true_and] at f5
          subst f5
          go_enter Tryd.func4, Tryd.ntmps4
          go_wp2_with (first
            | (go_at_call 7; refine (awake_any _).mono ?_; rintro e w0 ⟨rfl, hb0⟩; have HB0 := hid hb0; clear hb0)
            | (go_at_call 15; with_reducible refine (H1.out _).mono ?_; rintro e w1 ⟨rfl, hb1⟩; have HB1 := hid (below_step HB0.out hb1 HB0.out.size); clear hb1)
            | (go_at_call 15; with_reducible refine (H2.out _).mono ?_; rintro e w2 ⟨rfl, hb2⟩; have HB2 := hid (below_step HB1.out hb2 HB1.out.size); clear hb2)
            | (go_at_call 15; with_reducible refine (H3.out _).mono ?_; rintro e w3 ⟨rfl, hb3⟩; have HB3 := hid (below_step HB2.out hb3 HB2.out.size); clear hb3)
            | (go_at_call 13; with_reducible refine (H4.out _).mono ?_; rintro e w4 ⟨rfl, hb4⟩; have HB4 := hid (below_step HB3.out hb4 HB3.out.size); clear hb4)
            | (go_at_call 13; with_reducible refine (H5.out _).mono ?_; rintro e w5 ⟨rfl, hb5⟩; have HB5 := hid (below_step HB4.out hb5 HB4.out.size); clear hb5)
            | (go_at_call 13; with_reducible refine (H6.out _).mono ?_; rintro e w6 ⟨rfl, hb6⟩; have HB6 := hid (below_step HB5.out hb6 HB5.out.size); clear hb6)
            | (go_at_call 13; with_reducible refine (H7.out _).mono ?_; rintro e w7 ⟨rfl, hb7⟩; have HB7 := hid (below_step HB6.out hb7 HB6.out.size); clear hb7)
            | (go_at_call 13; with_reducible refine (H8.out _).mono ?_; rintro e w8 ⟨rfl, hb8⟩; have HB8 := hid (below_step HB7.out hb8 HB7.out.size); clear hb8)
            | (go_at_call 13; with_reducible refine (H9.out _).mono ?_; rintro e w9 ⟨rfl, hb9⟩; have HB9 := hid (below_step HB8.out hb9 HB8.out.size); clear hb9))
          go_ret
          exact ⟨rfl, HB9.out⟩
        | false =>
          go_enter Tryd.func4, Tryd.ntmps4
          go_wp2_with (first
            | (go_at_call 7; refine (awake_any _).mono ?_; rintro e w0 ⟨rfl, hb0⟩; have HB0 := hid hb0; clear hb0)
            | (go_at_call 15; with_reducible refine (H1.out _).mono ?_; rintro e w1 ⟨rfl, hb1⟩; have HB1 := hid (below_step HB0.out hb1 HB0.out.size); clear hb1)
            | (go_at_call 15; with_reducible refine (H2.out _).mono ?_; rintro e w2 ⟨rfl, hb2⟩; have HB2 := hid (below_step HB1.out hb2 HB1.out.size); clear hb2)
            | (go_at_call 15; with_reducible refine (H3.out _).mono ?_; rintro e w3 ⟨rfl, hb3⟩; have HB3 := hid (below_step HB2.out hb3 HB2.out.size); clear hb3)
            | (go_at_call 13; with_reducible refine (H4.out _).mono ?_; rintro e w4 ⟨rfl, hb4⟩; have HB4 := hid (below_step HB3.out hb4 HB3.out.size); clear hb4)
            | (go_at_call 13; with_reducible refine (H5.out _).mono ?_; rintro e w5 ⟨rfl, hb5⟩; have HB5 := hid (below_step HB4.out hb5 HB4.out.size); clear hb5)
            | (go_at_call 13; with_reducible refine (H6.out _).mono ?_; rintro e w6 ⟨rfl, hb6⟩; have HB6 := hid (below_step HB5.out hb6 HB5.out.size); clear hb6)
            | (go_at_call 13; with_reducible refine (H7.out _).mono ?_; rintro e w7 ⟨rfl, hb7⟩; have HB7 := hid (below_step HB6.out hb7 HB6.out.size); clear hb7)
            | (go_at_call 13; with_reducible refine (H8.out _).mono ?_; rintro e w8 ⟨rfl, hb8⟩; have HB8 := hid (below_step HB7.out hb8 HB7.out.size); clear hb8)
            | (go_at_call 13; with_reducible refine (H9.out _).mono ?_; rintro e w9 ⟨rfl, hb9⟩; have HB9 := hid (below_step HB8.out hb9 HB8.out.size); clear hb9))
          go_ret
          exact ⟨rfl, HB8.out⟩
      · have c1 : decide (100 < (c.length : Int)) = true := decide_eq_true (by omega)
        have c2 : decide (100 < c.length) = true := decide_eq_true (by omega)
        unfold strV
        go_enter Tryd.func4, Tryd.ntmps4
        go_wp2_with fail
        refine (awake_any w).mono ?_
        rintro e w2 ⟨rfl, hb⟩
        go_wp2_with fail
        go_ret
        exact ⟨rfl, hb⟩
    · have b1 : decide (100 < (b.length : Int)) = true := decide_eq_true (by omega)
      have b2 : decide (100 < b.length) = true := decide_eq_true (by omega)
      unfold strV
      go_enter Tryd.func4, Tryd.ntmps4
      go_wp2_with fail
      refine (awake_any w).mono ?_
      rintro e w2 ⟨rfl, hb⟩
      go_wp2_with fail
      go_ret
      exact ⟨rfl, hb⟩
  · have a1 : decide (100 < (a.length : Int)) = true := decide_eq_true (by omega)
    have a2 : decide (100 < a.length) = true := decide_eq_true (by omega)
    unfold strV
    go_enter Tryd.func4, Tryd.ntmps4
    go_wp2_with fail
    refine (awake_any w).mono ?_
    rintro e w2 ⟨rfl, hb⟩
    go_wp2_with fail
    go_ret
    exact ⟨rfl, hb⟩
end
theorem own : ownKnob Tryd.prog.godebug = none := by kernel_rfl
theorem laidOut : laidOutB Tryd.prog = true := by kernel_rfl
theorem laid_met (os : Os) : laidMet Tryd.prog Rows.pathClashRow.laid ((laidWorld os).forCall (fun _ _ => 0) ⟨#[], #[.string ByteArray.empty, .string ByteArray.empty, .string ByteArray.empty], []⟩).memory :=
  laidMet_of_run' 8 (by kernel_rfl) (by kernel_rfl)
theorem reads (os : Os) {H : Type} (enc : TypeId × Value → H) : ∃ places, DataW.whole enc Tryd.prog ((laidWorld os).forCall (fun _ _ => 0) ⟨#[], #[.string ByteArray.empty, .string ByteArray.empty, .string ByteArray.empty], []⟩).memory Tryd.f4.params.toList Rows.pathClashSpec.vars false (#[.string ByteArray.empty, .string ByteArray.empty, .string ByteArray.empty] : Array Value).toList 8 = some ([.lit (.string []), .lit (.string []), .lit (.string [])], [], places) :=
  ⟨[], by kernel_rfl⟩

set_option maxRecDepth 100000 in
theorem contract (H : Type) (enc : TypeId × Value → H) (W : World) (base : Nat) (args : Array Value) (ds gs : List (DataW H)) (before : List MemPlace)
    (hval : ∀ (j : Nat) t v, Tryd.f4.params[j]? = some t → args[j]? = some v → Value.okWide Tryd.prog W .any base t v)
    (hW : DataW.Whole enc Tryd.prog Tryd.f4.params.toList Rows.pathClashSpec.vars false W args.toList ds gs before) (_hL : laidMetH Tryd.prog Rows.pathClashRow.laid W) :
    Calls Tryd.prog 4 args W fun e W' => ∃ v, e = .returned v ∧ Rows.pathClashSpec.post enc Tryd.prog Tryd.f4 false true false false W args v W' := by
  have hW' := hW
  obtain ⟨p, q, hA0, hV, rfl, hfz, hnd⟩ := hW
  have hA : DataW.TrodAll enc Tryd.prog W 0 (fun _ => true) true Tryd.f4.params.toList args.toList ds p := hA0
  rw [Tryd.params4] at hA hval
  obtain ⟨v0, vs0, d0, ds0, p0, q0, hargs, rfl, rfl, h0, r0⟩ := trodAll_cons hA
  obtain ⟨v1, vs1, d1, ds1, p1, q1, rfl, rfl, rfl, h1, r1⟩ := trodAll_cons r0
  obtain ⟨v2, vs2, d2, ds2, p2, q2, rfl, rfl, rfl, h2, r2⟩ := trodAll_cons r1
  obtain ⟨rfl, rfl, rfl⟩ := trodAll_nil r2
  obtain rfl : args = #[v0, v1, v2] := by cases args; simp_all
  obtain ⟨rfl, rfl⟩ := trodVars_none hV
  have k0 := h0
  have lt0 : ∀ x ∈ p0, x.block < W.heap.size := by obtain ⟨m, hm⟩ := k0; exact DataW.trod_lt m _ _ _ hm
  obtain ⟨a0, rfl, _, _, w0⟩ := open_str Tryd.underlying9 (hval 0 9 v0 rfl rfl) h0
  have k1 := h1
  have lt1 : ∀ x ∈ p1, x.block < W.heap.size := by obtain ⟨m, hm⟩ := k1; exact DataW.trod_lt m _ _ _ hm
  obtain ⟨a1, rfl, _, _, w1⟩ := open_str Tryd.underlying9 (hval 1 9 v1 rfl rfl) h1
  have k2 := h2
  have lt2 : ∀ x ∈ p2, x.block < W.heap.size := by obtain ⟨m, hm⟩ := k2; exact DataW.trod_lt m _ _ _ hm
  obtain ⟨a2, rfl, _, _, w2⟩ := open_str Tryd.underlying9 (hval 2 9 v2 rfl rfl) h2
  clear hA0
  refine (walk a0 a1 a2 W w0 w1 w2).mono fun e W' ⟨he, bel⟩ => ?_
  subst he
  exact ⟨_, rfl, _, _, _, [], _, [], hW', trodAll_mk1 (shut_bool Tryd.underlying4 _), (trodAll_cons_mk (Below.trod laidOut (by kernel_rfl) (of_decide_eq_true (by kernel_rfl)) k0 bel lt0) (trodAll_cons_mk (Below.trod laidOut (by kernel_rfl) (of_decide_eq_true (by kernel_rfl)) k1 bel lt1) (trodAll_cons_mk (Below.trod laidOut (by kernel_rfl) (of_decide_eq_true (by kernel_rfl)) k2 bel lt2) trodAll_mk0))), rfl, bel.frame _, fun h => by cases h⟩

set_option maxRecDepth 100000 in
theorem lifted (os : Os) (started : os.Started) (H : Type) (enc : TypeId × Value → H) (F : Stop.Interp) :
    ReturnsInHanded {} Tryd.checked os 4 .any ((OpenSpec.ofChange Rows.pathClashSpec).preRow enc Tryd.prog Tryd.f4 Rows.pathClashRow.domain false Rows.pathClashRow.laid) (((OpenSpec.ofChange Rows.pathClashSpec).at F).post enc Tryd.prog Tryd.f4 false true false false) := by
  obtain ⟨places, hx⟩ := reads os enc
  refine returnsInHanded_of_row (C := Tryd.checked) (s := OpenSpec.ofChange Rows.pathClashSpec) own started (by kernel_rfl) Tryd.func4
    (witness_row_at (enc := enc) (C := Tryd.checked) false (laidWorld os) #[.string ByteArray.empty, .string ByteArray.empty, .string ByteArray.empty] rfl (by kernel_rfl) (by kernel_rfl) (by kernel_rfl)
      (OpenSpec.preRow_of_cond 8 hx (by kernel_rfl) (fun k hk => by cases hk) (by kernel_rfl) (laid_met os))) ?_
  intro W base args ds gs before hval hW _ _ _ hL _ _
  exact contract H enc W base args ds gs before hval hW hL

theorem said : Rows.PathClashSaid :=
  OpenClaim.holds_of_cond 4 Tryd.f4 rfl rfl rfl rfl rfl rfl rfl ⟨rfl, rfl, rfl, rfl, rfl⟩ rfl rfl rfl rfl rfl (by kernel_rfl) Tryd.func4 (by kernel_rfl)
    (of_decide_eq_true (by kernel_rfl)) (by unfold Func.isWrapper; first | (rw [if_pos (by decide +kernel)]; kernel_rfl) | (rw [if_neg (by decide +kernel)]; exact ⟨rfl, rfl⟩))
    (fun os started H enc _ F => by rw [OpenClaim.pre_eq_preRow]; exact lifted os started H enc F)

theorem plain (f : FuncId) (fn : Func) (hf : Tryd.pinned.checked.prog.funcNamed "rick/ricklaw11.PathClash" = some f) (hfn : Tryd.pinned.checked.prog.funcs[f]? = some fn) :
    false = Tryd.pinned.checked.prog.looks [] ∧ ∀ (j : Nat) t, fn.params[j]? = some t → Tryd.pinned.checked.prog.wantsStandIn t = false := by
  obtain rfl : f = 4 := Option.some.inj ((show Tryd.prog.funcNamed "rick/ricklaw11.PathClash" = some 4 by kernel_rfl).symm.trans hf) |>.symm
  obtain rfl : fn = Tryd.f4 := (Option.some.inj (Tryd.func4.symm.trans hfn)).symm
  refine ⟨by kernel_rfl, fun j t ht => ?_⟩
  rw [Tryd.params4] at ht
  have hm := Array.mem_of_getElem? ht
  simp only [List.mem_toArray, List.mem_cons, List.not_mem_nil, or_false] at hm
  rcases hm with rfl | rfl | rfl
  · exact (show Tryd.prog.wantsStandIn 9 = false by kernel_rfl)
  · exact (show Tryd.prog.wantsStandIn 9 = false by kernel_rfl)
  · exact (show Tryd.prog.wantsStandIn 9 = false by kernel_rfl)

/-- The statement. -/
theorem proved : Rows.PathClashCardSaid :=
  Claim7.holds_tied_plain_at .later [] _ _ _ _ said (fun _ h => by cases h) (by kernel_rfl) (fun _ h => by cases h) pathClash_row_tie rfl ⟨rfl, rfl⟩ (by kernel_rfl) rfl plain (by kernel_rfl)
#print axioms proved
end Go.Proofs.YtifdgpfhpedmeaaDoor.pathClash
