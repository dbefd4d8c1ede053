/-
  PathTells: the parts of any name, whether it is right, and whether it stands within, or clashes with, another one.
-/
import Derived.Test.YtifdgpfhpedmeaaDoorPthAw
import Derived.Test.YtifdgpfhpedmeaaDoorTabU
import Derived.Test.YtifdgpfhpedmeaaDoorLit
import Derived.Test.YtifdgpfhpedmeaaDoorOpenS
import Derived.ProofKit
import Derived.OpenShut
namespace Go.Proofs.YtifdgpfhpedmeaaDoor.pathTells
open Go.ChangeShapes Go.WideShapes Go.ChangeAt Go.RowKit

section
set_option maxRecDepth 100000
set_option maxHeartbeats 4000000
theorem walk (a b : List UInt8) (w : World) (_ha : a.length ≤ maxLen) (_hb : b.length ≤ maxLen) :
    Calls Tryd.prog 3 #[strV a, strV b] w fun e w' => e = .returned (.bool true) ∧ Below w.heap.size w w' := by
  clear _ha _hb
  by_cases ha : a.length ≤ 300
  · have a1 : decide (300 < (a.length : Int)) = false := decide_eq_false (by omega)
    have a2 : decide (300 < a.length) = false := decide_eq_false (by omega)
    by_cases hb : b.length ≤ 300
    · have b1 : decide (300 < (b.length : Int)) = false := decide_eq_false (by omega)
      have b2 : decide (300 < b.length) = false := decide_eq_false (by omega)
      have HP := hid (fun wx => DParts_any a wx (by omega))
      have HQ := hid (fun wx => RParts_any a wx (by omega))
      have HR := hid (fun wx => DRightP_any a wx (by omega))
      have HS := hid (fun wx => RPath_any a wx)
      have HW := hid (fun wx => DWithin_any a b wx (by omega) (by omega))
      have HV := hid (fun wx => RWithin_any a b wx)
      have HC := hid (fun wx => DClash_any a b wx (by omega) (by omega))
      have HD := hid (fun wx => RClash_any a b wx)
      have hpl := partsS_len a
      obtain ⟨L, hL⟩ : ∃ L, partsS a = L := ⟨_, rfl⟩
      obtain ⟨r, hr⟩ : ∃ r, rightS a = r := ⟨_, rfl⟩
      obtain ⟨x, hx⟩ : ∃ x, withinS a b = x := ⟨_, rfl⟩
      obtain ⟨y, hy⟩ : ∃ y, clashS a b = y := ⟨_, rfl⟩
      rw [hL] at HP HQ hpl
      rw [hr] at HR HS
      rw [hx] at HW HV
      rw [hy] at HC HD
      have HLL := hid (show L.length ≤ 301 by omega)
      unfold strV at HP HQ HR HS HW HV HC HD ⊢
      clear ha hb hpl hL hr hx hy
      go_enter Tryd.func3, Tryd.ntmps3
      go_wp2_with (first
        | (go_at_call 7; refine (awake_any _).mono ?_; rintro e w1 ⟨rfl, hb1⟩; have HB1 := hid hb1; clear hb1)
        | (go_at_call 9; with_reducible refine (HP.out _).mono ?_; rintro e w2 ⟨u2, rfl, s2, hb2⟩
           obtain ⟨ua, uc, rfl⟩ := s2.form
           have S2 := hid s2; have HB2 := hid (below_step HB1.out hb2 HB1.out.size); clear s2 hb2)
        | (go_at_call 10; with_reducible refine (HQ.out _).mono ?_; rintro e w3 ⟨u3, rfl, o3, hb3⟩
           obtain ⟨va, vc, rfl⟩ := owns_form o3
           have S3 := hid (Sl.ofOwns o3); have S23 := hid (Sl.old S2.out hb3); have HB3 := hid (below_step HB2.out hb3 HB2.out.size); clear o3 hb3)
        | (go_at_call 8; refine (SPlain_any _ _ L L _ S23.out S3.out (by have := HLL.out; unfold maxLen; omega)).mono ?_; rintro e _ ⟨rfl, q5, rfl⟩
           rw [show (L == L) = true by simp]
           have HB4 := hid (below_step HB3.out (below_drewN _ q5) HB3.out.size))
        | (go_at_call 11; with_reducible refine (HR.out _).mono ?_; rintro e w5 ⟨rfl, hb5⟩; have HB5 := hid (below_step HB4.out hb5 HB4.out.size); clear hb5)
        | (go_at_call 12; with_reducible refine (HS.out _).mono ?_; rintro e w6 ⟨rfl, hb6⟩; have HB6 := hid (below_step HB5.out hb6 HB5.out.size); clear hb6)
        | (go_at_call 13; with_reducible refine (HW.out _).mono ?_; rintro e w7 ⟨rfl, hb7⟩; have HB7 := hid (below_step HB6.out hb7 HB6.out.size); clear hb7)
        | (go_at_call 14; with_reducible refine (HV.out _).mono ?_; rintro e _ ⟨rfl, rfl⟩)
        | (go_at_call 15; with_reducible refine (HC.out _).mono ?_; rintro e w8 ⟨rfl, hb8⟩; have HB8 := hid (below_step HB7.out hb8 HB7.out.size); clear hb8)
        | (go_at_call 16; with_reducible refine (HD.out _).mono ?_; rintro e _ ⟨rfl, rfl⟩))
      go_ret
      exact ⟨rfl, HB8.out⟩
    · have b1 : decide (300 < (b.length : Int)) = true := decide_eq_true (by omega)
      have b2 : decide (300 < b.length) = true := decide_eq_true (by omega)
      clear ha hb
      unfold strV
      go_enter Tryd.func3, Tryd.ntmps3
      go_wp2_with fail
      refine (awake_any w).mono ?_
      rintro e w2 ⟨rfl, hb⟩
      go_wp2_with fail
      go_ret
      exact ⟨rfl, hb⟩
  · have a1 : decide (300 < (a.length : Int)) = true := decide_eq_true (by omega)
    have a2 : decide (300 < a.length) = true := decide_eq_true (by omega)
    clear ha
    unfold strV
    go_enter Tryd.func3, Tryd.ntmps3
    go_wp2_with fail
    refine (awake_any w).mono ?_
    rintro e w2 ⟨rfl, hb⟩
    go_wp2_with fail
    go_ret
    exact ⟨rfl, hb⟩
end
theorem own : ownKnob Tryd.prog.godebug = none := by kernel_rfl
theorem laidOut : laidOutB Tryd.prog = true := by kernel_rfl
theorem laid_met (os : Os) : laidMet Tryd.prog Rows.pathTellsRow.laid ((laidWorld os).forCall (fun _ _ => 0) ⟨#[], #[.string ByteArray.empty, .string ByteArray.empty], []⟩).memory :=
  laidMet_of_run' 8 (by kernel_rfl) (by kernel_rfl)
theorem reads (os : Os) {H : Type} (enc : TypeId × Value → H) : ∃ places, DataW.whole enc Tryd.prog ((laidWorld os).forCall (fun _ _ => 0) ⟨#[], #[.string ByteArray.empty, .string ByteArray.empty], []⟩).memory Tryd.f3.params.toList Rows.pathTellsSpec.vars false (#[.string ByteArray.empty, .string ByteArray.empty] : Array Value).toList 8 = some ([.lit (.string []), .lit (.string [])], [], places) :=
  ⟨[], by kernel_rfl⟩

set_option maxRecDepth 100000 in
theorem contract (H : Type) (enc : TypeId × Value → H) (W : World) (base : Nat) (args : Array Value) (ds gs : List (DataW H)) (before : List MemPlace)
    (hval : ∀ (j : Nat) t v, Tryd.f3.params[j]? = some t → args[j]? = some v → Value.okWide Tryd.prog W .any base t v)
    (hW : DataW.Whole enc Tryd.prog Tryd.f3.params.toList Rows.pathTellsSpec.vars false W args.toList ds gs before) (_hL : laidMetH Tryd.prog Rows.pathTellsRow.laid W) :
    Calls Tryd.prog 3 args W fun e W' => ∃ v, e = .returned v ∧ Rows.pathTellsSpec.post enc Tryd.prog Tryd.f3 false true false false W args v W' := by
  have hW' := hW
  obtain ⟨p, q, hA0, hV, rfl, hfz, hnd⟩ := hW
  have hA : DataW.TrodAll enc Tryd.prog W 0 (fun _ => true) true Tryd.f3.params.toList args.toList ds p := hA0
  rw [Tryd.params3] at hA hval
  obtain ⟨v0, vs0, d0, ds0, p0, q0, hargs, rfl, rfl, h0, r0⟩ := trodAll_cons hA
  obtain ⟨v1, vs1, d1, ds1, p1, q1, rfl, rfl, rfl, h1, r1⟩ := trodAll_cons r0
  obtain ⟨rfl, rfl, rfl⟩ := trodAll_nil r1
  obtain rfl : args = #[v0, v1] := by cases args; simp_all
  obtain ⟨rfl, rfl⟩ := trodVars_none hV
  have k0 := h0
  have lt0 : ∀ x ∈ p0, x.block < W.heap.size := by obtain ⟨m, hm⟩ := k0; exact DataW.trod_lt m _ _ _ hm
  obtain ⟨a0, rfl, _, _, w0⟩ := open_str Tryd.underlying9 (hval 0 9 v0 rfl rfl) h0
  have k1 := h1
  have lt1 : ∀ x ∈ p1, x.block < W.heap.size := by obtain ⟨m, hm⟩ := k1; exact DataW.trod_lt m _ _ _ hm
  obtain ⟨a1, rfl, _, _, w1⟩ := open_str Tryd.underlying9 (hval 1 9 v1 rfl rfl) h1
  clear hA0
  refine (walk a0 a1 W w0 w1).mono fun e W' ⟨he, bel⟩ => ?_
  subst he
  exact ⟨_, rfl, _, _, _, [], _, [], hW', trodAll_mk1 (shut_bool Tryd.underlying4 _), (trodAll_cons_mk (Below.trod laidOut (by kernel_rfl) (of_decide_eq_true (by kernel_rfl)) k0 bel lt0) (trodAll_cons_mk (Below.trod laidOut (by kernel_rfl) (of_decide_eq_true (by kernel_rfl)) k1 bel lt1) trodAll_mk0)), rfl, bel.frame _, fun h => by cases h⟩

set_option maxRecDepth 100000 in
theorem lifted (os : Os) (started : os.Started) (H : Type) (enc : TypeId × Value → H) (F : Stop.Interp) :
    ReturnsInHanded {} Tryd.checked os 3 .any ((OpenSpec.ofChange Rows.pathTellsSpec).preRow enc Tryd.prog Tryd.f3 Rows.pathTellsRow.domain false Rows.pathTellsRow.laid) (((OpenSpec.ofChange Rows.pathTellsSpec).at F).post enc Tryd.prog Tryd.f3 false true false false) := by
  obtain ⟨places, hx⟩ := reads os enc
  refine returnsInHanded_of_row (C := Tryd.checked) (s := OpenSpec.ofChange Rows.pathTellsSpec) own started (by kernel_rfl) Tryd.func3
    (witness_row_at (enc := enc) (C := Tryd.checked) false (laidWorld os) #[.string ByteArray.empty, .string ByteArray.empty] rfl (by kernel_rfl) (by kernel_rfl) (by kernel_rfl)
      (OpenSpec.preRow_of_cond 8 hx (by kernel_rfl) (fun k hk => by cases hk) (by kernel_rfl) (laid_met os))) ?_
  intro W base args ds gs before hval hW _ _ _ hL _ _
  exact contract H enc W base args ds gs before hval hW hL

theorem said : Rows.PathTellsSaid :=
  OpenClaim.holds_of_cond 3 Tryd.f3 rfl rfl rfl rfl rfl rfl rfl ⟨rfl, rfl, rfl, rfl, rfl⟩ rfl rfl rfl rfl rfl (by kernel_rfl) Tryd.func3 (by kernel_rfl)
    (of_decide_eq_true (by kernel_rfl)) (by unfold Func.isWrapper; first | (rw [if_pos (by decide +kernel)]; kernel_rfl) | (rw [if_neg (by decide +kernel)]; exact ⟨rfl, rfl⟩))
    (fun os started H enc _ F => by rw [OpenClaim.pre_eq_preRow]; exact lifted os started H enc F)

theorem plain (f : FuncId) (fn : Func) (hf : Tryd.pinned.checked.prog.funcNamed "rick/ricklaw11.PathTells" = some f) (hfn : Tryd.pinned.checked.prog.funcs[f]? = some fn) :
    false = Tryd.pinned.checked.prog.looks [] ∧ ∀ (j : Nat) t, fn.params[j]? = some t → Tryd.pinned.checked.prog.wantsStandIn t = false := by
  obtain rfl : f = 3 := Option.some.inj ((show Tryd.prog.funcNamed "rick/ricklaw11.PathTells" = some 3 by kernel_rfl).symm.trans hf) |>.symm
  obtain rfl : fn = Tryd.f3 := (Option.some.inj (Tryd.func3.symm.trans hfn)).symm
  refine ⟨by kernel_rfl, fun j t ht => ?_⟩
  rw [Tryd.params3] at ht
  have hm := Array.mem_of_getElem? ht
  simp only [List.mem_toArray, List.mem_cons, List.not_mem_nil, or_false] at hm
  rcases hm with rfl | rfl
  · exact (show Tryd.prog.wantsStandIn 9 = false by kernel_rfl)
  · exact (show Tryd.prog.wantsStandIn 9 = false by kernel_rfl)

/-- The statement. -/
theorem proved : Rows.PathTellsCardSaid :=
  Claim7.holds_tied_plain_at .later [] _ _ _ _ said (fun _ h => by cases h) (by kernel_rfl) (fun _ h => by cases h) pathTells_row_tie rfl ⟨rfl, rfl⟩ (by kernel_rfl) rfl plain (by kernel_rfl)
#print axioms proved
end Go.Proofs.YtifdgpfhpedmeaaDoor.pathTells
