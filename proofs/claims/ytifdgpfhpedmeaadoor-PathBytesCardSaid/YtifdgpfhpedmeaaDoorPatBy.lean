/-
  PathBytes: a name of one byte is right just where the byte is from 33 to 126, and neither a dot nor a slash; a name is as long as may be, and no longer.
-/
import Derived.Test.YtifdgpfhpedmeaaDoorPthAw
import Derived.Test.YtifdgpfhpedmeaaDoorTabU
import Derived.Test.YtifdgpfhpedmeaaDoorLit
import Derived.Test.YtifdgpfhpedmeaaDoorOpenS
import Derived.Deep.LoopGhost
import Derived.ProofKit
import Derived.OpenShut
namespace Go.Proofs.YtifdgpfhpedmeaaDoor.pathBytes
open Go.ChangeShapes Go.WideShapes Go.ChangeAt Go.RowKit

/-- how long the long name is -/
def tl (z : Int) : Nat := 90 + (IntKind.u64.wrap z % 20).toNat
theorem ne46 (c : UInt8) : (((c.toNat : Nat) : Int) != 46) = (c != 46) := by
  by_cases h : c = 46
  · subst h; rfl
  · have h2 : c.toNat ≠ 46 := fun e => h (UInt8.toNat_inj.1 (by rw [show UInt8.toNat 46 = 46 from rfl]; exact e))
    rw [show (c != 46) = true by simpa using h]
    simp
    omega
theorem ne47 (c : UInt8) : (((c.toNat : Nat) : Int) != 47) = (c != 47) := by
  by_cases h : c = 47
  · subst h; rfl
  · have h2 : c.toNat ≠ 47 := fun e => h (UInt8.toNat_inj.1 (by rw [show UInt8.toNat 47 = 47 from rfl]; exact e))
    rw [show (c != 47) = true by simpa using h]
    simp
    omega
section
set_option maxRecDepth 100000
set_option maxHeartbeats 4000000
theorem walk (a z : Int) (w : World) (ha : (Lit.int .u8 a).wf = true) (_hz : (Lit.int .i64 z).wf = true) :
    Calls Tryd.prog 6 #[.int .u8 a, .int .i64 z] w fun e w' => e = .returned (.bool true) ∧ Below w.heap.size w w' := by
  clear _hz
  obtain ⟨c, rfl⟩ : ∃ c : UInt8, a = ((c.toNat : Nat) : Int) := by
    simp [Lit.wf, IntKind.min, IntKind.max, IntKind.signed, IntKind.bits] at ha
    exact ⟨UInt8.ofNat a.toNat, by simp; omega⟩
  clear ha
  have hu : 0 ≤ IntKind.u64.wrap z := by show 0 ≤ z % 18446744073709551616; omega
  have hM := hid (show 90 + IntKind.u64.wrap z % 20 = ((tl z : Nat) : Int) by unfold tl; omega)
  have hMb := hid (show 90 ≤ tl z ∧ tl z < 110 by unfold tl; omega)
  go_enter Tryd.func6, Tryd.ntmps6
  go_wp2_with fail
  rw [hM.out]
  generalize tl z = M at hMb ⊢
  have HM := hid hMb.out
  clear hM hMb hu
  go_loopg [5, 6] M (fun g s i wx => ∃ k : Nat, k ≤ M ∧ M - k = g ∧ i = .int .i64 k ∧ s = .string ⟨(List.replicate k 97).toArray⟩ ∧ wx = w)
  case atStart => exact ⟨0, Nat.zero_le _, rfl, rfl, rfl, rfl⟩
  case round =>
    obtain ⟨k, hk, rfl, rfl, rfl, rfl⟩ := hrel
    have k0 : (0 : Int) ≤ (k : Int) := Int.natCast_nonneg _
    have hm := HM.out
    by_cases hlt : k < M
    · have k1 : (k : Int) < (M : Int) := by omega
      have kw : IntKind.i64.wrap ((k : Int) + 1) = (k : Int) + 1 := IntWalk.i64_in _ (by omega)
      have ad := run_str_add (P := Tryd.prog) (List.replicate k 97) [97] (by simp; omega)
      have hR := hid (show List.replicate k (97 : UInt8) ++ [97] = List.replicate (k + 1) 97 from (List.replicate_succ' ..).symm)
      obtain ⟨X, hX⟩ : ∃ X, List.replicate k (97 : UInt8) = X := ⟨_, rfl⟩
      rw [hX] at ad hR ⊢
      obtain ⟨Y, hY⟩ : ∃ Y, X ++ [97] = Y := ⟨_, rfl⟩
      rw [hY] at ad hR
      clear hX hY hm
      go_wp2_with fail
      go_roundg (M - (k + 1))
      case measure => omega
      case rel => exact ⟨k + 1, by omega, rfl, by go_num, by rw [hR.out], rfl⟩
    · obtain rfl : k = M := by omega
      have hneg : ¬ (k : Int) < (k : Int) := by omega
      have HR0 := hid (fun wx => DRightP_any [c] wx (by simp))
      have HR1 := hid (fun wx => DRightP_any (List.replicate k 97) wx (by simp; omega))
      have HR2 := hid (fun wx => DRightP_any [46] wx (by simp))
      have HR3 := hid (fun wx => DRightP_any [46, 46] wx (by simp))
      have HR4 := hid (fun wx => DRightP_any [46, 46, 46] wx (by simp))
      have HR5 := hid (fun wx => DRightP_any [97, 47, 46, 98] wx (by simp))
      rw [right_byte] at HR0
      rw [right_long hm.1] at HR1
      rw [show rightS [46] = false by decide] at HR2
      rw [show rightS [46, 46] = false by decide] at HR3
      rw [show rightS [46, 46, 46] = true by decide] at HR4
      rw [show rightS [97, 47, 46, 98] = true by decide] at HR5
      have HQ : ∃ q : Bool, decide (k ≤ 100) = q ∧ decide ((k : Int) ≤ 100) = q := ⟨_, rfl, by
        by_cases h : k ≤ 100
        · rw [decide_eq_true h, decide_eq_true (by omega)]
        · rw [decide_eq_false h, decide_eq_false (by omega)]⟩
      obtain ⟨q, hq1, hq2⟩ := HQ
      rw [hq1] at HR1
      have hcv := run_string_of (P := Tryd.prog) (w := wr.alloc (.cells #[.int .u8 (c.toNat : Int)] 5)) (v := .slice (some ⟨wr.heap.size, 0, none⟩) 1 1) (bs := [c]) 31 9 5 Tryd.underlying31 Tryd.underlying5 Tryd.underlying9 (Sl.ofBlock (cs := #[.int .u8 (c.toNat : Int)]) (heap_alloc_new wr _))
      have HB0 := hid ((Below.refl _ wr).alloc (Nat.le_refl wr.heap.size) (.cells #[.int .u8 (c.toNat : Int)] 5))
      obtain ⟨X, hX⟩ : ∃ X, List.replicate k (97 : UInt8) = X := ⟨_, rfl⟩
      rw [hX] at HR1 ⊢
      unfold strV at HR0 HR1 HR2 HR3 HR4 HR5
      clear hm hX
      have hc0 : (0 : Int) ≤ (c.toNat : Int) := Int.natCast_nonneg _
      by_cases g1 : 33 ≤ c.toNat
      · have b1 : decide (33 ≤ ((c.toNat : Nat) : Int)) = true := decide_eq_true (by omega)
        have b2 : decide (33 ≤ c.toNat) = true := decide_eq_true g1
        by_cases g2 : c.toNat ≤ 126
        · have b3 : decide (((c.toNat : Nat) : Int) ≤ 126) = true := decide_eq_true (by omega)
          have b4 : decide (c.toNat ≤ 126) = true := decide_eq_true g2
          have ok : okByte c = true := by unfold okByte; exact decide_eq_true ⟨g1, g2⟩
          rw [ok, Bool.true_and] at HR0
          obtain ⟨x1, hx1, hx2⟩ : ∃ x1 : Bool, (c != 46) = x1 ∧ (((c.toNat : Nat) : Int) != 46) = x1 := ⟨_, rfl, ne46 c⟩
          obtain ⟨y1, hy1, hy2⟩ : ∃ y1 : Bool, (c != 47) = y1 ∧ (((c.toNat : Nat) : Int) != 47) = y1 := ⟨_, rfl, ne47 c⟩
          rw [hx1, hy1] at HR0
          clear g1 g2 ok hx1 hy1
          cases x1 <;> (
            go_wp2_with (first
              | (go_at_call 11; with_reducible refine (HR0.out _).mono ?_; rintro e w1 ⟨rfl, hz⟩; have HB1 := hid (below_step HB0.out hz HB0.out.size); clear hz)
              | (go_at_call 7; refine (awake_any _).mono ?_; rintro e w2 ⟨rfl, hz⟩; have HB2 := hid (below_step HB1.out hz HB1.out.size); clear hz)
              | (go_at_call 11; with_reducible refine (HR1.out _).mono ?_; rintro e w3 ⟨rfl, hz⟩; have HB3 := hid (below_step HB2.out hz HB2.out.size); clear hz)
              | (go_at_call 11; with_reducible refine (HR2.out _).mono ?_; rintro e w4 ⟨rfl, hz⟩; have HB4 := hid (below_step HB3.out hz HB3.out.size); clear hz)
              | (go_at_call 11; with_reducible refine (HR3.out _).mono ?_; rintro e w5 ⟨rfl, hz⟩; have HB5 := hid (below_step HB4.out hz HB4.out.size); clear hz)
              | (go_at_call 11; with_reducible refine (HR4.out _).mono ?_; rintro e w6 ⟨rfl, hz⟩; have HB6 := hid (below_step HB5.out hz HB5.out.size); clear hz)
              | (go_at_call 11; with_reducible refine (HR5.out _).mono ?_; rintro e w7 ⟨rfl, hz⟩; have HB7 := hid (below_step HB6.out hz HB6.out.size); clear hz))
            go_ret
            exact ⟨rfl, HB7.out⟩)
        · have b3 : decide (((c.toNat : Nat) : Int) ≤ 126) = false := decide_eq_false (by omega)
          have b4 : decide (c.toNat ≤ 126) = false := decide_eq_false g2
          have ok : okByte c = false := by unfold okByte; exact decide_eq_false (by omega)
          rw [ok, Bool.false_and] at HR0
          clear g1 g2 ok
          go_wp2_with (first
            | (go_at_call 11; with_reducible refine (HR0.out _).mono ?_; rintro e w1 ⟨rfl, hz⟩; have HB1 := hid (below_step HB0.out hz HB0.out.size); clear hz)
            | (go_at_call 7; refine (awake_any _).mono ?_; rintro e w2 ⟨rfl, hz⟩; have HB2 := hid (below_step HB1.out hz HB1.out.size); clear hz)
            | (go_at_call 11; with_reducible refine (HR1.out _).mono ?_; rintro e w3 ⟨rfl, hz⟩; have HB3 := hid (below_step HB2.out hz HB2.out.size); clear hz)
            | (go_at_call 11; with_reducible refine (HR2.out _).mono ?_; rintro e w4 ⟨rfl, hz⟩; have HB4 := hid (below_step HB3.out hz HB3.out.size); clear hz)
            | (go_at_call 11; with_reducible refine (HR3.out _).mono ?_; rintro e w5 ⟨rfl, hz⟩; have HB5 := hid (below_step HB4.out hz HB4.out.size); clear hz)
            | (go_at_call 11; with_reducible refine (HR4.out _).mono ?_; rintro e w6 ⟨rfl, hz⟩; have HB6 := hid (below_step HB5.out hz HB5.out.size); clear hz)
            | (go_at_call 11; with_reducible refine (HR5.out _).mono ?_; rintro e w7 ⟨rfl, hz⟩; have HB7 := hid (below_step HB6.out hz HB6.out.size); clear hz))
          go_ret
          exact ⟨rfl, HB7.out⟩
      · have b1 : decide (33 ≤ ((c.toNat : Nat) : Int)) = false := decide_eq_false (by omega)
        have b2 : decide (33 ≤ c.toNat) = false := decide_eq_false g1
        have ok : okByte c = false := by unfold okByte; exact decide_eq_false (by omega)
        rw [ok, Bool.false_and] at HR0
        clear g1 ok
        go_wp2_with (first
          | (go_at_call 11; with_reducible refine (HR0.out _).mono ?_; rintro e w1 ⟨rfl, hz⟩; have HB1 := hid (below_step HB0.out hz HB0.out.size); clear hz)
          | (go_at_call 7; refine (awake_any _).mono ?_; rintro e w2 ⟨rfl, hz⟩; have HB2 := hid (below_step HB1.out hz HB1.out.size); clear hz)
          | (go_at_call 11; with_reducible refine (HR1.out _).mono ?_; rintro e w3 ⟨rfl, hz⟩; have HB3 := hid (below_step HB2.out hz HB2.out.size); clear hz)
          | (go_at_call 11; with_reducible refine (HR2.out _).mono ?_; rintro e w4 ⟨rfl, hz⟩; have HB4 := hid (below_step HB3.out hz HB3.out.size); clear hz)
          | (go_at_call 11; with_reducible refine (HR3.out _).mono ?_; rintro e w5 ⟨rfl, hz⟩; have HB5 := hid (below_step HB4.out hz HB4.out.size); clear hz)
          | (go_at_call 11; with_reducible refine (HR4.out _).mono ?_; rintro e w6 ⟨rfl, hz⟩; have HB6 := hid (below_step HB5.out hz HB5.out.size); clear hz)
          | (go_at_call 11; with_reducible refine (HR5.out _).mono ?_; rintro e w7 ⟨rfl, hz⟩; have HB7 := hid (below_step HB6.out hz HB6.out.size); clear hz))
        go_ret
        exact ⟨rfl, HB7.out⟩
end
theorem own : ownKnob Tryd.prog.godebug = none := by kernel_rfl
theorem laidOut : laidOutB Tryd.prog = true := by kernel_rfl
theorem laid_met (os : Os) : laidMet Tryd.prog Rows.pathBytesRow.laid ((laidWorld os).forCall (fun _ _ => 0) ⟨#[], #[.int .u8 0, .int .i64 0], []⟩).memory :=
  laidMet_of_run' 8 (by kernel_rfl) (by kernel_rfl)
theorem reads (os : Os) {H : Type} (enc : TypeId × Value → H) : ∃ places, DataW.whole enc Tryd.prog ((laidWorld os).forCall (fun _ _ => 0) ⟨#[], #[.int .u8 0, .int .i64 0], []⟩).memory Tryd.f6.params.toList Rows.pathBytesSpec.vars false (#[.int .u8 0, .int .i64 0] : Array Value).toList 8 = some ([.lit (.int .u8 0), .lit (.int .i64 0)], [], places) :=
  ⟨[], by kernel_rfl⟩

set_option maxRecDepth 100000 in
theorem contract (H : Type) (enc : TypeId × Value → H) (W : World) (base : Nat) (args : Array Value) (ds gs : List (DataW H)) (before : List MemPlace)
    (hval : ∀ (j : Nat) t v, Tryd.f6.params[j]? = some t → args[j]? = some v → Value.okWide Tryd.prog W .any base t v)
    (hW : DataW.Whole enc Tryd.prog Tryd.f6.params.toList Rows.pathBytesSpec.vars false W args.toList ds gs before) (_hL : laidMetH Tryd.prog Rows.pathBytesRow.laid W) :
    Calls Tryd.prog 6 args W fun e W' => ∃ v, e = .returned v ∧ Rows.pathBytesSpec.post enc Tryd.prog Tryd.f6 false true false false W args v W' := by
  have hW' := hW
  obtain ⟨p, q, hA0, hV, rfl, hfz, hnd⟩ := hW
  have hA : DataW.TrodAll enc Tryd.prog W 0 (fun _ => true) true Tryd.f6.params.toList args.toList ds p := hA0
  rw [Tryd.params6] at hA hval
  obtain ⟨v0, vs0, d0, ds0, p0, q0, hargs, rfl, rfl, h0, r0⟩ := trodAll_cons hA
  obtain ⟨v1, vs1, d1, ds1, p1, q1, rfl, rfl, rfl, h1, r1⟩ := trodAll_cons r0
  obtain ⟨rfl, rfl, rfl⟩ := trodAll_nil r1
  obtain rfl : args = #[v0, v1] := by cases args; simp_all
  obtain ⟨rfl, rfl⟩ := trodVars_none hV
  have k0 := h0
  have lt0 : ∀ x ∈ p0, x.block < W.heap.size := by obtain ⟨m, hm⟩ := k0; exact DataW.trod_lt m _ _ _ hm
  obtain ⟨a0, rfl, _, _, w0⟩ := open_int Tryd.underlying5 (hval 0 5 v0 rfl rfl) h0
  have k1 := h1
  have lt1 : ∀ x ∈ p1, x.block < W.heap.size := by obtain ⟨m, hm⟩ := k1; exact DataW.trod_lt m _ _ _ hm
  obtain ⟨a1, rfl, _, _, w1⟩ := open_int Tryd.underlying3 (hval 1 3 v1 rfl rfl) h1
  clear hA0
  refine (walk a0 a1 W w0 w1).mono fun e W' ⟨he, bel⟩ => ?_
  subst he
  exact ⟨_, rfl, _, _, _, [], _, [], hW', trodAll_mk1 (shut_bool Tryd.underlying4 _), (trodAll_cons_mk (Below.trod laidOut (by kernel_rfl) (of_decide_eq_true (by kernel_rfl)) k0 bel lt0) (trodAll_cons_mk (Below.trod laidOut (by kernel_rfl) (of_decide_eq_true (by kernel_rfl)) k1 bel lt1) trodAll_mk0)), rfl, bel.frame _, fun h => by cases h⟩

set_option maxRecDepth 100000 in
theorem lifted (os : Os) (started : os.Started) (H : Type) (enc : TypeId × Value → H) (F : Stop.Interp) :
    ReturnsInHanded {} Tryd.checked os 6 .any ((OpenSpec.ofChange Rows.pathBytesSpec).preRow enc Tryd.prog Tryd.f6 Rows.pathBytesRow.domain false Rows.pathBytesRow.laid) (((OpenSpec.ofChange Rows.pathBytesSpec).at F).post enc Tryd.prog Tryd.f6 false true false false) := by
  obtain ⟨places, hx⟩ := reads os enc
  refine returnsInHanded_of_row (C := Tryd.checked) (s := OpenSpec.ofChange Rows.pathBytesSpec) own started (by kernel_rfl) Tryd.func6
    (witness_row_at (enc := enc) (C := Tryd.checked) false (laidWorld os) #[.int .u8 0, .int .i64 0] rfl (by kernel_rfl) (by kernel_rfl) (by kernel_rfl)
      (OpenSpec.preRow_of_cond 8 hx (by kernel_rfl) (fun k hk => by cases hk) (by kernel_rfl) (laid_met os))) ?_
  intro W base args ds gs before hval hW _ _ _ hL _ _
  exact contract H enc W base args ds gs before hval hW hL

theorem said : Rows.PathBytesSaid :=
  OpenClaim.holds_of_cond 6 Tryd.f6 rfl rfl rfl rfl rfl rfl rfl ⟨rfl, rfl, rfl, rfl, rfl⟩ rfl rfl rfl rfl rfl (by kernel_rfl) Tryd.func6 (by kernel_rfl)
    (of_decide_eq_true (by kernel_rfl)) (by unfold Func.isWrapper; first | (rw [if_pos (by decide +kernel)]; kernel_rfl) | (rw [if_neg (by decide +kernel)]; exact ⟨rfl, rfl⟩))
    (fun os started H enc _ F => by rw [OpenClaim.pre_eq_preRow]; exact lifted os started H enc F)

theorem plain (f : FuncId) (fn : Func) (hf : Tryd.pinned.checked.prog.funcNamed "rick/ricklaw11.PathBytes" = some f) (hfn : Tryd.pinned.checked.prog.funcs[f]? = some fn) :
    false = Tryd.pinned.checked.prog.looks [] ∧ ∀ (j : Nat) t, fn.params[j]? = some t → Tryd.pinned.checked.prog.wantsStandIn t = false := by
  obtain rfl : f = 6 := Option.some.inj ((show Tryd.prog.funcNamed "rick/ricklaw11.PathBytes" = some 6 by kernel_rfl).symm.trans hf) |>.symm
  obtain rfl : fn = Tryd.f6 := (Option.some.inj (Tryd.func6.symm.trans hfn)).symm
  refine ⟨by kernel_rfl, fun j t ht => ?_⟩
  rw [Tryd.params6] at ht
  have hm := Array.mem_of_getElem? ht
  simp only [List.mem_toArray, List.mem_cons, List.not_mem_nil, or_false] at hm
  rcases hm with rfl | rfl
  · exact (show Tryd.prog.wantsStandIn 5 = false by kernel_rfl)
  · exact (show Tryd.prog.wantsStandIn 3 = false by kernel_rfl)

/-- The statement. -/
theorem proved : Rows.PathBytesCardSaid :=
  Claim7.holds_tied_plain_at .later [] _ _ _ _ said (fun _ h => by cases h) (by kernel_rfl) (fun _ h => by cases h) pathBytes_row_tie rfl ⟨rfl, rfl⟩ (by kernel_rfl) rfl plain (by kernel_rfl)
#print axioms proved
end Go.Proofs.YtifdgpfhpedmeaaDoor.pathBytes
