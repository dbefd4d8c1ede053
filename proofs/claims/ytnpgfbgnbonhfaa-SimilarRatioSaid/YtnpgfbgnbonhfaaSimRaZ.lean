/-
  SimilarRatio: from 0 to 100, as much there as back, of a text and itself 100.
-/
import Derived.Test.YtnpgfbgnbonhfaaG4
import Derived.Test.YtnpgfbgnbonhfaaSimHm
import Derived.Test.YtnpgfbgnbonhfaaRtrE
import Derived.Test.YtnpgfbgnbonhfaaOpenF
import Derived.Deep.RegionLaw
import Derived.ProofKit
import Derived.OpenShut
namespace Go.Proofs.Ytnpgfbgnbonhfaa.similarRatio
open Go.ChangeShapes Go.WideShapes Go.ChangeAt Go.RowKit
open BigFrame

section
set_option maxRecDepth 100000
set_option maxHeartbeats 4000000
theorem walk (a b x : List UInt8) (w : World) (_ha : a.length ≤ maxLen) (_hb : b.length ≤ maxLen) (_hx : x.length ≤ maxLen) :
    Calls Try.prog 3 #[strV a, strV b, strV x] w fun e w' => e = .returned (.bool true) ∧ Below w.heap.size w w' := by
  clear _ha _hb _hx
  have HAW := hid (fun wy : World => awake_any wy)
  by_cases h1 : a.length ≤ 300
  case neg =>
    have th1i : decide (300 < (a.length : Int)) = true := decide_eq_true (by omega)
    have th1n : decide (300 < a.length) = true := decide_eq_true (by omega)
    clear h1
    unfold strV
    go_enter Try.func3, Try.ntmps3
    go_wp2_with (go_at_call 7; refine (HAW.out _).mono ?_; rintro e w2 ⟨rfl, hb2⟩; have HB2 := hid (hb2); clear hb2)
    go_ret
    exact ⟨rfl, HB2.out⟩
  have th1i : decide (300 < (a.length : Int)) = false := decide_eq_false (by omega)
  have th1n : decide (300 < a.length) = false := decide_eq_false (by omega)
  by_cases h2 : b.length ≤ 300
  case neg =>
    have th2i : decide (300 < (b.length : Int)) = true := decide_eq_true (by omega)
    have th2n : decide (300 < b.length) = true := decide_eq_true (by omega)
    clear h2
    unfold strV
    go_enter Try.func3, Try.ntmps3
    go_wp2_with (go_at_call 7; refine (HAW.out _).mono ?_; rintro e w2 ⟨rfl, hb2⟩; have HB2 := hid (hb2); clear hb2)
    go_ret
    exact ⟨rfl, HB2.out⟩
  have th2i : decide (300 < (b.length : Int)) = false := decide_eq_false (by omega)
  have th2n : decide (300 < b.length) = false := decide_eq_false (by omega)
  by_cases h3 : x.length ≤ 50
  case neg =>
    have th3i : decide (50 < (x.length : Int)) = true := decide_eq_true (by omega)
    have th3n : decide (50 < x.length) = true := decide_eq_true (by omega)
    clear h3
    unfold strV
    go_enter Try.func3, Try.ntmps3
    go_wp2_with (go_at_call 7; refine (HAW.out _).mono ?_; rintro e w2 ⟨rfl, hb2⟩; have HB2 := hid (hb2); clear hb2)
    go_ret
    exact ⟨rfl, HB2.out⟩
  have th3i : decide (50 < (x.length : Int)) = false := decide_eq_false (by omega)
  have th3n : decide (50 < x.length) = false := decide_eq_false (by omega)
  have HR1 := hid (fun wy : World => DRatio_any a b wy (by omega) (by omega))
  have HR2 := hid (fun wy : World => DRatio_any b a wy (by omega) (by omega))
  have HR3 := hid (fun wy : World => DRatio_any a a wy (by omega) (by omega))
  have HR4 := hid (fun wy : World => DRatio_any a (a ++ 10 :: x) wy (by omega) (by simp only [List.length_append, List.length_cons]; omega))
  have hadd1 := run_str_add (P := Try.prog) a [10] (by simp only [List.length_singleton]; omega)
  have hadd2 := run_str_add (P := Try.prog) (a ++ [10]) x (by simp only [List.length_append, List.length_singleton]; omega)
  rw [ratioS_comm b a] at HR2
  rw [ratioS_self (a := a) (by omega), show ((100 : Nat) : Int) = 100 from rfl] at HR3
  have z1 := ratioS_le a b
  have q1 := ratioS_le a (a ++ 10 :: x)
  obtain ⟨z, hz⟩ : ∃ z, ratioS a b = z := ⟨_, rfl⟩
  obtain ⟨q, hq⟩ : ∃ q, ratioS a (a ++ 10 :: x) = q := ⟨_, rfl⟩
  rw [hz] at HR1 HR2 z1
  rw [hq] at HR4 q1
  clear hz hq h1 h2 h3
  have zi : (z : Int) ≤ 100 := by omega
  have z0 : (0 : Int) ≤ (z : Int) := Int.natCast_nonneg _
  have qi : (q : Int) ≤ 100 := by omega
  unfold strV at *
  go_enter Try.func3, Try.ntmps3
  go_wp2_with fail
  refine (HR1.out _).mono ?_
  rintro e x1 ⟨rfl, hb⟩
  have hB1 := hid (hb)
  clear hb
  go_wp2_with fail
  refine (HAW.out _).mono ?_
  rintro e x2 ⟨rfl, hb⟩
  have hB2 := hid (below_step hB1.out hb hB1.out.size)
  clear hb
  go_wp2_with fail
  refine (HR2.out _).mono ?_
  rintro e x3 ⟨rfl, hb⟩
  have hB3 := hid (below_step hB2.out hb hB2.out.size)
  clear hb
  go_wp2_with fail
  refine (HR3.out _).mono ?_
  rintro e x4 ⟨rfl, hb⟩
  have hB4 := hid (below_step hB3.out hb hB3.out.size)
  clear hb
  go_wp2_with fail
  refine (HR4.out _).mono ?_
  rintro e x5 ⟨rfl, hb⟩
  have hB5 := hid (below_step hB4.out hb hB4.out.size)
  clear hb
  go_wp2_with fail
  go_ret
  exact ⟨rfl, hB5.out⟩
end

theorem own : ownKnob Try.prog.godebug = none := by kernel_rfl
theorem laidOut : laidOutB Try.prog = true := by kernel_rfl

set_option maxRecDepth 100000 in
theorem contract (H : Type) (enc : TypeId × Value → H) (W : World) (base : Nat) (args : Array Value) (ds gs : List (DataW H)) (before : List MemPlace)
    (hval : ∀ (j : Nat) t v, Try.f3.params[j]? = some t → args[j]? = some v → Value.okWide Try.prog W .any base t v)
    (hW : DataW.Whole enc Try.prog Try.f3.params.toList Rows.similarRatioSpec.vars false W args.toList ds gs before) :
    Calls Try.prog 3 args W fun e W' => ∃ v, e = .returned v ∧ Rows.similarRatioSpec.post enc Try.prog Try.f3 false true false false W args v W' := by
  have hW' := hW
  obtain ⟨p, q, hA0, hV, rfl, hfz, hnd⟩ := hW
  have hA : DataW.TrodAll enc Try.prog W 0 (fun _ => true) true Try.f3.params.toList args.toList ds p := hA0
  rw [Try.params3] at hA hval
  obtain ⟨v0, vs0, d0, ds0, p0, q0, hargs, rfl, rfl, h0, r0⟩ := trodAll_cons hA
  obtain ⟨v1, vs1, d1, ds1, p1, q1, rfl, rfl, rfl, h1, r1⟩ := trodAll_cons r0
  obtain ⟨v2, vs2, d2, ds2, p2, q2, rfl, rfl, rfl, h2, r2⟩ := trodAll_cons r1
  obtain ⟨rfl, rfl, rfl⟩ := trodAll_nil r2
  obtain rfl : args = #[v0, v1, v2] := by cases args; simp_all
  obtain ⟨rfl, rfl⟩ := trodVars_none hV
  have k0 := h0
  have lt0 : ∀ x ∈ p0, x.block < W.heap.size := by obtain ⟨m, hm⟩ := k0; exact DataW.trod_lt m _ _ _ hm
  obtain ⟨a0, rfl, _, _, w0⟩ := open_str Try.underlying9 (hval 0 9 v0 rfl rfl) h0
  have k1 := h1
  have lt1 : ∀ x ∈ p1, x.block < W.heap.size := by obtain ⟨m, hm⟩ := k1; exact DataW.trod_lt m _ _ _ hm
  obtain ⟨a1, rfl, _, _, w1⟩ := open_str Try.underlying9 (hval 1 9 v1 rfl rfl) h1
  have k2 := h2
  have lt2 : ∀ x ∈ p2, x.block < W.heap.size := by obtain ⟨m, hm⟩ := k2; exact DataW.trod_lt m _ _ _ hm
  obtain ⟨a2, rfl, _, _, w2⟩ := open_str Try.underlying9 (hval 2 9 v2 rfl rfl) h2
  clear hA0
  refine (walk a0 a1 a2 W w0 w1 w2).mono fun e W' ⟨he, bel⟩ => ?_
  subst he
  exact ⟨_, rfl, _, _, _, [], _, [], hW', trodAll_mk1 (shut_bool Try.underlying4 _), (trodAll_cons_mk (Below.trod laidOut (by kernel_rfl) (of_decide_eq_true (by kernel_rfl)) k0 bel lt0) (trodAll_cons_mk (Below.trod laidOut (by kernel_rfl) (of_decide_eq_true (by kernel_rfl)) k1 bel lt1) (trodAll_cons_mk (Below.trod laidOut (by kernel_rfl) (of_decide_eq_true (by kernel_rfl)) k2 bel lt2) trodAll_mk0))), rfl, bel.frame _, fun h => by cases h⟩

set_option maxRecDepth 100000 in
theorem lifted (os : Os) (started : os.Started) (H : Type) (enc : TypeId × Value → H) :
    ReturnsInHanded {} Try.checked os 3 .any (Rows.similarRatioSpec.pre6 enc Try.prog Try.f3 Rows.similarRatioRow.domain false) (Rows.similarRatioSpec.post enc Try.prog Try.f3 false true false false) := by
  refine returnsInHanded_of_change (C := Try.checked) own started (by kernel_rfl) Try.func3
    (ChangeSpec.witness6 (enc := enc) (C := Try.checked) false ⟨#[], #[.string ByteArray.empty, .string ByteArray.empty, .string ByteArray.empty], []⟩ 8 (by kernel_rfl) (by kernel_rfl) (by kernel_rfl) (by kernel_rfl)) ?_
  intro W base args ds gs before hval hW _ _
  exact contract H enc W base args ds gs before hval hW

theorem over : Rows.similarRatioRow.holds Try.pinned (OpenSpec.ofChange Rows.similarRatioSpec) :=
  OpenClaim.holds_of_wide 3 Try.f3 rfl rfl rfl rfl rfl rfl rfl ⟨rfl, rfl, rfl, rfl, rfl⟩ rfl rfl rfl rfl rfl (by kernel_rfl) Try.func3 (by kernel_rfl)
    (of_decide_eq_true (by kernel_rfl)) (by unfold Func.isWrapper; first | (rw [if_pos (by decide +kernel)]; kernel_rfl) | (rw [if_neg (by decide +kernel)]; exact ⟨rfl, rfl⟩))
    (fun os started H enc _ => lifted os started H enc)

/-- The statement. -/
theorem proved : Rows.SimilarRatioSaid :=
  over
#print axioms proved

end Go.Proofs.Ytnpgfbgnbonhfaa.similarRatio
