/-
  MergeOne: where one side alone changed, it is as that one has it; where both changed alike, likewise.
-/
import Derived.Test.YtfldheegebopoaaG3
import Derived.Test.YtfldheegebopoaaLit
import Derived.Test.YtfldheegebopoaaOpenS
import Derived.ProofKit
import Derived.OpenShut
namespace Go.Proofs.Ytfldheegebopoaa.mergeOne
open Go.ChangeShapes Go.WideShapes Go.ChangeAt Go.RowKit

section
set_option maxRecDepth 100000
set_option maxHeartbeats 4000000
theorem walk (a b : Tx) (w : World) (_ha : a.length ≤ maxLen) (_hb : b.length ≤ maxLen) :
    Calls Try.prog 4 #[strV a, strV b] w fun e w' => e = .returned (.bool true) ∧ Below w.heap.size w w' := by
  clear _ha _hb
  have hFEW := mfew_any _ [a, b] (w.alloc (.cells #[.string ⟨a.toArray⟩, .string ⟨b.toArray⟩] 9)) (litS [a, b] (heap_alloc_new w _)) (by simp)
  have hB0 : Below w.heap.size w (w.alloc (.cells #[.string ⟨a.toArray⟩, .string ⟨b.toArray⟩] 9)) := (Below.refl _ w).alloc (Nat.le_refl _) _
  by_cases hf : a.length ≤ 400 ∧ b.length ≤ 400
  · rw [show ([a, b].all fun x => decide (x.length ≤ 400)) = true by simp [hf.1, hf.2]] at hFEW
    have HFEW := hid hFEW
    have HN := hid hf
    have h0 := (merge_one hf.1 hf.1).1
    have h1 := (merge_one hf.1 hf.2).1
    have h2 := (merge_one hf.1 hf.2).2.1
    have h3 := (merge_one hf.1 hf.2).2.2
    have HL := hid (And.intro h0 (And.intro h1 (And.intro h2 h3)))
    have HB0 := hid hB0
    clear hf hFEW h0 h1 h2 h3 hB0
    unfold strV
    go_enter Try.func4, Try.ntmps4
    go_wp2_with fail
    refine HFEW.out.mono ?_
    rintro e w1 ⟨rfl, rfl⟩
    have hB0 := HB0.out
    generalize w.alloc (.cells #[.string ⟨a.toArray⟩, .string ⟨b.toArray⟩] 9) = x0 at hB0 ⊢
    clear HFEW HB0
    have hM := DMerge_any a a a x0 (by have := HN.out; omega) (by have := HN.out; omega) (by have := HN.out; omega)
    rw [HL.out.1] at hM
    unfold strV at hM
    have HM := hid hM
    clear hM
    go_wp2_with fail
    refine HM.out.mono ?_
    rintro e x1 ⟨rfl, hb⟩
    have hB1 := below_step hB0 hb hB0.size
    clear hb HM hB0
    have hM := DMerge_any a a b x1 (by have := HN.out; omega) (by have := HN.out; omega) (by have := HN.out; omega)
    rw [HL.out.2.1] at hM
    unfold strV at hM
    have HM := hid hM
    clear hM
    go_wp2_with fail
    refine HM.out.mono ?_
    rintro e x2 ⟨rfl, hb⟩
    have hB2 := below_step hB1 hb hB1.size
    clear hb HM hB1
    have hM := DMerge_any a b a x2 (by have := HN.out; omega) (by have := HN.out; omega) (by have := HN.out; omega)
    rw [HL.out.2.2.1] at hM
    unfold strV at hM
    have HM := hid hM
    clear hM
    go_wp2_with fail
    refine HM.out.mono ?_
    rintro e x3 ⟨rfl, hb⟩
    have hB3 := below_step hB2 hb hB2.size
    clear hb HM hB2
    have hM := DMerge_any a b b x3 (by have := HN.out; omega) (by have := HN.out; omega) (by have := HN.out; omega)
    rw [HL.out.2.2.2] at hM
    unfold strV at hM
    have HM := hid hM
    clear hM
    go_wp2_with fail
    refine HM.out.mono ?_
    rintro e x4 ⟨rfl, hb⟩
    have hB4 := below_step hB3 hb hB3.size
    clear hb HM hB3
    have HA := hid (awake_any x4)
    go_wp2_with fail
    refine HA.out.mono ?_
    rintro e x5 ⟨rfl, hb⟩
    have hB5 := below_step hB4 hb hB4.size
    clear hb HA hB4
    go_wp2_with fail
    go_ret
    exact ⟨by simp, hB5⟩
  · rw [show ([a, b].all fun x => decide (x.length ≤ 400)) = false by simp; omega] at hFEW
    have HFEW := hid hFEW
    have HB0 := hid hB0
    clear hf hFEW hB0
    unfold strV
    go_enter Try.func4, Try.ntmps4
    go_wp2_with fail
    refine HFEW.out.mono ?_
    rintro e w1 ⟨rfl, rfl⟩
    go_wp2_with fail
    refine (awake_any _).mono ?_
    rintro e w2 ⟨rfl, hb⟩
    go_wp2_with fail
    go_ret
    exact ⟨rfl, below_step HB0.out hb HB0.out.size⟩
end

theorem own : ownKnob Try.prog.godebug = none := by kernel_rfl
theorem laidOut : laidOutB Try.prog = true := by kernel_rfl

set_option maxRecDepth 100000 in
theorem contract (H : Type) (enc : TypeId × Value → H) (W : World) (base : Nat) (args : Array Value) (ds gs : List (DataW H)) (before : List MemPlace)
    (hval : ∀ (j : Nat) t v, Try.f4.params[j]? = some t → args[j]? = some v → Value.okWide Try.prog W .any base t v)
    (hW : DataW.Whole enc Try.prog Try.f4.params.toList Rows.mergeOneSpec.vars false W args.toList ds gs before) :
    Calls Try.prog 4 args W fun e W' => ∃ v, e = .returned v ∧ Rows.mergeOneSpec.post enc Try.prog Try.f4 false true false false W args v W' := by
  have hW' := hW
  obtain ⟨p, q, hA0, hV, rfl, hfz, hnd⟩ := hW
  have hA : DataW.TrodAll enc Try.prog W 0 (fun _ => true) true Try.f4.params.toList args.toList ds p := hA0
  rw [Try.params4] at hA hval
  obtain ⟨v0, vs0, d0, ds0, p0, q0, hargs, rfl, rfl, h0, r0⟩ := trodAll_cons hA
  obtain ⟨v1, vs1, d1, ds1, p1, q1, rfl, rfl, rfl, h1, r1⟩ := trodAll_cons r0
  obtain ⟨rfl, rfl, rfl⟩ := trodAll_nil r1
  obtain rfl : args = #[v0, v1] := by cases args; simp_all
  obtain ⟨rfl, rfl⟩ := trodVars_none hV
  have k0 := h0
  have lt0 : ∀ x ∈ p0, x.block < W.heap.size := by obtain ⟨m, hm⟩ := k0; exact DataW.trod_lt m _ _ _ hm
  obtain ⟨a0, rfl, _, _, w0⟩ := open_str Try.underlying9 (hval 0 9 v0 rfl rfl) h0
  have k1 := h1
  have lt1 : ∀ x ∈ p1, x.block < W.heap.size := by obtain ⟨m, hm⟩ := k1; exact DataW.trod_lt m _ _ _ hm
  obtain ⟨a1, rfl, _, _, w1⟩ := open_str Try.underlying9 (hval 1 9 v1 rfl rfl) h1
  clear hA0
  refine (walk a0 a1 W w0 w1).mono fun e W' ⟨he, bel⟩ => ?_
  subst he
  exact ⟨_, rfl, _, _, _, [], _, [], hW', trodAll_mk1 (shut_bool Try.underlying4 _), (trodAll_cons_mk (Below.trod laidOut (by kernel_rfl) (of_decide_eq_true (by kernel_rfl)) k0 bel lt0) (trodAll_cons_mk (Below.trod laidOut (by kernel_rfl) (of_decide_eq_true (by kernel_rfl)) k1 bel lt1) trodAll_mk0)), rfl, bel.frame _, fun h => by cases h⟩

set_option maxRecDepth 100000 in
theorem lifted (os : Os) (started : os.Started) (H : Type) (enc : TypeId × Value → H) :
    ReturnsInHanded {} Try.checked os 4 .any (Rows.mergeOneSpec.pre6 enc Try.prog Try.f4 Rows.mergeOneRow.domain false) (Rows.mergeOneSpec.post enc Try.prog Try.f4 false true false false) := by
  refine returnsInHanded_of_change (C := Try.checked) own started (by kernel_rfl) Try.func4
    (ChangeSpec.witness6 (enc := enc) (C := Try.checked) false ⟨#[], #[.string ByteArray.empty, .string ByteArray.empty], []⟩ 8 (by kernel_rfl) (by kernel_rfl) (by kernel_rfl) (by kernel_rfl)) ?_
  intro W base args ds gs before hval hW _ _
  exact contract H enc W base args ds gs before hval hW

theorem over : Rows.mergeOneRow.holds Try.pinned (OpenSpec.ofChange Rows.mergeOneSpec) :=
  OpenClaim.holds_of_wide 4 Try.f4 rfl rfl rfl rfl rfl rfl rfl ⟨rfl, rfl, rfl, rfl, rfl⟩ rfl rfl rfl rfl rfl (by kernel_rfl) Try.func4 (by kernel_rfl)
    (of_decide_eq_true (by kernel_rfl)) (by unfold Func.isWrapper; first | (rw [if_pos (by decide +kernel)]; kernel_rfl) | (rw [if_neg (by decide +kernel)]; exact ⟨rfl, rfl⟩))
    (fun os started H enc _ => lifted os started H enc)

/-- The statement. -/
theorem proved : Rows.MergeOneSaid :=
  over
#print axioms proved
end Go.Proofs.Ytfldheegebopoaa.mergeOne
