/-
  ChunkOne: where one side is as base, all is clean, and comes to the other side; where both are alike, to that.
-/
import Derived.Test.YtgmopmlhggdefaaCkAw
import Derived.Test.YtgmopmlhggdefaaOpenS
import Derived.ProofKit
import Derived.OpenShut
namespace Go.Proofs.Ytgmopmlhggdefaa.chunkOne
open Go.ChangeShapes Go.WideShapes Go.ChangeAt Go.RowKit

section
set_option maxRecDepth 100000
set_option maxHeartbeats 4000000
theorem walk (va : Value) (a : List (List UInt8)) (vb : Value) (b : List (List UInt8)) (w : World) (ha : FactStrs w va a) (hb : FactStrs w vb b) :
    Calls Try.prog 5 #[va, vb] w fun e w' => e = .returned (.bool true) ∧ Below w.heap.size w w' := by
  have HA := hid ha.1
  have HB := hid hb.1
  clear ha hb
  obtain ⟨ao, ac, rfl⟩ := HA.out.form
  obtain ⟨bo, bc, rfl⟩ := HB.out.form
  have hFEW := cfew_any _ _ (.slice none 0 0) a b [] w HA.out HB.out (Sl.nil _)
  rw [strCells_length] at HA HB hFEW ⊢
  rw [strCells_length] at hFEW ⊢
  by_cases hf : a.length ≤ 60 ∧ b.length ≤ 60 ∧ ([] : List (List UInt8)).length ≤ 60
  · rw [decide_eq_true hf] at hFEW
    have HFEW := hid hFEW
    have HN := hid (And.intro hf.1 hf.2.1)
    have HL := hid (chunks_one (a := a) (b := b) (by have := hf.1; omega) (by have := hf.2.1; omega))
    have HF := hid (And.intro (chunks_few (a := a) (b := a) (c := b) (by have := hf.1; omega) (by have := hf.1; omega) (by have := hf.2.1; omega)) (And.intro (chunks_few (a := a) (b := b) (c := a) (by have := hf.1; omega) (by have := hf.2.1; omega) (by have := hf.1; omega)) (chunks_few (a := a) (b := b) (c := b) (by have := hf.1; omega) (by have := hf.2.1; omega) (by have := hf.2.1; omega))))
    clear hf hFEW
    go_enter Try.func5, Try.ntmps5
    go_wp2_with fail
    refine HFEW.out.mono ?_
    rintro e w1 ⟨rfl, rfl⟩
    clear HFEW
    go_wp2_with fail
    refine (DOf_any _ _ _ a a b w HA.out HA.out HB.out (by have := HN.out.1; omega) (by have := HN.out.1; omega) (by have := HN.out.2; omega)).mono ?_
    rintro e x1 ⟨v1, rfl, s1, hb⟩
    have hB1 := hb
    have HA := hid (Sl.old HA.out hb)
    have HB := hid (Sl.old HB.out hb)
    obtain ⟨o1, c1, rfl⟩ := s1.form
    have C0 := hid s1
    clear hb s1 
    go_wp2_with fail
    refine (DOf_any _ _ _ a b a x1 HA.out HB.out HA.out (by have := HN.out.1; omega) (by have := HN.out.2; omega) (by have := HN.out.1; omega)).mono ?_
    rintro e x2 ⟨v2, rfl, s2, hb⟩
    have hB2 := below_step hB1 hb hB1.size
    have HA := hid (Sl.old HA.out hb)
    have HB := hid (Sl.old HB.out hb)
    have C0 := hid (C0.out.old hb)
    obtain ⟨o2, c2, rfl⟩ := s2.form
    have C1 := hid s2
    clear hb s2 hB1
    go_wp2_with fail
    refine (DOf_any _ _ _ a b b x2 HA.out HB.out HB.out (by have := HN.out.1; omega) (by have := HN.out.2; omega) (by have := HN.out.2; omega)).mono ?_
    rintro e x3 ⟨v3, rfl, s3, hb⟩
    have hB3 := below_step hB2 hb hB2.size
    have HA := hid (Sl.old HA.out hb)
    have HB := hid (Sl.old HB.out hb)
    have C0 := hid (C0.out.old hb)
    have C1 := hid (C1.out.old hb)
    obtain ⟨o3, c3, rfl⟩ := s3.form
    have C2 := hid s3
    clear hb s3 hB2
    go_wp2_with fail
    have hT := awake_any x3
    refine hT.mono ?_
    rintro e x4 ⟨rfl, hb⟩
    have hB4 := below_step hB3 hb hB3.size
    have HA := hid (Sl.old HA.out hb)
    have HB := hid (Sl.old HB.out hb)
    have C0 := hid (C0.out.old hb)
    have C1 := hid (C1.out.old hb)
    have C2 := hid (C2.out.old hb)
    clear hb hT hB3
    go_wp2_with fail
    have hT := DClean_any _ _ x4 C0.out (by have := HF.out.1.2.1; omega)
    rw [HL.out.1.1] at hT
    refine hT.mono ?_
    rintro e x5 ⟨rfl, hb⟩
    have hB5 := below_step hB4 hb hB4.size
    have HA := hid (Sl.old HA.out hb)
    have HB := hid (Sl.old HB.out hb)
    have C0 := hid (C0.out.old hb)
    have C1 := hid (C1.out.old hb)
    have C2 := hid (C2.out.old hb)
    clear hb hT hB4
    go_wp2_with fail
    have hT := DClean_any _ _ x5 C1.out (by have := HF.out.2.1.2.1; omega)
    rw [HL.out.2.1.1] at hT
    refine hT.mono ?_
    rintro e x6 ⟨rfl, hb⟩
    have hB6 := below_step hB5 hb hB5.size
    have HA := hid (Sl.old HA.out hb)
    have HB := hid (Sl.old HB.out hb)
    have C0 := hid (C0.out.old hb)
    have C1 := hid (C1.out.old hb)
    have C2 := hid (C2.out.old hb)
    clear hb hT hB5
    go_wp2_with fail
    have hT := DClean_any _ _ x6 C2.out (by have := HF.out.2.2.2.1; omega)
    rw [HL.out.2.2.1] at hT
    refine hT.mono ?_
    rintro e x7 ⟨rfl, hb⟩
    have hB7 := below_step hB6 hb hB6.size
    have HA := hid (Sl.old HA.out hb)
    have HB := hid (Sl.old HB.out hb)
    have C0 := hid (C0.out.old hb)
    have C1 := hid (C1.out.old hb)
    have C2 := hid (C2.out.old hb)
    clear hb hT hB6
    go_wp2_with fail
    refine (DMerged_any _ _ x7 C0.out (by have := HF.out.1.2.2; have := HN.out; omega) HF.out.1.1).mono ?_
    rintro e x8 ⟨v8, rfl, s8, hb⟩
    have hB8 := below_step hB7 hb hB7.size
    have HA := hid (Sl.old HA.out hb)
    have HB := hid (Sl.old HB.out hb)
    have C0 := hid (C0.out.old hb)
    have C1 := hid (C1.out.old hb)
    have C2 := hid (C2.out.old hb)
    obtain ⟨o8, c8, rfl⟩ := s8.form
    rw [HL.out.1.2, strCells_length] at s8 ⊢
    have M := hid s8
    clear hb s8 hB7
    go_wp2_with fail
    have hT := SPlain_any _ _ b b x8 M.out HB.out (by have := HN.out.2; unfold maxLen; omega)
    rw [beq_self_eq_true] at hT
    refine hT.mono ?_
    rintro e _ ⟨rfl, q9, rfl⟩
    have hb : Below x8.heap.size x8 (x8.drewN q9) := below_drewN _ _
    have hB9 := below_step hB8 hb hB8.size
    have HA := hid (Sl.old HA.out hb)
    have HB := hid (Sl.old HB.out hb)
    have C0 := hid (C0.out.old hb)
    have C1 := hid (C1.out.old hb)
    have C2 := hid (C2.out.old hb)
    have M := hid (Sl.old M.out hb)
    clear hb hT hB8
    generalize x8.drewN q9 = x9 at hB9 HA HB C0 C1 C2 M ⊢
    clear M C0
    go_wp2_with fail
    refine (DMerged_any _ _ x9 C1.out (by have := HF.out.2.1.2.2; have := HN.out; omega) HF.out.2.1.1).mono ?_
    rintro e x10 ⟨v10, rfl, s10, hb⟩
    have hB10 := below_step hB9 hb hB9.size
    have HA := hid (Sl.old HA.out hb)
    have HB := hid (Sl.old HB.out hb)
    have C1 := hid (C1.out.old hb)
    have C2 := hid (C2.out.old hb)
    obtain ⟨o10, c10, rfl⟩ := s10.form
    rw [HL.out.2.1.2, strCells_length] at s10 ⊢
    have M := hid s10
    clear hb s10 hB9
    go_wp2_with fail
    have hT := SPlain_any _ _ b b x10 M.out HB.out (by have := HN.out.2; unfold maxLen; omega)
    rw [beq_self_eq_true] at hT
    refine hT.mono ?_
    rintro e _ ⟨rfl, q11, rfl⟩
    have hb : Below x10.heap.size x10 (x10.drewN q11) := below_drewN _ _
    have hB11 := below_step hB10 hb hB10.size
    have HA := hid (Sl.old HA.out hb)
    have HB := hid (Sl.old HB.out hb)
    have C1 := hid (C1.out.old hb)
    have C2 := hid (C2.out.old hb)
    have M := hid (Sl.old M.out hb)
    clear hb hT hB10
    generalize x10.drewN q11 = x11 at hB11 HA HB C1 C2 M ⊢
    clear M C1
    go_wp2_with fail
    refine (DMerged_any _ _ x11 C2.out (by have := HF.out.2.2.2.2; have := HN.out; omega) HF.out.2.2.1).mono ?_
    rintro e x12 ⟨v12, rfl, s12, hb⟩
    have hB12 := below_step hB11 hb hB11.size
    have HA := hid (Sl.old HA.out hb)
    have HB := hid (Sl.old HB.out hb)
    have C2 := hid (C2.out.old hb)
    obtain ⟨o12, c12, rfl⟩ := s12.form
    rw [HL.out.2.2.2, strCells_length] at s12 ⊢
    have M := hid s12
    clear hb s12 hB11
    go_wp2_with fail
    have hT := SPlain_any _ _ b b x12 M.out HB.out (by have := HN.out.2; unfold maxLen; omega)
    rw [beq_self_eq_true] at hT
    refine hT.mono ?_
    rintro e _ ⟨rfl, q13, rfl⟩
    have hb : Below x12.heap.size x12 (x12.drewN q13) := below_drewN _ _
    have hB13 := below_step hB12 hb hB12.size
    have HA := hid (Sl.old HA.out hb)
    have HB := hid (Sl.old HB.out hb)
    have C2 := hid (C2.out.old hb)
    have M := hid (Sl.old M.out hb)
    clear hb hT hB12
    generalize x12.drewN q13 = x13 at hB13 HA HB C2 M ⊢
    clear M C2
    go_wp2_with fail
    go_ret
    exact ⟨by simp, hB13⟩
  · rw [decide_eq_false hf] at hFEW
    have HFEW := hid hFEW
    clear hf hFEW
    go_enter Try.func5, Try.ntmps5
    go_wp2_with fail
    refine HFEW.out.mono ?_
    rintro e w1 ⟨rfl, rfl⟩
    go_wp2_with fail
    refine (awake_any w).mono ?_
    rintro e w2 ⟨rfl, hb⟩
    go_wp2_with fail
    go_ret
    exact ⟨rfl, hb⟩
end

theorem own : ownKnob Try.prog.godebug = none := by kernel_rfl
theorem laidOut : laidOutB Try.prog = true := by kernel_rfl

theorem contract (H : Type) (enc : TypeId × Value → H) (W : World) (base : Nat) (args : Array Value) (ds gs : List (DataW H)) (before : List MemPlace)
    (hval : ∀ (j : Nat) t v, Try.f5.params[j]? = some t → args[j]? = some v → Value.okWide Try.prog W .any base t v)
    (hW : DataW.Whole enc Try.prog Try.f5.params.toList Rows.chunkOneSpec.vars false W args.toList ds gs before) :
    Calls Try.prog 5 args W fun e W' => ∃ v, e = .returned v ∧ Rows.chunkOneSpec.post enc Try.prog Try.f5 false true false false W args v W' := by
  have hW' := hW
  obtain ⟨p, q, hA0, hV, rfl, hfz, hnd⟩ := hW
  have hA : DataW.TrodAll enc Try.prog W 0 (fun _ => true) true Try.f5.params.toList args.toList ds p := hA0
  rw [Try.params5] at hA hval
  obtain ⟨v0, vs0, d0, ds0, p0, q0, hargs, rfl, rfl, h0, r0⟩ := trodAll_cons hA
  obtain ⟨v1, vs1, d1, ds1, p1, q1, rfl, rfl, rfl, h1, r1⟩ := trodAll_cons r0
  obtain ⟨rfl, rfl, rfl⟩ := trodAll_nil r1
  obtain rfl : args = #[v0, v1] := by cases args; simp_all
  obtain ⟨rfl, rfl⟩ := trodVars_none hV
  have k0 := h0
  have lt0 : ∀ x ∈ p0, x.block < W.heap.size := by obtain ⟨m, hm⟩ := k0; exact DataW.trod_lt m _ _ _ hm
  obtain ⟨x0, l0, c0, rfl⟩ := okWide_slice Try.underlying22 (hval 0 22 v0 rfl rfl)
  obtain ⟨a0, w0, e0⟩ : ∃ a, FactStrs W (.slice x0 l0 c0) a ∧ ((d0 = .nil ∧ a = []) ∨ ∃ rest, d0 = .slice (dataStrs a) rest) := by
    obtain ⟨fuel, hf⟩ := h0
    obtain ⟨v', a, hcs, hs, hx⟩ := open_strL Try.underlying22 Try.underlying9 (by kernel_rfl) hf
    obtain rfl : v' = .slice x0 l0 c0 := by simpa [Value.cells] using hcs.symm
    exact ⟨a, hs, hx⟩
  clear e0
  have k1 := h1
  have lt1 : ∀ x ∈ p1, x.block < W.heap.size := by obtain ⟨m, hm⟩ := k1; exact DataW.trod_lt m _ _ _ hm
  obtain ⟨x1, l1, c1, rfl⟩ := okWide_slice Try.underlying22 (hval 1 22 v1 rfl rfl)
  obtain ⟨a1, w1, e1⟩ : ∃ a, FactStrs W (.slice x1 l1 c1) a ∧ ((d1 = .nil ∧ a = []) ∨ ∃ rest, d1 = .slice (dataStrs a) rest) := by
    obtain ⟨fuel, hf⟩ := h1
    obtain ⟨v', a, hcs, hs, hx⟩ := open_strL Try.underlying22 Try.underlying9 (by kernel_rfl) hf
    obtain rfl : v' = .slice x1 l1 c1 := by simpa [Value.cells] using hcs.symm
    exact ⟨a, hs, hx⟩
  clear e1
  clear hA0
  refine (walk (.slice x0 l0 c0) a0 (.slice x1 l1 c1) a1 W w0 w1).mono fun e W' ⟨he, bel⟩ => ?_
  subst he
  exact ⟨_, rfl, _, _, _, [], _, [], hW', trodAll_mk1 (shut_bool Try.underlying4 _), (trodAll_cons_mk (Below.trod laidOut (by kernel_rfl) (of_decide_eq_true (by kernel_rfl)) k0 bel lt0) (trodAll_cons_mk (Below.trod laidOut (by kernel_rfl) (of_decide_eq_true (by kernel_rfl)) k1 bel lt1) trodAll_mk0)), rfl, bel.frame _, fun h => by cases h⟩

set_option maxRecDepth 100000 in
theorem lifted (os : Os) (started : os.Started) (H : Type) (enc : TypeId × Value → H) :
    ReturnsInHanded {} Try.checked os 5 .any (Rows.chunkOneSpec.pre6 enc Try.prog Try.f5 Rows.chunkOneRow.domain false) (Rows.chunkOneSpec.post enc Try.prog Try.f5 false true false false) := by
  refine returnsInHanded_of_change (C := Try.checked) own started (by kernel_rfl) Try.func5
    (ChangeSpec.witness6 (enc := enc) (C := Try.checked) false ⟨#[], #[.slice none 0 0, .slice none 0 0], []⟩ 8 (by kernel_rfl) (by kernel_rfl) (by kernel_rfl) (by kernel_rfl)) ?_
  intro W base args ds gs before hval hW _ _
  exact contract H enc W base args ds gs before hval hW

theorem over : Rows.chunkOneRow.holds Try.pinned (OpenSpec.ofChange Rows.chunkOneSpec) :=
  OpenClaim.holds_of_wide 5 Try.f5 rfl rfl rfl rfl rfl rfl rfl ⟨rfl, rfl, rfl, rfl, rfl⟩ rfl rfl rfl rfl rfl (by kernel_rfl) Try.func5 (by kernel_rfl)
    (of_decide_eq_true (by kernel_rfl)) (by unfold Func.isWrapper; first | (rw [if_pos (by decide +kernel)]; kernel_rfl) | (rw [if_neg (by decide +kernel)]; exact ⟨rfl, rfl⟩))
    (fun os started H enc _ => lifted os started H enc)

/-- The statement. -/
theorem proved : Rows.ChunkOneSaid :=
  over
#print axioms proved
