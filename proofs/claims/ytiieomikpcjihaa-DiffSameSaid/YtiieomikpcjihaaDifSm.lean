/-
  DiffSame: distances: of lists that are alike, of nothing, as long there as back, over a third one no shorter.
-/
import Derived.Test.YtiieomikpcjihaaDifAw
import Derived.Test.YtiieomikpcjihaaOpenS
import Derived.ProofKit
import Derived.OpenShut
namespace Go.Proofs.Ytiieomikpcjihaa.diffSame
open Go.ChangeShapes Go.WideShapes Go.ChangeAt Go.RowKit

theorem dist_short {a b : List (List UInt8)} (ha : a.length ≤ 400) (hb : b.length ≤ 400) : distS (scriptS a b) + 2 * lcs a b = a.length + b.length := by
  rw [scriptS_short ha hb]
  exact (goS_sides a b).2.2.2

section
set_option maxRecDepth 100000
set_option maxHeartbeats 4000000
theorem walk_big (va vb vc : Value) (a b c : List (List UInt8)) (w : World) (ha : FactStrs w va a) (hb : FactStrs w vb b) (hc : FactStrs w vc c) (hl : 60 < a.length ∨ 60 < b.length ∨ 60 < c.length) :
    Calls Try.prog 5 #[va, vb, vc] w fun e w' => e = .returned (.bool true) ∧ Below w.heap.size w w' := by
  obtain ⟨s1, _, _⟩ := ha
  obtain ⟨s2, _, _⟩ := hb
  obtain ⟨s3, _, _⟩ := hc
  obtain ⟨a1, c1, rfl⟩ := s1.form
  obtain ⟨a2, c2, rfl⟩ := s2.form
  obtain ⟨a3, c3, rfl⟩ := s3.form
  rw [strCells_length, strCells_length, strCells_length]
  have hl' : (60 : Int) < (a.length : Int) ∨ (¬ (60 : Int) < (a.length : Int) ∧ (60 : Int) < (b.length : Int)) ∨ (¬ (60 : Int) < (a.length : Int) ∧ ¬ (60 : Int) < (b.length : Int) ∧ (60 : Int) < (c.length : Int)) := by omega
  clear hl
  rcases hl' with h1 | ⟨h1, h2⟩ | ⟨h1, h2, h3⟩
  all_goals
    go_enter Try.func5, Try.ntmps5
    go_wp2_with fail
    refine (awake_any w).mono ?_
    rintro e w1 ⟨rfl, hb1⟩
    go_wp2
    go_ret
    exact ⟨rfl, hb1⟩

theorem walk_at (va vb vc : Value) (a b c : List (List UInt8)) (w : World) (ha : FactStrs w va a) (hb : FactStrs w vb b) (hc : FactStrs w vc c) (hal : a.length ≤ 60) (hbl : b.length ≤ 60) (hcl : c.length ≤ 60) :
    Calls Try.prog 5 #[va, vb, vc] w fun e w' => e = .returned (.bool true) ∧ Below w.heap.size w w' := by
  obtain ⟨s1, _, _⟩ := ha
  obtain ⟨s2, _, _⟩ := hb
  obtain ⟨s3, _, _⟩ := hc
  obtain ⟨a1, c1, rfl⟩ := s1.form
  obtain ⟨a2, c2, rfl⟩ := s2.form
  obtain ⟨a3, c3, rfl⟩ := s3.form
  rw [strCells_length] at s1 s2 s3 ⊢
  rw [strCells_length, strCells_length]
  have daa := dist_short (a := a) (b := a) (by omega) (by omega)
  have dna := dist_short (a := []) (b := a) (by simp) (by omega)
  have dan := dist_short (a := a) (b := []) (by omega) (by simp)
  have dab := dist_short (a := a) (b := b) (by omega) (by omega)
  have dba := dist_short (a := b) (b := a) (by omega) (by omega)
  have dac := dist_short (a := a) (b := c) (by omega) (by omega)
  have dbc := dist_short (a := b) (b := c) (by omega) (by omega)
  rw [lcs_self] at daa
  rw [lcs_nil_left] at dna
  rw [lcs_nil_right] at dan
  rw [lcs_comm b a] at dba
  have hov := lcs_over a b c
  have hle := lcs_le a b
  rw [List.length_nil] at dna dan
  have f1 : distS (scriptS a a) = 0 := by omega
  have f2 : distS (scriptS [] a) = a.length := by omega
  have f3 : distS (scriptS a []) = a.length := by omega
  have f4 : distS (scriptS b a) = distS (scriptS a b) := by omega
  have f5 : distS (scriptS a c) ≤ distS (scriptS a b) + distS (scriptS b c) := by omega
  have f6 : ((distS (scriptS a b) : Int) == 0) = (a == b) := by
    by_cases h : a = b
    · subst h
      rw [f1]
      simp
    · have : distS (scriptS a b) ≠ 0 := fun h0 => h (lcs_full (by omega) (by omega))
      rw [show (a == b) = false by simpa using h]
      simp
      omega
  obtain ⟨u, hu⟩ : ∃ u, distS (scriptS a b) = u := ⟨_, rfl⟩
  obtain ⟨v, hv⟩ : ∃ v, distS (scriptS a c) = v := ⟨_, rfl⟩
  obtain ⟨t, ht⟩ : ∃ t, distS (scriptS b c) = t := ⟨_, rfl⟩
  obtain ⟨tt, htt⟩ : ∃ tt, (a == b) = tt := ⟨_, rfl⟩
  rw [hu, htt] at f6
  rw [hu, hv, ht] at f5
  rw [hu] at f4
  have f5' : (v : Int) ≤ (u : Int) + t := by omega
  have uw : IntKind.i64.wrap ((u : Int) + (t : Int)) = (u : Int) + t := IntWalk.i64_in _ (by omega)
  obtain ⟨p, hp⟩ : ∃ p, a.length = p := ⟨_, rfl⟩
  obtain ⟨q, hq⟩ : ∃ q, b.length = q := ⟨_, rfl⟩
  obtain ⟨r, hr⟩ : ∃ r, c.length = r := ⟨_, rfl⟩
  have HA : Hid (a.length ≤ 1000000) := hid (by omega)
  have HB : Hid (b.length ≤ 1000000) := hid (by omega)
  have HC : Hid (c.length ≤ 1000000) := hid (by omega)
  have HZ : Hid (([] : List (List UInt8)).length ≤ 1000000) := hid (by simp)
  have HM : Hid (a.length ≤ maxLen) := hid (by unfold maxLen; omega)
  rw [hp] at s1 f2 f3 hal ⊢
  rw [hq] at s2 hbl ⊢
  rw [hr] at s3 hcl ⊢
  have g1 : ¬ (60 : Int) < (p : Int) := by omega
  have g2 : ¬ (60 : Int) < (q : Int) := by omega
  have g3 : ¬ (60 : Int) < (r : Int) := by omega
  have F1 := hid f1
  have F2 := hid f2
  have F3 := hid f3
  have F4 := hid f4
  have FU := hid hu
  have FV := hid hv
  have FT := hid ht
  have FTT := hid htt
  clear daa dna dan dab dba dac dbc hov hle f1 f2 f3 f4 f5 hu hv ht htt hp hq hr hal hbl hcl
  go_enter Try.func5, Try.ntmps5
  go_wp2_with fail
  refine (awake_any w).mono ?_
  rintro e x0 ⟨rfl, hb0⟩
  have s1 := Sl.old s1 hb0
  have s2 := Sl.old s2 hb0
  have s3 := Sl.old s3 hb0
  have hz0 := hb0.size
  go_wp2_with fail
  have hD := DDistance_any _ _ a a x0 s1 s1 HA.out HA.out
  rw [F1.out] at hD
  refine hD.mono ?_
  rintro e x1 ⟨rfl, hb1⟩
  have s1 := Sl.old s1 hb1
  have s2 := Sl.old s2 hb1
  have s3 := Sl.old s3 hb1
  have hb1 := below_step hb0 hb1 hz0
  have hz1 := hb1.size
  clear hD hb0 hz0
  go_wp2_with fail
  have hD := DDistance_any _ _ [] a x1 (Sl.nil _) s1 HZ.out HA.out
  rw [F2.out] at hD
  refine hD.mono ?_
  rintro e x2 ⟨rfl, hb2⟩
  have s1 := Sl.old s1 hb2
  have s2 := Sl.old s2 hb2
  have s3 := Sl.old s3 hb2
  have hb2 := below_step hb1 hb2 hz1
  have hz2 := hb2.size
  clear hD hb1 hz1
  go_wp2_with fail
  have hD := DDistance_any _ _ a [] x2 s1 (Sl.nil _) HA.out HZ.out
  rw [F3.out] at hD
  refine hD.mono ?_
  rintro e x3 ⟨rfl, hb3⟩
  have s1 := Sl.old s1 hb3
  have s2 := Sl.old s2 hb3
  have s3 := Sl.old s3 hb3
  have hb3 := below_step hb2 hb3 hz2
  have hz3 := hb3.size
  clear hD hb2 hz2
  go_wp2_with fail
  have hD := DDistance_any _ _ a b x3 s1 s2 HA.out HB.out
  rw [FU.out] at hD
  refine hD.mono ?_
  rintro e x4 ⟨rfl, hb4⟩
  have s1 := Sl.old s1 hb4
  have s2 := Sl.old s2 hb4
  have s3 := Sl.old s3 hb4
  have hb4 := below_step hb3 hb4 hz3
  have hz4 := hb4.size
  clear hD hb3 hz3
  go_wp2_with fail
  have hD := DDistance_any _ _ b a x4 s2 s1 HB.out HA.out
  rw [F4.out] at hD
  refine hD.mono ?_
  rintro e x5 ⟨rfl, hb5⟩
  have s1 := Sl.old s1 hb5
  have s2 := Sl.old s2 hb5
  have s3 := Sl.old s3 hb5
  have hb5 := below_step hb4 hb5 hz4
  have hz5 := hb5.size
  clear hD hb4 hz4
  go_wp2_with fail
  have hD := DDistance_any _ _ a c x5 s1 s3 HA.out HC.out
  rw [FV.out] at hD
  refine hD.mono ?_
  rintro e x6 ⟨rfl, hb6⟩
  have s1 := Sl.old s1 hb6
  have s2 := Sl.old s2 hb6
  have s3 := Sl.old s3 hb6
  have hb6 := below_step hb5 hb6 hz5
  have hz6 := hb6.size
  clear hD hb5 hz5
  go_wp2_with fail
  have hD := DDistance_any _ _ a b x6 s1 s2 HA.out HB.out
  rw [FU.out] at hD
  refine hD.mono ?_
  rintro e x7 ⟨rfl, hb7⟩
  have s1 := Sl.old s1 hb7
  have s2 := Sl.old s2 hb7
  have s3 := Sl.old s3 hb7
  have hb7 := below_step hb6 hb7 hz6
  have hz7 := hb7.size
  clear hD hb6 hz6
  go_wp2_with fail
  have hD := DDistance_any _ _ b c x7 s2 s3 HB.out HC.out
  rw [FT.out] at hD
  refine hD.mono ?_
  rintro e x8 ⟨rfl, hb8⟩
  have s1 := Sl.old s1 hb8
  have s2 := Sl.old s2 hb8
  have s3 := Sl.old s3 hb8
  have hb8 := below_step hb7 hb8 hz7
  have hz8 := hb8.size
  clear hD hb7 hz7
  go_wp2_with fail
  have hD := DDistance_any _ _ a b x8 s1 s2 HA.out HB.out
  rw [FU.out] at hD
  refine hD.mono ?_
  rintro e x9 ⟨rfl, hb9⟩
  have s1 := Sl.old s1 hb9
  have s2 := Sl.old s2 hb9
  have s3 := Sl.old s3 hb9
  have hb9 := below_step hb8 hb9 hz8
  have hz9 := hb9.size
  clear hD hb8 hz8
  go_wp2_with fail
  refine (SPlain_any _ _ a b x9 s1 s2 HM.out).mono ?_
  rw [FTT.out]
  rintro e y ⟨rfl, k, rfl⟩
  have hy := below_step hb9 (below_drewN x9 k) hz9
  generalize x9.drewN k = y at hy ⊢
  go_wp2
  go_ret
  exact ⟨rfl, hy⟩

theorem walk (va : Value) (a : List (List UInt8)) (vb : Value) (b : List (List UInt8)) (vc : Value) (c : List (List UInt8)) (w : World) (ha : FactStrs w va a) (hb : FactStrs w vb b) (hc : FactStrs w vc c) :
    Calls Try.prog 5 #[va, vb, vc] w fun e w' => e = .returned (.bool true) ∧ Below w.heap.size w w' := by
  by_cases h : 60 < a.length ∨ 60 < b.length ∨ 60 < c.length
  · exact walk_big va vb vc a b c w ha hb hc h
  · exact walk_at va vb vc a b c w ha hb hc (by omega) (by omega) (by omega)
end

theorem own : ownKnob Try.prog.godebug = none := by kernel_rfl
theorem laidOut : laidOutB Try.prog = true := by kernel_rfl

theorem contract (H : Type) (enc : TypeId × Value → H) (W : World) (base : Nat) (args : Array Value) (ds gs : List (DataW H)) (before : List MemPlace)
    (hval : ∀ (j : Nat) t v, Try.f5.params[j]? = some t → args[j]? = some v → Value.okWide Try.prog W .any base t v)
    (hW : DataW.Whole enc Try.prog Try.f5.params.toList Rows.diffSameSpec.vars false W args.toList ds gs before) :
    Calls Try.prog 5 args W fun e W' => ∃ v, e = .returned v ∧ Rows.diffSameSpec.post enc Try.prog Try.f5 false true false false W args v W' := by
  have hW' := hW
  obtain ⟨p, q, hA0, hV, rfl, hfz, hnd⟩ := hW
  have hA : DataW.TrodAll enc Try.prog W 0 (fun _ => true) true Try.f5.params.toList args.toList ds p := hA0
  rw [Try.params5] at hA hval
  obtain ⟨v0, vs0, d0, ds0, p0, q0, hargs, rfl, rfl, h0, r0⟩ := trodAll_cons hA
  obtain ⟨v1, vs1, d1, ds1, p1, q1, rfl, rfl, rfl, h1, r1⟩ := trodAll_cons r0
  obtain ⟨v2, vs2, d2, ds2, p2, q2, rfl, rfl, rfl, h2, r2⟩ := trodAll_cons r1
  obtain ⟨rfl, rfl, rfl⟩ := trodAll_nil r2
  obtain rfl : args = #[v0, v1, v2] := by cases args; simp_all
  obtain ⟨rfl, rfl⟩ := trodVars_none hV
  have k0 := h0
  have lt0 : ∀ x ∈ p0, x.block < W.heap.size := by obtain ⟨m, hm⟩ := k0; exact DataW.trod_lt m _ _ _ hm
  obtain ⟨x0, l0, c0, rfl⟩ := okWide_slice Try.underlying22 (hval 0 22 v0 rfl rfl)
  obtain ⟨a0, w0, e0⟩ : ∃ a, FactStrs W (.slice x0 l0 c0) a ∧ ((d0 = .nil ∧ a = []) ∨ ∃ rest, d0 = .slice (dataStrs a) rest) := by
    obtain ⟨fuel, hf⟩ := h0
    obtain ⟨v', a, hcs, hs, hx⟩ := open_strL Try.underlying22 Try.underlying9 (by kernel_rfl) hf
    obtain rfl : v' = .slice x0 l0 c0 := by simpa [Value.cells] using hcs.symm
    exact ⟨a, hs, hx⟩
  clear e0
  have k1 := h1
  have lt1 : ∀ x ∈ p1, x.block < W.heap.size := by obtain ⟨m, hm⟩ := k1; exact DataW.trod_lt m _ _ _ hm
  obtain ⟨x1, l1, c1, rfl⟩ := okWide_slice Try.underlying22 (hval 1 22 v1 rfl rfl)
  obtain ⟨a1, w1, e1⟩ : ∃ a, FactStrs W (.slice x1 l1 c1) a ∧ ((d1 = .nil ∧ a = []) ∨ ∃ rest, d1 = .slice (dataStrs a) rest) := by
    obtain ⟨fuel, hf⟩ := h1
    obtain ⟨v', a, hcs, hs, hx⟩ := open_strL Try.underlying22 Try.underlying9 (by kernel_rfl) hf
    obtain rfl : v' = .slice x1 l1 c1 := by simpa [Value.cells] using hcs.symm
    exact ⟨a, hs, hx⟩
  clear e1
  have k2 := h2
  have lt2 : ∀ x ∈ p2, x.block < W.heap.size := by obtain ⟨m, hm⟩ := k2; exact DataW.trod_lt m _ _ _ hm
  obtain ⟨x2, l2, c2, rfl⟩ := okWide_slice Try.underlying22 (hval 2 22 v2 rfl rfl)
  obtain ⟨a2, w2, e2⟩ : ∃ a, FactStrs W (.slice x2 l2 c2) a ∧ ((d2 = .nil ∧ a = []) ∨ ∃ rest, d2 = .slice (dataStrs a) rest) := by
    obtain ⟨fuel, hf⟩ := h2
    obtain ⟨v', a, hcs, hs, hx⟩ := open_strL Try.underlying22 Try.underlying9 (by kernel_rfl) hf
    obtain rfl : v' = .slice x2 l2 c2 := by simpa [Value.cells] using hcs.symm
    exact ⟨a, hs, hx⟩
  clear e2
  clear hA0
  refine (walk (.slice x0 l0 c0) a0 (.slice x1 l1 c1) a1 (.slice x2 l2 c2) a2 W w0 w1 w2).mono fun e W' ⟨he, bel⟩ => ?_
  subst he
  exact ⟨_, rfl, _, _, _, [], _, [], hW', trodAll_mk1 (shut_bool Try.underlying4 _), (trodAll_cons_mk (Below.trod laidOut (by kernel_rfl) (of_decide_eq_true (by kernel_rfl)) k0 bel lt0) (trodAll_cons_mk (Below.trod laidOut (by kernel_rfl) (of_decide_eq_true (by kernel_rfl)) k1 bel lt1) (trodAll_cons_mk (Below.trod laidOut (by kernel_rfl) (of_decide_eq_true (by kernel_rfl)) k2 bel lt2) trodAll_mk0))), rfl, bel.frame _, fun h => by cases h⟩

set_option maxRecDepth 100000 in
theorem lifted (os : Os) (started : os.Started) (H : Type) (enc : TypeId × Value → H) :
    ReturnsInHanded {} Try.checked os 5 .any (Rows.diffSameSpec.pre6 enc Try.prog Try.f5 Rows.diffSameRow.domain false) (Rows.diffSameSpec.post enc Try.prog Try.f5 false true false false) := by
  refine returnsInHanded_of_change (C := Try.checked) own started (by kernel_rfl) Try.func5
    (ChangeSpec.witness6 (enc := enc) (C := Try.checked) false ⟨#[], #[.slice none 0 0, .slice none 0 0, .slice none 0 0], []⟩ 8 (by kernel_rfl) (by kernel_rfl) (by kernel_rfl) (by kernel_rfl)) ?_
  intro W base args ds gs before hval hW _ _
  exact contract H enc W base args ds gs before hval hW

theorem over : Rows.diffSameRow.holds Try.pinned (OpenSpec.ofChange Rows.diffSameSpec) :=
  OpenClaim.holds_of_wide 5 Try.f5 rfl rfl rfl rfl rfl rfl rfl ⟨rfl, rfl, rfl, rfl, rfl⟩ rfl rfl rfl rfl rfl (by kernel_rfl) Try.func5 (by kernel_rfl)
    (of_decide_eq_true (by kernel_rfl)) (by unfold Func.isWrapper; first | (rw [if_pos (by decide +kernel)]; kernel_rfl) | (rw [if_neg (by decide +kernel)]; exact ⟨rfl, rfl⟩))
    (fun os started H enc _ => lifted os started H enc)

/-- The statement. -/
theorem proved : Rows.DiffSameSaid :=
  over
#print axioms proved
end Go.Proofs.Ytiieomikpcjihaa.diffSame
