/-
  DiffLeads: a script leads from the one list to the other, and is as short as can be.
-/
import Derived.Test.YtiieomikpcjihaaDifAw
import Derived.Test.YtiieomikpcjihaaOpenS
import Derived.ProofKit
import Derived.OpenShut
namespace Go.Proofs.Ytiieomikpcjihaa.diffLeads
open Go.ChangeShapes Go.WideShapes Go.ChangeAt Go.RowKit

section
set_option maxRecDepth 100000
set_option maxHeartbeats 4000000
theorem walk_big (va vb : Value) (a b : List (List UInt8)) (w : World) (ha : FactStrs w va a) (hb : FactStrs w vb b) (hl : 120 < a.length ∨ 120 < b.length) :
    Calls Try.prog 4 #[va, vb] w fun e w' => e = .returned (.bool true) ∧ Below w.heap.size w w' := by
  obtain ⟨s1, _, _⟩ := ha
  obtain ⟨s2, _, _⟩ := hb
  obtain ⟨a1, c1, rfl⟩ := s1.form
  obtain ⟨a2, c2, rfl⟩ := s2.form
  rw [strCells_length, strCells_length]
  have hl' : (120 : Int) < (a.length : Int) ∨ (¬ (120 : Int) < (a.length : Int) ∧ (120 : Int) < (b.length : Int)) := by omega
  clear hl
  rcases hl' with h1 | ⟨h1, h2⟩
  all_goals
    go_enter Try.func4, Try.ntmps4
    go_wp2_with fail
    refine (awake_any w).mono ?_
    rintro e w1 ⟨rfl, hb1⟩
    go_wp2
    go_ret
    exact ⟨rfl, hb1⟩

theorem walk_at (va vb : Value) (a b : List (List UInt8)) (w : World) (ha : FactStrs w va a) (hb : FactStrs w vb b) (hal : a.length ≤ 120) (hbl : b.length ≤ 120) :
    Calls Try.prog 4 #[va, vb] w fun e w' => e = .returned (.bool true) ∧ Below w.heap.size w w' := by
  obtain ⟨s1, _, _⟩ := ha
  obtain ⟨s2, _, _⟩ := hb
  obtain ⟨a1, c1, rfl⟩ := s1.form
  obtain ⟨a2, c2, rfl⟩ := s2.form
  rw [strCells_length] at s1 s2 ⊢
  rw [strCells_length]
  have hsc := scriptS_short (a := a) (b := b) (by omega) (by omega)
  obtain ⟨e1, e2, e3, e4⟩ := goS_sides a b
  obtain ⟨es, hes⟩ : ∃ es, goS a b = es := ⟨_, rfl⟩
  obtain ⟨n, hn⟩ : ∃ n, lcs a b = n := ⟨_, rfl⟩
  rw [hes] at hsc e1 e2 e3 e4
  rw [hn] at e3 e4
  have hba : lcs b a = n := by rw [lcs_comm]; exact hn
  have hle := (lcs_le a b).1
  rw [hn] at hle
  have HSC := hid hsc
  have HO := hid e1
  have HN := hid e2
  have HL := hid e3
  have HD := hid e4
  have HNN := hid hn
  have HBA := hid hba
  obtain ⟨p, hp⟩ : ∃ p, a.length = p := ⟨_, rfl⟩
  obtain ⟨q, hq⟩ : ∃ q, b.length = q := ⟨_, rfl⟩
  obtain ⟨m, hm⟩ : ∃ m, es.length = m := ⟨_, rfl⟩
  obtain ⟨D, hd⟩ : ∃ D, distS es = D := ⟨_, rfl⟩
  rw [hp] at s1 e3 e4 hal hle ⊢
  rw [hq] at s2 e3 e4 hbl ⊢
  rw [hm] at e3
  rw [hd] at e4
  have w1' : IntKind.i64.wrap ((p : Int) + (q : Int)) = (p : Int) + q := IntWalk.i64_in _ (by omega)
  have w2' : IntKind.i64.wrap ((p : Int) + (q : Int) - (n : Int)) = (p : Int) + q - n := IntWalk.i64_in _ (by omega)
  have w3' : IntKind.i64.wrap (2 * (n : Int)) = 2 * (n : Int) := IntWalk.i64_in _ (by omega)
  have w4' : IntKind.i64.wrap ((p : Int) + (q : Int) - 2 * (n : Int)) = (p : Int) + q - 2 * n := IntWalk.i64_in _ (by omega)
  have q1 : ((m : Int) == (p : Int) + q - n) = true := by simp; omega
  have q2 : ((D : Int) == (p : Int) + q - 2 * n) = true := by simp; omega
  have hg1 : ¬ (120 : Int) < (p : Int) := by omega
  have hg2 : ¬ (120 : Int) < (q : Int) := by omega
  have HP := hid hp
  have HQ := hid hq
  have HM := hid hm
  have HDD := hid hd
  have hm1 : m ≤ 240 := by omega
  have HPL := hid hal
  have HQL := hid hbl
  clear hsc e1 e2 e3 e4 hes hn hba hle hp hq hm hd hal hbl
  go_enter Try.func4, Try.ntmps4
  go_wp2_with fail
  have hA := DScript_any _ _ a b w s1 s2 (by rw [HP.out]; have := HPL.out; omega) (by rw [HQ.out]; have := HQL.out; omega)
  rw [HSC.out] at hA
  refine hA.mono ?_
  rintro e x1 ⟨l, rfl, hl, hb1⟩
  have hl := hl.slE
  obtain ⟨ao, cap, hf⟩ := hl.form
  rw [HM.out] at hf
  subst hf
  have s1 := Sl.old s1 hb1
  have s2 := Sl.old s2 hb1
  have hz1 := hb1.size
  clear hA
  go_wp2_with fail
  have hA := DCommon_any _ _ a b x1 s1 s2 (by rw [HP.out]; have := HPL.out; omega) (by rw [HQ.out]; have := HQL.out; omega)
  rw [HNN.out] at hA
  refine hA.mono ?_
  rintro e x2 ⟨rfl, hb2⟩
  have s1 := Sl.old s1 hb2
  have s2 := Sl.old s2 hb2
  have hl := SlE.old hl hb2
  have hb2 := below_step hb1 hb2 hz1
  have hz2 := hb2.size
  clear hA hb1 hz1
  go_wp2_with fail
  refine (awake_any x2).mono ?_
  rintro e x3 ⟨rfl, hb3⟩
  have s1 := Sl.old s1 hb3
  have s2 := Sl.old s2 hb3
  have hl := SlE.old hl hb3
  have hb3 := below_step hb2 hb3 hz2
  have hz3 := hb3.size
  clear hb2 hz2
  go_wp2_with fail
  have hA := DOld_any _ es x3 hl (by rw [HM.out]; omega)
  rw [HO.out] at hA
  refine hA.mono ?_
  rintro e x4 ⟨u, rfl, hu, hb4⟩
  have hu := Sl.ofOwns hu
  have s1 := Sl.old s1 hb4
  have s2 := Sl.old s2 hb4
  have hl := SlE.old hl hb4
  have hb4 := below_step hb3 hb4 hz3
  have hz4 := hb4.size
  clear hA hb3 hz3
  go_wp2_with fail
  refine (SPlain_any _ _ a a x4 hu s1 (by rw [HP.out]; have := HPL.out; unfold maxLen; omega)).mono ?_
  rw [show (a == a) = true by simp]
  rintro e x5 ⟨rfl, k5, rfl⟩
  have hb5 := below_drewN x4 k5
  generalize x4.drewN k5 = x5 at hb5 ⊢
  have s1 := Sl.old s1 hb5
  have s2 := Sl.old s2 hb5
  have hl := SlE.old hl hb5
  have hb5 := below_step hb4 hb5 hz4
  have hz5 := hb5.size
  clear hb4 hz4 hu
  go_wp2_with fail
  have hA := DNew_any _ es x5 hl (by rw [HM.out]; omega)
  rw [HN.out] at hA
  refine hA.mono ?_
  rintro e x6 ⟨u, rfl, hu, hb6⟩
  have hu := Sl.ofOwns hu
  have s1 := Sl.old s1 hb6
  have s2 := Sl.old s2 hb6
  have hb6 := below_step hb5 hb6 hz5
  have hz6 := hb6.size
  clear hA hb5 hz5 hl
  go_wp2_with fail
  refine (SPlain_any _ _ b b x6 hu s2 (by rw [HQ.out]; have := HQL.out; unfold maxLen; omega)).mono ?_
  rw [show (b == b) = true by simp]
  rintro e x7 ⟨rfl, k7, rfl⟩
  have hb7 := below_drewN x6 k7
  generalize x6.drewN k7 = x7 at hb7 ⊢
  have s1 := Sl.old s1 hb7
  have s2 := Sl.old s2 hb7
  have hb7 := below_step hb6 hb7 hz6
  have hz7 := hb7.size
  clear hb6 hz6 hu
  go_wp2_with fail
  have hA := DDistance_any _ _ a b x7 s1 s2 (by rw [HP.out]; have := HPL.out; omega) (by rw [HQ.out]; have := HQL.out; omega)
  rw [HSC.out, HDD.out] at hA
  refine hA.mono ?_
  rintro e x8 ⟨rfl, hb8⟩
  have s1 := Sl.old s1 hb8
  have s2 := Sl.old s2 hb8
  have hb8 := below_step hb7 hb8 hz7
  have hz8 := hb8.size
  clear hA hb7 hz7
  go_wp2_with fail
  have hA := DCommon_any _ _ b a x8 s2 s1 (by rw [HQ.out]; have := HQL.out; omega) (by rw [HP.out]; have := HPL.out; omega)
  rw [HBA.out] at hA
  refine hA.mono ?_
  rintro e x9 ⟨rfl, hb9⟩
  go_wp2
  go_ret
  exact ⟨rfl, below_step hb8 hb9 hz8⟩

theorem walk (va : Value) (a : List (List UInt8)) (vb : Value) (b : List (List UInt8)) (w : World) (ha : FactStrs w va a) (hb : FactStrs w vb b) :
    Calls Try.prog 4 #[va, vb] w fun e w' => e = .returned (.bool true) ∧ Below w.heap.size w w' := by
  by_cases h : 120 < a.length ∨ 120 < b.length
  · exact walk_big va vb a b w ha hb h
  · exact walk_at va vb a b w ha hb (by omega) (by omega)
end

theorem own : ownKnob Try.prog.godebug = none := by kernel_rfl
theorem laidOut : laidOutB Try.prog = true := by kernel_rfl

theorem contract (H : Type) (enc : TypeId × Value → H) (W : World) (base : Nat) (args : Array Value) (ds gs : List (DataW H)) (before : List MemPlace)
    (hval : ∀ (j : Nat) t v, Try.f4.params[j]? = some t → args[j]? = some v → Value.okWide Try.prog W .any base t v)
    (hW : DataW.Whole enc Try.prog Try.f4.params.toList Rows.diffLeadsSpec.vars false W args.toList ds gs before) :
    Calls Try.prog 4 args W fun e W' => ∃ v, e = .returned v ∧ Rows.diffLeadsSpec.post enc Try.prog Try.f4 false true false false W args v W' := by
  have hW' := hW
  obtain ⟨p, q, hA0, hV, rfl, hfz, hnd⟩ := hW
  have hA : DataW.TrodAll enc Try.prog W 0 (fun _ => true) true Try.f4.params.toList args.toList ds p := hA0
  rw [Try.params4] at hA hval
  obtain ⟨v0, vs0, d0, ds0, p0, q0, hargs, rfl, rfl, h0, r0⟩ := trodAll_cons hA
  obtain ⟨v1, vs1, d1, ds1, p1, q1, rfl, rfl, rfl, h1, r1⟩ := trodAll_cons r0
  obtain ⟨rfl, rfl, rfl⟩ := trodAll_nil r1
  obtain rfl : args = #[v0, v1] := by cases args; simp_all
  obtain ⟨rfl, rfl⟩ := trodVars_none hV
  have k0 := h0
  have lt0 : ∀ x ∈ p0, x.block < W.heap.size := by obtain ⟨m, hm⟩ := k0; exact DataW.trod_lt m _ _ _ hm
  obtain ⟨x0, l0, c0, rfl⟩ := okWide_slice Try.underlying22 (hval 0 22 v0 rfl rfl)
  obtain ⟨a0, w0, e0⟩ : ∃ a, FactStrs W (.slice x0 l0 c0) a ∧ ((d0 = .nil ∧ a = []) ∨ ∃ rest, d0 = .slice (dataStrs a) rest) := by
    obtain ⟨fuel, hf⟩ := h0
    obtain ⟨v', a, hcs, hs, hx⟩ := open_strL Try.underlying22 Try.underlying9 (by kernel_rfl) hf
    obtain rfl : v' = .slice x0 l0 c0 := by simpa [Value.cells] using hcs.symm
    exact ⟨a, hs, hx⟩
  clear e0
  have k1 := h1
  have lt1 : ∀ x ∈ p1, x.block < W.heap.size := by obtain ⟨m, hm⟩ := k1; exact DataW.trod_lt m _ _ _ hm
  obtain ⟨x1, l1, c1, rfl⟩ := okWide_slice Try.underlying22 (hval 1 22 v1 rfl rfl)
  obtain ⟨a1, w1, e1⟩ : ∃ a, FactStrs W (.slice x1 l1 c1) a ∧ ((d1 = .nil ∧ a = []) ∨ ∃ rest, d1 = .slice (dataStrs a) rest) := by
    obtain ⟨fuel, hf⟩ := h1
    obtain ⟨v', a, hcs, hs, hx⟩ := open_strL Try.underlying22 Try.underlying9 (by kernel_rfl) hf
    obtain rfl : v' = .slice x1 l1 c1 := by simpa [Value.cells] using hcs.symm
    exact ⟨a, hs, hx⟩
  clear e1
  clear hA0
  refine (walk (.slice x0 l0 c0) a0 (.slice x1 l1 c1) a1 W w0 w1).mono fun e W' ⟨he, bel⟩ => ?_
  subst he
  exact ⟨_, rfl, _, _, _, [], _, [], hW', trodAll_mk1 (shut_bool Try.underlying4 _), (trodAll_cons_mk (Below.trod laidOut (by kernel_rfl) (of_decide_eq_true (by kernel_rfl)) k0 bel lt0) (trodAll_cons_mk (Below.trod laidOut (by kernel_rfl) (of_decide_eq_true (by kernel_rfl)) k1 bel lt1) trodAll_mk0)), rfl, bel.frame _, fun h => by cases h⟩

set_option maxRecDepth 100000 in
theorem lifted (os : Os) (started : os.Started) (H : Type) (enc : TypeId × Value → H) :
    ReturnsInHanded {} Try.checked os 4 .any (Rows.diffLeadsSpec.pre6 enc Try.prog Try.f4 Rows.diffLeadsRow.domain false) (Rows.diffLeadsSpec.post enc Try.prog Try.f4 false true false false) := by
  refine returnsInHanded_of_change (C := Try.checked) own started (by kernel_rfl) Try.func4
    (ChangeSpec.witness6 (enc := enc) (C := Try.checked) false ⟨#[], #[.slice none 0 0, .slice none 0 0], []⟩ 8 (by kernel_rfl) (by kernel_rfl) (by kernel_rfl) (by kernel_rfl)) ?_
  intro W base args ds gs before hval hW _ _
  exact contract H enc W base args ds gs before hval hW

theorem over : Rows.diffLeadsRow.holds Try.pinned (OpenSpec.ofChange Rows.diffLeadsSpec) :=
  OpenClaim.holds_of_wide 4 Try.f4 rfl rfl rfl rfl rfl rfl rfl ⟨rfl, rfl, rfl, rfl, rfl⟩ rfl rfl rfl rfl rfl (by kernel_rfl) Try.func4 (by kernel_rfl)
    (of_decide_eq_true (by kernel_rfl)) (by unfold Func.isWrapper; first | (rw [if_pos (by decide +kernel)]; kernel_rfl) | (rw [if_neg (by decide +kernel)]; exact ⟨rfl, rfl⟩))
    (fun os started H enc _ => lifted os started H enc)

/-- The statement. -/
theorem proved : Rows.DiffLeadsSaid :=
  over
#print axioms proved
end Go.Proofs.Ytiieomikpcjihaa.diffLeads
