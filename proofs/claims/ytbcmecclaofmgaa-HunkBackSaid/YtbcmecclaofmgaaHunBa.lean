/-
  HunkBack: the hunks of a script lead from the one to the other, and back.
-/
import Derived.Test.YtbcmecclaofmgaaHkAw
import Derived.Test.YtbcmecclaofmgaaHkT
import Derived.Test.YtbcmecclaofmgaaHkE
import Derived.Test.YtbcmecclaofmgaaRdfD
import Derived.Test.YtbcmecclaofmgaaOpenS
import Derived.ProofKit
import Derived.OpenShut
namespace Go.Proofs.Ytbcmecclaofmgaa.hunkBack
open Go.ChangeShapes Go.WideShapes Go.ChangeAt Go.RowKit

section
set_option maxRecDepth 100000
set_option maxHeartbeats 4000000
theorem walk_big (va vb : Value) (a b : List (List UInt8)) (w : World) (ha : FactStrs w va a) (hb : FactStrs w vb b) (hl : 80 < a.length ∨ 80 < b.length) :
    Calls Try.prog 4 #[va, vb] w fun e w' => e = .returned (.bool true) ∧ Below w.heap.size w w' := by
  obtain ⟨s1, _, _⟩ := ha
  obtain ⟨s2, _, _⟩ := hb
  obtain ⟨a1, c1, rfl⟩ := s1.form
  obtain ⟨a2, c2, rfl⟩ := s2.form
  rw [strCells_length, strCells_length]
  have hl' : (80 : Int) < (a.length : Int) ∨ (¬ (80 : Int) < (a.length : Int) ∧ (80 : Int) < (b.length : Int)) := by omega
  clear hl
  rcases hl' with h1 | ⟨h1, h2⟩
  all_goals
    go_enter Try.func4, Try.ntmps4
    go_wp2_with fail
    refine (awake_any w).mono ?_
    rintro e w1 ⟨rfl, hb1⟩
    go_wp2
    go_ret
    exact ⟨rfl, hb1⟩

theorem walk_at (va vb : Value) (a b : List (List UInt8)) (w : World) (ha : FactStrs w va a) (hb : FactStrs w vb b) (hal : a.length ≤ 80) (hbl : b.length ≤ 80) :
    Calls Try.prog 4 #[va, vb] w fun e w' => e = .returned (.bool true) ∧ Below w.heap.size w w' := by
  obtain ⟨s1, _, _⟩ := ha
  obtain ⟨s2, _, _⟩ := hb
  obtain ⟨a1, c1, rfl⟩ := s1.form
  obtain ⟨a2, c2, rfl⟩ := s2.form
  rw [strCells_length] at s1 s2 ⊢
  rw [strCells_length]
  have hsc := scriptS_short (a := a) (b := b) (by omega) (by omega)
  obtain ⟨e1, e2, e3, _⟩ := goS_sides a b
  have hK := goS_kinds a b
  obtain ⟨es, hes⟩ : ∃ es, goS a b = es := ⟨_, rfl⟩
  rw [hes] at hsc e1 e2 e3 hK
  have hel : es.length ≤ 200 := by omega
  obtain ⟨r1, p1, i1⟩ := hunks_lead hK (by omega)
  obtain ⟨r2, p2, i2⟩ := hunks_lead (swapS_kinds hK) (by rw [swapS_length]; omega)
  obtain ⟨d1, d2⟩ := swapS_sides hK
  rw [e1, e2] at p1
  rw [d1, d2, e1, e2] at p2
  rw [swapS_twice hK] at i2
  have f1 := (hunks_few es).1 0
  have f2 := (hunks_few (swapS es)).1 0
  rw [swapS_length] at f2
  obtain ⟨h, hh⟩ : ∃ h, hunksS es = h := ⟨_, rfl⟩
  obtain ⟨i, hi⟩ : ∃ i, hunksS (swapS es) = i := ⟨_, rfl⟩
  have f1 : h.length ≤ es.length ∧ ∀ q ∈ h, q.2.1.length ≤ es.length ∧ q.2.2.length ≤ es.length := hh ▸ f1
  have f2 : i.length ≤ es.length ∧ ∀ q ∈ i, q.2.1.length ≤ es.length ∧ q.2.2.length ≤ es.length := hi ▸ f2
  rw [hh] at r1 p1 i1 i2
  rw [hi] at i1 r2 p2 i2
  have HSC := hid hsc
  have HH := hid hh
  have R1 := hid r1
  have P1 := hid p1
  have I1 := hid i1
  have R2 := hid r2
  have P2 := hid p2
  have I2 := hid i2
  have FH := hid (show hkFew h from fun q hq => by have := f1.2 q hq; omega)
  have FI := hid (show hkFew i from fun q hq => by have := f2.2 q hq; omega)
  have LH := hid (show h.length ≤ 1000 by omega)
  have LI := hid (show i.length ≤ 1000 by omega)
  have LA := hid (And.intro hal hbl)
  have LE := hid (show es.length ≤ 1000000 by omega)
  have hg1 : ¬ (80 : Int) < (a.length : Int) := by omega
  have hg2 : ¬ (80 : Int) < (b.length : Int) := by omega
  clear hsc e1 e2 e3 hK hes hel r1 p1 i1 r2 p2 i2 d1 d2 f1 f2 hh hi hal hbl
  go_enter Try.func4, Try.ntmps4
  go_wp2_with fail
  have hD := RScript_any _ _ a b w s1 s2 (by have := LA.out.1; omega) (by have := LA.out.2; omega)
  rw [HSC.out] at hD
  refine hD.mono ?_
  rintro e x0 ⟨l, rfl, hl, hb0⟩
  clear hD
  have s1 := Sl.old s1 hb0
  have s2 := Sl.old s2 hb0
  have hl := hl.slE
  obtain ⟨lo, lc, hf⟩ := hl.form
  subst hf
  have hz0 := hb0.size
  go_wp2_with fail
  have hD := DOf_any _ es x0 hl LE.out
  rw [HH.out] at hD
  refine hD.mono ?_
  rintro e x1 ⟨vh, rfl, sh, hb1⟩
  clear hD
  clear hl
  have s1 := Sl.old s1 hb1
  have s2 := Sl.old s2 hb1
  obtain ⟨ho, hc, hf⟩ := sh.form
  subst hf
  have hb1 := below_step hb0 hb1 hz0
  have hz1 := hb1.size
  clear hb0 hz0
  go_wp2_with fail
  have hD := DApply_any _ _ a h x1 s1 sh FH.out LH.out (by have := LA.out.1; omega)
  rw [P1.out] at hD
  refine hD.mono ?_
  rintro e x2 ⟨vx, rfl, sx, hb2⟩
  clear hD
  have s1 := Sl.old s1 hb2
  have s2 := Sl.old s2 hb2
  have sh := SlH.old sh hb2
  obtain ⟨xo, xc, hf⟩ := sx.form
  subst hf
  have hb2 := below_step hb1 hb2 hz1
  have hz2 := hb2.size
  clear hb1 hz1
  go_wp2_with fail
  have hD := DInvert_any _ h x2 sh FH.out LH.out
  rw [I1.out] at hD
  refine hD.mono ?_
  rintro e x3 ⟨vi, rfl, si, hb3⟩
  clear hD
  have s1 := Sl.old s1 hb3
  have s2 := Sl.old s2 hb3
  have sh := SlH.old sh hb3
  have sx := Sl.old sx hb3
  obtain ⟨io, ic, hf⟩ := si.form
  subst hf
  have hb3 := below_step hb2 hb3 hz2
  have hz3 := hb3.size
  clear hb2 hz2
  go_wp2_with fail
  have hD := DApply_any _ _ b i x3 s2 si FI.out LI.out (by have := LA.out.2; omega)
  rw [P2.out] at hD
  refine hD.mono ?_
  rintro e x4 ⟨vy, rfl, sy, hb4⟩
  clear hD
  have s1 := Sl.old s1 hb4
  have s2 := Sl.old s2 hb4
  have sh := SlH.old sh hb4
  have sx := Sl.old sx hb4
  have si := SlH.old si hb4
  obtain ⟨yo, yc, hf⟩ := sy.form
  subst hf
  have hb4 := below_step hb3 hb4 hz3
  have hz4 := hb4.size
  clear hb3 hz3
  go_wp2_with fail
  have hD := awake_any x4
  refine hD.mono ?_
  rintro e x5 ⟨rfl, hb5⟩
  clear hD
  have s1 := Sl.old s1 hb5
  have s2 := Sl.old s2 hb5
  have sh := SlH.old sh hb5
  have sx := Sl.old sx hb5
  have si := SlH.old si hb5
  have sy := Sl.old sy hb5
  have hb5 := below_step hb4 hb5 hz4
  have hz5 := hb5.size
  clear hb4 hz4
  go_wp2_with fail
  have hD := DRight_any _ h x5 sh FH.out LH.out
  rw [R1.out] at hD
  refine hD.mono ?_
  rintro e x6 ⟨rfl, hb6⟩
  clear hD
  have s1 := Sl.old s1 hb6
  have s2 := Sl.old s2 hb6
  have sh := SlH.old sh hb6
  have sx := Sl.old sx hb6
  have si := SlH.old si hb6
  have sy := Sl.old sy hb6
  have hb6 := below_step hb5 hb6 hz5
  have hz6 := hb6.size
  clear hb5 hz5
  go_wp2_with fail
  have hD := SPlain_any _ _ b b x6 sx s2 (by unfold maxLen; have := LA.out.2; omega)
  rw [show (b == b) = true by simp] at hD
  refine hD.mono ?_
  rintro e x7 ⟨rfl, k7, rfl⟩
  have hb7 := below_drewN x6 k7
  generalize x6.drewN k7 = x7 at hb7 ⊢
  clear hD
  have s1 := Sl.old s1 hb7
  have s2 := Sl.old s2 hb7
  have sh := SlH.old sh hb7
  have sx := Sl.old sx hb7
  have si := SlH.old si hb7
  have sy := Sl.old sy hb7
  have hb7 := below_step hb6 hb7 hz6
  have hz7 := hb7.size
  clear hb6 hz6
  go_wp2_with fail
  have hD := DRight_any _ i x7 si FI.out LI.out
  rw [R2.out] at hD
  refine hD.mono ?_
  rintro e x8 ⟨rfl, hb8⟩
  clear hD
  have s1 := Sl.old s1 hb8
  have s2 := Sl.old s2 hb8
  have sh := SlH.old sh hb8
  have sx := Sl.old sx hb8
  have si := SlH.old si hb8
  have sy := Sl.old sy hb8
  have hb8 := below_step hb7 hb8 hz7
  have hz8 := hb8.size
  clear hb7 hz7
  go_wp2_with fail
  have hD := SPlain_any _ _ a a x8 sy s1 (by unfold maxLen; have := LA.out.1; omega)
  rw [show (a == a) = true by simp] at hD
  refine hD.mono ?_
  rintro e x9 ⟨rfl, k9, rfl⟩
  have hb9 := below_drewN x8 k9
  generalize x8.drewN k9 = x9 at hb9 ⊢
  clear hD
  have s1 := Sl.old s1 hb9
  have s2 := Sl.old s2 hb9
  have sh := SlH.old sh hb9
  have sx := Sl.old sx hb9
  have si := SlH.old si hb9
  have sy := Sl.old sy hb9
  have hb9 := below_step hb8 hb9 hz8
  have hz9 := hb9.size
  clear hb8 hz8
  go_wp2_with fail
  have hD := DInvert_any _ i x9 si FI.out LI.out
  rw [I2.out] at hD
  refine hD.mono ?_
  rintro e x10 ⟨vj, rfl, sj, hb10⟩
  clear hD
  have s1 := Sl.old s1 hb10
  have s2 := Sl.old s2 hb10
  have sh := SlH.old sh hb10
  have sx := Sl.old sx hb10
  have si := SlH.old si hb10
  have sy := Sl.old sy hb10
  obtain ⟨jo, jc, hf⟩ := sj.form
  subst hf
  have hb10 := below_step hb9 hb10 hz9
  have hz10 := hb10.size
  clear hb9 hz9
  go_wp2_with fail
  have hD := HSame_at _ _ h h x10 sj sh (by unfold maxLen; have := LH.out; omega) FH.out FH.out
  rw [show (h == h) = true by simp] at hD
  refine hD.mono ?_
  rintro e x11 ⟨rfl, hb11⟩
  clear hD
  have s1 := Sl.old s1 hb11
  have s2 := Sl.old s2 hb11
  have sh := SlH.old sh hb11
  have sx := Sl.old sx hb11
  have si := SlH.old si hb11
  have sy := Sl.old sy hb11
  have sj := SlH.old sj hb11
  have hb11 := below_step hb10 hb11 hz10
  have hz11 := hb11.size
  clear hb10 hz10
  go_wp2
  go_ret
  exact ⟨rfl, hb11⟩

theorem walk (va : Value) (a : List (List UInt8)) (vb : Value) (b : List (List UInt8)) (w : World) (ha : FactStrs w va a) (hb : FactStrs w vb b) :
    Calls Try.prog 4 #[va, vb] w fun e w' => e = .returned (.bool true) ∧ Below w.heap.size w w' := by
  by_cases h : 80 < a.length ∨ 80 < b.length
  · exact walk_big va vb a b w ha hb h
  · exact walk_at va vb a b w ha hb (by omega) (by omega)
end

theorem own : ownKnob Try.prog.godebug = none := by kernel_rfl
theorem laidOut : laidOutB Try.prog = true := by kernel_rfl

theorem contract (H : Type) (enc : TypeId × Value → H) (W : World) (base : Nat) (args : Array Value) (ds gs : List (DataW H)) (before : List MemPlace)
    (hval : ∀ (j : Nat) t v, Try.f4.params[j]? = some t → args[j]? = some v → Value.okWide Try.prog W .any base t v)
    (hW : DataW.Whole enc Try.prog Try.f4.params.toList Rows.hunkBackSpec.vars false W args.toList ds gs before) :
    Calls Try.prog 4 args W fun e W' => ∃ v, e = .returned v ∧ Rows.hunkBackSpec.post enc Try.prog Try.f4 false true false false W args v W' := by
  have hW' := hW
  obtain ⟨p, q, hA0, hV, rfl, hfz, hnd⟩ := hW
  have hA : DataW.TrodAll enc Try.prog W 0 (fun _ => true) true Try.f4.params.toList args.toList ds p := hA0
  rw [Try.params4] at hA hval
  obtain ⟨v0, vs0, d0, ds0, p0, q0, hargs, rfl, rfl, h0, r0⟩ := trodAll_cons hA
  obtain ⟨v1, vs1, d1, ds1, p1, q1, rfl, rfl, rfl, h1, r1⟩ := trodAll_cons r0
  obtain ⟨rfl, rfl, rfl⟩ := trodAll_nil r1
  obtain rfl : args = #[v0, v1] := by cases args; simp_all
  obtain ⟨rfl, rfl⟩ := trodVars_none hV
  have k0 := h0
  have lt0 : ∀ x ∈ p0, x.block < W.heap.size := by obtain ⟨m, hm⟩ := k0; exact DataW.trod_lt m _ _ _ hm
  obtain ⟨x0, l0, c0, rfl⟩ := okWide_slice Try.underlying23 (hval 0 23 v0 rfl rfl)
  obtain ⟨a0, w0, e0⟩ : ∃ a, FactStrs W (.slice x0 l0 c0) a ∧ ((d0 = .nil ∧ a = []) ∨ ∃ rest, d0 = .slice (dataStrs a) rest) := by
    obtain ⟨fuel, hf⟩ := h0
    obtain ⟨v', a, hcs, hs, hx⟩ := open_strL Try.underlying23 Try.underlying9 (by kernel_rfl) hf
    obtain rfl : v' = .slice x0 l0 c0 := by simpa [Value.cells] using hcs.symm
    exact ⟨a, hs, hx⟩
  clear e0
  have k1 := h1
  have lt1 : ∀ x ∈ p1, x.block < W.heap.size := by obtain ⟨m, hm⟩ := k1; exact DataW.trod_lt m _ _ _ hm
  obtain ⟨x1, l1, c1, rfl⟩ := okWide_slice Try.underlying23 (hval 1 23 v1 rfl rfl)
  obtain ⟨a1, w1, e1⟩ : ∃ a, FactStrs W (.slice x1 l1 c1) a ∧ ((d1 = .nil ∧ a = []) ∨ ∃ rest, d1 = .slice (dataStrs a) rest) := by
    obtain ⟨fuel, hf⟩ := h1
    obtain ⟨v', a, hcs, hs, hx⟩ := open_strL Try.underlying23 Try.underlying9 (by kernel_rfl) hf
    obtain rfl : v' = .slice x1 l1 c1 := by simpa [Value.cells] using hcs.symm
    exact ⟨a, hs, hx⟩
  clear e1
  clear hA0
  refine (walk (.slice x0 l0 c0) a0 (.slice x1 l1 c1) a1 W w0 w1).mono fun e W' ⟨he, bel⟩ => ?_
  subst he
  exact ⟨_, rfl, _, _, _, [], _, [], hW', trodAll_mk1 (shut_bool Try.underlying4 _), (trodAll_cons_mk (Below.trod laidOut (by kernel_rfl) (of_decide_eq_true (by kernel_rfl)) k0 bel lt0) (trodAll_cons_mk (Below.trod laidOut (by kernel_rfl) (of_decide_eq_true (by kernel_rfl)) k1 bel lt1) trodAll_mk0)), rfl, bel.frame _, fun h => by cases h⟩

set_option maxRecDepth 100000 in
theorem lifted (os : Os) (started : os.Started) (H : Type) (enc : TypeId × Value → H) :
    ReturnsInHanded {} Try.checked os 4 .any (Rows.hunkBackSpec.pre6 enc Try.prog Try.f4 Rows.hunkBackRow.domain false) (Rows.hunkBackSpec.post enc Try.prog Try.f4 false true false false) := by
  refine returnsInHanded_of_change (C := Try.checked) own started (by kernel_rfl) Try.func4
    (ChangeSpec.witness6 (enc := enc) (C := Try.checked) false ⟨#[], #[.slice none 0 0, .slice none 0 0], []⟩ 8 (by kernel_rfl) (by kernel_rfl) (by kernel_rfl) (by kernel_rfl)) ?_
  intro W base args ds gs before hval hW _ _
  exact contract H enc W base args ds gs before hval hW

theorem over : Rows.hunkBackRow.holds Try.pinned (OpenSpec.ofChange Rows.hunkBackSpec) :=
  OpenClaim.holds_of_wide 4 Try.f4 rfl rfl rfl rfl rfl rfl rfl ⟨rfl, rfl, rfl, rfl, rfl⟩ rfl rfl rfl rfl rfl (by kernel_rfl) Try.func4 (by kernel_rfl)
    (of_decide_eq_true (by kernel_rfl)) (by unfold Func.isWrapper; first | (rw [if_pos (by decide +kernel)]; kernel_rfl) | (rw [if_neg (by decide +kernel)]; exact ⟨rfl, rfl⟩))
    (fun os started H enc _ => lifted os started H enc)

/-- The statement. -/
theorem proved : Rows.HunkBackSaid :=
  over
#print axioms proved
end Go.Proofs.Ytbcmecclaofmgaa.hunkBack
