/-
  HunkMany: hunks that stand apart, at once and one behind the other, the last one first.
-/
import Derived.Test.YtbcmecclaofmgaaHkAw
import Derived.Test.YtbcmecclaofmgaaHkN
import Derived.Test.YtbcmecclaofmgaaHkI
import Derived.Test.YtbcmecclaofmgaaRdfD
import Derived.Test.YtbcmecclaofmgaaCutS
import Derived.Test.YtbcmecclaofmgaaOpenS
import Derived.ProofKit
import Derived.OpenShut
namespace Go.Proofs.Ytbcmecclaofmgaa.hunkMany
open Go.ChangeShapes Go.WideShapes Go.ChangeAt Go.RowKit

theorem cut_hk {w : World} {ao : Option Addr} {n cap : Nat} {hs : List HkS} (h : SlH w (.slice ao n cap) hs) {i : Nat} {p : HkS} (hp : hs[i]? = some p) :
    ∃ ao' c', (∀ wx, (Instr.slice 24 (.slice ao n cap) (some (.int .i64 (i : Int))) (some (.int .i64 ((i : Int) + 1))) none).run Try.prog wx = .ok (.slice ao' 1 c') wx) ∧ SlH w (.slice ao' 1 c') [p] := by
  obtain ⟨i0, hi0, hi1, hi2, hi3⟩ := info_parts Try.infoHk
  obtain ⟨ao', cap', hv, hnone, hcap, hc⟩ := h
  obtain ⟨rfl, rfl, rfl⟩ := Value.slice.inj hv
  have hlt := (List.getElem?_eq_some_iff.1 hp).1
  refine ⟨if cap = i then ao else ao.map (·.add (i * 3)), cap - i, fun wx => ?_, ⟨_, cap - i, rfl, fun h => ?_, by simp; omega, fun a ha j u hu => ?_⟩⟩
  · have e1 : (i : Int) + 1 = ((i + 1 : Nat) : Int) := by omega
    have h1 : (i : Int) ≤ ((i + 1 : Nat) : Int) := by omega
    have h2 : ((i + 1 : Nat) : Int) ≤ cap := by omega
    have h3 : i + 1 - i = 1 := by omega
    rw [e1]
    generalize hm : i + 1 = m at h1 h2 h3 ⊢
    simp [Instr.slice, run_underlying Try.underlying24, Instr.sliceBounds, run_sliceBound, sizeOf, typeInfo, hi0, hi2, h1, h2, h3]
  · have : ao = none := by
      split at h
      · exact h
      · simpa using h
    rw [hnone this] at hlt
    cases hlt
  · obtain ⟨rfl, rfl⟩ : j = 0 ∧ u = p := by
      cases j with
      | zero => exact ⟨rfl, by simpa using hu.symm⟩
      | succ j => simp at hu
    rw [if_neg (by omega)] at ha
    cases ao with
    | none => cases ha
    | some b =>
      cases ha
      rw [addr_add_add, addr_add_add, addr_add_add, show i * 3 + 0 * 3 = i * 3 by omega, show i * 3 + (0 * 3 + 1) = i * 3 + 1 by omega, show i * 3 + (0 * 3 + 2) = i * 3 + 2 by omega]
      exact hc b rfl i u hp

section
set_option maxRecDepth 100000
set_option maxHeartbeats 4000000
theorem walk_big (va vb : Value) (a b : List (List UInt8)) (w : World) (ha : FactStrs w va a) (hb : FactStrs w vb b) (hl : 60 < a.length ∨ 60 < b.length) :
    Calls Try.prog 6 #[va, vb] w fun e w' => e = .returned (.bool true) ∧ Below w.heap.size w w' := by
  obtain ⟨s1, _, _⟩ := ha
  obtain ⟨s2, _, _⟩ := hb
  obtain ⟨a1, c1, rfl⟩ := s1.form
  obtain ⟨a2, c2, rfl⟩ := s2.form
  rw [strCells_length, strCells_length]
  have hl' : (60 : Int) < (a.length : Int) ∨ (¬ (60 : Int) < (a.length : Int) ∧ (60 : Int) < (b.length : Int)) := by omega
  clear hl
  rcases hl' with h1 | ⟨h1, h2⟩
  all_goals
    go_enter Try.func6, Try.ntmps6
    go_wp2_with fail
    refine (awake_any w).mono ?_
    rintro e w1 ⟨rfl, hb1⟩
    go_wp2
    go_ret
    exact ⟨rfl, hb1⟩

theorem walk_at (va vb : Value) (a b : List (List UInt8)) (w : World) (ha : FactStrs w va a) (hb : FactStrs w vb b) (hal : a.length ≤ 60) (hbl : b.length ≤ 60) :
    Calls Try.prog 6 #[va, vb] w fun e w' => e = .returned (.bool true) ∧ Below w.heap.size w w' := by
  obtain ⟨s1, _, _⟩ := ha
  obtain ⟨s2, _, _⟩ := hb
  obtain ⟨a1, c1, rfl⟩ := s1.form
  obtain ⟨a2, c2, rfl⟩ := s2.form
  rw [strCells_length] at s1 s2 ⊢
  rw [strCells_length]
  have hsc := scriptS_short (a := a) (b := b) (by omega) (by omega)
  obtain ⟨e1, e2, e3, _⟩ := goS_sides a b
  have hK := goS_kinds a b
  obtain ⟨es, hes⟩ : ∃ es, goS a b = es := ⟨_, rfl⟩
  rw [hes] at hsc e1 e2 e3 hK
  have hel : es.length ≤ 200 := by omega
  obtain ⟨r1, p1, _⟩ := hunks_lead hK (by omega)
  rw [e1, e2] at p1
  have f1 := (hunks_few es).1 0
  obtain ⟨h, hh⟩ : ∃ h, hunksS es = h := ⟨_, rfl⟩
  have f1 : h.length ≤ es.length ∧ ∀ q ∈ h, q.2.1.length ≤ es.length ∧ q.2.2.length ≤ es.length := hh ▸ f1
  rw [hh] at r1 p1
  have pb : applyFrom a 0 h = some b := by
    have := p1
    unfold applyS at this
    rw [r1, if_pos rfl] at this
    cases hx : applyFrom a 0 h with
    | none => rw [hx] at this; simp at this
    | some r => rw [hx] at this; simp at this; rw [this]
  have ST := hid (many_step r1 pb)
  have PB := hid pb
  have HSC := hid hsc
  have HH := hid hh
  have P1 := hid p1
  have FH := hid (show hkFew h from fun q hq => by have := f1.2 q hq; omega)
  have FN := hid (show ∀ q ∈ h, q.2.2.length ≤ 200 from fun q hq => by have := f1.2 q hq; omega)
  have LH := hid (show h.length ≤ 200 by omega)
  have LA := hid (And.intro hal hbl)
  have LE := hid (show es.length ≤ 1000000 by omega)
  have hg1 : ¬ (60 : Int) < (a.length : Int) := by omega
  have hg2 : ¬ (60 : Int) < (b.length : Int) := by omega
  have kw0 : IntKind.i64.wrap ((h.length : Int) - 1) = (h.length : Int) - 1 := IntWalk.i64_in _ (by omega)
  clear hsc e1 e2 e3 hK hes hel r1 p1 f1 hh hal hbl pb
  go_enter Try.func6, Try.ntmps6
  go_wp2_with fail
  refine (RScript_any _ _ a b w s1 s2 (by have := LA.out.1; omega) (by have := LA.out.2; omega)).mono ?_
  rw [HSC.out]
  rintro e x0 ⟨l, rfl, hl, hb0⟩
  have hl := hl.slE
  obtain ⟨lo, lc, hf⟩ := hl.form
  subst hf
  have s1 := Sl.old s1 hb0
  have s2 := Sl.old s2 hb0
  have hz0 := hb0.size
  go_wp2_with fail
  have hD := DOf_any _ es x0 hl LE.out
  rw [HH.out] at hD
  refine hD.mono ?_
  rintro e x1 ⟨vh, rfl, sh, hb1⟩
  clear hD hl
  obtain ⟨ho, hc, hf⟩ := sh.form
  subst hf
  have s1 := Sl.old s1 hb1
  have s2 := Sl.old s2 hb1
  have hb1 := below_step hb0 hb1 hz0
  have hz1 := hb1.size
  clear hb0 hz0
  go_wp2_with fail
  have hD := DApply_any _ _ a h x1 s1 sh FH.out (by have := LH.out; omega) (by have := LA.out.1; omega)
  rw [P1.out] at hD
  refine hD.mono ?_
  rintro e x2 ⟨vx, rfl, sx, hb2⟩
  clear hD
  obtain ⟨xo, xc, hf⟩ := sx.form
  subst hf
  have s1 := Sl.old s1 hb2
  have s2 := Sl.old s2 hb2
  have sh := SlH.old sh hb2
  have hb2 := below_step hb1 hb2 hz1
  have hz2 := hb2.size
  clear hb1 hz1
  go_wp2_with (refine wpList_append_ss (by rfl) (.const (.slice none 0 0)) (.tmp 31) (by rfl) x2.heap.size _ [] a rfl (World.ownsRow_nil _ _ _ _) _ rfl s1 (by have := LA.out.1; simp; omega) (Nat.le_refl _) ?_; intro v3 x3 hO3 hb3)
  have sy := Sl.ofOwns hO3
  rw [List.nil_append] at sy
  clear hO3
  have s1 := Sl.old s1 hb3
  have s2 := Sl.old s2 hb3
  have sx := Sl.old sx hb3
  have sh := SlH.old sh hb3
  have hb3 := below_step hb2 hb3 hz2
  have hz3 := hb3.size
  clear hb2 hz2
  have SY := hid sy
  have S1 := hid s1
  have S2 := hid s2
  have SX := hid sx
  have SH := hid sh
  have HB3 := hid hb3
  clear sy s1 s2 sx sh hb3
  go_wp2_with fail
  go_loopg [8, 9] h.length (fun g y i wr => ∃ (K : Nat) (Y : List (List UInt8)), K ≤ h.length ∧ K = g ∧ i = .int .i64 ((K : Int) - 1) ∧ Hid (applyFrom a 0 (h.drop K) = some Y) ∧ Hid (Sl wr y (strCells Y)) ∧ Hid (Below x3.heap.size x3 wr))
  case atStart => exact ⟨h.length, a, Nat.le_refl _, rfl, rfl, hid (by rw [List.drop_length]; rfl), SY, hid (Below.refl _ _)⟩
  case round =>
    obtain ⟨K, Y, hK, rfl, rfl, HY, HS, HB⟩ := hrel
    obtain ⟨yo, yc, hf⟩ := HS.out.form
    rw [strCells_length] at hf
    subst hf
    have hb4 := below_step HB3.out HB.out HB3.out.size
    have hz4 := hb4.size
    cases K with
    | zero =>
      obtain rfl : Y = b := by
        have h1 := HY.out
        rw [List.drop_zero, PB.out] at h1
        exact (Option.some.inj h1).symm
      rw [show ((0 : Nat) : Int) - 1 = -1 from rfl]
      have hneg : ¬ (0 : Int) ≤ -1 := by omega
      have s2 := Sl.old S2.out HB.out
      have sx := Sl.old SX.out HB.out
      have sy := HS.out
      go_wp2_with fail
      refine (awake_any wr).mono ?_
      rintro e x5 ⟨rfl, hb5⟩
      have s2 := Sl.old s2 hb5
      have sx := Sl.old sx hb5
      have sy := Sl.old sy hb5
      have hb5 := below_step hb4 hb5 hz4
      have hz5 := hb5.size
      clear hb4 hz4
      go_wp2_with fail
      have hD := SPlain_any _ _ Y Y x5 sx sy (by unfold maxLen; have := LA.out.2; omega)
      rw [show (Y == Y) = true by simp] at hD
      refine hD.mono ?_
      rintro e x6 ⟨rfl, k6, rfl⟩
      have hb6 := below_drewN x5 k6
      generalize x5.drewN k6 = x6 at hb6 ⊢
      clear hD
      have s2 := Sl.old s2 hb6
      have sx := Sl.old sx hb6
      have hb6 := below_step hb5 hb6 hz5
      have hz6 := hb6.size
      clear hb5 hz5
      go_wp2_with fail
      have hD := SPlain_any _ _ Y Y x6 sx s2 (by unfold maxLen; have := LA.out.2; omega)
      rw [show (Y == Y) = true by simp] at hD
      refine hD.mono ?_
      rintro e x7 ⟨rfl, k7, rfl⟩
      have hb7 := below_drewN x6 k7
      generalize x6.drewN k7 = x7 at hb7 ⊢
      clear hD
      have hb7 := below_step hb6 hb7 hz6
      go_wp2
      go_ret
      exact ⟨rfl, hb7⟩
    | succ i =>
      have e1 : ((i + 1 : Nat) : Int) - 1 = (i : Int) := by omega
      rw [e1]
      have k0 : (0 : Int) ≤ (i : Int) := Int.natCast_nonneg _
      have kw1 : IntKind.i64.wrap ((i : Int) + 1) = (i : Int) + 1 := IntWalk.i64_in _ (by have := LH.out; omega)
      have kw2 : IntKind.i64.wrap ((i : Int) - 1) = (i : Int) - 1 := IntWalk.i64_in _ (by have := LH.out; omega)
      obtain ⟨p, z, hp, hz, hap⟩ := ST.out i (by omega) Y HY.out
      have sh := SlH.old SH.out HB.out
      obtain ⟨po, pc, hsl, sp⟩ := cut_hk sh hp
      have HP := hid (show hkFew [p] from fun q hq => by rw [List.mem_singleton.1 hq]; exact FH.out p (List.mem_of_getElem? hp))
      have LY := hid (apply_few HY.out (fun q hq => FN.out q (List.mem_of_mem_drop hq)) (by have := LA.out.1; omega) (by rw [List.length_drop]; have := LH.out; omega))
      have HZ := hid hz
      have HAP := hid hap
      have SS := hid sp
      clear hp hz hap sh sp e1
      go_wp2_with fail
      have hD := DApply_any _ _ Y [p] wr HS.out SS.out HP.out (by simp) (by have := LY.out; omega)
      rw [HAP.out] at hD
      refine hD.mono ?_
      rintro e wz ⟨vz, rfl, sz, hbz⟩
      clear hD
      have SZ := hid sz
      have HB5 := hid (below_step HB.out hbz HB.out.size)
      clear sz hbz
      go_wp2
      go_roundg i
      case measure => omega
      case rel => exact ⟨i, z, by omega, rfl, rfl, HZ, SZ, HB5⟩

theorem walk (va : Value) (a : List (List UInt8)) (vb : Value) (b : List (List UInt8)) (w : World) (ha : FactStrs w va a) (hb : FactStrs w vb b) :
    Calls Try.prog 6 #[va, vb] w fun e w' => e = .returned (.bool true) ∧ Below w.heap.size w w' := by
  by_cases h : 60 < a.length ∨ 60 < b.length
  · exact walk_big va vb a b w ha hb h
  · exact walk_at va vb a b w ha hb (by omega) (by omega)
end

theorem own : ownKnob Try.prog.godebug = none := by kernel_rfl
theorem laidOut : laidOutB Try.prog = true := by kernel_rfl

theorem contract (H : Type) (enc : TypeId × Value → H) (W : World) (base : Nat) (args : Array Value) (ds gs : List (DataW H)) (before : List MemPlace)
    (hval : ∀ (j : Nat) t v, Try.f6.params[j]? = some t → args[j]? = some v → Value.okWide Try.prog W .any base t v)
    (hW : DataW.Whole enc Try.prog Try.f6.params.toList Rows.hunkManySpec.vars false W args.toList ds gs before) :
    Calls Try.prog 6 args W fun e W' => ∃ v, e = .returned v ∧ Rows.hunkManySpec.post enc Try.prog Try.f6 false true false false W args v W' := by
  have hW' := hW
  obtain ⟨p, q, hA0, hV, rfl, hfz, hnd⟩ := hW
  have hA : DataW.TrodAll enc Try.prog W 0 (fun _ => true) true Try.f6.params.toList args.toList ds p := hA0
  rw [Try.params6] at hA hval
  obtain ⟨v0, vs0, d0, ds0, p0, q0, hargs, rfl, rfl, h0, r0⟩ := trodAll_cons hA
  obtain ⟨v1, vs1, d1, ds1, p1, q1, rfl, rfl, rfl, h1, r1⟩ := trodAll_cons r0
  obtain ⟨rfl, rfl, rfl⟩ := trodAll_nil r1
  obtain rfl : args = #[v0, v1] := by cases args; simp_all
  obtain ⟨rfl, rfl⟩ := trodVars_none hV
  have k0 := h0
  have lt0 : ∀ x ∈ p0, x.block < W.heap.size := by obtain ⟨m, hm⟩ := k0; exact DataW.trod_lt m _ _ _ hm
  obtain ⟨x0, l0, c0, rfl⟩ := okWide_slice Try.underlying23 (hval 0 23 v0 rfl rfl)
  obtain ⟨a0, w0, e0⟩ : ∃ a, FactStrs W (.slice x0 l0 c0) a ∧ ((d0 = .nil ∧ a = []) ∨ ∃ rest, d0 = .slice (dataStrs a) rest) := by
    obtain ⟨fuel, hf⟩ := h0
    obtain ⟨v', a, hcs, hs, hx⟩ := open_strL Try.underlying23 Try.underlying9 (by kernel_rfl) hf
    obtain rfl : v' = .slice x0 l0 c0 := by simpa [Value.cells] using hcs.symm
    exact ⟨a, hs, hx⟩
  clear e0
  have k1 := h1
  have lt1 : ∀ x ∈ p1, x.block < W.heap.size := by obtain ⟨m, hm⟩ := k1; exact DataW.trod_lt m _ _ _ hm
  obtain ⟨x1, l1, c1, rfl⟩ := okWide_slice Try.underlying23 (hval 1 23 v1 rfl rfl)
  obtain ⟨a1, w1, e1⟩ : ∃ a, FactStrs W (.slice x1 l1 c1) a ∧ ((d1 = .nil ∧ a = []) ∨ ∃ rest, d1 = .slice (dataStrs a) rest) := by
    obtain ⟨fuel, hf⟩ := h1
    obtain ⟨v', a, hcs, hs, hx⟩ := open_strL Try.underlying23 Try.underlying9 (by kernel_rfl) hf
    obtain rfl : v' = .slice x1 l1 c1 := by simpa [Value.cells] using hcs.symm
    exact ⟨a, hs, hx⟩
  clear e1
  clear hA0
  refine (walk (.slice x0 l0 c0) a0 (.slice x1 l1 c1) a1 W w0 w1).mono fun e W' ⟨he, bel⟩ => ?_
  subst he
  exact ⟨_, rfl, _, _, _, [], _, [], hW', trodAll_mk1 (shut_bool Try.underlying4 _), (trodAll_cons_mk (Below.trod laidOut (by kernel_rfl) (of_decide_eq_true (by kernel_rfl)) k0 bel lt0) (trodAll_cons_mk (Below.trod laidOut (by kernel_rfl) (of_decide_eq_true (by kernel_rfl)) k1 bel lt1) trodAll_mk0)), rfl, bel.frame _, fun h => by cases h⟩

set_option maxRecDepth 100000 in
theorem lifted (os : Os) (started : os.Started) (H : Type) (enc : TypeId × Value → H) :
    ReturnsInHanded {} Try.checked os 6 .any (Rows.hunkManySpec.pre6 enc Try.prog Try.f6 Rows.hunkManyRow.domain false) (Rows.hunkManySpec.post enc Try.prog Try.f6 false true false false) := by
  refine returnsInHanded_of_change (C := Try.checked) own started (by kernel_rfl) Try.func6
    (ChangeSpec.witness6 (enc := enc) (C := Try.checked) false ⟨#[], #[.slice none 0 0, .slice none 0 0], []⟩ 8 (by kernel_rfl) (by kernel_rfl) (by kernel_rfl) (by kernel_rfl)) ?_
  intro W base args ds gs before hval hW _ _
  exact contract H enc W base args ds gs before hval hW

theorem over : Rows.hunkManyRow.holds Try.pinned (OpenSpec.ofChange Rows.hunkManySpec) :=
  OpenClaim.holds_of_wide 6 Try.f6 rfl rfl rfl rfl rfl rfl rfl ⟨rfl, rfl, rfl, rfl, rfl⟩ rfl rfl rfl rfl rfl (by kernel_rfl) Try.func6 (by kernel_rfl)
    (of_decide_eq_true (by kernel_rfl)) (by unfold Func.isWrapper; first | (rw [if_pos (by decide +kernel)]; kernel_rfl) | (rw [if_neg (by decide +kernel)]; exact ⟨rfl, rfl⟩))
    (fun os started H enc _ => lifted os started H enc)

/-- The statement. -/
theorem proved : Rows.HunkManySaid :=
  over
#print axioms proved
end Go.Proofs.Ytbcmecclaofmgaa.hunkMany
