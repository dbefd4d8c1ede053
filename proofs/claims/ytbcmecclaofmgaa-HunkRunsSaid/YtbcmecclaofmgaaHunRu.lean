/-
  HunkRuns: as many hunks as runs of changes, a line kept between two of them, and all that the script does.
-/
import Derived.Test.YtbcmecclaofmgaaHkAw
import Derived.Test.YtbcmecclaofmgaaHkN
import Derived.Test.YtbcmecclaofmgaaHkI
import Derived.Test.YtbcmecclaofmgaaRdfD
import Derived.Test.YtbcmecclaofmgaaCutS
import Derived.Test.YtbcmecclaofmgaaOpenS
import Derived.ProofKit
import Derived.OpenShut
namespace Go.Proofs.Ytbcmecclaofmgaa.hunkRuns
open Go.ChangeShapes Go.WideShapes Go.ChangeAt Go.RowKit

section
set_option maxRecDepth 100000
set_option maxHeartbeats 4000000
theorem walk_big (va vb : Value) (a b : List (List UInt8)) (w : World) (ha : FactStrs w va a) (hb : FactStrs w vb b) (hl : 60 < a.length ∨ 60 < b.length) :
    Calls Try.prog 7 #[va, vb] w fun e w' => e = .returned (.bool true) ∧ Below w.heap.size w w' := by
  obtain ⟨s1, _, _⟩ := ha
  obtain ⟨s2, _, _⟩ := hb
  obtain ⟨a1, c1, rfl⟩ := s1.form
  obtain ⟨a2, c2, rfl⟩ := s2.form
  rw [strCells_length, strCells_length]
  have hl' : (60 : Int) < (a.length : Int) ∨ (¬ (60 : Int) < (a.length : Int) ∧ (60 : Int) < (b.length : Int)) := by omega
  clear hl
  rcases hl' with h1 | ⟨h1, h2⟩
  all_goals
    go_enter Try.func7, Try.ntmps7
    go_wp2_with fail
    refine (awake_any w).mono ?_
    rintro e w1 ⟨rfl, hb1⟩
    go_wp2
    go_ret
    exact ⟨rfl, hb1⟩

theorem walk_at (va vb : Value) (a b : List (List UInt8)) (w : World) (ha : FactStrs w va a) (hb : FactStrs w vb b) (hal : a.length ≤ 60) (hbl : b.length ≤ 60) :
    Calls Try.prog 7 #[va, vb] w fun e w' => e = .returned (.bool true) ∧ Below w.heap.size w w' := by
  obtain ⟨s1, _, _⟩ := ha
  obtain ⟨s2, _, _⟩ := hb
  obtain ⟨a1, c1, rfl⟩ := s1.form
  obtain ⟨a2, c2, rfl⟩ := s2.form
  rw [strCells_length] at s1 s2 ⊢
  rw [strCells_length]
  have hsc := scriptS_short (a := a) (b := b) (by omega) (by omega)
  obtain ⟨e1, e2, e3, _⟩ := goS_sides a b
  have hK := goS_kinds a b
  obtain ⟨es, hes⟩ : ∃ es, goS a b = es := ⟨_, rfl⟩
  rw [hes] at hsc e1 e2 e3 hK
  have hel : es.length ≤ 200 := by omega
  obtain ⟨r1, _, _⟩ := hunks_lead hK (by omega)
  have f1 := (hunks_few es).1 0
  have q1 := (hunks_count es).1 0 hK
  have q2 := (hunks_len es).1 0 hK
  have q3 := apart_at ((hunks_apart es).1 0 (-1) hK (by omega))
  obtain ⟨h, hh⟩ : ∃ h, hunksS es = h := ⟨_, rfl⟩
  have f1 : h.length ≤ es.length ∧ ∀ q ∈ h, q.2.1.length ≤ es.length ∧ q.2.2.length ≤ es.length := hh ▸ f1
  have q1 : h.length = runsG false es := hh ▸ q1
  have q2 : lenS h = distS es := hh ▸ q2
  have GAP := hid (show ∀ (i : Nat) (p q : HkS), h[i]? = some p → h[i + 1]? = some q → p.1 + (p.2.1.length : Int) < q.1 from hh ▸ q3)
  rw [hh] at r1
  have OK := hid (right_at r1)
  have HSC := hid hsc
  have HH := hid hh
  have Q1 := hid q1
  have Q2 := hid q2
  have FN := hid (show ∀ q ∈ h, q.2.1.length ≤ 200 ∧ q.2.2.length ≤ 200 from fun q hq => by have := f1.2 q hq; omega)
  have LH := hid (show h.length ≤ 200 by omega)
  have LE := hid (show es.length ≤ 200 by omega)
  have LD := hid (show lenS h ≤ 200 by have := distS_le es; omega)
  have LA := hid (And.intro hal hbl)
  have hg1 : ¬ (60 : Int) < (a.length : Int) := by omega
  have hg2 : ¬ (60 : Int) < (b.length : Int) := by omega
  clear hsc e1 e2 e3 hK hes hel r1 f1 hh hal hbl q1 q2 q3
  go_enter Try.func7, Try.ntmps7
  go_wp2_with fail
  refine (RScript_any _ _ a b w s1 s2 (by have := LA.out.1; omega) (by have := LA.out.2; omega)).mono ?_
  rw [HSC.out]
  rintro e x0 ⟨l, rfl, hl, hb0⟩
  have hl := hl.slE
  obtain ⟨lo, lc, hf⟩ := hl.form
  subst hf
  have s1 := Sl.old s1 hb0
  have s2 := Sl.old s2 hb0
  have hz0 := hb0.size
  go_wp2_with fail
  have hD := DOf_any _ es x0 hl (by have := LE.out; omega)
  rw [HH.out] at hD
  refine hD.mono ?_
  rintro e x1 ⟨vh, rfl, sh, hb1⟩
  clear hD
  obtain ⟨ho, hc, hf⟩ := sh.form
  subst hf
  have s1 := Sl.old s1 hb1
  have s2 := Sl.old s2 hb1
  have hl := SlE.old hl hb1
  have hb1 := below_step hb0 hb1 hz0
  have hz1 := hb1.size
  clear hb0 hz0
  have S1 := hid s1
  have S2 := hid s2
  have SH := hid sh
  have HL := hid hl
  have HB1 := hid hb1
  clear s1 s2 sh hl hb1
  go_wp2_with fail
  go_loopg [7, 9] es.length (fun g r i wr => ∃ k R : Nat, k ≤ es.length ∧ es.length - k = g ∧ i = .int .i64 k ∧ r = .int .i64 R ∧ Hid (R + runsG (inRun es k) (es.drop k) = runsG false es) ∧ x1 = wr)
  case atStart => exact ⟨0, 0, Nat.zero_le _, rfl, rfl, rfl, hid (by rw [Nat.zero_add, List.drop_zero]; rfl), rfl⟩
  case round =>
    obtain ⟨k, R, hk, rfl, rfl, rfl, HR, rfl⟩ := hrel
    have k0 : (0 : Int) ≤ (k : Int) := Int.natCast_nonneg _
    have hRl : R ≤ 200 := by have h1 := HR.out; have h2 := runs_le es false; have h3 := LE.out; omega
    have rw1 : IntKind.i64.wrap ((R : Int) + 1) = (R : Int) + 1 := IntWalk.i64_in _ (by omega)
    have LR := hid hRl
    clear hRl
    by_cases hlt : k < es.length
    · obtain ⟨eb, eo, c, x, rfl, hc, hd, he⟩ := HL.out.at' (i := k) hlt
      have k1 : (k : Int) < (es.length : Int) := by omega
      have kw : IntKind.i64.wrap ((k : Int) + 1) = (k : Int) + 1 := IntWalk.i64_in _ (by have := LE.out; omega)
      have HS := hid (runs_step he (inRun es k))
      clear hd
      by_cases h1 : c = 1
      · subst h1
        have HN := hid (show R + runsG (inRun es (k + 1)) (es.drop (k + 1)) = runsG false es by
          have h2 := HR.out
          rw [HS.out, if_pos rfl] at h2
          omega)
        clear he
        go_wp2
        go_roundg (es.length - (k + 1))
        case measure => omega
        case rel => exact ⟨k + 1, R, by omega, rfl, rfl, rfl, HN, rfl⟩
      · have hcn : (c != 1) = true := by simpa using h1
        have hc1 : (c == 1) = false := by simpa using h1
        have hd1 : decide (c = 1) = false := by simpa using h1
        by_cases hk0 : k = 0
        · subst hk0
          have HN := hid (show R + 1 + runsG (inRun es (0 + 1)) (es.drop (0 + 1)) = runsG false es by
            have h2 := HR.out
            rw [HS.out, if_neg h1, show inRun es 0 = false from rfl] at h2
            simp only [Bool.false_eq_true, if_false] at h2
            omega)
          have z1 : (((0 : Nat) : Int) == 0) = true := rfl
          have hc0 : x1.cell? ⟨eb, eo, none⟩ = some (.int .i64 c) := by simpa using hc
          clear he
          go_wp2
          go_roundg (es.length - (0 + 1))
          case measure => omega
          case rel => exact ⟨0 + 1, R + 1, by omega, rfl, rfl, rfl, HN, rfl⟩
        · obtain ⟨j, hkj⟩ : ∃ j, k = j + 1 := ⟨k - 1, by omega⟩
          obtain ⟨eb', eo', c', x', eqb, hc', hd', he'⟩ := HL.out.at' (i := j) (by omega)
          cases eqb
          have hI : inRun es k = (c' != 1) := by
            have := inRun_at he'
            rw [← hkj] at this
            exact this
          have jw : IntKind.i64.wrap ((k : Int) - 1) = (j : Int) := (IntWalk.i64_in _ (by have := LE.out; omega)).trans (by omega)
          have j0 : (0 : Int) ≤ (j : Int) := Int.natCast_nonneg _
          have j1 : (j : Int) < (es.length : Int) := by omega
          have z1 : ((k : Int) == 0) = false := by simpa using hk0
          clear hd' he' he hkj hk0
          by_cases h2 : c' = 1
          · subst h2
            have HN := hid (show R + 1 + runsG (inRun es (k + 1)) (es.drop (k + 1)) = runsG false es by
              have h2 := HR.out
              rw [HS.out, if_neg h1, hI] at h2
              simp at h2
              omega)
            clear hI
            go_wp2
            go_roundg (es.length - (k + 1))
            case measure => omega
            case rel => exact ⟨k + 1, R + 1, by omega, rfl, rfl, rfl, HN, rfl⟩
          · have hcn' : (c' == 1) = false := by simpa using h2
            have HN := hid (show R + runsG (inRun es (k + 1)) (es.drop (k + 1)) = runsG false es by
              have h3 := HR.out
              rw [HS.out, if_neg h1, hI, show (c' != 1) = true by simpa using h2] at h3
              simp only [if_true] at h3
              omega)
            clear hI
            go_wp2
            go_roundg (es.length - (k + 1))
            case measure => omega
            case rel => exact ⟨k + 1, R, by omega, rfl, rfl, rfl, HN, rfl⟩
    · obtain rfl : k = es.length := by omega
      obtain rfl : R = h.length := by
        have h1 := HR.out
        rw [List.drop_length] at h1
        have h2 := Q1.out
        simp only [runsG] at h1
        omega
      clear HR rw1 k0 LR hk hlt
      go_wp2_with fail
      go_loopg [8, 10] h.length (fun g n i wr => ∃ k : Nat, k ≤ h.length ∧ h.length - k = g ∧ i = .int .i64 k ∧ n = .int .i64 (lenS (h.take k) : Nat) ∧ Hid (Below x1.heap.size x1 wr))
      case atStart => exact ⟨0, Nat.zero_le _, rfl, rfl, rfl, hid (Below.refl _ _)⟩
      case round =>
        obtain ⟨k, hk, rfl, rfl, rfl, HB⟩ := hrel
        have hb2 := below_step HB1.out HB.out HB1.out.size
        have hz2 := hb2.size
        have k0 : (0 : Int) ≤ (k : Int) := Int.natCast_nonneg _
        by_cases hlt : k < h.length
        · have k1 : (k : Int) < (h.length : Int) := by omega
          have kw : IntKind.i64.wrap ((k : Int) + 1) = (k : Int) + 1 := IntWalk.i64_in _ (by have := LH.out; omega)
          obtain ⟨b0, o0, z, old, new, vo, vn, rfl, c1, c2, c3, t1, t2, he⟩ := (SH.out.old HB.out).at' (i := k) hlt
          obtain ⟨oo, oc, rfl⟩ := t1.form
          obtain ⟨no, nc, rfl⟩ := t2.form
          rw [strCells_length] at c2 c3
          have hsn := lenS_snoc he
          have hsl := lenS_take_le h (k + 1)
          have hld := LD.out
          obtain ⟨D, hD⟩ : ∃ D, lenS (h.take k) = D := ⟨_, rfl⟩
          rw [hD] at hsn ⊢
          have hsn : lenS (h.take (k + 1)) = D + old.length + new.length := hsn
          have dw1 : IntKind.i64.wrap ((D : Int) + (old.length : Int)) = (D : Int) + (old.length : Int) := IntWalk.i64_in _ (by omega)
          have dw2 : IntKind.i64.wrap ((D : Int) + (old.length : Int) + (new.length : Int)) = (D : Int) + (old.length : Int) + (new.length : Int) := IntWalk.i64_in _ (by omega)
          have HSN := hid hsn
          have HE := hid he
          have hz := okOne_iff.1 (OK.out _ (List.mem_of_getElem? he))
          have z0 : 0 ≤ z := hz.1
          have z1 : z ≤ 2147483647 := hz.2.1
          clear hsn hsl hld hD he t1 t2 hz
          go_wp2_with fail
          go_quiet (fail)
          have c1' : (wr.drewN nq).cell? ⟨b0, o0 + k * 3, none⟩ = _ := c1
          have HB3 := hid (below_step HB.out (below_drewN wr nq) HB.out.size)
          clear c1 c2 c3 dw1 dw2
          generalize wr.drewN nq = wa at c1' HB3 ⊢
          by_cases hk0 : k = 0
          · subst hk0
            have g0 : ¬ (0 : Int) < ((0 : Nat) : Int) := by omega
            go_wp2_with fail
            go_quiet (fail)
            have HB4 := hid (below_step HB3.out (below_drewN wa nq) HB3.out.size)
            generalize wa.drewN nq = wq at HB4 ⊢
            go_wp2_with fail
            go_roundg (h.length - (0 + 1))
            case measure => omega
            case rel => exact ⟨0 + 1, by omega, rfl, rfl, by rw [HSN.out]; push_cast; rfl, HB4⟩
          · obtain ⟨j, hkj⟩ : ∃ j, k = j + 1 := ⟨k - 1, by omega⟩
            have g0 : (0 : Int) < (k : Int) := by omega
            have g1 : 0 < k := by omega
            have g2 : decide ((0 : Int) < (k : Int)) = true := decide_eq_true g0
            have g3 : decide (0 < k) = true := decide_eq_true g1
            obtain ⟨b', o', y, pold, pnew, pvo, pvn, eb, d1, d2, d3, t1, t2, he2⟩ := (SH.out.old HB3.out).at' (i := j) (by omega)
            cases eb
            obtain ⟨po, pc, rfl⟩ := t1.form
            rw [strCells_length] at d2
            have hgap : y + (pold.length : Int) < z := GAP.out j _ _ he2 (by rw [← hkj]; exact HE.out)
            have hy := okOne_iff.1 (OK.out _ (List.mem_of_getElem? he2))
            have y0 : 0 ≤ y := hy.1
            have y1 : y ≤ 2147483647 := hy.2.1
            obtain ⟨l1, _⟩ := FN.out _ (List.mem_of_getElem? he2)
            have l1 : pold.length ≤ 200 := l1
            have jw : IntKind.i64.wrap ((k : Int) - 1) = (j : Int) := (IntWalk.i64_in _ (by have := LH.out; omega)).trans (by omega)
            have j0 : (0 : Int) ≤ (j : Int) := Int.natCast_nonneg _
            have j1 : (j : Int) < (h.length : Int) := by omega
            have yw : IntKind.i64.wrap (y + (pold.length : Int)) = y + (pold.length : Int) := IntWalk.i64_in _ (by omega)
            have hlo : decide (z ≤ y + (pold.length : Int)) = false := decide_eq_false (by omega)
            clear d3 t1 t2 he2 hy hgap y0 y1 l1 z0 z1 hkj hk0
            go_wp2_with fail
            go_quiet (fail)
            have HB4 := hid (below_step HB3.out (below_drewN wa nq) HB3.out.size)
            generalize wa.drewN nq = wq at HB4 ⊢
            clear d1 d2 c1'
            go_wp2_with fail
            go_roundg (h.length - (k + 1))
            case measure => omega
            case rel => exact ⟨k + 1, by omega, rfl, rfl, by rw [HSN.out]; push_cast; rfl, HB4⟩
        · obtain rfl : k = h.length := by omega
          rw [List.take_length, Q2.out]
          have s1 := Sl.old S1.out HB.out
          have s2 := Sl.old S2.out HB.out
          go_wp2_with fail
          refine (awake_any wr).mono ?_
          rintro e x5 ⟨rfl, hb5⟩
          have s1 := Sl.old s1 hb5
          have s2 := Sl.old s2 hb5
          have hb5 := below_step hb2 hb5 hz2
          have hz5 := hb5.size
          clear hb2 hz2
          go_wp2_with fail
          have hD := RDistance_any _ _ a b x5 s1 s2 (by have := LA.out.1; omega) (by have := LA.out.2; omega)
          rw [HSC.out] at hD
          refine hD.mono ?_
          rintro e x6 ⟨rfl, hb6⟩
          clear hD
          have hb6 := below_step hb5 hb6 hz5
          go_wp2
          go_ret
          exact ⟨rfl, hb6⟩

theorem walk (va : Value) (a : List (List UInt8)) (vb : Value) (b : List (List UInt8)) (w : World) (ha : FactStrs w va a) (hb : FactStrs w vb b) :
    Calls Try.prog 7 #[va, vb] w fun e w' => e = .returned (.bool true) ∧ Below w.heap.size w w' := by
  by_cases h : 60 < a.length ∨ 60 < b.length
  · exact walk_big va vb a b w ha hb h
  · exact walk_at va vb a b w ha hb (by omega) (by omega)
end

theorem own : ownKnob Try.prog.godebug = none := by kernel_rfl
theorem laidOut : laidOutB Try.prog = true := by kernel_rfl

theorem contract (H : Type) (enc : TypeId × Value → H) (W : World) (base : Nat) (args : Array Value) (ds gs : List (DataW H)) (before : List MemPlace)
    (hval : ∀ (j : Nat) t v, Try.f7.params[j]? = some t → args[j]? = some v → Value.okWide Try.prog W .any base t v)
    (hW : DataW.Whole enc Try.prog Try.f7.params.toList Rows.hunkRunsSpec.vars false W args.toList ds gs before) :
    Calls Try.prog 7 args W fun e W' => ∃ v, e = .returned v ∧ Rows.hunkRunsSpec.post enc Try.prog Try.f7 false true false false W args v W' := by
  have hW' := hW
  obtain ⟨p, q, hA0, hV, rfl, hfz, hnd⟩ := hW
  have hA : DataW.TrodAll enc Try.prog W 0 (fun _ => true) true Try.f7.params.toList args.toList ds p := hA0
  rw [Try.params7] at hA hval
  obtain ⟨v0, vs0, d0, ds0, p0, q0, hargs, rfl, rfl, h0, r0⟩ := trodAll_cons hA
  obtain ⟨v1, vs1, d1, ds1, p1, q1, rfl, rfl, rfl, h1, r1⟩ := trodAll_cons r0
  obtain ⟨rfl, rfl, rfl⟩ := trodAll_nil r1
  obtain rfl : args = #[v0, v1] := by cases args; simp_all
  obtain ⟨rfl, rfl⟩ := trodVars_none hV
  have k0 := h0
  have lt0 : ∀ x ∈ p0, x.block < W.heap.size := by obtain ⟨m, hm⟩ := k0; exact DataW.trod_lt m _ _ _ hm
  obtain ⟨x0, l0, c0, rfl⟩ := okWide_slice Try.underlying23 (hval 0 23 v0 rfl rfl)
  obtain ⟨a0, w0, e0⟩ : ∃ a, FactStrs W (.slice x0 l0 c0) a ∧ ((d0 = .nil ∧ a = []) ∨ ∃ rest, d0 = .slice (dataStrs a) rest) := by
    obtain ⟨fuel, hf⟩ := h0
    obtain ⟨v', a, hcs, hs, hx⟩ := open_strL Try.underlying23 Try.underlying9 (by kernel_rfl) hf
    obtain rfl : v' = .slice x0 l0 c0 := by simpa [Value.cells] using hcs.symm
    exact ⟨a, hs, hx⟩
  clear e0
  have k1 := h1
  have lt1 : ∀ x ∈ p1, x.block < W.heap.size := by obtain ⟨m, hm⟩ := k1; exact DataW.trod_lt m _ _ _ hm
  obtain ⟨x1, l1, c1, rfl⟩ := okWide_slice Try.underlying23 (hval 1 23 v1 rfl rfl)
  obtain ⟨a1, w1, e1⟩ : ∃ a, FactStrs W (.slice x1 l1 c1) a ∧ ((d1 = .nil ∧ a = []) ∨ ∃ rest, d1 = .slice (dataStrs a) rest) := by
    obtain ⟨fuel, hf⟩ := h1
    obtain ⟨v', a, hcs, hs, hx⟩ := open_strL Try.underlying23 Try.underlying9 (by kernel_rfl) hf
    obtain rfl : v' = .slice x1 l1 c1 := by simpa [Value.cells] using hcs.symm
    exact ⟨a, hs, hx⟩
  clear e1
  clear hA0
  refine (walk (.slice x0 l0 c0) a0 (.slice x1 l1 c1) a1 W w0 w1).mono fun e W' ⟨he, bel⟩ => ?_
  subst he
  exact ⟨_, rfl, _, _, _, [], _, [], hW', trodAll_mk1 (shut_bool Try.underlying4 _), (trodAll_cons_mk (Below.trod laidOut (by kernel_rfl) (of_decide_eq_true (by kernel_rfl)) k0 bel lt0) (trodAll_cons_mk (Below.trod laidOut (by kernel_rfl) (of_decide_eq_true (by kernel_rfl)) k1 bel lt1) trodAll_mk0)), rfl, bel.frame _, fun h => by cases h⟩

set_option maxRecDepth 100000 in
theorem lifted (os : Os) (started : os.Started) (H : Type) (enc : TypeId × Value → H) :
    ReturnsInHanded {} Try.checked os 7 .any (Rows.hunkRunsSpec.pre6 enc Try.prog Try.f7 Rows.hunkRunsRow.domain false) (Rows.hunkRunsSpec.post enc Try.prog Try.f7 false true false false) := by
  refine returnsInHanded_of_change (C := Try.checked) own started (by kernel_rfl) Try.func7
    (ChangeSpec.witness6 (enc := enc) (C := Try.checked) false ⟨#[], #[.slice none 0 0, .slice none 0 0], []⟩ 8 (by kernel_rfl) (by kernel_rfl) (by kernel_rfl) (by kernel_rfl)) ?_
  intro W base args ds gs before hval hW _ _
  exact contract H enc W base args ds gs before hval hW

theorem over : Rows.hunkRunsRow.holds Try.pinned (OpenSpec.ofChange Rows.hunkRunsSpec) :=
  OpenClaim.holds_of_wide 7 Try.f7 rfl rfl rfl rfl rfl rfl rfl ⟨rfl, rfl, rfl, rfl, rfl⟩ rfl rfl rfl rfl rfl (by kernel_rfl) Try.func7 (by kernel_rfl)
    (of_decide_eq_true (by kernel_rfl)) (by unfold Func.isWrapper; first | (rw [if_pos (by decide +kernel)]; kernel_rfl) | (rw [if_neg (by decide +kernel)]; exact ⟨rfl, rfl⟩))
    (fun os started H enc _ => lifted os started H enc)

/-- The statement. -/
theorem proved : Rows.HunkRunsSaid :=
  over
#print axioms proved
end Go.Proofs.Ytbcmecclaofmgaa.hunkRuns
