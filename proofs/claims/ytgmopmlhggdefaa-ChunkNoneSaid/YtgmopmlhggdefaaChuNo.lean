/-
  ChunkNone: of three that have nothing firm there is one chunk, or none.
-/
import Derived.Test.YtgmopmlhggdefaaCkAw
import Derived.Test.YtgmopmlhggdefaaInS
import Derived.Test.YtgmopmlhggdefaaOpenS
import Derived.ProofKit
import Derived.OpenShut
namespace Go.Proofs.Ytgmopmlhggdefaa.chunkNone
open Go.ChangeShapes Go.WideShapes Go.ChangeAt Go.RowKit

section
set_option maxRecDepth 100000
set_option maxHeartbeats 4000000
theorem walk (va : Value) (a : List (List UInt8)) (vb : Value) (b : List (List UInt8)) (vc : Value) (c : List (List UInt8)) (w : World) (ha : FactStrs w va a) (hb : FactStrs w vb b) (hc : FactStrs w vc c) :
    Calls Try.prog 8 #[va, vb, vc] w fun e w' => e = .returned (.bool true) ∧ Below w.heap.size w w' := by
  have HA := hid ha.1
  have HB := hid hb.1
  have HC := hid hc.1
  clear ha hb hc
  obtain ⟨ao, ac, rfl⟩ := HA.out.form
  obtain ⟨bo, bc, rfl⟩ := HB.out.form
  obtain ⟨co, cc, rfl⟩ := HC.out.form
  have hFEW := cfew_any _ _ _ a b c w HA.out HB.out HC.out
  rw [strCells_length] at HA HB HC hFEW ⊢
  rw [strCells_length, strCells_length] at hFEW ⊢
  by_cases hf : a.length ≤ 60 ∧ b.length ≤ 60 ∧ c.length ≤ 60
  · rw [decide_eq_true hf] at hFEW
    have HFEW := hid hFEW
    have HN := hid hf
    have hal := hf.1
    clear hf hFEW
    go_enter Try.func8, Try.ntmps8
    go_wp2_with fail
    refine HFEW.out.mono ?_
    rintro e w1 ⟨rfl, rfl⟩
    clear HFEW
    go_wp2_with fail
    go_loopg [7] a.length (fun g i wx => ∃ k : Nat, k ≤ a.length ∧ a.length - k = g ∧ i = .int .i64 k ∧ Hid (∀ x ∈ a.take k, x ∉ b) ∧ Hid (Below w.heap.size w wx))
    case atStart => exact ⟨0, Nat.zero_le _, rfl, rfl, hid (by simp), hid (Below.refl _ _)⟩
    case round =>
      obtain ⟨k, hk, rfl, rfl, HX, HBW⟩ := hrel
      have k0 : (0 : Int) ≤ (k : Int) := Int.natCast_nonneg _
      by_cases hlt : k < a.length
      · have k1 : (k : Int) < (a.length : Int) := by omega
        have kw : IntKind.i64.wrap ((k : Int) + 1) = (k : Int) + 1 := IntWalk.i64_in _ (by omega)
        obtain ⟨a1, x, rfl, hcx, hx⟩ := (Sl.old HA.out HBW.out).strAt' (i := k) hlt
        have hI1 := SIn_any (.slice bo b.length bc) b x wr (Sl.old HB.out HBW.out) (by have := HN.out.2.1; omega)
        by_cases m1 : x ∈ b
        · rw [decide_eq_true m1] at hI1
          have HI1 := hid hI1
          clear hx m1 hI1
          go_wp2_with (go_at_call 22; refine HI1.out.mono ?_; rintro e w1 ⟨rfl, q1, rfl⟩)
          have hB1 : Below w.heap.size w (wr.drewN q1) := below_step HBW.out (below_drewN _ _) HBW.out.size
          generalize wr.drewN q1 = wy at hB1 ⊢
          go_wp2_with (go_at_call 10; refine (awake_any _).mono ?_; rintro e w2 ⟨rfl, hb⟩)
          go_ret
          exact ⟨rfl, below_step hB1 hb hB1.size⟩
        · rw [decide_eq_false m1] at hI1
          have HI1 := hid hI1
          have HX2 := hid (show ∀ y ∈ a.take (k + 1), y ∉ b from fun y hy => by
            rw [take_snoc hx] at hy
            rcases List.mem_append.1 hy with hy | hy
            · exact HX.out y hy
            · rcases List.mem_singleton.1 hy with rfl
              exact m1)
          clear hI1
          by_cases m2 : x ∈ c
          · have HI2 := hid (fun q => by
              have := SIn_any (.slice co c.length cc) c x (wr.drewN q) (Sl.old HC.out (below_step HBW.out (below_drewN wr q) HBW.out.size)) (by have := HN.out.2.2; omega)
              rw [decide_eq_true m2] at this
              exact this)
            clear hx m1 m2
            have hcx2 : ∀ q, (wr.drewN q).cell? (a1.add k) = _ := fun q => hcx
            go_wp2_with (go_at_call 22; first | (with_reducible refine HI1.out.mono ?_; rintro e w1 ⟨rfl, q1, rfl⟩) | (with_reducible refine (HI2.out q1).mono ?_; rintro e w1 ⟨rfl, q2, rfl⟩))
            obtain ⟨q, hq⟩ : ∃ q, q1 + q2 = q := ⟨_, rfl⟩
            have hB1 : Below w.heap.size w (wr.drewN q) := below_step HBW.out (below_drewN _ _) HBW.out.size
            first | rw [hq] | skip
            first | (generalize wr.drewN q = wy at hB1 ⊢) | skip
            go_wp2_with (go_at_call 10; refine (awake_any _).mono ?_; rintro e w2 ⟨rfl, hb⟩)
            go_ret
            exact ⟨rfl, below_step hB1 hb hB1.size⟩
          · have HI2 := hid (fun q => by
              have := SIn_any (.slice co c.length cc) c x (wr.drewN q) (Sl.old HC.out (below_step HBW.out (below_drewN wr q) HBW.out.size)) (by have := HN.out.2.2; omega)
              rw [decide_eq_false m2] at this
              exact this)
            clear hx m1 m2
            have hcx2 : ∀ q, (wr.drewN q).cell? (a1.add k) = _ := fun q => hcx
            go_wp2_with (go_at_call 22; first | (with_reducible refine HI1.out.mono ?_; rintro e w1 ⟨rfl, q1, rfl⟩) | (with_reducible refine (HI2.out q1).mono ?_; rintro e w1 ⟨rfl, q2, rfl⟩))
            go_wp2_with fail
            go_roundg (a.length - (k + 1))
            case measure => omega
            case rel => exact ⟨k + 1, by omega, rfl, rfl, HX2, hid (below_step HBW.out (below_drewN _ _) HBW.out.size)⟩
      · obtain rfl : k = a.length := by omega
        have hneg : ¬ (a.length : Int) < (a.length : Int) := by omega
        rw [List.take_length] at HX
        have HA := hid (Sl.old HA.out HBW.out)
        have HB := hid (Sl.old HB.out HBW.out)
        have HC := hid (Sl.old HC.out HBW.out)
        have hOF := DOf_any _ _ _ a b c wr HA.out HB.out HC.out (by omega) (by have := HN.out.2.1; omega) (by have := HN.out.2.2; omega)
        have hNO := chunks_none (a := a) (b := b) (c := c) (by omega) (by have := HN.out.2.1; omega) (by have := HN.out.2.2; omega) HX.out
        have hB0 := HBW.out
        have b0 : (0 : Int) ≤ (b.length : Int) := Int.natCast_nonneg _
        have c0 : (0 : Int) ≤ (c.length : Int) := Int.natCast_nonneg _
        have sw1 : IntKind.i64.wrap ((a.length : Int) + (b.length : Int)) = (a.length : Int) + (b.length : Int) := IntWalk.i64_in _ (by have := HN.out; omega)
        have sw2 : IntKind.i64.wrap ((a.length : Int) + (b.length : Int) + (c.length : Int)) = (a.length : Int) + (b.length : Int) + (c.length : Int) := IntWalk.i64_in _ (by have := HN.out; omega)
        by_cases h0 : a = [] ∧ b = [] ∧ c = []
        · rw [hNO, if_pos h0] at hOF
          have d0 : ((a.length : Int) + (b.length : Int) + (c.length : Int) == 0) = true := by obtain ⟨rfl, rfl, rfl⟩ := h0; rfl
          have HOF := hid hOF
          clear hOF hNO h0
          go_wp2_with fail
          refine HOF.out.mono ?_
          rintro e w2 ⟨u, rfl, hu, hb⟩
          have hB2 := below_step hB0 hb hB0.size
          obtain ⟨uo, uc, rfl⟩ := hu.form
          rw [List.length_nil]
          clear hu
          go_wp2_with fail
          refine (awake_any w2).mono ?_
          rintro e w3 ⟨rfl, hb3⟩
          go_wp2_with fail
          go_ret
          exact ⟨rfl, below_step hB2 hb3 hB2.size⟩
        · rw [hNO, if_neg h0] at hOF
          have d0 : ((a.length : Int) + (b.length : Int) + (c.length : Int) == 0) = false := by
            rw [beq_eq_false_iff_ne]
            intro e
            exact h0 ⟨List.eq_nil_of_length_eq_zero (by omega), List.eq_nil_of_length_eq_zero (by omega), List.eq_nil_of_length_eq_zero (by omega)⟩
          have HOF := hid hOF
          clear hOF hNO h0
          go_wp2_with fail
          refine HOF.out.mono ?_
          rintro e w2 ⟨u, rfl, hu, hb⟩
          have hB2 := below_step hB0 hb hB0.size
          have HA := hid (Sl.old HA.out hb)
          have HB := hid (Sl.old HB.out hb)
          have HC := hid (Sl.old HC.out hb)
          obtain ⟨uo, uc, rfl⟩ := hu.form
          rw [List.length_singleton] at hu ⊢
          have HU := hid hu
          clear hu hb
          go_wp2_with fail
          refine (awake_any w2).mono ?_
          rintro e w3 ⟨rfl, hb⟩
          have hB3 := below_step hB2 hb hB2.size
          have HA := hid (Sl.old HA.out hb)
          have HB := hid (Sl.old HB.out hb)
          have HC := hid (Sl.old HC.out hb)
          obtain ⟨p, o, ub, uo', ut, rfl, q0, q1, q2, q3, s1, s2, s3⟩ := (HU.out.old hb).c0
          have P1 := hid (by
            have := SPlain_any _ _ a a w3 s1 HA.out (by unfold maxLen; omega)
            rw [beq_self_eq_true] at this
            exact this)
          have P2 := hid (fun q => by
            have := SPlain_any _ _ b b (w3.drewN q) (Sl.old s2 (below_drewN w3 q)) (Sl.old HB.out (below_drewN w3 q)) (by have := HN.out.2.1; unfold maxLen; omega)
            rw [beq_self_eq_true] at this
            exact this)
          have P3 := hid (fun q => by
            have := SPlain_any _ _ c c (w3.drewN q) (Sl.old s3 (below_drewN w3 q)) (Sl.old HC.out (below_drewN w3 q)) (by have := HN.out.2.2; unfold maxLen; omega)
            rw [beq_self_eq_true] at this
            exact this)
          clear s1 s2 s3 hb
          go_wp2_with fail
          refine P1.out.mono ?_
          rintro e w4 ⟨rfl, r1, rfl⟩
          go_wp2_with fail
          refine (P2.out _).mono ?_
          rintro e w4 ⟨rfl, r2, rfl⟩
          go_wp2_with fail
          refine (P3.out _).mono ?_
          rintro e w4 ⟨rfl, r3, rfl⟩
          go_wp2_with fail
          go_ret
          exact ⟨rfl, below_step hB3 (below_drewN _ _) hB3.size⟩
  · rw [decide_eq_false hf] at hFEW
    have HFEW := hid hFEW
    clear hf hFEW
    go_enter Try.func8, Try.ntmps8
    go_wp2_with fail
    refine HFEW.out.mono ?_
    rintro e w1 ⟨rfl, rfl⟩
    go_wp2_with fail
    refine (awake_any w).mono ?_
    rintro e w2 ⟨rfl, hb⟩
    go_wp2_with fail
    go_ret
    exact ⟨rfl, hb⟩
end

theorem own : ownKnob Try.prog.godebug = none := by kernel_rfl
theorem laidOut : laidOutB Try.prog = true := by kernel_rfl

theorem contract (H : Type) (enc : TypeId × Value → H) (W : World) (base : Nat) (args : Array Value) (ds gs : List (DataW H)) (before : List MemPlace)
    (hval : ∀ (j : Nat) t v, Try.f8.params[j]? = some t → args[j]? = some v → Value.okWide Try.prog W .any base t v)
    (hW : DataW.Whole enc Try.prog Try.f8.params.toList Rows.chunkNoneSpec.vars false W args.toList ds gs before) :
    Calls Try.prog 8 args W fun e W' => ∃ v, e = .returned v ∧ Rows.chunkNoneSpec.post enc Try.prog Try.f8 false true false false W args v W' := by
  have hW' := hW
  obtain ⟨p, q, hA0, hV, rfl, hfz, hnd⟩ := hW
  have hA : DataW.TrodAll enc Try.prog W 0 (fun _ => true) true Try.f8.params.toList args.toList ds p := hA0
  rw [Try.params8] at hA hval
  obtain ⟨v0, vs0, d0, ds0, p0, q0, hargs, rfl, rfl, h0, r0⟩ := trodAll_cons hA
  obtain ⟨v1, vs1, d1, ds1, p1, q1, rfl, rfl, rfl, h1, r1⟩ := trodAll_cons r0
  obtain ⟨v2, vs2, d2, ds2, p2, q2, rfl, rfl, rfl, h2, r2⟩ := trodAll_cons r1
  obtain ⟨rfl, rfl, rfl⟩ := trodAll_nil r2
  obtain rfl : args = #[v0, v1, v2] := by cases args; simp_all
  obtain ⟨rfl, rfl⟩ := trodVars_none hV
  have k0 := h0
  have lt0 : ∀ x ∈ p0, x.block < W.heap.size := by obtain ⟨m, hm⟩ := k0; exact DataW.trod_lt m _ _ _ hm
  obtain ⟨x0, l0, c0, rfl⟩ := okWide_slice Try.underlying22 (hval 0 22 v0 rfl rfl)
  obtain ⟨a0, w0, e0⟩ : ∃ a, FactStrs W (.slice x0 l0 c0) a ∧ ((d0 = .nil ∧ a = []) ∨ ∃ rest, d0 = .slice (dataStrs a) rest) := by
    obtain ⟨fuel, hf⟩ := h0
    obtain ⟨v', a, hcs, hs, hx⟩ := open_strL Try.underlying22 Try.underlying9 (by kernel_rfl) hf
    obtain rfl : v' = .slice x0 l0 c0 := by simpa [Value.cells] using hcs.symm
    exact ⟨a, hs, hx⟩
  clear e0
  have k1 := h1
  have lt1 : ∀ x ∈ p1, x.block < W.heap.size := by obtain ⟨m, hm⟩ := k1; exact DataW.trod_lt m _ _ _ hm
  obtain ⟨x1, l1, c1, rfl⟩ := okWide_slice Try.underlying22 (hval 1 22 v1 rfl rfl)
  obtain ⟨a1, w1, e1⟩ : ∃ a, FactStrs W (.slice x1 l1 c1) a ∧ ((d1 = .nil ∧ a = []) ∨ ∃ rest, d1 = .slice (dataStrs a) rest) := by
    obtain ⟨fuel, hf⟩ := h1
    obtain ⟨v', a, hcs, hs, hx⟩ := open_strL Try.underlying22 Try.underlying9 (by kernel_rfl) hf
    obtain rfl : v' = .slice x1 l1 c1 := by simpa [Value.cells] using hcs.symm
    exact ⟨a, hs, hx⟩
  clear e1
  have k2 := h2
  have lt2 : ∀ x ∈ p2, x.block < W.heap.size := by obtain ⟨m, hm⟩ := k2; exact DataW.trod_lt m _ _ _ hm
  obtain ⟨x2, l2, c2, rfl⟩ := okWide_slice Try.underlying22 (hval 2 22 v2 rfl rfl)
  obtain ⟨a2, w2, e2⟩ : ∃ a, FactStrs W (.slice x2 l2 c2) a ∧ ((d2 = .nil ∧ a = []) ∨ ∃ rest, d2 = .slice (dataStrs a) rest) := by
    obtain ⟨fuel, hf⟩ := h2
    obtain ⟨v', a, hcs, hs, hx⟩ := open_strL Try.underlying22 Try.underlying9 (by kernel_rfl) hf
    obtain rfl : v' = .slice x2 l2 c2 := by simpa [Value.cells] using hcs.symm
    exact ⟨a, hs, hx⟩
  clear e2
  clear hA0
  refine (walk (.slice x0 l0 c0) a0 (.slice x1 l1 c1) a1 (.slice x2 l2 c2) a2 W w0 w1 w2).mono fun e W' ⟨he, bel⟩ => ?_
  subst he
  exact ⟨_, rfl, _, _, _, [], _, [], hW', trodAll_mk1 (shut_bool Try.underlying4 _), (trodAll_cons_mk (Below.trod laidOut (by kernel_rfl) (of_decide_eq_true (by kernel_rfl)) k0 bel lt0) (trodAll_cons_mk (Below.trod laidOut (by kernel_rfl) (of_decide_eq_true (by kernel_rfl)) k1 bel lt1) (trodAll_cons_mk (Below.trod laidOut (by kernel_rfl) (of_decide_eq_true (by kernel_rfl)) k2 bel lt2) trodAll_mk0))), rfl, bel.frame _, fun h => by cases h⟩

set_option maxRecDepth 100000 in
theorem lifted (os : Os) (started : os.Started) (H : Type) (enc : TypeId × Value → H) :
    ReturnsInHanded {} Try.checked os 8 .any (Rows.chunkNoneSpec.pre6 enc Try.prog Try.f8 Rows.chunkNoneRow.domain false) (Rows.chunkNoneSpec.post enc Try.prog Try.f8 false true false false) := by
  refine returnsInHanded_of_change (C := Try.checked) own started (by kernel_rfl) Try.func8
    (ChangeSpec.witness6 (enc := enc) (C := Try.checked) false ⟨#[], #[.slice none 0 0, .slice none 0 0, .slice none 0 0], []⟩ 8 (by kernel_rfl) (by kernel_rfl) (by kernel_rfl) (by kernel_rfl)) ?_
  intro W base args ds gs before hval hW _ _
  exact contract H enc W base args ds gs before hval hW

theorem over : Rows.chunkNoneRow.holds Try.pinned (OpenSpec.ofChange Rows.chunkNoneSpec) :=
  OpenClaim.holds_of_wide 8 Try.f8 rfl rfl rfl rfl rfl rfl rfl ⟨rfl, rfl, rfl, rfl, rfl⟩ rfl rfl rfl rfl rfl (by kernel_rfl) Try.func8 (by kernel_rfl)
    (of_decide_eq_true (by kernel_rfl)) (by unfold Func.isWrapper; first | (rw [if_pos (by decide +kernel)]; kernel_rfl) | (rw [if_neg (by decide +kernel)]; exact ⟨rfl, rfl⟩))
    (fun os started H enc _ => lifted os started H enc)

/-- The statement. -/
theorem proved : Rows.ChunkNoneSaid :=
  over
#print axioms proved
