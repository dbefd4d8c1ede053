/-
  ChunkTurned: with ours and theirs exchanged the chunks are the same, turned.
-/
import Derived.Test.YtgmopmlhggdefaaCkAw
import Derived.Test.YtgmopmlhggdefaaOpenS
import Derived.Deep.QuietTactic
import Derived.BigQuiet
import Derived.ProofKit
import Derived.OpenShut
namespace Go.Proofs.Ytgmopmlhggdefaa.chunkTurned
open Go.ChangeShapes Go.WideShapes Go.ChangeAt Go.RowKit

section
set_option maxRecDepth 100000
set_option maxHeartbeats 4000000
theorem walk (va : Value) (a : List (List UInt8)) (vb : Value) (b : List (List UInt8)) (vc : Value) (c : List (List UInt8)) (w : World) (ha : FactStrs w va a) (hb : FactStrs w vb b) (hc : FactStrs w vc c) :
    Calls Try.prog 6 #[va, vb, vc] w fun e w' => e = .returned (.bool true) ∧ Below w.heap.size w w' := by
  have HA := hid ha.1
  have HB := hid hb.1
  have HC := hid hc.1
  clear ha hb hc
  obtain ⟨ao, ac, rfl⟩ := HA.out.form
  obtain ⟨bo, bc, rfl⟩ := HB.out.form
  obtain ⟨co, cc, rfl⟩ := HC.out.form
  have hFEW := cfew_any _ _ _ a b c w HA.out HB.out HC.out
  rw [strCells_length] at HA HB HC hFEW ⊢
  rw [strCells_length, strCells_length] at hFEW ⊢
  by_cases hf : a.length ≤ 60 ∧ b.length ≤ 60 ∧ c.length ≤ 60
  · rw [decide_eq_true hf] at hFEW
    have HFEW := hid hFEW
    have HN := hid hf
    have HTU := hid (chunks_turn (a := a) (b := b) (c := c) (by omega) (by omega) (by omega))
    have HF := hid (chunks_few (a := a) (b := b) (c := c) (by omega) (by omega) (by omega))
    have HYL := hid (show (chunksS a c b).length = (chunksS a b c).length by rw [HTU.out, List.length_map])
    clear hf hFEW
    go_enter Try.func6, Try.ntmps6
    go_wp2_with fail
    refine HFEW.out.mono ?_
    rintro e w1 ⟨rfl, rfl⟩
    clear HFEW
    go_wp2_with fail
    refine (DOf_any _ _ _ a b c w HA.out HB.out HC.out (by have := HN.out.1; omega) (by have := HN.out.2.1; omega) (by have := HN.out.2.2; omega)).mono ?_
    rintro e x1 ⟨v1, rfl, s1, hb⟩
    have hB1 := hb
    have HA := hid (Sl.old HA.out hb)
    have HB := hid (Sl.old HB.out hb)
    have HC := hid (Sl.old HC.out hb)
    obtain ⟨o1, c1, rfl⟩ := s1.form
    have X := hid s1
    clear hb s1 
    go_wp2_with fail
    refine (DOf_any _ _ _ a c b x1 HA.out HC.out HB.out (by have := HN.out.1; omega) (by have := HN.out.2.2; omega) (by have := HN.out.2.1; omega)).mono ?_
    rintro e x2 ⟨v2, rfl, s2, hb⟩
    have hB2 := below_step hB1 hb hB1.size
    have HA := hid (Sl.old HA.out hb)
    have HB := hid (Sl.old HB.out hb)
    have HC := hid (Sl.old HC.out hb)
    have X := hid (X.out.old hb)
    obtain ⟨o2, c2, rfl⟩ := s2.form
    rw [HYL.out] at s2 ⊢
    have Y := hid s2
    clear hb s2 hB1
    go_wp2_with fail
    have hT := awake_any x2
    refine hT.mono ?_
    rintro e x3 ⟨rfl, hb⟩
    have hB3 := below_step hB2 hb hB2.size
    have HA := hid (Sl.old HA.out hb)
    have HB := hid (Sl.old HB.out hb)
    have HC := hid (Sl.old HC.out hb)
    have X := hid (X.out.old hb)
    have Y := hid (Y.out.old hb)
    clear hb hT hB2
    have hM := HF.out.2.2
    have hM2 := HN.out
    have hM3 : (chunksS a b c).length ≤ 180 := by omega
    clear hM hM2
    have lne : (((chunksS a b c).length : Int) != ((chunksS a b c).length : Int)) = false := by simp
    clear HA HB HC
    go_wp2_with fail
    go_loopg [9] (chunksS a b c).length (fun g i wx => ∃ k : Nat, k ≤ (chunksS a b c).length ∧ (chunksS a b c).length - k = g ∧ i = .int .i64 k ∧ Hid (Below x3.heap.size x3 wx))
    case atStart => exact ⟨0, Nat.zero_le _, rfl, rfl, hid (Below.refl _ _)⟩
    case round =>
      obtain ⟨k, hk, rfl, rfl, HBX⟩ := hrel
      have k0 : (0 : Int) ≤ (k : Int) := Int.natCast_nonneg _
      by_cases hlt : k < (chunksS a b c).length
      · have k1 : (k : Int) < ((chunksS a b c).length : Int) := by omega
        have kw : IntKind.i64.wrap ((k : Int) + 1) = (k : Int) + 1 := IntWalk.i64_in _ (by omega)
        obtain ⟨bx, ox, z, xb, xo, xt, ub, uo, ut, rfl, c1, c2, c3, c4, s1, s2, s3, he⟩ := (X.out.old HBX.out).at' (i := k) hlt
        obtain ⟨by', oy, z', yb, yo, yt, pb, po, pt, rfl, d1, d2, d3, d4, t1, t2, t3, he'⟩ := (Y.out.old HBX.out).at' (i := k) (by rw [HYL.out]; exact hlt)
        have hfl := HF.out.1.at he
        have hee : turnCk (z, xb, xo, xt) = (z', yb, yo, yt) := by
          rw [HTU.out, List.getElem?_map, he] at he'
          exact Option.some.inj he'
        simp only [turnCk, Prod.mk.injEq] at hee
        obtain ⟨hz, rfl, rfl, rfl⟩ := hee
        have P1 := hid (fun q => by
          have := SPlain_any _ _ xb xb (wr.drewN q) (Sl.old s1 (below_drewN wr q)) (Sl.old t1 (below_drewN wr q)) (by unfold maxLen; omega)
          rw [beq_self_eq_true] at this
          exact this)
        have P2 := hid (fun q => by
          have := SPlain_any _ _ xo xo (wr.drewN q) (Sl.old s2 (below_drewN wr q)) (Sl.old t3 (below_drewN wr q)) (by unfold maxLen; omega)
          rw [beq_self_eq_true] at this
          exact this)
        have P3 := hid (fun q => by
          have := SPlain_any _ _ xt xt (wr.drewN q) (Sl.old s3 (below_drewN wr q)) (Sl.old t2 (below_drewN wr q)) (by unfold maxLen; omega)
          rw [beq_self_eq_true] at this
          exact this)
        clear s1 s2 s3 t1 t2 t3 he he' hfl
        have zz : (z' != z') = false := by simp
        by_cases h2 : z = 2
        · subst h2
          rw [if_pos rfl] at hz
          subst hz
          go_wp2_with fail
          go_quiet ((first
            | (go_at_call 18; with_reducible exact Calls.quiet_of (P1.out _))
            | (go_at_call 18; with_reducible exact Calls.quiet_of (P2.out _))
            | (go_at_call 18; with_reducible exact Calls.quiet_of (P3.out _))))
          go_wp2_with fail
          go_roundg ((chunksS a b c).length - (k + 1))
          case measure => omega
          case rel => exact ⟨k + 1, by omega, rfl, rfl, hid (below_step HBX.out (below_drewN _ _) HBX.out.size)⟩
        · rw [if_neg h2] at hz
          by_cases h3 : z = 3
          · subst h3
            rw [if_pos rfl] at hz
            subst hz
            go_wp2_with fail
            go_quiet ((first
              | (go_at_call 18; with_reducible exact Calls.quiet_of (P1.out _))
              | (go_at_call 18; with_reducible exact Calls.quiet_of (P2.out _))
              | (go_at_call 18; with_reducible exact Calls.quiet_of (P3.out _))))
            go_wp2_with fail
            go_roundg ((chunksS a b c).length - (k + 1))
            case measure => omega
            case rel => exact ⟨k + 1, by omega, rfl, rfl, hid (below_step HBX.out (below_drewN _ _) HBX.out.size)⟩
          · rw [if_neg h3] at hz
            subst hz
            have e2 : (z == 2) = false := by simpa using h2
            have e3 : (z == 3) = false := by simpa using h3
            clear h2 h3
            go_wp2_with fail
            go_quiet ((first
              | (go_at_call 18; with_reducible exact Calls.quiet_of (P1.out _))
              | (go_at_call 18; with_reducible exact Calls.quiet_of (P2.out _))
              | (go_at_call 18; with_reducible exact Calls.quiet_of (P3.out _))))
            go_wp2_with fail
            go_roundg ((chunksS a b c).length - (k + 1))
            case measure => omega
            case rel => exact ⟨k + 1, by omega, rfl, rfl, hid (below_step HBX.out (below_drewN _ _) HBX.out.size)⟩
      · obtain rfl : k = (chunksS a b c).length := by omega
        have hneg : ¬ ((chunksS a b c).length : Int) < ((chunksS a b c).length : Int) := by omega
        go_wp2_with fail
        go_ret
        exact ⟨rfl, below_step hB3 HBX.out hB3.size⟩
  · rw [decide_eq_false hf] at hFEW
    have HFEW := hid hFEW
    clear hf hFEW
    go_enter Try.func6, Try.ntmps6
    go_wp2_with fail
    refine HFEW.out.mono ?_
    rintro e w1 ⟨rfl, rfl⟩
    go_wp2_with fail
    refine (awake_any w).mono ?_
    rintro e w2 ⟨rfl, hb⟩
    go_wp2_with fail
    go_ret
    exact ⟨rfl, hb⟩
end

theorem own : ownKnob Try.prog.godebug = none := by kernel_rfl
theorem laidOut : laidOutB Try.prog = true := by kernel_rfl

theorem contract (H : Type) (enc : TypeId × Value → H) (W : World) (base : Nat) (args : Array Value) (ds gs : List (DataW H)) (before : List MemPlace)
    (hval : ∀ (j : Nat) t v, Try.f6.params[j]? = some t → args[j]? = some v → Value.okWide Try.prog W .any base t v)
    (hW : DataW.Whole enc Try.prog Try.f6.params.toList Rows.chunkTurnedSpec.vars false W args.toList ds gs before) :
    Calls Try.prog 6 args W fun e W' => ∃ v, e = .returned v ∧ Rows.chunkTurnedSpec.post enc Try.prog Try.f6 false true false false W args v W' := by
  have hW' := hW
  obtain ⟨p, q, hA0, hV, rfl, hfz, hnd⟩ := hW
  have hA : DataW.TrodAll enc Try.prog W 0 (fun _ => true) true Try.f6.params.toList args.toList ds p := hA0
  rw [Try.params6] at hA hval
  obtain ⟨v0, vs0, d0, ds0, p0, q0, hargs, rfl, rfl, h0, r0⟩ := trodAll_cons hA
  obtain ⟨v1, vs1, d1, ds1, p1, q1, rfl, rfl, rfl, h1, r1⟩ := trodAll_cons r0
  obtain ⟨v2, vs2, d2, ds2, p2, q2, rfl, rfl, rfl, h2, r2⟩ := trodAll_cons r1
  obtain ⟨rfl, rfl, rfl⟩ := trodAll_nil r2
  obtain rfl : args = #[v0, v1, v2] := by cases args; simp_all
  obtain ⟨rfl, rfl⟩ := trodVars_none hV
  have k0 := h0
  have lt0 : ∀ x ∈ p0, x.block < W.heap.size := by obtain ⟨m, hm⟩ := k0; exact DataW.trod_lt m _ _ _ hm
  obtain ⟨x0, l0, c0, rfl⟩ := okWide_slice Try.underlying22 (hval 0 22 v0 rfl rfl)
  obtain ⟨a0, w0, e0⟩ : ∃ a, FactStrs W (.slice x0 l0 c0) a ∧ ((d0 = .nil ∧ a = []) ∨ ∃ rest, d0 = .slice (dataStrs a) rest) := by
    obtain ⟨fuel, hf⟩ := h0
    obtain ⟨v', a, hcs, hs, hx⟩ := open_strL Try.underlying22 Try.underlying9 (by kernel_rfl) hf
    obtain rfl : v' = .slice x0 l0 c0 := by simpa [Value.cells] using hcs.symm
    exact ⟨a, hs, hx⟩
  clear e0
  have k1 := h1
  have lt1 : ∀ x ∈ p1, x.block < W.heap.size := by obtain ⟨m, hm⟩ := k1; exact DataW.trod_lt m _ _ _ hm
  obtain ⟨x1, l1, c1, rfl⟩ := okWide_slice Try.underlying22 (hval 1 22 v1 rfl rfl)
  obtain ⟨a1, w1, e1⟩ : ∃ a, FactStrs W (.slice x1 l1 c1) a ∧ ((d1 = .nil ∧ a = []) ∨ ∃ rest, d1 = .slice (dataStrs a) rest) := by
    obtain ⟨fuel, hf⟩ := h1
    obtain ⟨v', a, hcs, hs, hx⟩ := open_strL Try.underlying22 Try.underlying9 (by kernel_rfl) hf
    obtain rfl : v' = .slice x1 l1 c1 := by simpa [Value.cells] using hcs.symm
    exact ⟨a, hs, hx⟩
  clear e1
  have k2 := h2
  have lt2 : ∀ x ∈ p2, x.block < W.heap.size := by obtain ⟨m, hm⟩ := k2; exact DataW.trod_lt m _ _ _ hm
  obtain ⟨x2, l2, c2, rfl⟩ := okWide_slice Try.underlying22 (hval 2 22 v2 rfl rfl)
  obtain ⟨a2, w2, e2⟩ : ∃ a, FactStrs W (.slice x2 l2 c2) a ∧ ((d2 = .nil ∧ a = []) ∨ ∃ rest, d2 = .slice (dataStrs a) rest) := by
    obtain ⟨fuel, hf⟩ := h2
    obtain ⟨v', a, hcs, hs, hx⟩ := open_strL Try.underlying22 Try.underlying9 (by kernel_rfl) hf
    obtain rfl : v' = .slice x2 l2 c2 := by simpa [Value.cells] using hcs.symm
    exact ⟨a, hs, hx⟩
  clear e2
  clear hA0
  refine (walk (.slice x0 l0 c0) a0 (.slice x1 l1 c1) a1 (.slice x2 l2 c2) a2 W w0 w1 w2).mono fun e W' ⟨he, bel⟩ => ?_
  subst he
  exact ⟨_, rfl, _, _, _, [], _, [], hW', trodAll_mk1 (shut_bool Try.underlying4 _), (trodAll_cons_mk (Below.trod laidOut (by kernel_rfl) (of_decide_eq_true (by kernel_rfl)) k0 bel lt0) (trodAll_cons_mk (Below.trod laidOut (by kernel_rfl) (of_decide_eq_true (by kernel_rfl)) k1 bel lt1) (trodAll_cons_mk (Below.trod laidOut (by kernel_rfl) (of_decide_eq_true (by kernel_rfl)) k2 bel lt2) trodAll_mk0))), rfl, bel.frame _, fun h => by cases h⟩

set_option maxRecDepth 100000 in
theorem lifted (os : Os) (started : os.Started) (H : Type) (enc : TypeId × Value → H) :
    ReturnsInHanded {} Try.checked os 6 .any (Rows.chunkTurnedSpec.pre6 enc Try.prog Try.f6 Rows.chunkTurnedRow.domain false) (Rows.chunkTurnedSpec.post enc Try.prog Try.f6 false true false false) := by
  refine returnsInHanded_of_change (C := Try.checked) own started (by kernel_rfl) Try.func6
    (ChangeSpec.witness6 (enc := enc) (C := Try.checked) false ⟨#[], #[.slice none 0 0, .slice none 0 0, .slice none 0 0], []⟩ 8 (by kernel_rfl) (by kernel_rfl) (by kernel_rfl) (by kernel_rfl)) ?_
  intro W base args ds gs before hval hW _ _
  exact contract H enc W base args ds gs before hval hW

theorem over : Rows.chunkTurnedRow.holds Try.pinned (OpenSpec.ofChange Rows.chunkTurnedSpec) :=
  OpenClaim.holds_of_wide 6 Try.f6 rfl rfl rfl rfl rfl rfl rfl ⟨rfl, rfl, rfl, rfl, rfl⟩ rfl rfl rfl rfl rfl (by kernel_rfl) Try.func6 (by kernel_rfl)
    (of_decide_eq_true (by kernel_rfl)) (by unfold Func.isWrapper; first | (rw [if_pos (by decide +kernel)]; kernel_rfl) | (rw [if_neg (by decide +kernel)]; exact ⟨rfl, rfl⟩))
    (fun os started H enc _ => lifted os started H enc)

/-- The statement. -/
theorem proved : Rows.ChunkTurnedSaid :=
  over
#print axioms proved
