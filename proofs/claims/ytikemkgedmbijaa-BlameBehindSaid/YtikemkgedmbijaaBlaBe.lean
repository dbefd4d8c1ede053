/-
  BlameBehind: lines that a version puts behind all others come from it; those ahead keep what they had.
-/
import Derived.Test.YtikemkgedmbijaaBlAw
import Derived.Test.YtikemkgedmbijaaInS
import Derived.Test.YtikemkgedmbijaaOpenS
import Derived.Deep.LoopGhost
import Derived.ProofKit
import Derived.OpenShut
namespace Go.Proofs.Ytikemkgedmbijaa.blameBehind
open Go.ChangeShapes Go.WideShapes Go.ChangeAt Go.RowKit

section
set_option maxRecDepth 100000
set_option maxHeartbeats 4000000
theorem walk (vl : Value) (ls : List (List (List UInt8))) (vx : Value) (xs : List (List UInt8)) (w : World) (hl : FactLL w vl ls) (hs : FactStrs w vx xs) :
    Calls Try.prog 5 #[vl, vx] w fun e w' => e = .returned (.bool true) ∧ Below w.heap.size w w' := by
  have HV := hid hl.1
  have HS := hid hs.1
  have hlm := hl.2.1
  have hsm := hs.2.1
  unfold maxLen at hlm hsm
  clear hl hs
  obtain ⟨la, lc, rfl⟩ := HV.out.form
  obtain ⟨sa, sc, rfl⟩ := HS.out.form
  rw [strCells_length] at HS ⊢
  have hn0 : (0 : Int) ≤ (ls.length : Int) := Int.natCast_nonneg _
  have hm0 : (0 : Int) ≤ (xs.length : Int) := Int.natCast_nonneg _
  rcases (show ls.length = 0 ∨ (0 < ls.length ∧ 8 < ls.length) ∨ (0 < ls.length ∧ ¬ 8 < ls.length ∧ 20 < xs.length) ∨ (0 < ls.length ∧ ¬ 8 < ls.length ∧ ¬ 20 < xs.length) by omega) with h1 | ⟨h0, h1⟩ | ⟨h0, h1, h2⟩ | ⟨h0, h1, h2⟩
  · have d0 : ((ls.length : Int) == 0) = true := by rw [beq_iff_eq]; omega
    go_enter Try.func5, Try.ntmps5
    go_wp2_with (go_at_call 6; refine (awake_any _).mono ?_; rintro e w1 ⟨rfl, hb⟩)
    go_ret
    exact ⟨rfl, hb⟩
  · have d0 : ((ls.length : Int) == 0) = false := by rw [beq_eq_false_iff_ne]; omega
    have d1 : decide (8 < (ls.length : Int)) = true := decide_eq_true (by omega)
    go_enter Try.func5, Try.ntmps5
    go_wp2_with (go_at_call 6; refine (awake_any _).mono ?_; rintro e w1 ⟨rfl, hb⟩)
    go_ret
    exact ⟨rfl, hb⟩
  · have d0 : ((ls.length : Int) == 0) = false := by rw [beq_eq_false_iff_ne]; omega
    have d1 : decide (8 < (ls.length : Int)) = false := decide_eq_false (by omega)
    have d2 : decide (20 < (xs.length : Int)) = true := decide_eq_true (by omega)
    go_enter Try.func5, Try.ntmps5
    go_wp2_with (go_at_call 6; refine (awake_any _).mono ?_; rintro e w1 ⟨rfl, hb⟩)
    go_ret
    exact ⟨rfl, hb⟩
  have d0 : ((ls.length : Int) == 0) = false := by rw [beq_eq_false_iff_ne]; omega
  have d1 : decide (8 < (ls.length : Int)) = false := decide_eq_false (by omega)
  have d2 : decide (20 < (xs.length : Int)) = false := decide_eq_false (by omega)
  have hne : ls ≠ [] := by rintro rfl; cases h0
  obtain ⟨n, hn⟩ : ∃ n, ls.length - 1 = n := ⟨_, rfl⟩
  have nw : IntKind.i64.wrap ((ls.length : Int) - 1) = (n : Int) := (IntWalk.i64_in _ (by omega)).trans (by omega)
  have nn0 : (0 : Int) ≤ (n : Int) := Int.natCast_nonneg _
  have nn1 : (n : Int) < (ls.length : Int) := by omega
  obtain ⟨b, o, last, tao, tac, rfl, ct, st, et⟩ := HV.out.at' (i := n) (by omega)
  have HT := hid (show ls.getLast hne = last by
    obtain ⟨q, e⟩ := List.getElem?_eq_some_iff.1 et
    rw [List.getLast_eq_getElem]
    simp only [hn]
    exact e)
  have HST := hid st
  clear et st
  go_enter Try.func5, Try.ntmps5
  go_wp2_with fail
  go_loopg [5] ls.length (fun g i wx => ∃ k : Nat, k ≤ ls.length ∧ ls.length - k = g ∧ i = .int .i64 k ∧ Hid (∀ x ∈ ls.take k, x.length ≤ 30) ∧ w = wx)
  case atStart => exact ⟨0, Nat.zero_le _, rfl, rfl, hid (by simp), rfl⟩
  case round =>
    obtain ⟨k, hk, rfl, rfl, HF, rfl⟩ := hrel
    have k0 : (0 : Int) ≤ (k : Int) := Int.natCast_nonneg _
    by_cases hlt : k < ls.length
    · have k1 : (k : Int) < (ls.length : Int) := by omega
      have kw : IntKind.i64.wrap ((k : Int) + 1) = (k : Int) + 1 := IntWalk.i64_in _ (by omega)
      obtain ⟨b', o', l, lo, llc, eb, c1, s1, e1⟩ := HV.out.at' (i := k) hlt
      cases eb
      by_cases h40 : 30 < l.length
      · have d3 : decide (30 < (l.length : Int)) = true := decide_eq_true (by omega)
        go_wp2_with (go_at_call 6; refine (awake_any _).mono ?_; rintro e w1 ⟨rfl, hb⟩)
        go_ret
        exact ⟨rfl, hb⟩
      · have d3 : decide (30 < (l.length : Int)) = false := decide_eq_false (by omega)
        have HF2 := hid (show ∀ x ∈ ls.take (k + 1), x.length ≤ 30 from fun x hx => by
          rw [take_snoc e1] at hx
          rcases List.mem_append.1 hx with hx | hx
          · exact HF.out x hx
          · rcases List.mem_singleton.1 hx with rfl
            omega)
        clear e1 s1
        go_wp2_with fail
        go_roundg (ls.length - (k + 1))
        case measure => omega
        case rel => exact ⟨k + 1, by omega, rfl, rfl, HF2, rfl⟩
    · obtain rfl : k = ls.length := by omega
      have hneg : ¬ (ls.length : Int) < (ls.length : Int) := by omega
      rw [List.take_length] at HF
      have HLL := hid (show ∀ l ∈ ls, l.length ≤ 400 from fun l hl => by have := HF.out l hl; omega)
      have HOL := hid (show (blameS ls).length = last.length by rw [(blameS_fall ls hne HLL.out).length, HT.out])
      have hlast : last.length ≤ 30 := by rw [← HT.out]; exact HF.out _ (List.getLast_mem hne)
      have HBEH := hid (blameS_behind ls hne HLL.out xs)
      rw [HT.out] at HBEH
      have HLL2 := hid (show ∀ l ∈ ls ++ [last ++ xs], l.length ≤ 400 from fun l hl => by
        rcases List.mem_append.1 hl with hl | hl
        · exact HLL.out l hl
        · rcases List.mem_singleton.1 hl with rfl
          rw [List.length_append]
          omega)
      have HN := hid (show ls.length ≤ 8 ∧ xs.length ≤ 20 ∧ last.length ≤ 30 by omega)
      clear HF hneg h1 h2 hlm hsm hk k0 d0 d1 d2 hlast
      have hD := DLines_any _ ls w HV.out (by have := HN.out.1; omega) HLL.out
      generalize hOO : blameS ls = O at hD HOL HBEH
      go_wp2_with fail
      refine hD.mono ?_
      rintro e w1 ⟨u1, rfl, s1, hB1⟩
      obtain ⟨o1, c1, rfl⟩ := s1.form
      rw [intCells_length, nI_length] at s1 ⊢
      have S1 := hid s1
      have hz1 := hB1.size
      have ct1 : w1.cell? ⟨b, o + n, none⟩ = _ := (World.cell?_of_block (w := w) (hB1.block _ (World.block_lt_of_cell? w _ ct))).trans ct
      clear hD s1
      go_wp2_with (first
        | (refine wpList_append_lls (w := w1) (by rfl) (.tmp 45) (by rfl) ls _ (by rfl) (HV.out.old hB1) (by have := HN.out.1; omega) ?_; intro v2 w2 hO2 hb2; obtain ⟨o2, c2, rfl⟩ := hO2.form; have HO2 := hid hO2; have hB2 := below_step hB1 hb2 hz1; have HB12 := hid hb2; clear hO2 hb2)
        | (refine wpList_append_ss rfl (.const (.slice none 0 0)) (.tmp 47) rfl w2.heap.size _ [] last rfl (World.ownsRow_nil _ _ _ _) _ rfl (Sl.old HST.out hB2) (by have := HN.out.2.2; simp; omega) (Nat.le_refl _) ?_; intro v3 w3 hO3 hb3; have HO3 := hid hO3; have HB23 := hid hb3; clear hO3 hb3)
        | (refine wpList_append_ss rfl (.tmp 48) (.tmp 49) rfl w2.heap.size _ ([] ++ last) xs rfl HO3.out _ rfl (Sl.old (Sl.old HS.out hB2) HB23.out) (by have := HN.out.2; simp; omega) HB23.out.size ?_; intro v4 w4 hO4 hb4; have HB24 := hid (HB23.out.trans hb4); rw [List.nil_append] at hO4; obtain ⟨o4, c4, rfl⟩ := owns_form hO4; have HO2' := hid (HO2.out.old HB24.out); have NU := hid (nestL_own hO4 (fun j hj => (HO2.out.lt j hj).2)); rw [List.length_append] at NU; clear hO4 hb4)
        | (refine wpList_append_ll (w := w4) (by rfl) (.tmp 46) (.tmp 51) (by rfl) w1.heap.size _ ls (last ++ xs) _ (by rfl) HO2'.out NU.out (by rfl) (by rfl) (by have := HN.out.1; omega) (Nat.le_trans HB12.out.size HB24.out.size) ?_; intro v5 w5 hO5 hb5 K5; obtain ⟨o5, c5, rfl⟩ := hO5.form; have HO5 := hid hO5; have HB15 := hid ((below_step HB12.out HB24.out HB12.out.size).trans hb5); have hB5 := below_step hB1 HB15.out hz1; have S5 := hid (Sl.old S1.out HB15.out); clear hO5 hb5 K5))
      have hD := DLines_any _ (ls ++ [last ++ xs]) w5 HO5.out.slLL (by rw [List.length_append]; have := HN.out.1; simp; omega) HLL2.out
      rw [HBEH.out, List.length_append, List.length_singleton] at hD
      refine hD.mono ?_
      rintro e w6 ⟨u6, rfl, s6, hb⟩
      have hB6 := below_step hB5 hb hB5.size
      have S1 := hid (Sl.old S5.out hb)
      obtain ⟨o6, c6, rfl⟩ := s6.form
      obtain ⟨M, hM⟩ : ∃ M, O.length + xs.length = M := ⟨_, rfl⟩
      have hlen6 : (intCells (nI (O ++ List.replicate xs.length ls.length))).length = M := by rw [intCells_length, nI_length, List.length_append, List.length_replicate, hM]
      rw [hlen6] at s6 ⊢
      have S6 := hid s6
      clear hb hB5 hD s6 S5 HO5 HO3 HO2 HO2' NU HB12 HB15 HB23 HB24 hB2 ct1 hlen6
      go_wp2_with fail
      refine (awake_any w6).mono ?_
      rintro e w7 ⟨rfl, hb⟩
      have hB7 := below_step hB6 hb hB6.size
      have S1 := hid (Sl.old S1.out hb)
      have S6 := hid (Sl.old S6.out hb)
      have hl2 : ((O.length : Int) != (last.length : Int)) = false := by rw [HOL.out]; simp
      have hl4 : IntKind.i64.wrap ((last.length : Int) + (xs.length : Int)) = (M : Int) := (IntWalk.i64_in _ (by have := HN.out; omega)).trans (by have := HOL.out; omega)
      have hl3 : ((M : Int) != (M : Int)) = false := by simp
      clear hb hB6
      go_wp2_with fail
      go_loopg [9] M (fun g i wx => ∃ k : Nat, k ≤ M ∧ M - k = g ∧ i = .int .i64 k ∧ Hid (Below w7.heap.size w7 wx))
      case atStart => exact ⟨0, Nat.zero_le _, rfl, rfl, hid (Below.refl _ _)⟩
      case round =>
        obtain ⟨k, hk, rfl, rfl, HB⟩ := hrel
        have k0 : (0 : Int) ≤ (k : Int) := Int.natCast_nonneg _
        have hMn : M ≤ 50 := by have := HOL.out; have := HN.out; omega
        by_cases hlt : k < M
        · have k1 : (k : Int) < (M : Int) := by omega
          have kw : IntKind.i64.wrap ((k : Int) + 1) = (k : Int) + 1 := IntWalk.i64_in _ (by omega)
          obtain ⟨bd, zb, rfl, cb, ez⟩ := (Sl.old S6.out HB.out).intAt' (i := k) (by rw [nI_length, List.length_append, List.length_replicate, hM]; exact hlt)
          obtain ⟨pb, rfl, eb⟩ := nI_at ez
          by_cases hka : k < O.length
          · obtain ⟨ad, za, rfl, ca, ey⟩ := (Sl.old S1.out HB.out).intAt' (i := k) (by rw [nI_length]; exact hka)
            obtain ⟨pa, rfl, ea⟩ := nI_at ey
            have hpp : pb = pa := by
              rw [List.getElem?_append_left hka, ea] at eb
              exact (Option.some.inj eb).symm
            subst hpp
            have d3 : (k : Int) < (O.length : Int) := by omega
            have d4 : decide ((O.length : Int) ≤ (k : Int)) = false := decide_eq_false (by omega)
            have d6 : decide (O.length ≤ k) = false := decide_eq_false (by omega)
            have d7 : ¬ O.length ≤ k := by omega
            have d8 : ((pb : Int) != (pb : Int)) = false := by simp
            clear ea eb ey ez
            go_wp2_with fail
            go_quiet (fail)
            go_wp2_with fail
            go_roundg (M - (k + 1))
            case measure => omega
            case rel => exact ⟨k + 1, by omega, rfl, rfl, hid (below_step HB.out (below_drewN _ _) HB.out.size)⟩
          · have hpp : pb = ls.length := by
              rw [List.getElem?_append_right (by omega), List.getElem?_replicate, if_pos (by omega)] at eb
              exact (Option.some.inj eb).symm
            subst hpp
            have d3 : ¬ (k : Int) < (O.length : Int) := by omega
            have d4 : decide ((k : Int) < (O.length : Int)) = false := decide_eq_false (by omega)
            have d6 : decide (k < O.length) = false := decide_eq_false (by omega)
            have d5 : decide ((O.length : Int) ≤ (k : Int)) = true := decide_eq_true (by omega)
            have d7 : decide (O.length ≤ k) = true := decide_eq_true (by omega)
            have d8 : ((ls.length : Int) != (ls.length : Int)) = false := by simp
            clear eb ez
            go_wp2_with fail
            go_quiet (fail)
            go_wp2_with fail
            go_roundg (M - (k + 1))
            case measure => omega
            case rel => exact ⟨k + 1, by omega, rfl, rfl, hid (below_step HB.out (below_drewN _ _) HB.out.size)⟩
        · obtain rfl : k = M := by omega
          have hneg2 : ¬ (k : Int) < (k : Int) := by omega
          go_wp2_with fail
          go_ret
          exact ⟨rfl, below_step hB7 HB.out hB7.size⟩
end

theorem own : ownKnob Try.prog.godebug = none := by kernel_rfl
theorem laidOut : laidOutB Try.prog = true := by kernel_rfl

theorem contract (H : Type) (enc : TypeId × Value → H) (W : World) (base : Nat) (args : Array Value) (ds gs : List (DataW H)) (before : List MemPlace)
    (hval : ∀ (j : Nat) t v, Try.f5.params[j]? = some t → args[j]? = some v → Value.okWide Try.prog W .any base t v)
    (hW : DataW.Whole enc Try.prog Try.f5.params.toList Rows.blameBehindSpec.vars false W args.toList ds gs before) :
    Calls Try.prog 5 args W fun e W' => ∃ v, e = .returned v ∧ Rows.blameBehindSpec.post enc Try.prog Try.f5 false true false false W args v W' := by
  have hW' := hW
  obtain ⟨p, q, hA0, hV, rfl, hfz, hnd⟩ := hW
  have hA : DataW.TrodAll enc Try.prog W 0 (fun _ => true) true Try.f5.params.toList args.toList ds p := hA0
  rw [Try.params5] at hA hval
  obtain ⟨v0, vs0, d0, ds0, p0, q0, hargs, rfl, rfl, h0, r0⟩ := trodAll_cons hA
  obtain ⟨v1, vs1, d1, ds1, p1, q1, rfl, rfl, rfl, h1, r1⟩ := trodAll_cons r0
  obtain ⟨rfl, rfl, rfl⟩ := trodAll_nil r1
  obtain rfl : args = #[v0, v1] := by cases args; simp_all
  obtain ⟨rfl, rfl⟩ := trodVars_none hV
  have k0 := h0
  have lt0 : ∀ x ∈ p0, x.block < W.heap.size := by obtain ⟨m, hm⟩ := k0; exact DataW.trod_lt m _ _ _ hm
  obtain ⟨x0, l0, c0, rfl⟩ := okWide_slice Try.underlying22 (hval 0 22 v0 rfl rfl)
  obtain ⟨a0, w0⟩ : ∃ a, FactLL W (.slice x0 l0 c0) a := by
    obtain ⟨fuel, hf⟩ := h0
    obtain ⟨v', a, hcs, hs⟩ := open_strLL hf
    obtain rfl : v' = .slice x0 l0 c0 := by simpa [Value.cells] using hcs.symm
    exact ⟨a, hs⟩
  have k1 := h1
  have lt1 : ∀ x ∈ p1, x.block < W.heap.size := by obtain ⟨m, hm⟩ := k1; exact DataW.trod_lt m _ _ _ hm
  obtain ⟨x1, l1, c1, rfl⟩ := okWide_slice Try.underlying23 (hval 1 23 v1 rfl rfl)
  obtain ⟨a1, w1, e1⟩ : ∃ a, FactStrs W (.slice x1 l1 c1) a ∧ ((d1 = .nil ∧ a = []) ∨ ∃ rest, d1 = .slice (dataStrs a) rest) := by
    obtain ⟨fuel, hf⟩ := h1
    obtain ⟨v', a, hcs, hs, hx⟩ := open_strL Try.underlying23 Try.underlying9 (by kernel_rfl) hf
    obtain rfl : v' = .slice x1 l1 c1 := by simpa [Value.cells] using hcs.symm
    exact ⟨a, hs, hx⟩
  clear e1
  clear hA0
  refine (walk (.slice x0 l0 c0) a0 (.slice x1 l1 c1) a1 W w0 w1).mono fun e W' ⟨he, bel⟩ => ?_
  subst he
  exact ⟨_, rfl, _, _, _, [], _, [], hW', trodAll_mk1 (shut_bool Try.underlying4 _), (trodAll_cons_mk (Below.trod laidOut (by kernel_rfl) (of_decide_eq_true (by kernel_rfl)) k0 bel lt0) (trodAll_cons_mk (Below.trod laidOut (by kernel_rfl) (of_decide_eq_true (by kernel_rfl)) k1 bel lt1) trodAll_mk0)), rfl, bel.frame _, fun h => by cases h⟩

set_option maxRecDepth 100000 in
theorem lifted (os : Os) (started : os.Started) (H : Type) (enc : TypeId × Value → H) :
    ReturnsInHanded {} Try.checked os 5 .any (Rows.blameBehindSpec.pre6 enc Try.prog Try.f5 Rows.blameBehindRow.domain false) (Rows.blameBehindSpec.post enc Try.prog Try.f5 false true false false) := by
  refine returnsInHanded_of_change (C := Try.checked) own started (by kernel_rfl) Try.func5
    (ChangeSpec.witness6 (enc := enc) (C := Try.checked) false ⟨#[], #[.slice none 0 0, .slice none 0 0], []⟩ 8 (by kernel_rfl) (by kernel_rfl) (by kernel_rfl) (by kernel_rfl)) ?_
  intro W base args ds gs before hval hW _ _
  exact contract H enc W base args ds gs before hval hW

theorem over : Rows.blameBehindRow.holds Try.pinned (OpenSpec.ofChange Rows.blameBehindSpec) :=
  OpenClaim.holds_of_wide 5 Try.f5 rfl rfl rfl rfl rfl rfl rfl ⟨rfl, rfl, rfl, rfl, rfl⟩ rfl rfl rfl rfl rfl (by kernel_rfl) Try.func5 (by kernel_rfl)
    (of_decide_eq_true (by kernel_rfl)) (by unfold Func.isWrapper; first | (rw [if_pos (by decide +kernel)]; kernel_rfl) | (rw [if_neg (by decide +kernel)]; exact ⟨rfl, rfl⟩))
    (fun os started H enc _ => lifted os started H enc)

/-- The statement. -/
theorem proved : Rows.BlameBehindSaid :=
  over
#print axioms proved
end Go.Proofs.Ytikemkgedmbijaa.blameBehind
