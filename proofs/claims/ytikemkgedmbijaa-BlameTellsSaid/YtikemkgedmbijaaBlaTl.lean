/-
  BlameTells: where each line of the last of any versions comes from; what is handed in stays.
-/
import Derived.Test.YtikemkgedmbijaaBlAw
import Derived.Test.YtikemkgedmbijaaRlnA
import Derived.Test.YtikemkgedmbijaaOpenS
import Derived.Deep.LoopGhost
import Derived.ProofKit
import Derived.OpenShut
namespace Go.Proofs.Ytikemkgedmbijaa.blameTells
open Go.ChangeShapes Go.WideShapes Go.ChangeAt Go.RowKit

section
set_option maxRecDepth 100000
set_option maxHeartbeats 4000000
theorem walk (vl : Value) (ls : List (List (List UInt8))) (vs : Value) (ss : List (List UInt8)) (w : World) (hl : FactLL w vl ls) (hs : FactStrs w vs ss) :
    Calls Try.prog 3 #[vl, vs] w fun e w' => e = .returned (.bool true) ∧ Below w.heap.size w w' := by
  have HLM := hid hl.2.1
  have HLE := hid hl.2.2
  have HSM := hid hs.2.1
  have HV := hid hl.1
  have HS := hid hs.1
  clear hl hs
  obtain ⟨la, lc, rfl⟩ := HV.out.form
  obtain ⟨sa, sc, rfl⟩ := HS.out.form
  rw [strCells_length] at HS ⊢
  have hn0 : (0 : Int) ≤ (ls.length : Int) := Int.natCast_nonneg _
  have hm0 : (0 : Int) ≤ (ss.length : Int) := Int.natCast_nonneg _
  rcases (show 12 < ls.length ∨ (¬ 12 < ls.length ∧ 12 < ss.length) ∨ (¬ 12 < ls.length ∧ ¬ 12 < ss.length) by omega) with h1 | ⟨h1, h2⟩ | ⟨h1, h2⟩
  · have d1 : decide (12 < (ls.length : Int)) = true := decide_eq_true (by omega)
    go_enter Try.func3, Try.ntmps3
    go_wp2_with (go_at_call 6; refine (awake_any _).mono ?_; rintro e w1 ⟨rfl, hb⟩)
    go_ret
    exact ⟨rfl, hb⟩
  · have d1 : decide (12 < (ls.length : Int)) = false := decide_eq_false (by omega)
    have d2 : decide (12 < (ss.length : Int)) = true := decide_eq_true (by omega)
    go_enter Try.func3, Try.ntmps3
    go_wp2_with (go_at_call 6; refine (awake_any _).mono ?_; rintro e w1 ⟨rfl, hb⟩)
    go_ret
    exact ⟨rfl, hb⟩
  have d1 : decide (12 < (ls.length : Int)) = false := decide_eq_false (by omega)
  have d2 : decide (12 < (ss.length : Int)) = false := decide_eq_false (by omega)
  go_enter Try.func3, Try.ntmps3
  go_wp2_with fail
  go_loopg [5] ls.length (fun g i wx => ∃ k : Nat, k ≤ ls.length ∧ ls.length - k = g ∧ i = .int .i64 k ∧ Hid (∀ x ∈ ls.take k, x.length ≤ 40) ∧ w = wx)
  case atStart => exact ⟨0, Nat.zero_le _, rfl, rfl, hid (by simp), rfl⟩
  case round =>
    obtain ⟨k, hk, rfl, rfl, HF, rfl⟩ := hrel
    have k0 : (0 : Int) ≤ (k : Int) := Int.natCast_nonneg _
    by_cases hlt : k < ls.length
    · have k1 : (k : Int) < (ls.length : Int) := by omega
      have kw : IntKind.i64.wrap ((k : Int) + 1) = (k : Int) + 1 := IntWalk.i64_in _ (by omega)
      obtain ⟨b, o, l, lo, llc, rfl, c1, s1, e1⟩ := HV.out.at' (i := k) hlt
      by_cases h40 : 40 < l.length
      · have d3 : decide (40 < (l.length : Int)) = true := decide_eq_true (by omega)
        go_wp2_with (go_at_call 6; refine (awake_any _).mono ?_; rintro e w1 ⟨rfl, hb⟩)
        go_ret
        exact ⟨rfl, hb⟩
      · have d3 : decide (40 < (l.length : Int)) = false := decide_eq_false (by omega)
        have HF2 := hid (show ∀ x ∈ ls.take (k + 1), x.length ≤ 40 from fun x hx => by
          rw [take_snoc e1] at hx
          rcases List.mem_append.1 hx with hx | hx
          · exact HF.out x hx
          · rcases List.mem_singleton.1 hx with rfl
            omega)
        clear e1 s1
        go_wp2_with fail
        go_roundg (ls.length - (k + 1))
        case measure => omega
        case rel => exact ⟨k + 1, by omega, rfl, rfl, HF2, rfl⟩
    · obtain rfl : k = ls.length := by omega
      have hneg : ¬ (ls.length : Int) < (ls.length : Int) := by omega
      rw [List.take_length] at HF
      go_wp2_with fail
      go_loopg [6, 7] ss.length (fun g out i wx => ∃ (k : Nat) (D : List (List (List UInt8))), k ≤ ss.length ∧ ss.length - k = g ∧ i = .int .i64 k ∧ Hid (D = (ss.take k).map linesOf) ∧ Hid (OwnLL wx w.heap.size out D) ∧ Hid (∀ x ∈ ss.take k, x.length ≤ 300) ∧ Below w.heap.size w wx)
      case atStart => exact ⟨0, [], Nat.zero_le _, rfl, rfl, hid rfl, hid (OwnLL.nil _ _), hid (by simp), Below.refl _ _⟩
      case round =>
        obtain ⟨k, D, hk, rfl, rfl, HD, HO, HG, hbel⟩ := hrel
        have hz := hbel.size
        have k0 : (0 : Int) ≤ (k : Int) := Int.natCast_nonneg _
        obtain ⟨oo, oc, rfl⟩ := HO.out.form
        by_cases hlt : k < ss.length
        · have k1 : (k : Int) < (ss.length : Int) := by omega
          have kw : IntKind.i64.wrap ((k : Int) + 1) = (k : Int) + 1 := IntWalk.i64_in _ (by omega)
          obtain ⟨a1, s, rfl, hc, he⟩ := (Sl.old HS.out hbel).strAt' (i := k) hlt
          by_cases h300 : 300 < s.length
          · have d3 : decide (300 < (s.length : Int)) = true := decide_eq_true (by omega)
            go_wp2_with (go_at_call 6; refine (awake_any _).mono ?_; rintro e w1 ⟨rfl, hb⟩)
            go_ret
            exact ⟨rfl, below_step hbel hb hz⟩
          · have d3 : decide (300 < (s.length : Int)) = false := decide_eq_false (by omega)
            have HCALL := hid (RSplit_any s wr (by omega))
            have HT := hid (show (ss.take (k + 1)).map linesOf = D ++ [linesOf s] by rw [take_snoc he, List.map_append, HD.out]; rfl)
            have HG2 := hid (show ∀ x ∈ ss.take (k + 1), x.length ≤ 300 from fun x hx => by
              rw [take_snoc he] at hx
              rcases List.mem_append.1 hx with hx | hx
              · exact HG.out x hx
              · rcases List.mem_singleton.1 hx with rfl
                omega)
            have hlen : D.length ≤ 4000000 := by rw [HD.out, List.length_map, List.length_take]; omega
            clear he
            go_wp2_with (first
              | (go_at_call 7; refine HCALL.out.mono ?_; rintro e w2 ⟨u, rfl, hO, hb2⟩; obtain ⟨uo, uc, rfl⟩ := owns_form hO; have NU := hid (nestL_own hO (fun j hj => (HO.out.lt j hj).2)); have HO2 := hid (HO.out.old hb2); have hbr := below_step hbel hb2 hz; have hzr := hbr.size; clear hO hb2)
              | (refine wpList_append_ll (w := w2) (by rfl) (.tmp 44) (.tmp 50) (by rfl) w.heap.size _ D (linesOf s) _ (by rfl) HO2.out NU.out (by rfl) (by rfl) hlen hzr ?_; intro v5 w5 hO5 B5 K5; have HO5 := hid hO5; have hb5 := hbr.trans B5; clear hO5 B5 K5))
            go_wp2_with fail
            go_roundg (ss.length - (k + 1))
            case measure => omega
            case rel => exact ⟨k + 1, _, by omega, rfl, rfl, hid HT.out.symm, HO5, HG2, hb5⟩
        · obtain rfl : k = ss.length := by omega
          have hneg2 : ¬ (ss.length : Int) < (ss.length : Int) := by omega
          rw [List.take_length] at HG
          have hDe : D = ss.map linesOf := by rw [HD.out, List.take_length]
          have HDE := hid hDe
          have HDL := hid (show D.length ≤ 1000 ∧ ∀ l ∈ D, l.length ≤ 400 by
            rw [hDe]
            refine ⟨by rw [List.length_map]; omega, fun l hl => ?_⟩
            obtain ⟨s, hs, rfl⟩ := List.mem_map.1 hl
            have h1 := linesOf_count s
            have h2 := HG.out s hs
            omega)
          have HLL := hid (show ∀ l ∈ ls, l.length ≤ 400 from fun l hl => by have := HF.out l hl; omega)
          have HSG := hid (show ∀ s ∈ ss, s.length ≤ 300 from HG.out)
          have HN := hid (And.intro h1 h2)
          have HIN := hid (SOwn_any _ ss [55, 49] wr (Sl.old HS.out hbel) (by omega))
          clear hDe HG HF h1 h2 d1 d2 hneg hneg2 hk k0
          go_wp2_with fail
          refine HIN.out.mono ?_
          rintro e w6 ⟨rfl, hC6, hb⟩
          have hB6 := below_step hbel hb hz
          have D6 := hid (HO.out.old hb)
          clear hb HIN HO hbel hz
          go_wp2_with fail
          refine (awake_any w6).mono ?_
          rintro e w7 ⟨rfl, hb⟩
          have hB7 := below_step hB6 hb hB6.size
          have D7 := hid (D6.out.old hb)
          have hC7 := hC6.old hb
          clear hb D6 hC6 hB6
          have hD := DLines_any _ ls w7 (HV.out.old hB7) (by have := HN.out.1; omega) HLL.out
          go_wp2_with fail
          refine hD.mono ?_
          rintro e w8 ⟨u8, rfl, s8, hb⟩
          have hB8 := below_step hB7 hb hB7.size
          have D8 := hid (D7.out.old hb)
          have hC8 := hC7.old hb
          obtain ⟨o8, c8, rfl⟩ := s8.form
          clear hb D7 hC7 hB7 hD
          have hD := RBlame_any _ ls w8 (HV.out.old hB8) (by have := HN.out.1; omega) HLL.out
          go_wp2_with fail
          refine hD.mono ?_
          rintro e w9 ⟨u9, rfl, s9, hb⟩
          have hB9 := below_step hB8 hb hB8.size
          have D9 := hid (D8.out.old hb)
          have hC9 := hC8.old hb
          have s8 := s8.old hb
          obtain ⟨o9, c9, rfl⟩ := s9.form
          clear hb D8 hC8 hB8 hD
          have hbl : (blameS ls).length ≤ 400 := blameS_len ls HLL.out
          have hD := IPlain_any _ _ _ _ w9 s8 s9 (by rw [nI_length]; unfold maxLen; omega)
          rw [beq_self_eq_true] at hD
          clear s8 s9
          go_wp2_with fail
          refine hD.mono ?_
          rintro e w10 ⟨rfl, q10, rfl⟩
          have hb : Below w9.heap.size w9 (w9.drewN q10) := below_drewN _ _
          have hB10 := below_step hB9 hb hB9.size
          have D10 := hid (D9.out.old hb)
          have hC10 := hC9.old hb
          clear hb D9 hC9 hB9 hD
          generalize w9.drewN q10 = w10 at hB10 D10 hC10 ⊢
          have hD := DStack_any _ ss w10 hC10.sl (by have := HN.out.2; omega) HSG.out
          go_wp2_with fail
          refine hD.mono ?_
          rintro e w11 ⟨u11, rfl, s11, hb⟩
          have hB11 := below_step hB10 hb hB10.size
          have D11 := hid (D10.out.old hb)
          have hC11 := hC10.old hb
          obtain ⟨o11, c11, rfl⟩ := s11.form
          clear hb D10 hC10 hB10 hD
          have hD := RBlame_any _ D w11 D11.out.slLL HDL.out.1 HDL.out.2
          go_wp2_with fail
          refine hD.mono ?_
          rintro e w12 ⟨u12, rfl, s12, hb⟩
          have hB12 := below_step hB11 hb hB11.size
          have hC12 := hC11.old hb
          have s11 := s11.old hb
          obtain ⟨o12, c12, rfl⟩ := s12.form
          clear hb D11 hC11 hB11 hD
          rw [← HDE.out] at s11
          have hbl : (blameS D).length ≤ 400 := blameS_len D HDL.out.2
          have hD := IPlain_any _ _ _ _ w12 s11 s12 (by rw [nI_length]; unfold maxLen; omega)
          rw [beq_self_eq_true] at hD
          rw [← HDE.out]
          clear s11 s12
          go_wp2_with fail
          refine hD.mono ?_
          rintro e w13 ⟨rfl, q13, rfl⟩
          have hb : Below w12.heap.size w12 (w12.drewN q13) := below_drewN _ _
          have hB13 := below_step hB12 hb hB12.size
          have hC13 := hC12.old hb
          clear hb hC12 hB12 hD
          generalize w12.drewN q13 = w13 at hB13 hC13 ⊢
          have hD := SKept_any _ _ ss [55, 49] w13 hC13 (Sl.old HS.out hB13) (by have := HN.out.2; omega)
          go_wp2_with fail
          refine hD.mono ?_
          rintro e w14 ⟨rfl, q14, rfl⟩
          go_wp2_with fail
          go_ret
          exact ⟨rfl, hB13.trans (below_drewN _ _ |>.mono hB13.size)⟩
end

theorem own : ownKnob Try.prog.godebug = none := by kernel_rfl
theorem laidOut : laidOutB Try.prog = true := by kernel_rfl

theorem contract (H : Type) (enc : TypeId × Value → H) (W : World) (base : Nat) (args : Array Value) (ds gs : List (DataW H)) (before : List MemPlace)
    (hval : ∀ (j : Nat) t v, Try.f3.params[j]? = some t → args[j]? = some v → Value.okWide Try.prog W .any base t v)
    (hW : DataW.Whole enc Try.prog Try.f3.params.toList Rows.blameTellsSpec.vars false W args.toList ds gs before) :
    Calls Try.prog 3 args W fun e W' => ∃ v, e = .returned v ∧ Rows.blameTellsSpec.post enc Try.prog Try.f3 false true false false W args v W' := by
  have hW' := hW
  obtain ⟨p, q, hA0, hV, rfl, hfz, hnd⟩ := hW
  have hA : DataW.TrodAll enc Try.prog W 0 (fun _ => true) true Try.f3.params.toList args.toList ds p := hA0
  rw [Try.params3] at hA hval
  obtain ⟨v0, vs0, d0, ds0, p0, q0, hargs, rfl, rfl, h0, r0⟩ := trodAll_cons hA
  obtain ⟨v1, vs1, d1, ds1, p1, q1, rfl, rfl, rfl, h1, r1⟩ := trodAll_cons r0
  obtain ⟨rfl, rfl, rfl⟩ := trodAll_nil r1
  obtain rfl : args = #[v0, v1] := by cases args; simp_all
  obtain ⟨rfl, rfl⟩ := trodVars_none hV
  have k0 := h0
  have lt0 : ∀ x ∈ p0, x.block < W.heap.size := by obtain ⟨m, hm⟩ := k0; exact DataW.trod_lt m _ _ _ hm
  obtain ⟨x0, l0, c0, rfl⟩ := okWide_slice Try.underlying22 (hval 0 22 v0 rfl rfl)
  obtain ⟨a0, w0⟩ : ∃ a, FactLL W (.slice x0 l0 c0) a := by
    obtain ⟨fuel, hf⟩ := h0
    obtain ⟨v', a, hcs, hs⟩ := open_strLL hf
    obtain rfl : v' = .slice x0 l0 c0 := by simpa [Value.cells] using hcs.symm
    exact ⟨a, hs⟩
  have k1 := h1
  have lt1 : ∀ x ∈ p1, x.block < W.heap.size := by obtain ⟨m, hm⟩ := k1; exact DataW.trod_lt m _ _ _ hm
  obtain ⟨x1, l1, c1, rfl⟩ := okWide_slice Try.underlying23 (hval 1 23 v1 rfl rfl)
  obtain ⟨a1, w1, e1⟩ : ∃ a, FactStrs W (.slice x1 l1 c1) a ∧ ((d1 = .nil ∧ a = []) ∨ ∃ rest, d1 = .slice (dataStrs a) rest) := by
    obtain ⟨fuel, hf⟩ := h1
    obtain ⟨v', a, hcs, hs, hx⟩ := open_strL Try.underlying23 Try.underlying9 (by kernel_rfl) hf
    obtain rfl : v' = .slice x1 l1 c1 := by simpa [Value.cells] using hcs.symm
    exact ⟨a, hs, hx⟩
  clear e1
  clear hA0
  refine (walk (.slice x0 l0 c0) a0 (.slice x1 l1 c1) a1 W w0 w1).mono fun e W' ⟨he, bel⟩ => ?_
  subst he
  exact ⟨_, rfl, _, _, _, [], _, [], hW', trodAll_mk1 (shut_bool Try.underlying4 _), (trodAll_cons_mk (Below.trod laidOut (by kernel_rfl) (of_decide_eq_true (by kernel_rfl)) k0 bel lt0) (trodAll_cons_mk (Below.trod laidOut (by kernel_rfl) (of_decide_eq_true (by kernel_rfl)) k1 bel lt1) trodAll_mk0)), rfl, bel.frame _, fun h => by cases h⟩

set_option maxRecDepth 100000 in
theorem lifted (os : Os) (started : os.Started) (H : Type) (enc : TypeId × Value → H) :
    ReturnsInHanded {} Try.checked os 3 .any (Rows.blameTellsSpec.pre6 enc Try.prog Try.f3 Rows.blameTellsRow.domain false) (Rows.blameTellsSpec.post enc Try.prog Try.f3 false true false false) := by
  refine returnsInHanded_of_change (C := Try.checked) own started (by kernel_rfl) Try.func3
    (ChangeSpec.witness6 (enc := enc) (C := Try.checked) false ⟨#[], #[.slice none 0 0, .slice none 0 0], []⟩ 8 (by kernel_rfl) (by kernel_rfl) (by kernel_rfl) (by kernel_rfl)) ?_
  intro W base args ds gs before hval hW _ _
  exact contract H enc W base args ds gs before hval hW

theorem over : Rows.blameTellsRow.holds Try.pinned (OpenSpec.ofChange Rows.blameTellsSpec) :=
  OpenClaim.holds_of_wide 3 Try.f3 rfl rfl rfl rfl rfl rfl rfl ⟨rfl, rfl, rfl, rfl, rfl⟩ rfl rfl rfl rfl rfl (by kernel_rfl) Try.func3 (by kernel_rfl)
    (of_decide_eq_true (by kernel_rfl)) (by unfold Func.isWrapper; first | (rw [if_pos (by decide +kernel)]; kernel_rfl) | (rw [if_neg (by decide +kernel)]; exact ⟨rfl, rfl⟩))
    (fun os started H enc _ => lifted os started H enc)

/-- The statement. -/
theorem proved : Rows.BlameTellsSaid :=
  over
#print axioms proved
end Go.Proofs.Ytikemkgedmbijaa.blameTells
