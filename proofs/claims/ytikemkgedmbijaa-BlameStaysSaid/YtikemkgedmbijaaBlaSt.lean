/-
  BlameStays: a version that changes nothing brings nothing; one that has all anew brings all; each line is told.
-/
import Derived.Test.YtikemkgedmbijaaBlAw
import Derived.Test.YtikemkgedmbijaaInS
import Derived.Test.YtikemkgedmbijaaOpenS
import Derived.Deep.LoopGhost
import Derived.ProofKit
import Derived.OpenShut
namespace Go.Proofs.Ytikemkgedmbijaa.blameStays
open Go.ChangeShapes Go.WideShapes Go.ChangeAt Go.RowKit

section
set_option maxRecDepth 100000
set_option maxHeartbeats 4000000
theorem walk (vl : Value) (ls : List (List (List UInt8))) (vx : Value) (xs : List (List UInt8)) (w : World) (hl : FactLL w vl ls) (hs : FactStrs w vx xs) :
    Calls Try.prog 4 #[vl, vx] w fun e w' => e = .returned (.bool true) ∧ Below w.heap.size w w' := by
  have HV := hid hl.1
  have HS := hid hs.1
  have hlm := hl.2.1
  have hsm := hs.2.1
  unfold maxLen at hlm hsm
  clear hl hs
  obtain ⟨la, lc, rfl⟩ := HV.out.form
  obtain ⟨sa, sc, rfl⟩ := HS.out.form
  rw [strCells_length] at HS ⊢
  have hn0 : (0 : Int) ≤ (ls.length : Int) := Int.natCast_nonneg _
  have hm0 : (0 : Int) ≤ (xs.length : Int) := Int.natCast_nonneg _
  rcases (show ls.length = 0 ∨ (0 < ls.length ∧ 12 < ls.length) ∨ (0 < ls.length ∧ ¬ 12 < ls.length ∧ 40 < xs.length) ∨ (0 < ls.length ∧ ¬ 12 < ls.length ∧ ¬ 40 < xs.length) by omega) with h1 | ⟨h0, h1⟩ | ⟨h0, h1, h2⟩ | ⟨h0, h1, h2⟩
  · have d0 : ((ls.length : Int) == 0) = true := by rw [beq_iff_eq]; omega
    go_enter Try.func4, Try.ntmps4
    go_wp2_with (go_at_call 6; refine (awake_any _).mono ?_; rintro e w1 ⟨rfl, hb⟩)
    go_ret
    exact ⟨rfl, hb⟩
  · have d0 : ((ls.length : Int) == 0) = false := by rw [beq_eq_false_iff_ne]; omega
    have d1 : decide (12 < (ls.length : Int)) = true := decide_eq_true (by omega)
    go_enter Try.func4, Try.ntmps4
    go_wp2_with (go_at_call 6; refine (awake_any _).mono ?_; rintro e w1 ⟨rfl, hb⟩)
    go_ret
    exact ⟨rfl, hb⟩
  · have d0 : ((ls.length : Int) == 0) = false := by rw [beq_eq_false_iff_ne]; omega
    have d1 : decide (12 < (ls.length : Int)) = false := decide_eq_false (by omega)
    have d2 : decide (40 < (xs.length : Int)) = true := decide_eq_true (by omega)
    go_enter Try.func4, Try.ntmps4
    go_wp2_with (go_at_call 6; refine (awake_any _).mono ?_; rintro e w1 ⟨rfl, hb⟩)
    go_ret
    exact ⟨rfl, hb⟩
  have d0 : ((ls.length : Int) == 0) = false := by rw [beq_eq_false_iff_ne]; omega
  have d1 : decide (12 < (ls.length : Int)) = false := decide_eq_false (by omega)
  have d2 : decide (40 < (xs.length : Int)) = false := decide_eq_false (by omega)
  have hne : ls ≠ [] := by rintro rfl; cases h0
  obtain ⟨n, hn⟩ : ∃ n, ls.length - 1 = n := ⟨_, rfl⟩
  have nw : IntKind.i64.wrap ((ls.length : Int) - 1) = (n : Int) := (IntWalk.i64_in _ (by omega)).trans (by omega)
  have nn0 : (0 : Int) ≤ (n : Int) := Int.natCast_nonneg _
  have nn1 : (n : Int) < (ls.length : Int) := by omega
  obtain ⟨b, o, last, tao, tac, rfl, ct, st, et⟩ := HV.out.at' (i := n) (by omega)
  have HT := hid (show ls.getLast hne = last by
    obtain ⟨q, e⟩ := List.getElem?_eq_some_iff.1 et
    rw [List.getLast_eq_getElem]
    simp only [hn]
    exact e)
  have HST := hid st
  clear et st
  go_enter Try.func4, Try.ntmps4
  go_wp2_with fail
  go_loopg [5] ls.length (fun g i wx => ∃ k : Nat, k ≤ ls.length ∧ ls.length - k = g ∧ i = .int .i64 k ∧ Hid (∀ x ∈ ls.take k, x.length ≤ 40) ∧ w = wx)
  case atStart => exact ⟨0, Nat.zero_le _, rfl, rfl, hid (by simp), rfl⟩
  case round =>
    obtain ⟨k, hk, rfl, rfl, HF, rfl⟩ := hrel
    have k0 : (0 : Int) ≤ (k : Int) := Int.natCast_nonneg _
    by_cases hlt : k < ls.length
    · have k1 : (k : Int) < (ls.length : Int) := by omega
      have kw : IntKind.i64.wrap ((k : Int) + 1) = (k : Int) + 1 := IntWalk.i64_in _ (by omega)
      obtain ⟨b', o', l, lo, llc, eb, c1, s1, e1⟩ := HV.out.at' (i := k) hlt
      cases eb
      by_cases h40 : 40 < l.length
      · have d3 : decide (40 < (l.length : Int)) = true := decide_eq_true (by omega)
        go_wp2_with (go_at_call 6; refine (awake_any _).mono ?_; rintro e w1 ⟨rfl, hb⟩)
        go_ret
        exact ⟨rfl, hb⟩
      · have d3 : decide (40 < (l.length : Int)) = false := decide_eq_false (by omega)
        have HF2 := hid (show ∀ x ∈ ls.take (k + 1), x.length ≤ 40 from fun x hx => by
          rw [take_snoc e1] at hx
          rcases List.mem_append.1 hx with hx | hx
          · exact HF.out x hx
          · rcases List.mem_singleton.1 hx with rfl
            omega)
        clear e1 s1
        go_wp2_with fail
        go_roundg (ls.length - (k + 1))
        case measure => omega
        case rel => exact ⟨k + 1, by omega, rfl, rfl, HF2, rfl⟩
    · obtain rfl : k = ls.length := by omega
      have hneg : ¬ (ls.length : Int) < (ls.length : Int) := by omega
      rw [List.take_length] at HF
      have HLL := hid (show ∀ l ∈ ls, l.length ≤ 400 from fun l hl => by have := HF.out l hl; omega)
      have HFALL := hid (blameS_fall ls hne HLL.out)
      have HOL := hid (show (blameS ls).length = last.length by rw [HFALL.out.length, HT.out])
      have hlast : last.length ≤ 40 := by rw [← HT.out]; exact HF.out _ (List.getLast_mem hne)
      have HSAME := hid (blameS_same ls hne HLL.out)
      rw [HT.out] at HFALL HSAME
      have HLL2 := hid (show ∀ l ∈ ls ++ [last], l.length ≤ 400 from fun l hl => by
        rcases List.mem_append.1 hl with hl | hl
        · exact HLL.out l hl
        · rcases List.mem_singleton.1 hl with rfl
          omega)
      have HN := hid (And.intro h1 h2)
      clear HF hneg h1 h2 hlm hsm hk k0 d0 d1 d2
      have hD := DLines_any _ ls w HV.out (by have := HN.out.1; omega) HLL.out
      generalize hOO : blameS ls = O at hD HFALL HOL HSAME
      go_wp2_with fail
      refine hD.mono ?_
      rintro e w1 ⟨u1, rfl, s1, hB1⟩
      obtain ⟨o1, c1, rfl⟩ := s1.form
      rw [intCells_length, nI_length] at s1 ⊢
      have S1 := hid s1
      have hz1 := hB1.size
      have ct1 : w1.cell? ⟨b, o + n, none⟩ = _ := (World.cell?_of_block (w := w) (hB1.block _ (World.block_lt_of_cell? w _ ct))).trans ct
      clear hD s1
      go_wp2_with (first
        | (refine wpList_append_lls (w := w1) (by rfl) (.tmp 47) (by rfl) ls _ (by rfl) (HV.out.old hB1) (by have := HN.out.1; omega) ?_; intro v2 w2 hO2 hb2; obtain ⟨o2, c2, rfl⟩ := hO2.form; have HO2 := hid hO2; have hB2 := below_step hB1 hb2 hz1; have HB12 := hid hb2; have NU := hid (show NestL w2 (.slice o2 ls.length c2) (.slice tao last.length tac) last from nestL_far HO2.out hz1 (Sl.old HST.out hB2) HST.out); clear hO2 hb2)
        | (refine wpList_append_ll (w := w2) (by rfl) (.tmp 48) (.tmp 50) (by rfl) w1.heap.size _ ls last _ (by rfl) HO2.out NU.out (by rfl) (by rfl) (by have := HN.out.1; omega) HB12.out.size ?_; intro v3 w3 hO3 hb3 K3; obtain ⟨o3, c3, rfl⟩ := hO3.form; have HO3 := hid hO3; have HB13 := hid (HB12.out.trans hb3); have hB3 := below_step hB1 HB13.out hz1; have S3 := hid (Sl.old S1.out HB13.out); clear hO3 hb3 K3))
      have hD := DLines_any _ (ls ++ [last]) w3 HO3.out.slLL (by rw [List.length_append]; have := HN.out.1; simp; omega) HLL2.out
      rw [HSAME.out, List.length_append, List.length_singleton] at hD
      refine hD.mono ?_
      rintro e w4 ⟨u4, rfl, s4, hb⟩
      have hB4 := below_step hB3 hb hB3.size
      have S1 := hid (Sl.old S3.out hb)
      obtain ⟨o4, c4, rfl⟩ := s4.form
      rw [intCells_length, nI_length] at s4 ⊢
      have S4 := hid s4
      clear hb hB3 hD s4 S3 HO3 HO2 NU HB12 HB13 hB2 ct1
      go_wp2_with fail
      refine (awake_any w4).mono ?_
      rintro e w5 ⟨rfl, hb⟩
      have hB5 := below_step hB4 hb hB4.size
      have S1 := hid (Sl.old S1.out hb)
      have S4 := hid (Sl.old S4.out hb)
      have hD := IPlain_any _ _ _ _ w5 S1.out S4.out (by rw [nI_length]; unfold maxLen; have := HOL.out; omega)
      rw [beq_self_eq_true] at hD
      have hl2 : ((O.length : Int) != (last.length : Int)) = false := by rw [HOL.out]; simp
      clear hb hB4 S4
      go_wp2_with fail
      refine hD.mono ?_
      rintro e w6 ⟨rfl, q6, rfl⟩
      have hb : Below w5.heap.size w5 (w5.drewN q6) := below_drewN _ _
      have hB6 := below_step hB5 hb hB5.size
      have S1 := hid (Sl.old S1.out hb)
      clear hb hB5 hD
      generalize w5.drewN q6 = w6 at hB6 S1 ⊢
      have hz6 := hB6.size
      go_wp2_with fail
      go_loopg [9] O.length (fun g i wx => ∃ k : Nat, k ≤ O.length ∧ O.length - k = g ∧ i = .int .i64 k ∧ Hid (Below w6.heap.size w6 wx))
      case atStart => exact ⟨0, Nat.zero_le _, rfl, rfl, hid (Below.refl _ _)⟩
      case round =>
        obtain ⟨k, hk, rfl, rfl, HB⟩ := hrel
        have k0 : (0 : Int) ≤ (k : Int) := Int.natCast_nonneg _
        have hol := HOL.out
        by_cases hlt : k < O.length
        · have k1 : (k : Int) < (O.length : Int) := by omega
          have k2 : (k : Int) < (last.length : Int) := by omega
          have kw : IntKind.i64.wrap ((k : Int) + 1) = (k : Int) + 1 := IntWalk.i64_in _ (by omega)
          obtain ⟨ad, z, rfl, ca, ez⟩ := (Sl.old S1.out HB.out).intAt' (i := k) (by rw [nI_length]; exact hlt)
          obtain ⟨p, rfl, ep⟩ := nI_at ez
          obtain ⟨td, s, rfl, cs, es⟩ := (Sl.old HST.out (hB6.trans (HB.out.mono hz6))).strAt' (i := k) (by omega)
          obtain ⟨y, ey, hy⟩ := HFALL.out.at ep es
          have hp := (List.getElem?_eq_some_iff.1 ey).1
          have p0 : (0 : Int) ≤ (p : Int) := Int.natCast_nonneg _
          have p1 : (p : Int) < (ls.length : Int) := by omega
          obtain ⟨b', o', y', yo, yc, eb, cy, sy, ey'⟩ := (HV.out.old (hB6.trans (HB.out.mono hz6))).at' (i := p) hp
          cases eb
          have hyy : y' = y := by rw [ey'] at ey; exact Option.some.inj ey
          subst hyy
          have hyl := HLL.out y' (List.mem_of_getElem? ey')
          have d3 : decide ((p : Int) < 0) = false := decide_eq_false (by omega)
          have d4 : decide ((ls.length : Int) ≤ (p : Int)) = false := decide_eq_false (by omega)
          have d6 : decide (ls.length ≤ p) = false := decide_eq_false (by omega)
          have d7 : ¬ ls.length ≤ p := by omega
          have d5 : decide ((p : Int) ≥ (ls.length : Int)) = false := decide_eq_false (by omega)
          have HIN := hid (fun q => SIn_any (.slice yo y'.length yc) y' s (wr.drewN q) (Sl.old sy (below_drewN wr q)) (by omega))
          rw [decide_eq_true hy] at HIN
          clear ez ep es ey ey' hy sy hp
          go_wp2_with fail
          go_quiet ((go_at_call 14; exact Calls.quiet_of (HIN.out _)))
          go_wp2_with fail
          go_roundg (O.length - (k + 1))
          case measure => omega
          case rel => exact ⟨k + 1, by omega, rfl, rfl, hid (below_step HB.out (below_drewN _ _) HB.out.size)⟩
        · obtain rfl : k = O.length := by omega
          have hneg2 : ¬ (O.length : Int) < (O.length : Int) := by omega
          have hB7 := hB6.trans (HB.out.mono hz6)
          have hD := DLines_any _ [[], xs] (wr.alloc (.cells #[.slice none 0 0, .slice sa xs.length sc] 23)) (litLL (heap_alloc_new wr _) (Sl.nil _) ((Sl.old HS.out hB7).alloc _)) (by simp) (by
            intro l hl
            rcases List.mem_cons.1 hl with rfl | hl
            · simp
            · rcases List.mem_singleton.1 hl with rfl
              have := HN.out.2
              omega)
          rw [blameS_new] at hD
          have hB8 := hB7.alloc hB7.size (.cells #[.slice none 0 0, .slice sa xs.length sc] 23)
          go_wp2_with fail
          refine hD.mono ?_
          rintro e w9 ⟨u9, rfl, s9, hb⟩
          have hB9 := below_step hB8 hb hB8.size
          obtain ⟨o9, c9, rfl⟩ := s9.form
          rw [intCells_length, nI_length, List.length_replicate] at s9 ⊢
          have S9 := hid s9
          have hz9 := hB9.size
          clear hD hb s9 hB8 HB hk k0 hneg2
          go_wp2_with fail
          go_loopg [11] xs.length (fun g i wx => ∃ k : Nat, k ≤ xs.length ∧ xs.length - k = g ∧ i = .int .i64 k ∧ w9 = wx)
          case atStart => exact ⟨0, Nat.zero_le _, rfl, rfl, rfl⟩
          case round =>
            obtain ⟨k, hk, rfl, rfl, rfl⟩ := hrel
            have k0 : (0 : Int) ≤ (k : Int) := Int.natCast_nonneg _
            by_cases hlt : k < xs.length
            · have hxn := HN.out.2
              have k1 : (k : Int) < (xs.length : Int) := by omega
              have kw : IntKind.i64.wrap ((k : Int) + 1) = (k : Int) + 1 := IntWalk.i64_in _ (by omega)
              obtain ⟨ad, z, rfl, ca, ez⟩ := S9.out.intAt' (i := k) (by rw [nI_length, List.length_replicate]; exact hlt)
              have hz1 : z = 1 := by
                obtain ⟨p, rfl, ep⟩ := nI_at ez
                rw [List.getElem?_replicate, if_pos hlt] at ep
                cases ep
                rfl
              subst hz1
              clear ez
              go_wp2_with fail
              go_roundg (xs.length - (k + 1))
              case measure => omega
              case rel => exact ⟨k + 1, by omega, rfl, rfl, rfl⟩
            · obtain rfl : k = xs.length := by omega
              have hneg3 : ¬ (xs.length : Int) < (xs.length : Int) := by omega
              have hxb : ((xs.length : Int) == (xs.length : Int)) = true := by simp
              have hD := DLines_any _ [] w9 (SlLL.nil _) (by simp) (by simp)
              go_wp2_with fail
              refine hD.mono ?_
              rintro e w10 ⟨u10, rfl, s10, hb⟩
              obtain ⟨o10, c10, rfl⟩ := s10.form
              have hB10 := below_step hB9 hb hz9
              rw [show (intCells (nI (blameS ([] : List (List (List UInt8)))))).length = 0 from rfl]
              go_wp2_with fail
              go_ret
              exact ⟨rfl, hB10⟩
end

theorem own : ownKnob Try.prog.godebug = none := by kernel_rfl
theorem laidOut : laidOutB Try.prog = true := by kernel_rfl

theorem contract (H : Type) (enc : TypeId × Value → H) (W : World) (base : Nat) (args : Array Value) (ds gs : List (DataW H)) (before : List MemPlace)
    (hval : ∀ (j : Nat) t v, Try.f4.params[j]? = some t → args[j]? = some v → Value.okWide Try.prog W .any base t v)
    (hW : DataW.Whole enc Try.prog Try.f4.params.toList Rows.blameStaysSpec.vars false W args.toList ds gs before) :
    Calls Try.prog 4 args W fun e W' => ∃ v, e = .returned v ∧ Rows.blameStaysSpec.post enc Try.prog Try.f4 false true false false W args v W' := by
  have hW' := hW
  obtain ⟨p, q, hA0, hV, rfl, hfz, hnd⟩ := hW
  have hA : DataW.TrodAll enc Try.prog W 0 (fun _ => true) true Try.f4.params.toList args.toList ds p := hA0
  rw [Try.params4] at hA hval
  obtain ⟨v0, vs0, d0, ds0, p0, q0, hargs, rfl, rfl, h0, r0⟩ := trodAll_cons hA
  obtain ⟨v1, vs1, d1, ds1, p1, q1, rfl, rfl, rfl, h1, r1⟩ := trodAll_cons r0
  obtain ⟨rfl, rfl, rfl⟩ := trodAll_nil r1
  obtain rfl : args = #[v0, v1] := by cases args; simp_all
  obtain ⟨rfl, rfl⟩ := trodVars_none hV
  have k0 := h0
  have lt0 : ∀ x ∈ p0, x.block < W.heap.size := by obtain ⟨m, hm⟩ := k0; exact DataW.trod_lt m _ _ _ hm
  obtain ⟨x0, l0, c0, rfl⟩ := okWide_slice Try.underlying22 (hval 0 22 v0 rfl rfl)
  obtain ⟨a0, w0⟩ : ∃ a, FactLL W (.slice x0 l0 c0) a := by
    obtain ⟨fuel, hf⟩ := h0
    obtain ⟨v', a, hcs, hs⟩ := open_strLL hf
    obtain rfl : v' = .slice x0 l0 c0 := by simpa [Value.cells] using hcs.symm
    exact ⟨a, hs⟩
  have k1 := h1
  have lt1 : ∀ x ∈ p1, x.block < W.heap.size := by obtain ⟨m, hm⟩ := k1; exact DataW.trod_lt m _ _ _ hm
  obtain ⟨x1, l1, c1, rfl⟩ := okWide_slice Try.underlying23 (hval 1 23 v1 rfl rfl)
  obtain ⟨a1, w1, e1⟩ : ∃ a, FactStrs W (.slice x1 l1 c1) a ∧ ((d1 = .nil ∧ a = []) ∨ ∃ rest, d1 = .slice (dataStrs a) rest) := by
    obtain ⟨fuel, hf⟩ := h1
    obtain ⟨v', a, hcs, hs, hx⟩ := open_strL Try.underlying23 Try.underlying9 (by kernel_rfl) hf
    obtain rfl : v' = .slice x1 l1 c1 := by simpa [Value.cells] using hcs.symm
    exact ⟨a, hs, hx⟩
  clear e1
  clear hA0
  refine (walk (.slice x0 l0 c0) a0 (.slice x1 l1 c1) a1 W w0 w1).mono fun e W' ⟨he, bel⟩ => ?_
  subst he
  exact ⟨_, rfl, _, _, _, [], _, [], hW', trodAll_mk1 (shut_bool Try.underlying4 _), (trodAll_cons_mk (Below.trod laidOut (by kernel_rfl) (of_decide_eq_true (by kernel_rfl)) k0 bel lt0) (trodAll_cons_mk (Below.trod laidOut (by kernel_rfl) (of_decide_eq_true (by kernel_rfl)) k1 bel lt1) trodAll_mk0)), rfl, bel.frame _, fun h => by cases h⟩

set_option maxRecDepth 100000 in
theorem lifted (os : Os) (started : os.Started) (H : Type) (enc : TypeId × Value → H) :
    ReturnsInHanded {} Try.checked os 4 .any (Rows.blameStaysSpec.pre6 enc Try.prog Try.f4 Rows.blameStaysRow.domain false) (Rows.blameStaysSpec.post enc Try.prog Try.f4 false true false false) := by
  refine returnsInHanded_of_change (C := Try.checked) own started (by kernel_rfl) Try.func4
    (ChangeSpec.witness6 (enc := enc) (C := Try.checked) false ⟨#[], #[.slice none 0 0, .slice none 0 0], []⟩ 8 (by kernel_rfl) (by kernel_rfl) (by kernel_rfl) (by kernel_rfl)) ?_
  intro W base args ds gs before hval hW _ _
  exact contract H enc W base args ds gs before hval hW

theorem over : Rows.blameStaysRow.holds Try.pinned (OpenSpec.ofChange Rows.blameStaysSpec) :=
  OpenClaim.holds_of_wide 4 Try.f4 rfl rfl rfl rfl rfl rfl rfl ⟨rfl, rfl, rfl, rfl, rfl⟩ rfl rfl rfl rfl rfl (by kernel_rfl) Try.func4 (by kernel_rfl)
    (of_decide_eq_true (by kernel_rfl)) (by unfold Func.isWrapper; first | (rw [if_pos (by decide +kernel)]; kernel_rfl) | (rw [if_neg (by decide +kernel)]; exact ⟨rfl, rfl⟩))
    (fun os started H enc _ => lifted os started H enc)

/-- The statement. -/
theorem proved : Rows.BlameStaysSaid :=
  over
#print axioms proved
end Go.Proofs.Ytikemkgedmbijaa.blameStays
