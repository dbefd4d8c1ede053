/-
  MergeMarks: marks that stand where they may not are refused.
-/
import Derived.Test.YtfldheegebopoaaG3
import Derived.Test.YtfldheegebopoaaCkE
import Derived.Test.YtfldheegebopoaaLit
import Derived.Test.YtfldheegebopoaaStr
import Derived.Test.YtfldheegebopoaaOpenS
import Derived.Deep.DeepCutAuto
import Derived.Deep.CutRange
import Derived.ProofKit
import Derived.OpenShut
namespace Go.Proofs.Ytfldheegebopoaa.mergeMarks
open Go.ChangeShapes Go.WideShapes Go.ChangeAt Go.RowKit

/-- which mark a number stands for -/
def tk (z : Int) : Nat := (IntKind.u64.wrap z % 5).toNat
theorem tk_eq (z : Int) : wrap64 ((IntKind.u64.wrap z).tmod 5) = ((tk z : Nat) : Int) := by
  have h0 : 0 ≤ IntKind.u64.wrap z := by show 0 ≤ z % 18446744073709551616; omega
  have h1 : (IntKind.u64.wrap z).tmod 5 = IntKind.u64.wrap z % 5 := Int.tmod_eq_emod_of_nonneg h0
  have h2 : wrap64 ((IntKind.u64.wrap z).tmod 5) = (IntKind.u64.wrap z).tmod 5 := IntWalk.wrap64_in _ (by rw [h1]; omega)
  rw [h2, h1]
  unfold tk
  omega
theorem tk_lt (z : Int) : tk z < 5 := by unfold tk; omega
section
set_option maxRecDepth 100000
set_option maxHeartbeats 4000000
theorem walk (v : Value) (zs : List Int) (w : World) (h : FactInts .i64 w v zs) :
    Calls Try.prog 6 #[v] w fun e w' => e = .returned (.bool true) ∧ Below w.heap.size w w' := by
  have HV := hid h.1
  clear h
  obtain ⟨ao, cap, rfl⟩ := HV.out.form
  rw [List.length_map] at HV ⊢
  by_cases hl : zs.length ≤ 12
  · have hl' : decide (12 < (zs.length : Int)) = false := decide_eq_false (by omega)
    have hl2 : decide (12 < zs.length) = false := decide_eq_false (by omega)
    have hl3 : ¬ (12 : Int) < (zs.length : Int) := by omega
    obtain ⟨ks, hks⟩ : ∃ l, zs.map tk = l := ⟨_, rfl⟩
    have HK := hid hks
    have HN := hid hl
    clear hks hl
    go_enter Try.func6, Try.ntmps6
    go_wp2_with fail
    go_loopg [4, 5, 6, 7] zs.length (fun g s r a i wx => ∃ (m : Nat) (R : Bool) (A : Nat) (S : Tx), m ≤ zs.length ∧ zs.length - m = g ∧ i = .int .i64 m ∧ s = .string ⟨S.toArray⟩ ∧ r = .bool R ∧ a = .int .i64 A ∧ A < 4 ∧ S.length ≤ 20 * m ∧ Hid (S = ((ks.take m).map tok).flatten) ∧ Hid (marksGo true 0 ks = marksGo R A (ks.drop m)) ∧ Hid (wx = w.alloc (.cells #[.string ⟨mk0.toArray⟩, .string ⟨mk1.toArray⟩, .string ⟨mk2.toArray⟩, .string ⟨mk3.toArray⟩] 9)))
    case atStart => exact ⟨0, true, 0, [], Nat.zero_le _, rfl, rfl, rfl, rfl, rfl, by omega, by simp, hid rfl, hid rfl, hid rfl⟩
    case round =>
      obtain ⟨m, R, A, S, hm, rfl, rfl, rfl, rfl, rfl, hA, hSl, HS, HM, HW⟩ := hrel
      have m0 : (0 : Int) ≤ (m : Int) := Int.natCast_nonneg _
      by_cases hlt : m < zs.length
      · have m1 : (m : Int) < (zs.length : Int) := by omega
        have mw : IntKind.i64.wrap ((m : Int) + 1) = (m : Int) + 1 := IntWalk.i64_in _ (by have := HN.out; omega)
        have hv1 : Sl wr (.slice ao zs.length cap) (zs.map (Value.int .i64)) := by rw [HW.out]; exact HV.out.alloc _
        obtain ⟨la, z, rfl, hc, hz⟩ := hv1.elemAt' (i := m) hlt
        have c0 : wr.cell? ⟨w.heap.size, 0, none⟩ = some (.string ⟨mk0.toArray⟩) := by rw [HW.out]; exact blk_cell (heap_alloc_new w _) rfl
        have c1 : wr.cell? ⟨w.heap.size, 1, none⟩ = some (.string ⟨mk1.toArray⟩) := by rw [HW.out]; exact blk_cell (heap_alloc_new w _) rfl
        have c2 : wr.cell? ⟨w.heap.size, 2, none⟩ = some (.string ⟨mk2.toArray⟩) := by rw [HW.out]; exact blk_cell (heap_alloc_new w _) rfl
        have c3 : wr.cell? ⟨w.heap.size, 3, none⟩ = some (.string ⟨mk3.toArray⟩) := by rw [HW.out]; exact blk_cell (heap_alloc_new w _) rfl
        have hkm : ks[m]? = some (tk z) := by rw [← HK.out, List.getElem?_map, hz]; rfl
        have hd : ks.drop m = tk z :: ks.drop (m + 1) := by
          obtain ⟨q, e⟩ := List.getElem?_eq_some_iff.1 hkm
          rw [List.drop_eq_getElem_cons q, e]
        have HS2 := hid (show S ++ tok (tk z) = ((ks.take (m + 1)).map tok).flatten by rw [List.take_add_one, hkm, HS.out]; simp)
        have HM2 := hid (show marksGo true 0 ks = if tk z = 4 then marksGo R A (ks.drop (m + 1)) else marksGo (R && decide (tk z = A)) ((tk z + 1) % 4) (ks.drop (m + 1)) by rw [HM.out, hd, marksGo])
        have hk5 := tk_lt z
        have hk : wrap64 ((IntKind.u64.wrap z).tmod 5) = ((tk z : Nat) : Int) := tk_eq z
        clear hv1 hz hkm hd HM HS
        go_upto_region 10 with fail
        rw [hk]
        clear hk
        generalize tk z = k at hk5 HS2 HM2 ⊢
        have hmm : m < 12 := by have := HN.out; omega
        have ha0 : ∀ wx, (Op.stringOp .add ⟨S.toArray⟩ ⟨mk0.toArray⟩).run Try.prog wx = .ok (.string ⟨(S ++ mk0).toArray⟩) wx := run_str_add S mk0 (by simp [mk0]; omega)
        have ha1 : ∀ wx, (Op.stringOp .add ⟨S.toArray⟩ ⟨mk1.toArray⟩).run Try.prog wx = .ok (.string ⟨(S ++ mk1).toArray⟩) wx := run_str_add S mk1 (by simp [mk1]; omega)
        have ha2 : ∀ wx, (Op.stringOp .add ⟨S.toArray⟩ ⟨mk2.toArray⟩).run Try.prog wx = .ok (.string ⟨(S ++ mk2).toArray⟩) wx := run_str_add S mk2 (by simp [mk2]; omega)
        have ha3 : ∀ wx, (Op.stringOp .add ⟨S.toArray⟩ ⟨mk3.toArray⟩).run Try.prog wx = .ok (.string ⟨(S ++ mk3).toArray⟩) wx := run_str_add S mk3 (by simp [mk3]; omega)
        have ha4 : ∀ wx, (Op.stringOp .add ⟨S.toArray⟩ ⟨#[120, 10]⟩).run Try.prog wx = .ok (.string ⟨(S ++ [120, 10]).toArray⟩) wx := run_str_add S [120, 10] (by simp; omega)
        have HLen := hid (And.intro hSl hmm)
        clear hmm hSl
        rcases (show k = 0 ∨ k = 1 ∨ k = 2 ∨ k = 3 ∨ k = 4 by omega) with rfl | rfl | rfl | rfl | rfl <;> rcases (show A = 0 ∨ A = 1 ∨ A = 2 ∨ A = 3 by omega) with rfl | rfl | rfl | rfl <;> cases R <;> clear hk5 hA
        all_goals (
          go_wp2_with fail
          go_roundg (zs.length - (m + 1))
          case measure => omega
          case rel => first
            | exact ⟨m + 1, true, 0, _, by omega, rfl, by go_num, rfl, rfl, rfl, by omega, by have := HLen.out; rw [List.length_append]; have l0 : mk0.length = 13 := rfl; have l1 : mk1.length = 13 := rfl; have l2 : mk2.length = 8 := rfl; have l3 : mk3.length = 15 := rfl; have l4 : ([120, 10] : Tx).length = 2 := rfl; omega, HS2, hid (by have := HM2.out; simpa using this), HW⟩
            | exact ⟨m + 1, true, 1, _, by omega, rfl, by go_num, rfl, rfl, rfl, by omega, by have := HLen.out; rw [List.length_append]; have l0 : mk0.length = 13 := rfl; have l1 : mk1.length = 13 := rfl; have l2 : mk2.length = 8 := rfl; have l3 : mk3.length = 15 := rfl; have l4 : ([120, 10] : Tx).length = 2 := rfl; omega, HS2, hid (by have := HM2.out; simpa using this), HW⟩
            | exact ⟨m + 1, true, 2, _, by omega, rfl, by go_num, rfl, rfl, rfl, by omega, by have := HLen.out; rw [List.length_append]; have l0 : mk0.length = 13 := rfl; have l1 : mk1.length = 13 := rfl; have l2 : mk2.length = 8 := rfl; have l3 : mk3.length = 15 := rfl; have l4 : ([120, 10] : Tx).length = 2 := rfl; omega, HS2, hid (by have := HM2.out; simpa using this), HW⟩
            | exact ⟨m + 1, true, 3, _, by omega, rfl, by go_num, rfl, rfl, rfl, by omega, by have := HLen.out; rw [List.length_append]; have l0 : mk0.length = 13 := rfl; have l1 : mk1.length = 13 := rfl; have l2 : mk2.length = 8 := rfl; have l3 : mk3.length = 15 := rfl; have l4 : ([120, 10] : Tx).length = 2 := rfl; omega, HS2, hid (by have := HM2.out; simpa using this), HW⟩
            | exact ⟨m + 1, false, 0, _, by omega, rfl, by go_num, rfl, rfl, rfl, by omega, by have := HLen.out; rw [List.length_append]; have l0 : mk0.length = 13 := rfl; have l1 : mk1.length = 13 := rfl; have l2 : mk2.length = 8 := rfl; have l3 : mk3.length = 15 := rfl; have l4 : ([120, 10] : Tx).length = 2 := rfl; omega, HS2, hid (by have := HM2.out; simpa using this), HW⟩
            | exact ⟨m + 1, false, 1, _, by omega, rfl, by go_num, rfl, rfl, rfl, by omega, by have := HLen.out; rw [List.length_append]; have l0 : mk0.length = 13 := rfl; have l1 : mk1.length = 13 := rfl; have l2 : mk2.length = 8 := rfl; have l3 : mk3.length = 15 := rfl; have l4 : ([120, 10] : Tx).length = 2 := rfl; omega, HS2, hid (by have := HM2.out; simpa using this), HW⟩
            | exact ⟨m + 1, false, 2, _, by omega, rfl, by go_num, rfl, rfl, rfl, by omega, by have := HLen.out; rw [List.length_append]; have l0 : mk0.length = 13 := rfl; have l1 : mk1.length = 13 := rfl; have l2 : mk2.length = 8 := rfl; have l3 : mk3.length = 15 := rfl; have l4 : ([120, 10] : Tx).length = 2 := rfl; omega, HS2, hid (by have := HM2.out; simpa using this), HW⟩
            | exact ⟨m + 1, false, 3, _, by omega, rfl, by go_num, rfl, rfl, rfl, by omega, by have := HLen.out; rw [List.length_append]; have l0 : mk0.length = 13 := rfl; have l1 : mk1.length = 13 := rfl; have l2 : mk2.length = 8 := rfl; have l3 : mk3.length = 15 := rfl; have l4 : ([120, 10] : Tx).length = 2 := rfl; omega, HS2, hid (by have := HM2.out; simpa using this), HW⟩)
      · obtain rfl : m = zs.length := by omega
        have hneg : ¬ (zs.length : Int) < (zs.length : Int) := by omega
        have hkl : ks.length = zs.length := by rw [← HK.out, List.length_map]
        have hS : S = (ks.map tok).flatten := by rw [HS.out, List.take_of_length_le (by omega)]
        have hM : marksGo true 0 ks = (R, A) := by rw [HM.out, List.drop_of_length_le (by omega)]; rfl
        have hI : (parseS S).isSome = (R && decide (A = 0)) := by
          rw [hS, parse_marks ks (fun k hk => by rw [← HK.out] at hk; obtain ⟨z, _, rfl⟩ := List.mem_map.1 hk; exact tk_lt z), hM]
        have hb0 : Below w.heap.size w wr := by rw [HW.out]; exact (Below.refl _ w).alloc (Nat.le_refl _) _
        have hz0 := hb0.size
        have hsl : S.length ≤ 240 := by have := HN.out; omega
        have HE : ∃ q : Int, parseE S = q ∧ (q == 0) = (R && ((A : Int) == 0)) := by
          refine ⟨_, rfl, ?_⟩
          unfold parseE
          rw [hI]
          rcases (show A = 0 ∨ A = 1 ∨ A = 2 ∨ A = 3 by omega) with rfl | rfl | rfl | rfl <;> cases R <;> rfl
        obtain ⟨q, hq, hq0⟩ := HE
        have hq5 : q = 0 ∨ q = 5 := by
          rw [← hq]
          unfold parseE
          split
          · exact .inl rfl
          · exact .inr rfl
        have HD := hid (DParse_any S wr (by omega))
        have HRA := hid (fun wx => RParse_any S wx (by omega))
        rw [hq] at HD HRA
        have HSL := hid hsl
        obtain ⟨L, hL⟩ : ∃ L, parseL S = L := ⟨_, rfl⟩
        rw [hL] at HD HRA
        unfold strV at HD HRA
        have HB0 := hid hb0
        have fin : (R = true ∧ A = 0 ∧ q = 0) ∨ (R = false ∧ q = 5) ∨ (R = true ∧ ((A : Int) == 0) = false ∧ q = 5) := by
          cases R with
          | false =>
            refine .inr (.inl ⟨rfl, ?_⟩)
            rcases hq5 with rfl | rfl
            · exact absurd hq0 (by simp)
            · rfl
          | true =>
            rw [Bool.true_and] at hq0
            rcases hq5 with rfl | rfl
            · refine .inl ⟨rfl, ?_, rfl⟩
              have : ((A : Int) == 0) = true := hq0.symm
              have := eq_of_beq this
              omega
            · exact .inr (.inr ⟨rfl, hq0.symm, rfl⟩)
        clear hkl hS hM hI HS HM hSl hsl hq hq0 HW hq5 hL hb0 hz0
        rcases fin with ⟨rfl, rfl, rfl⟩ | ⟨rfl, rfl⟩ | ⟨rfl, hA0, rfl⟩
        all_goals (
          go_wp2_with (first
            | (go_at_call 12; refine HD.out.mono ?_; rintro e w2 ⟨u2, rfl, s2, cu2, ln2, hb2⟩
               obtain ⟨_, _, rfl⟩ := s2.form
               have HS2 := hid s2; have HC2 := hid (And.intro cu2 ln2); have HB2 := hid (below_step HB0.out hb2 HB0.out.size); clear s2 cu2 ln2 hb2)
            | (go_at_call 13; refine (HRA.out _).mono ?_; rintro e w3 ⟨u3, rfl, s3, _, _, hb3⟩
               obtain ⟨_, _, rfl⟩ := s3.form
               have HS3 := hid s3; have HS2' := hid (HS2.out.old hb3); have HB3 := hid (below_step HB2.out hb3 HB2.out.size); clear s3 hb3)
            | (go_at_call 9; refine (awake_any _).mono ?_; rintro e w4 ⟨rfl, hb4⟩
               have HS4 := hid (HS2'.out.old hb4); have HS5 := hid (HS3.out.old hb4); have HB4 := hid (below_step HB3.out hb4 HB3.out.size); clear hb4)
            | (go_at_call 16; refine (CSame_at _ _ L L _ HS4.out HS5.out (by have h1 := HC2.out.2; have h2 := HSL.out; unfold maxLen; omega) (fun c hc => by have h1 := HC2.out.1 c hc; have h2 := HSL.out; omega)).mono ?_; rintro e w5 ⟨rfl, hb5⟩
               rw [show (L == L) = true by simp]
               have HB5 := hid (below_step HB4.out hb5 HB4.out.size); clear hb5))
          go_ret
          exact ⟨rfl, HB5.out⟩)
  · have hl' : decide (12 < (zs.length : Int)) = true := decide_eq_true (by omega)
    have hl2 : decide (12 < zs.length) = true := decide_eq_true (by omega)
    have hl3 : (12 : Int) < (zs.length : Int) := by omega
    clear hl
    go_enter Try.func6, Try.ntmps6
    go_wp2_with fail
    refine (awake_any w).mono ?_
    rintro e w2 ⟨rfl, hb⟩
    go_wp2_with fail
    go_ret
    exact ⟨rfl, hb⟩
end
theorem own : ownKnob Try.prog.godebug = none := by kernel_rfl
theorem laidOut : laidOutB Try.prog = true := by kernel_rfl

set_option maxRecDepth 100000 in
theorem contract (H : Type) (enc : TypeId × Value → H) (W : World) (base : Nat) (args : Array Value) (ds gs : List (DataW H)) (before : List MemPlace)
    (hval : ∀ (j : Nat) t v, Try.f6.params[j]? = some t → args[j]? = some v → Value.okWide Try.prog W .any base t v)
    (hW : DataW.Whole enc Try.prog Try.f6.params.toList Rows.mergeMarksSpec.vars false W args.toList ds gs before) :
    Calls Try.prog 6 args W fun e W' => ∃ v, e = .returned v ∧ Rows.mergeMarksSpec.post enc Try.prog Try.f6 false true false false W args v W' := by
  have hW' := hW
  obtain ⟨p, q, hA0, hV, rfl, hfz, hnd⟩ := hW
  have hA : DataW.TrodAll enc Try.prog W 0 (fun _ => true) true Try.f6.params.toList args.toList ds p := hA0
  rw [Try.params6] at hA hval
  obtain ⟨v0, vs0, d0, ds0, p0, q0, hargs, rfl, rfl, h0, r0⟩ := trodAll_cons hA
  obtain ⟨rfl, rfl, rfl⟩ := trodAll_nil r0
  obtain rfl : args = #[v0] := by cases args; simp_all
  obtain ⟨rfl, rfl⟩ := trodVars_none hV
  have k0 := h0
  have lt0 : ∀ x ∈ p0, x.block < W.heap.size := by obtain ⟨m, hm⟩ := k0; exact DataW.trod_lt m _ _ _ hm
  obtain ⟨x0, l0, c0, rfl⟩ := okWide_slice Try.underlying44 (hval 0 44 v0 rfl rfl)
  obtain ⟨a0, w0⟩ : ∃ a, FactInts .i64 W (.slice x0 l0 c0) a := by
    obtain ⟨fuel, hf⟩ := h0
    obtain ⟨v', a, hcs, hs⟩ := open_intList Try.underlying44 Try.underlying3 (by kernel_rfl) hf
    obtain rfl : v' = .slice x0 l0 c0 := by simpa [Value.cells] using hcs.symm
    exact ⟨a, hs⟩
  clear hA0
  refine (walk (.slice x0 l0 c0) a0 W w0).mono fun e W' ⟨he, bel⟩ => ?_
  subst he
  exact ⟨_, rfl, _, _, _, [], _, [], hW', trodAll_mk1 (shut_bool Try.underlying4 _), (trodAll_cons_mk (Below.trod laidOut (by kernel_rfl) (of_decide_eq_true (by kernel_rfl)) k0 bel lt0) trodAll_mk0), rfl, bel.frame _, fun h => by cases h⟩

set_option maxRecDepth 100000 in
theorem lifted (os : Os) (started : os.Started) (H : Type) (enc : TypeId × Value → H) :
    ReturnsInHanded {} Try.checked os 6 .any (Rows.mergeMarksSpec.pre6 enc Try.prog Try.f6 Rows.mergeMarksRow.domain false) (Rows.mergeMarksSpec.post enc Try.prog Try.f6 false true false false) := by
  refine returnsInHanded_of_change (C := Try.checked) own started (by kernel_rfl) Try.func6
    (ChangeSpec.witness6 (enc := enc) (C := Try.checked) false ⟨#[], #[.slice none 0 0], []⟩ 8 (by kernel_rfl) (by kernel_rfl) (by kernel_rfl) (by kernel_rfl)) ?_
  intro W base args ds gs before hval hW _ _
  exact contract H enc W base args ds gs before hval hW

theorem over : Rows.mergeMarksRow.holds Try.pinned (OpenSpec.ofChange Rows.mergeMarksSpec) :=
  OpenClaim.holds_of_wide 6 Try.f6 rfl rfl rfl rfl rfl rfl rfl ⟨rfl, rfl, rfl, rfl, rfl⟩ rfl rfl rfl rfl rfl (by kernel_rfl) Try.func6 (by kernel_rfl)
    (of_decide_eq_true (by kernel_rfl)) (by unfold Func.isWrapper; first | (rw [if_pos (by decide +kernel)]; kernel_rfl) | (rw [if_neg (by decide +kernel)]; exact ⟨rfl, rfl⟩))
    (fun os started H enc _ => lifted os started H enc)

/-- The statement. -/
theorem proved : Rows.MergeMarksSaid :=
  over
#print axioms proved
end Go.Proofs.Ytfldheegebopoaa.mergeMarks
