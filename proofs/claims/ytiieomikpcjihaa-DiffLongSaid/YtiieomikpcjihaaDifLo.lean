/-
  DiffLong: lists that are too long are kept as far as they begin alike; then all goes, and all comes.
-/
import Derived.Test.YtiieomikpcjihaaDifAw
import Derived.Test.YtiieomikpcjihaaEdB
import Derived.Test.YtiieomikpcjihaaRdfS
import Derived.Test.YtiieomikpcjihaaOpenS
import Derived.Test.YtiieomikpcjihaaStr
import Derived.Test.YtiieomikpcjihaaMod
import Derived.ProofKit
import Derived.OpenShut
namespace Go.Proofs.Ytiieomikpcjihaa.diffLong
open Go.ChangeShapes Go.WideShapes Go.ChangeAt Go.RowKit

/-- The law's two lists. -/
def listA (s n : Nat) (x : List UInt8) : List (List UInt8) := List.replicate s x ++ List.replicate n (x ++ [49])
def listB (s : Nat) (x : List UInt8) : List (List UInt8) := List.replicate s x ++ [x ++ [50], x ++ [49]]
theorem script_long (s n : Nat) (x : List UInt8) (hn : 400 < n) :
    ∃ es, scriptS (listA s n x) (listB s x) = es ∧ es.length = s + n + 2 ∧ sideS 2 es = listA s n x ∧ sideS 3 es = listB s x ∧ distS es = n + 2 := by
  have hne : (x ++ [49] : List UInt8) ≠ x ++ [50] := by simp
  have h1 : scriptS (List.replicate n (x ++ [49])) [x ++ [50], x ++ [49]] = ((List.replicate n (x ++ [49])).map fun y => ((2 : Int), y)) ++ ([x ++ [50], x ++ [49]].map fun y => ((3 : Int), y)) := by
    obtain ⟨m, rfl⟩ : ∃ m, n = m + 1 := ⟨n - 1, by omega⟩
    rw [List.replicate_succ, scriptS_cons, if_neg hne, restS, if_pos (by unfold tooLong; left; simp; omega)]
  refine ⟨_, rfl, ?_⟩
  unfold listA listB
  rw [scriptS_prefix, h1]
  refine ⟨by simp; omega, ?_, ?_, ?_⟩
  · rw [sideS_append, sideS_append, sideS_all 2 1 _ (by decide), sideS_all 2 2 _ (by decide), sideS_none 2 3 _ (by decide), List.append_nil]
  · rw [sideS_append, sideS_append, sideS_all 3 1 _ (by decide), sideS_none 3 2 _ (by decide), sideS_all 3 3 _ (by decide), List.nil_append]
  · rw [distS_append, distS_append, distS_keep, distS_map 2 _ (by decide), distS_map 3 _ (by decide)]
    simp

section
set_option maxRecDepth 100000
set_option maxHeartbeats 4000000
theorem walk_big (n0 s0 : Int) (x : List UInt8) (w : World) (hl : 20 < x.length) :
    Calls Try.prog 6 #[.int .i64 n0, .int .i64 s0, strV x] w fun e w' => e = .returned (.bool true) ∧ Below w.heap.size w w' := by
  unfold strV
  have hsz := hid (rfl : (⟨x.toArray⟩ : ByteArray).size = x.length)
  have hl' : (20 : Int) < (x.length : Int) := by omega
  clear hl
  go_enter Try.func6, Try.ntmps6
  go_wp2_with fail
  refine (awake_any w).mono ?_
  rintro e w1 ⟨rfl, hb1⟩
  go_wp2
  go_ret
  exact ⟨rfl, hb1⟩

theorem walk_at (n0 s0 : Int) (x : List UInt8) (w : World) (hl : x.length ≤ 20) :
    Calls Try.prog 6 #[.int .i64 n0, .int .i64 s0, strV x] w fun e w' => e = .returned (.bool true) ∧ Below w.heap.size w w' := by
  obtain ⟨n, hn, hn3⟩ := mod_nat n0 50 (by decide) (by decide)
  obtain ⟨s, hs, hs3⟩ := mod_nat s0 50 (by decide) (by decide)
  rw [show ((50 : Nat) : Int) = 50 from rfl] at hn hs
  have hw : IntKind.i64.wrap (401 + (n : Int)) = ((401 + n : Nat) : Int) := (IntWalk.i64_in _ (by omega)).trans (by omega)
  obtain ⟨N, hN⟩ : ∃ N, 401 + n = N := ⟨_, rfl⟩
  rw [hN] at hw
  have hN1 : 400 < N := by omega
  have hN2 : N ≤ 451 := by omega
  have hs2 : s ≤ 50 := by omega
  unfold strV
  have hsz := hid (rfl : (⟨x.toArray⟩ : ByteArray).size = x.length)
  have hl' : ¬ (20 : Int) < (x.length : Int) := by omega
  have HL := hid hl
  clear hl hN hs3 hn3
  go_enter Try.func6, Try.ntmps6
  go_wp2_with fail
  have ad1 := fun wx => (run_str_add (P := Try.prog) x [49] (by have := HL.out; simp; omega) wx : (Op.stringOp .add ⟨x.toArray⟩ ⟨#[49]⟩).run Try.prog wx = .ok (.string ⟨(x ++ [49]).toArray⟩) wx)
  have ad2 := fun wx => (run_str_add (P := Try.prog) x [50] (by have := HL.out; simp; omega) wx : (Op.stringOp .add ⟨x.toArray⟩ ⟨#[50]⟩).run Try.prog wx = .ok (.string ⟨(x ++ [50]).toArray⟩) wx)
  go_loopg [7, 8, 9] s (fun g va vb i wr => ∃ k : Nat, k ≤ s ∧ g = s - k ∧ i = .int .i64 k ∧ Hid (TwoS wr w.heap.size va vb (List.replicate k x) (List.replicate k x)) ∧ Hid (Below w.heap.size w wr))
  case atStart => exact ⟨0, Nat.zero_le _, rfl, rfl, hid (TwoS.nil _ _), hid (Below.refl _ _)⟩
  case round =>
    obtain ⟨k, hk, rfl, rfl, HT, HB⟩ := hrel
    have kw : IntKind.i64.wrap ((k : Int) + 1) = (k : Int) + 1 := IntWalk.i64_in _ (by omega)
    by_cases hlt : k < s
    · have k1 : (k : Int) < (s : Int) := by omega
      go_wp2_with (first
        | (refine wpList_append_two rfl (.tmp 30) (.tmp 32) rfl w.heap.size _ _ _ _ [x] rfl HT.out rfl (by simp; omega) HB.out.size ?_; intro v1 w1 ht1 hb1; have hz1 := hb1.size; have ht1 := ht1.turn)
        | (refine wpList_append_two rfl (.tmp 34) (.tmp 36) rfl w.heap.size _ _ _ _ [x] rfl ht1 rfl (by simp; omega) (Nat.le_trans HB.out.size (by have := HB.out.size; omega)) ?_; intro v2 w2 ht2 hb2))
      have HT' := hid (show TwoS w2 w.heap.size v1 v2 (List.replicate (k + 1) x) (List.replicate (k + 1) x) by
        rw [List.replicate_succ']
        exact ht2.turn)
      have HB' := hid (HB.out.trans (hb1.trans hb2))
      clear ht1 ht2 hb1 hb2 hz1
      go_roundg (s - (k + 1))
      case measure => omega
      case rel => exact ⟨k + 1, by omega, rfl, rfl, HT', HB'⟩
    · obtain rfl : k = s := by omega
      clear hlt kw
      go_wp2_with fail
      go_loopg [7, 10] N (fun g va i wr2 => ∃ j : Nat, j ≤ N ∧ g = N - j ∧ i = .int .i64 j ∧ Hid (TwoS wr2 w.heap.size va u8 (List.replicate k x ++ List.replicate j (x ++ [49])) (List.replicate k x)) ∧ Hid (Below w.heap.size w wr2))
      case atStart => exact ⟨0, Nat.zero_le _, rfl, rfl, hid (by simpa using HT.out), HB⟩
      case round =>
        obtain ⟨j, hj, rfl, rfl, HT, HB⟩ := hrel
        have jw : IntKind.i64.wrap ((j : Int) + 1) = (j : Int) + 1 := IntWalk.i64_in _ (by omega)
        by_cases hlt : j < N
        · have j1 : (j : Int) < (N : Int) := by omega
          go_wp2_with (refine wpList_append_two rfl (.tmp 43) (.tmp 46) rfl w.heap.size _ _ _ _ [x ++ [49]] rfl HT.out rfl (by simp; omega) HB.out.size ?_; intro v1 w1 ht1 hb1)
          have HT' := hid (show TwoS w1 w.heap.size v1 u8 (List.replicate k x ++ List.replicate (j + 1) (x ++ [49])) (List.replicate k x) by
            rw [List.replicate_succ', ← List.append_assoc]
            exact ht1)
          have HB' := hid (HB.out.trans hb1)
          clear ht1 hb1
          go_roundg (N - (j + 1))
          case measure => omega
          case rel => exact ⟨j + 1, by omega, rfl, rfl, HT', HB'⟩
        · obtain rfl : j = N := by omega
          clear hlt jw
          go_wp2_with (refine wpList_append_two rfl (.tmp 48) (.tmp 53) rfl w.heap.size _ _ _ _ [x ++ [50], x ++ [49]] rfl HT.out.turn rfl (by simp; omega) HB.out.size ?_; intro v1 w1 ht1 hb1)
          have hA2 := Sl.ofOwns ht1.two
          have hB2 := Sl.ofOwns ht1.one
          obtain ⟨es, hes, h1, h2, h3, h4⟩ := script_long k j x hN1
          obtain ⟨LA, hLA⟩ : ∃ LA, listA k j x = LA := ⟨_, rfl⟩
          obtain ⟨LB, hLB⟩ : ∃ LB, listB k x = LB := ⟨_, rfl⟩
          rw [hLA, hLB] at hes
          rw [hLA] at h2
          rw [hLB] at h3
          have hla : LA.length = k + j := by rw [← hLA]; simp [listA]
          have hlb : LB.length = k + 2 := by rw [← hLB]; simp [listB]
          rw [show List.replicate k x ++ List.replicate j (x ++ [49]) = LA from hLA] at hA2
          rw [show List.replicate k x ++ [x ++ [50], x ++ [49]] = LB from hLB] at hB2
          obtain ⟨aA, cA, hfA⟩ := hA2.form
          obtain ⟨aB, cB, hfB⟩ := hB2.form
          subst hfA
          subst hfB
          have hb1 := HB.out.trans hb1
          have hz1 := hb1.size
          have HES := hid hes
          have HO := hid h2
          have HNw := hid h3
          have HD := hid h4
          have HEL := hid h1
          have HLA := hid hla
          have HLB := hid hlb
          obtain ⟨m, hm⟩ : ∃ m, es.length = m := ⟨_, rfl⟩
          have hmm : m = k + j + 2 := by rw [← hm]; exact h1
          have hm1 : m ≤ 600 := by omega
          have HM := hid hm
          have w1' : IntKind.i64.wrap ((k : Int) + (j : Int)) = (k : Int) + j := IntWalk.i64_in _ (by omega)
          have w2' : IntKind.i64.wrap ((k : Int) + (j : Int) + 2) = (k : Int) + j + 2 := IntWalk.i64_in _ (by omega)
          have w3' : IntKind.i64.wrap ((j : Int) + 2) = (j : Int) + 2 := IntWalk.i64_in _ (by omega)
          have q1 : ((m : Int) == (k : Int) + j + 2) = true := by simp; omega
          have q2 : (((j + 2 : Nat) : Int) == (j : Int) + 2) = true := by simp
          clear ht1 hes h1 h2 h3 h4 hLA hLB hla hlb hm hmm HT ad1 ad2
          go_wp2_with fail
          have hA := DScript_any _ _ LA LB w1 hA2 hB2 (by rw [HLA.out]; omega) (by rw [HLB.out]; omega)
          rw [HES.out] at hA
          refine hA.mono ?_
          rintro e x1 ⟨l, rfl, hl, hb2⟩
          have hl := hl.slE
          obtain ⟨ao, cap, hf⟩ := hl.form
          rw [HM.out] at hf
          subst hf
          have hA2 := Sl.old hA2 hb2
          have hB2 := Sl.old hB2 hb2
          have hb2 := below_step hb1 hb2 hz1
          have hz2 := hb2.size
          clear hA hb1 hz1
          go_wp2_with fail
          refine (awake_any x1).mono ?_
          rintro e x2 ⟨rfl, hb3⟩
          have hA2 := Sl.old hA2 hb3
          have hB2 := Sl.old hB2 hb3
          have hl := SlE.old hl hb3
          have hb3 := below_step hb2 hb3 hz2
          have hz3 := hb3.size
          clear hb2 hz2
          go_wp2_with fail
          have hA := DOld_any _ es x2 hl (by rw [HM.out]; omega)
          rw [HO.out] at hA
          refine hA.mono ?_
          rintro e x3 ⟨u, rfl, hu, hb4⟩
          have hu := Sl.ofOwns hu
          have hA2 := Sl.old hA2 hb4
          have hB2 := Sl.old hB2 hb4
          have hl := SlE.old hl hb4
          have hb4 := below_step hb3 hb4 hz3
          have hz4 := hb4.size
          clear hA hb3 hz3
          go_wp2_with fail
          refine (SPlain_any _ _ LA LA x3 hu hA2 (by rw [HLA.out]; unfold maxLen; omega)).mono ?_
          rw [show (LA == LA) = true by simp]
          rintro e x4 ⟨rfl, k5, rfl⟩
          have hb5 := below_drewN x3 k5
          generalize x3.drewN k5 = x4 at hb5 ⊢
          have hA2 := Sl.old hA2 hb5
          have hB2 := Sl.old hB2 hb5
          have hl := SlE.old hl hb5
          have hb5 := below_step hb4 hb5 hz4
          have hz5 := hb5.size
          clear hb4 hz4 hu
          go_wp2_with fail
          have hA := DNew_any _ es x4 hl (by rw [HM.out]; omega)
          rw [HNw.out] at hA
          refine hA.mono ?_
          rintro e x5 ⟨u, rfl, hu, hb6⟩
          have hu := Sl.ofOwns hu
          have hA2 := Sl.old hA2 hb6
          have hB2 := Sl.old hB2 hb6
          have hl := SlE.old hl hb6
          have hb6 := below_step hb5 hb6 hz5
          have hz6 := hb6.size
          clear hA hb5 hz5
          go_wp2_with fail
          refine (SPlain_any _ _ LB LB x5 hu hB2 (by rw [HLB.out]; unfold maxLen; omega)).mono ?_
          rw [show (LB == LB) = true by simp]
          rintro e x6 ⟨rfl, k7, rfl⟩
          have hb7 := below_drewN x5 k7
          generalize x5.drewN k7 = x6 at hb7 ⊢
          have hA2 := Sl.old hA2 hb7
          have hB2 := Sl.old hB2 hb7
          have hl := SlE.old hl hb7
          have hb7 := below_step hb6 hb7 hz6
          have hz7 := hb7.size
          clear hb6 hz6 hu
          go_wp2_with fail
          have hA := DDistance_any _ _ LA LB x6 hA2 hB2 (by rw [HLA.out]; omega) (by rw [HLB.out]; omega)
          rw [HES.out, HD.out] at hA
          refine hA.mono ?_
          rintro e x7 ⟨rfl, hb8⟩
          have hA2 := Sl.old hA2 hb8
          have hB2 := Sl.old hB2 hb8
          have hl := SlE.old hl hb8
          have hb8 := below_step hb7 hb8 hz7
          have hz8 := hb8.size
          clear hA hb7 hz7
          go_wp2_with fail
          have hA := RScript_any _ _ LA LB x7 hA2 hB2 (by rw [HLA.out]; omega) (by rw [HLB.out]; omega)
          rw [HES.out] at hA
          refine hA.mono ?_
          rintro e x8 ⟨u, rfl, hu, hb9⟩
          have hu := hu.slE
          have hl := SlE.old hl hb9
          have hb9 := below_step hb8 hb9 hz8
          have hz9 := hb9.size
          obtain ⟨ao2, cap2, hf⟩ := hu.form
          rw [HM.out] at hf
          subst hf
          clear hA hb8 hz8
          go_wp2_with fail
          refine (EPlain_any _ _ es es x8 hl hu (by rw [HM.out]; unfold maxLen; omega)).mono ?_
          rw [show (es == es) = true by simp]
          rintro e x9 ⟨rfl, hb10⟩
          go_wp2
          go_ret
          exact ⟨rfl, below_step hb9 hb10 hz9⟩

theorem walk (n0 s0 : Int) (x : List UInt8) (w : World) (_h0 : (Lit.int .i64 n0).wf = true) (_h1 : (Lit.int .i64 s0).wf = true) (_hx : x.length ≤ maxLen) :
    Calls Try.prog 6 #[.int .i64 n0, .int .i64 s0, strV x] w fun e w' => e = .returned (.bool true) ∧ Below w.heap.size w w' := by
  by_cases h : 20 < x.length
  · exact walk_big n0 s0 x w h
  · exact walk_at n0 s0 x w (by omega)
end

theorem own : ownKnob Try.prog.godebug = none := by kernel_rfl
theorem laidOut : laidOutB Try.prog = true := by kernel_rfl

theorem contract (H : Type) (enc : TypeId × Value → H) (W : World) (base : Nat) (args : Array Value) (ds gs : List (DataW H)) (before : List MemPlace)
    (hval : ∀ (j : Nat) t v, Try.f6.params[j]? = some t → args[j]? = some v → Value.okWide Try.prog W .any base t v)
    (hW : DataW.Whole enc Try.prog Try.f6.params.toList Rows.diffLongSpec.vars false W args.toList ds gs before) :
    Calls Try.prog 6 args W fun e W' => ∃ v, e = .returned v ∧ Rows.diffLongSpec.post enc Try.prog Try.f6 false true false false W args v W' := by
  have hW' := hW
  obtain ⟨p, q, hA0, hV, rfl, hfz, hnd⟩ := hW
  have hA : DataW.TrodAll enc Try.prog W 0 (fun _ => true) true Try.f6.params.toList args.toList ds p := hA0
  rw [Try.params6] at hA hval
  obtain ⟨v0, vs0, d0, ds0, p0, q0, hargs, rfl, rfl, h0, r0⟩ := trodAll_cons hA
  obtain ⟨v1, vs1, d1, ds1, p1, q1, rfl, rfl, rfl, h1, r1⟩ := trodAll_cons r0
  obtain ⟨v2, vs2, d2, ds2, p2, q2, rfl, rfl, rfl, h2, r2⟩ := trodAll_cons r1
  obtain ⟨rfl, rfl, rfl⟩ := trodAll_nil r2
  obtain rfl : args = #[v0, v1, v2] := by cases args; simp_all
  obtain ⟨rfl, rfl⟩ := trodVars_none hV
  have k0 := h0
  have lt0 : ∀ x ∈ p0, x.block < W.heap.size := by obtain ⟨m, hm⟩ := k0; exact DataW.trod_lt m _ _ _ hm
  obtain ⟨a0, rfl, _, _, w0⟩ := open_int Try.underlying3 (hval 0 3 v0 rfl rfl) h0
  have k1 := h1
  have lt1 : ∀ x ∈ p1, x.block < W.heap.size := by obtain ⟨m, hm⟩ := k1; exact DataW.trod_lt m _ _ _ hm
  obtain ⟨a1, rfl, _, _, w1⟩ := open_int Try.underlying3 (hval 1 3 v1 rfl rfl) h1
  have k2 := h2
  have lt2 : ∀ x ∈ p2, x.block < W.heap.size := by obtain ⟨m, hm⟩ := k2; exact DataW.trod_lt m _ _ _ hm
  obtain ⟨a2, rfl, _, _, w2⟩ := open_str Try.underlying9 (hval 2 9 v2 rfl rfl) h2
  clear hA0
  refine (walk a0 a1 a2 W w0 w1 w2).mono fun e W' ⟨he, bel⟩ => ?_
  subst he
  exact ⟨_, rfl, _, _, _, [], _, [], hW', trodAll_mk1 (shut_bool Try.underlying4 _), (trodAll_cons_mk (Below.trod laidOut (by kernel_rfl) (of_decide_eq_true (by kernel_rfl)) k0 bel lt0) (trodAll_cons_mk (Below.trod laidOut (by kernel_rfl) (of_decide_eq_true (by kernel_rfl)) k1 bel lt1) (trodAll_cons_mk (Below.trod laidOut (by kernel_rfl) (of_decide_eq_true (by kernel_rfl)) k2 bel lt2) trodAll_mk0))), rfl, bel.frame _, fun h => by cases h⟩

set_option maxRecDepth 100000 in
theorem lifted (os : Os) (started : os.Started) (H : Type) (enc : TypeId × Value → H) :
    ReturnsInHanded {} Try.checked os 6 .any (Rows.diffLongSpec.pre6 enc Try.prog Try.f6 Rows.diffLongRow.domain false) (Rows.diffLongSpec.post enc Try.prog Try.f6 false true false false) := by
  refine returnsInHanded_of_change (C := Try.checked) own started (by kernel_rfl) Try.func6
    (ChangeSpec.witness6 (enc := enc) (C := Try.checked) false ⟨#[], #[.int .i64 0, .int .i64 0, .string ByteArray.empty], []⟩ 8 (by kernel_rfl) (by kernel_rfl) (by kernel_rfl) (by kernel_rfl)) ?_
  intro W base args ds gs before hval hW _ _
  exact contract H enc W base args ds gs before hval hW

theorem over : Rows.diffLongRow.holds Try.pinned (OpenSpec.ofChange Rows.diffLongSpec) :=
  OpenClaim.holds_of_wide 6 Try.f6 rfl rfl rfl rfl rfl rfl rfl ⟨rfl, rfl, rfl, rfl, rfl⟩ rfl rfl rfl rfl rfl (by kernel_rfl) Try.func6 (by kernel_rfl)
    (of_decide_eq_true (by kernel_rfl)) (by unfold Func.isWrapper; first | (rw [if_pos (by decide +kernel)]; kernel_rfl) | (rw [if_neg (by decide +kernel)]; exact ⟨rfl, rfl⟩))
    (fun os started H enc _ => lifted os started H enc)

/-- The statement. -/
theorem proved : Rows.DiffLongSaid :=
  over
#print axioms proved
end Go.Proofs.Ytiieomikpcjihaa.diffLong
