/-
  OctetsLow: for every number and count, what Num writes is the number's bytes, the lowest first. No condition.
-/
import Derived.Test.YtccfhbdafoamoaaAwake
import Derived.Test.YtccfhbdafoamoaaOpen
namespace Go.Proofs.Ytccfhbdafoamoaa.octetsLow
open Go.ChangeShapes Go.WideShapes Go.ChangeAt Go.RowKit

theorem lowBytes_get (v n i : Nat) (h : i < n) : (lowBytes v n)[i]? = some (UInt8.ofNat (v / 2 ^ (8 * i))) := by
  induction n generalizing v i with
  | zero => omega
  | succ n ih =>
    cases i with
    | zero => simp [lowBytes]
    | succ i =>
      rw [lowBytes, List.getElem?_cons_succ, ih _ _ (by omega), Nat.div_div_eq_div_mul, show 8 * (i + 1) = 8 + 8 * i from by omega, Nat.pow_add]

set_option maxRecDepth 1000000 in
set_option maxHeartbeats 1000000 in
theorem walk (a0 : Int) (a1 : Int) (w : World) (w0 : (Lit.int .u64 a0).wf = true) (_w1 : (Lit.int .i64 a1).wf = true) :
    Calls Try.prog 6 #[.int .u64 a0, .int .i64 a1] w fun e w' => e = .returned (.bool true) ∧ Below w.heap.size w w' := by
  obtain ⟨m, hm, hm1, hm8⟩ : ∃ m : Nat, wrap64 (1 + wrap64 ((IntKind.u64.wrap a1).tmod 8)) = (m : Int) ∧ 1 ≤ m ∧ m ≤ 8 := by
    have h0 : 0 ≤ IntKind.u64.wrap a1 := by simp only [IntKind.wrap_u64]; omega
    generalize IntKind.u64.wrap a1 = q at h0
    obtain ⟨q, rfl⟩ := Int.eq_ofNat_of_zero_le h0
    have e : (q : Int).tmod 8 = ((q % 8 : Nat) : Int) := by rw [Int.tmod_eq_emod_of_nonneg (by omega)]; omega
    have e1 : wrap64 ((q % 8 : Nat) : Int) = ((q % 8 : Nat) : Int) := IntWalk.wrap64_in _ (by omega)
    have e2 : wrap64 (1 + ((q % 8 : Nat) : Int)) = 1 + ((q % 8 : Nat) : Int) := IntWalk.wrap64_in _ (by omega)
    exact ⟨1 + q % 8, by rw [e, e1, e2]; omega, by omega, by omega⟩
  have hx0 := (bounds_u64 w0).1
  go_enter Try.func6, Try.ntmps6
  go_wp2_with fail
  rw [hm]
  have hh : heldN (m : Int) = m := by unfold heldN; omega
  clear hm
  have hw0 := Wr.new w
  have hb0 : Below w.heap.size w (w.alloc (.cells #[.slice none 0 0] 25)) := (Below.refl _ _).alloc (Nat.le_refl _) _
  have hz0 := hb0.size
  refine (Num_any w.heap.size w.heap.size _ [] a0 m hx0 _ hw0 hz0 (by decide)).mono ?_
  rw [hh]
  clear hh
  rintro e w1 ⟨rfl, v1, hw1, hf1⟩
  have hb1 := hf1.below hw0 hb0 hz0 (Nat.le_refl _)
  have hz1 := hb1.size
  rw [List.nil_append] at hw1
  have hll := hid (lowBytes_length a0.toNat m)
  clear hf1 hb0 hz0 hw0
  go_wp2_with fail
  refine (Bytes_any _ _ _ _ _ hw1 (by rw [hll.out]; omega)).mono ?_
  rintro e w2 ⟨v2, rfl, hown2, hb2'⟩
  have hb2 := below_step hb1 hb2' hz1
  have hz2 := hb2.size
  clear hb1 hb2' hw1
  go_wp2_with fail
  refine (awake_any _).mono ?_
  rintro e w3 ⟨rfl, hb3'⟩
  have hs3 := (Sl.ofOwns hown2).old hb3'
  have hb3 := below_step hb2 hb3' hz2
  clear hb2 hb3' hown2
  obtain ⟨ao, cap, hv⟩ := hs3.form
  rw [Lib.byteCells_length, hll.out] at hv
  subst hv
  go_wp2
  go_loop [7] (fun i => ∃ k : Nat, k ≤ m ∧ i = .int .i64 k) (fun i => m - (intOf i).toNat)
  case atStart => exact ⟨0, Nat.zero_le _, rfl⟩
  case round =>
    obtain ⟨k, hk, rfl⟩ := hrel
    by_cases hlt : k < m
    · obtain ⟨a, b, rfl, hcell, hb⟩ := hs3.byteAt' (i := k) (by rw [hll.out]; exact hlt)
      obtain ⟨s, hs'⟩ : ∃ s : Nat, s = 8 * k := ⟨_, rfl⟩
      have hwr : IntKind.i64.wrap (8 * (k : Int)) = (s : Int) := by rw [hs']; exact (IntWalk.i64_in _ (by omega)).trans (by omega)
      have hwr2 : IntKind.u64.wrap (s : Int) = (s : Int) := by rw [IntKind.wrap_u64]; omega
      have h80 : (0 : Int) ≤ (s : Int) := by omega
      have h81 : (s : Int) ≤ 64 := by omega
      have HS := hid hs'
      clear hs'
      have hbv := hid (show (UInt8.toNat b : Int) = a0 / 2 ^ s % 256 by
        rw [lowBytes_get _ _ _ hlt] at hb
        obtain ⟨x, hx⟩ := Int.eq_ofNat_of_zero_le hx0
        have : b = UInt8.ofNat (a0.toNat / 2 ^ (8 * k)) := by simpa using hb.symm
        rw [this, HS.out, hx, Int.toNat_natCast, show ((2 : Int) ^ (8 * k)) = ((2 ^ (8 * k) : Nat) : Int) from by simp, ← Int.natCast_ediv]
        generalize x / 2 ^ (8 * k) = q
        simp)
      have hne : ((UInt8.toNat b : Int) != a0 / 2 ^ s % 256) = false := by rw [← hbv.out]; simp
      clear hb
      go_wp2
      go_round
      case rel => exact ⟨k + 1, by omega, by go_num⟩
      case measure => simp [intOf]; omega
    · obtain rfl : k = m := by omega
      go_wp2
      go_ret
      exact ⟨rfl, hb3⟩

theorem own : ownKnob Try.prog.godebug = none := by kernel_rfl
theorem laidOut : laidOutB Try.prog = true := by kernel_rfl

set_option maxRecDepth 100000 in
theorem lifted (os : Os) (started : os.Started) (H : Type) (enc : TypeId × Value → H) :
    ReturnsInHanded {} Try.checked os 6 .any (Rows.octetsLowSpec.pre6 enc Try.prog Try.f6 Rows.octetsLowRow.domain false) (Rows.octetsLowSpec.post enc Try.prog Try.f6 false true false false) := by
  refine returnsInHanded_of_change (C := Try.checked) own started (by kernel_rfl) Try.func6
    (ChangeSpec.witness6 (enc := enc) (C := Try.checked) false ⟨#[], #[.int .u64 0, .int .i64 0], []⟩ 8 (by kernel_rfl) (by kernel_rfl) (by kernel_rfl) (by kernel_rfl)) ?_
  intro W base args ds gs before hval0 hW hcnd _
  have hval : ∀ (j : Nat) t v, Try.f6.params[j]? = some t → args[j]? = some v → Value.okWide Try.prog W .any base t v := hval0
  have hW' := hW
  obtain ⟨p, q, hA0, hV, rfl, hfz, hnd⟩ := hW
  have hA : DataW.TrodAll enc Try.prog W 0 (fun _ => true) true Try.f6.params.toList args.toList ds p := hA0
  rw [Try.params6] at hA hval
  obtain ⟨v0, vs0, d0, ds0, p0, q0, hargs, rfl, rfl, h0, r0⟩ := trodAll_cons hA
  obtain ⟨v1, vs1, d1, ds1, p1, q1, rfl, rfl, rfl, h1, r1⟩ := trodAll_cons r0
  obtain ⟨rfl, rfl, rfl⟩ := trodAll_nil r1
  obtain rfl : args = #[v0, v1] := by cases args; simp_all
  obtain ⟨rfl, rfl⟩ := trodVars_none hV
  have k0 := h0
  have lt0 : ∀ x ∈ p0, x.block < W.heap.size := by obtain ⟨m, hm⟩ := k0; exact DataW.trod_lt m _ _ _ hm
  obtain ⟨a0, rfl, _, _, w0⟩ := open_int Try.underlying26 (hval 0 26 v0 rfl rfl) h0
  have k1 := h1
  have lt1 : ∀ x ∈ p1, x.block < W.heap.size := by obtain ⟨m, hm⟩ := k1; exact DataW.trod_lt m _ _ _ hm
  obtain ⟨a1, rfl, _, _, w1⟩ := open_int Try.underlying3 (hval 1 3 v1 rfl rfl) h1
  clear hA0 hval0
  refine (walk a0 a1 W w0 w1).mono fun e W' ⟨he, bel⟩ => ?_
  subst he
  exact ⟨_, rfl, _, _, _, [], _, [], hW', trodAll_mk1 (shut_bool Try.underlying4 _), (trodAll_cons_mk (Below.trod laidOut (by kernel_rfl) (of_decide_eq_true (by kernel_rfl)) k0 bel lt0) (trodAll_cons_mk (Below.trod laidOut (by kernel_rfl) (of_decide_eq_true (by kernel_rfl)) k1 bel lt1) trodAll_mk0)), rfl, bel.frame _, fun h => by cases h⟩

theorem over : Rows.octetsLowRow.holds Try.pinned (OpenSpec.ofChange Rows.octetsLowSpec) :=
  OpenClaim.holds_of_wide 6 Try.f6 rfl rfl rfl rfl rfl rfl rfl ⟨rfl, rfl, rfl, rfl, rfl⟩ rfl rfl rfl rfl rfl (by kernel_rfl) Try.func6 (by kernel_rfl)
    (of_decide_eq_true (by kernel_rfl)) (by unfold Func.isWrapper; first | (rw [if_pos (by decide +kernel)]; kernel_rfl) | (rw [if_neg (by decide +kernel)]; exact ⟨rfl, rfl⟩))
    (fun os started H enc _ => lifted os started H enc)

/-- The statement. -/
theorem proved : Rows.OctetsLowSaid :=
  over
#print axioms proved

end Go.Proofs.Ytccfhbdafoamoaa.octetsLow
