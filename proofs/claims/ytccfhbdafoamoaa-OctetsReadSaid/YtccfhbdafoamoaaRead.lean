/-
  OctetsRead: for every bytes and every list of questions, each answer of the Reader, what is left and what is wrong are as the document's own Reader tells them, and the bytes stay. No condition.
-/
import Derived.Test.YtccfhbdafoamoaaRefR
import Derived.Test.YtccfhbdafoamoaaHelp
import Derived.Test.YtccfhbdafoamoaaOpen
namespace Go.Proofs.Ytccfhbdafoamoaa.octetsRead
open Go.ChangeShapes Go.WideShapes Go.ChangeAt Go.RowKit

theorem own_far {w w' : World} {g k : Nat} {bs : List UInt8} {f : UInt8} (h : OwnCopy w g bs f) (hk : Keep (· = k) w w') (hne : g ≠ k) : OwnCopy w' g bs f := ⟨(hk.block g (lt_of_block h.block) hne).trans h.block⟩

/-- What each round finds, and leaves. -/
structure Inv (W w : World) (g br rr : Nat) (bs : List UInt8) (l : List UInt8) (c : Int) : Prop where
  bel : Below W.heap.size W w
  own : OwnCopy w g bs 71
  rd : Rd w br l c
  rf : Rf w rr W.heap.size bs l c

theorem Inv.stepR {W w w' : World} {g br rr : Nat} {bs l l' : List UInt8} {c c' : Int} (h : Inv W w g br rr bs l c) (hr : Rd w' br l' c') (hk : Keep (· = br) w w') (h1 : W.heap.size ≤ br) (h2 : g ≠ br) (h3 : br < rr) :
    Below W.heap.size W w' ∧ OwnCopy w' g bs 71 ∧ Rd w' br l' c' ∧ Rf w' rr W.heap.size bs l c :=
  ⟨h.bel.trans (hk.below h.bel.size fun i hi => by show ¬ i = br; omega), own_far h.own hk h2, hr, h.rf.far hk h1 (by omega)⟩
theorem Inv.stepF {W w w' : World} {g br rr : Nat} {bs l l1 l' : List UInt8} {c c1 c' : Int} (h : Below W.heap.size W w ∧ OwnCopy w g bs 71 ∧ Rd w br l1 c1 ∧ Rf w rr W.heap.size bs l c) (hr : Rf w' rr W.heap.size bs l' c') (hk : Keep (· = rr) w w') (h1 : W.heap.size ≤ rr) (h2 : g ≠ rr) (h3 : br < rr) (hl : l1 = l') (hc : c1 = c') :
    Inv W w' g br rr bs l' c' :=
  ⟨h.1.trans (hk.below h.1.size fun i hi => by show ¬ i = rr; omega), own_far h.2.1 hk h2, by subst hl hc; exact h.2.2.1.far hk h3, hr⟩
theorem Inv.drewN {W w : World} {g br rr : Nat} {bs l : List UInt8} {c : Int} (h : Inv W w g br rr bs l c) (n : Nat) : Inv W (w.drewN n) g br rr bs l c :=
  ⟨h.bel.trans ⟨rfl, rfl, rfl, Nat.le_refl _, fun _ _ => rfl⟩, ⟨h.own.block⟩, ⟨h.rd.ex⟩, ⟨h.rf.ex⟩⟩

theorem rf_cell {w : World} {rr H : Nat} {bs l : List UInt8} {c : Int} (h : Rf w rr H bs l c) : w.cell? ⟨rr, 2, none⟩ = some (.int .i64 c) := by
  obtain ⟨v, p, hb, _⟩ := h.ex
  exact blk_cell hb rfl

set_option maxRecDepth 1000000 in
set_option maxHeartbeats 4000000 in
theorem walk (v0 : Value) (bs : List UInt8) (v1 : Value) (zs : List Int) (w : World) (w0 : FactBytes w v0 bs) (w1 : FactInts .i64 w v1 zs) :
    Calls Try.prog 4 #[v0, v1] w fun e w' => e = .returned (.bool true) ∧ Below w.heap.size w w' := by
  obtain ⟨hb0, hbm⟩ := w0
  obtain ⟨hz0, hzm, hwf⟩ := w1
  clear hwf
  obtain ⟨ao, cap, hv⟩ := hb0.form
  rw [Lib.byteCells_length] at hv
  subst hv
  obtain ⟨az, capz, hv⟩ := hz0.form
  rw [List.length_map] at hv
  subst hv
  unfold maxLen at hbm hzm
  by_cases hbig : 2000 < bs.length
  · have h1 : decide ((2000 : Int) < (bs.length : Int)) = true := by simp; omega
    go_enter Try.func4, Try.ntmps4
    go_wp2_with fail
    refine (awake_any _).mono ?_
    rintro e w2 ⟨rfl, hb⟩
    go_wp2
    go_ret
    exact ⟨rfl, hb⟩
  · have h1 : decide ((2000 : Int) < (bs.length : Int)) = false := by simp; omega
    have hlen : bs.length ≤ 2000 := by omega
    clear hbig
    obtain ⟨N, hN⟩ : ∃ N, N = min zs.length 40 := ⟨_, rfl⟩
    have hNl : N ≤ zs.length := by omega
    have hN4 : N ≤ 40 := by omega
    have HN := hid hN
    clear hN
    go_enter Try.func4, Try.ntmps4
    go_wp2_with fail
    refine (Own_any _ bs 71 w hb0 (by omega)).mono ?_
    rintro e w2 ⟨rfl, ho2, hb2⟩
    have hz2 := hb2.size
    go_wp2_with fail
    refine (Read_any _ bs w2 ho2.sl (by omega)).mono ?_
    rintro e w3 ⟨br, rfl, hr3, hbr, hbr', hb3'⟩
    have ho3 := ho2.old hb3'
    have hb3 := below_step hb2 hb3' hz2
    have hz3 := hb3.size
    have hg2 := lt_of_block ho2.block
    clear ho2 hb2 hb3'
    go_wp2_with fail
    have hf4 : Rf (w3.alloc (.cells #[.slice ao bs.length cap, .int .i64 0, .int .i64 0] 53)) w3.heap.size w.heap.size bs bs 0 := by
      refine ⟨.slice ao bs.length cap, 0, heap_alloc_new w3 _, (hb0.old hb3).alloc _, ⟨fun a n c e hne => ?_, hz3⟩, Nat.zero_le _, by omega, fun _ => rfl, fun h => absurd rfl h⟩
      obtain ⟨e1, _, _⟩ := Value.slice.inj e
      subst e1
      exact hb0.lt (i := 0) (by rw [Lib.byteCells_length]; exact List.length_pos_iff.2 hne)
    have hbel4 := (Below.refl w3.heap.size w3).alloc (Nat.le_refl _) (.cells #[.slice ao bs.length cap, .int .i64 0, .int .i64 0] 53)
    have hr4 := hr3.old hbel4
    have ho4 := ho3.old hbel4
    have hb4 := below_step hb3 hbel4 hz3
    refine (awake_any _).mono ?_
    rintro e w5 ⟨rfl, hb5'⟩
    have hinv : Inv w w5 w.heap.size br w3.heap.size bs bs 0 := ⟨below_step hb4 hb5' hb4.size, ho4.old hb5', hr4.old hb5', hf4.old hb5'⟩
    obtain ⟨rr, hrr⟩ : ∃ rr, rr = w3.heap.size := ⟨_, rfl⟩
    rw [← hrr] at hinv hbr' ⊢
    clear hf4 hbel4 hr4 ho4 hb4 hb5' hr3 ho3 hb3 hrr
    have hwg : w.heap.size < br := by omega
    go_wp2
    go_loopw [8] (fun i wr => ∃ k : Nat, k ≤ N ∧ i = .int .i64 k ∧ ∃ l c, Inv w wr w.heap.size br rr bs l c) (fun i _ => N - (intOf i).toNat)
    case atStart => exact ⟨0, Nat.zero_le _, rfl, bs, 0, hinv⟩
    case round =>
      obtain ⟨k, hk, rfl, l, c, hin⟩ := hrel
      by_cases hlt : k < N
      · obtain ⟨a, z, rfl, hcell, hx⟩ := (hz0.old hin.bel).elemAt' (i := k) (by omega)
        have hk40 : (k : Int) < 40 := by omega
        have hkl : k < zs.length := by omega
        have HX := hid hx
        clear hx
        have hcase : z = 0 ∨ z = -1 ∨ z = -2 ∨ (z ≠ 0 ∧ z ≠ -1 ∧ z ≠ -2) := by omega
        rcases hcase with rfl | rfl | rfl | ⟨n0, n1, n2⟩
        · go_wp2_with fail
          refine (RInt_all br l c _ hin.rd).mono ?_
          rintro e w7 ⟨rfl, hr7, hk7⟩
          have hs7 := hin.stepR hr7 hk7 (by omega) (by omega) hbr'
          go_wp2_with fail
          refine (FInt_all rr w.heap.size bs l c _ hs7.2.2.2).mono ?_
          rintro e w8 ⟨rfl, hf8, hk8⟩
          have hin8 := Inv.stepF hs7 hf8 hk8 (by omega) (by omega) hbr' rfl rfl
          clear hs7 hf8 hk8 hr7 hk7 hin
          go_wp2_with fail
          have c8 := rf_cell hin8.rf
          go_region_held3 (fun wy => wy.cell? ⟨rr, 2, none⟩ = some (.int .i64 (stE 4 l c))) (go_keep) ((first
            | (go_at_call 24; refine (Err_any br _ _ _ (hin8.drewN 1).rd).mono ?_; rintro e wz ⟨rfl, rfl⟩)
            | (go_at_call 25; refine (Left_any br _ _ _ (hin8.drewN 1).rd).mono ?_; rintro e wz ⟨rfl, rfl⟩)
            | (go_at_call 31; refine (FLeft_all rr w.heap.size bs _ _ _ (hin8.drewN 1).rf).mono ?_; rintro e w9 ⟨rfl, hf9, hk9⟩; have c9 := rf_cell hf9)))
          have hin9 := Inv.stepF ⟨(hin8.drewN 1).bel, (hin8.drewN 1).own, (hin8.drewN 1).rd, (hin8.drewN 1).rf⟩ hf9 hk9 (by omega) (by omega) hbr' rfl rfl
          clear hin8 hf9 hk9
          go_wp2
          go_roundw
          case rel => exact ⟨k + 1, by omega, by go_num, _, _, hin9⟩
          case measure => simp [intOf]; omega
        · go_wp2_with fail
          refine (RText_all br l c _ hin.rd).mono ?_
          rintro e w7 ⟨rfl, hr7, hk7⟩
          have hs7 := hin.stepR hr7 hk7 (by omega) (by omega) hbr'
          go_wp2_with fail
          refine (FText_all rr w.heap.size bs l c _ hs7.2.2.2).mono ?_
          rintro e w8 ⟨rfl, hf8, hk8⟩
          have hin8 := Inv.stepF hs7 hf8 hk8 (by omega) (by omega) hbr' rfl rfl
          clear hs7 hf8 hk8 hr7 hk7 hin
          go_wp2_with fail
          have c8 := rf_cell hin8.rf
          go_region_held3 (fun wy => wy.cell? ⟨rr, 2, none⟩ = some (.int .i64 (txE l c))) (go_keep) ((first
            | (go_at_call 24; refine (Err_any br _ _ _ (hin8.drewN 1).rd).mono ?_; rintro e wz ⟨rfl, rfl⟩)
            | (go_at_call 25; refine (Left_any br _ _ _ (hin8.drewN 1).rd).mono ?_; rintro e wz ⟨rfl, rfl⟩)
            | (go_at_call 31; refine (FLeft_all rr w.heap.size bs _ _ _ (hin8.drewN 1).rf).mono ?_; rintro e w9 ⟨rfl, hf9, hk9⟩; have c9 := rf_cell hf9)))
          have hin9 := Inv.stepF ⟨(hin8.drewN 1).bel, (hin8.drewN 1).own, (hin8.drewN 1).rd, (hin8.drewN 1).rf⟩ hf9 hk9 (by omega) (by omega) hbr' rfl rfl
          clear hin8 hf9 hk9
          go_wp2
          go_roundw
          case rel => exact ⟨k + 1, by omega, by go_num, _, _, hin9⟩
          case measure => simp [intOf]; omega
        · go_wp2_with fail
          refine (RBool_all br l c _ hin.rd).mono ?_
          rintro e w7 ⟨rfl, hr7, hk7⟩
          have hs7 := hin.stepR hr7 hk7 (by omega) (by omega) hbr'
          go_wp2_with fail
          refine (FBool_all rr w.heap.size bs l c _ hs7.2.2.2).mono ?_
          rintro e w8 ⟨rfl, hf8, hk8⟩
          have hin8 := Inv.stepF hs7 hf8 hk8 (by omega) (by omega) hbr' rfl rfl
          clear hs7 hf8 hk8 hr7 hk7 hin
          go_wp2_with fail
          have c8 := rf_cell hin8.rf
          go_region_held3 (fun wy => wy.cell? ⟨rr, 2, none⟩ = some (.int .i64 (blE l c))) (go_keep) ((first
            | (go_at_call 24; refine (Err_any br _ _ _ (hin8.drewN 1).rd).mono ?_; rintro e wz ⟨rfl, rfl⟩)
            | (go_at_call 25; refine (Left_any br _ _ _ (hin8.drewN 1).rd).mono ?_; rintro e wz ⟨rfl, rfl⟩)
            | (go_at_call 31; refine (FLeft_all rr w.heap.size bs _ _ _ (hin8.drewN 1).rf).mono ?_; rintro e w9 ⟨rfl, hf9, hk9⟩; have c9 := rf_cell hf9)))
          have hin9 := Inv.stepF ⟨(hin8.drewN 1).bel, (hin8.drewN 1).own, (hin8.drewN 1).rd, (hin8.drewN 1).rf⟩ hf9 hk9 (by omega) (by omega) hbr' rfl rfl
          clear hin8 hf9 hk9
          go_wp2
          go_roundw
          case rel => exact ⟨k + 1, by omega, by go_num, _, _, hin9⟩
          case measure => simp [intOf]; omega
        · have t0 : (z == 0) = false := by simpa using n0
          have t1 : (z == -1) = false := by simpa using n1
          have t2 : (z == -2) = false := by simpa using n2
          have hne : a.block ≠ br := by have := hz0.lt (i := k) (by rw [List.length_map]; omega); omega
          have hne' : a.block ≠ rr := by have := hz0.lt (i := k) (by rw [List.length_map]; omega); omega
          have e0 : (0 : Int) ≤ (k : Int) := Int.natCast_nonneg _
          have e1 : (k : Int) < (zs.length : Int) := by omega
          clear n0 n1 n2
          go_wp2_with fail
          go_region_held3 (fun wy => wy.cell? (a.add k) = some (.int .i64 z)) (go_keep) ((first
            | (go_at_call 23; refine (Num_all br l c _ _ (hin.drewN 1).rd).mono ?_; rintro e w7 ⟨rfl, hr7, hk7⟩; have hs7 := (hin.drewN 1).stepR hr7 hk7 (by omega) (by omega) hbr'; have q7 := hk7.cell hcell hne)
            | (go_at_call 30; refine (FNum_all rr w.heap.size bs l c _ _ hs7.2.2.2).mono ?_; rintro e w8 ⟨rfl, hf8, hk8⟩; have hin8 := Inv.stepF hs7 hf8 hk8 (by omega) (by omega) hbr' rfl rfl; have q8 := hk8.cell q7 hne')))
          clear hs7 hf8 hk8 hr7 hk7 hin q7 q8
          go_wp2_with fail
          have c8 := rf_cell hin8.rf
          go_region_held3 (fun wy => wy.cell? ⟨rr, 2, none⟩ = some (.int .i64 (stE (heldN z) l c))) (go_keep) ((first
            | (go_at_call 24; refine (Err_any br _ _ _ (hin8.drewN 1).rd).mono ?_; rintro e wz ⟨rfl, rfl⟩)
            | (go_at_call 25; refine (Left_any br _ _ _ (hin8.drewN 1).rd).mono ?_; rintro e wz ⟨rfl, rfl⟩)
            | (go_at_call 31; refine (FLeft_all rr w.heap.size bs _ _ _ (hin8.drewN 1).rf).mono ?_; rintro e w9 ⟨rfl, hf9, hk9⟩; have c9 := rf_cell hf9)))
          have hin9 := Inv.stepF ⟨(hin8.drewN 1).bel, (hin8.drewN 1).own, (hin8.drewN 1).rd, (hin8.drewN 1).rf⟩ hf9 hk9 (by omega) (by omega) hbr' rfl rfl
          clear hin8 hf9 hk9
          go_wp2
          go_roundw
          case rel => exact ⟨k + 1, by omega, by go_num, _, _, hin9⟩
          case measure => simp [intOf]; omega
      · obtain rfl : k = N := by omega
        have hq : k < zs.length ∧ decide ((k : Int) < 40) = false ∨ decide (k < zs.length) = false := by have := HN.out; simp; omega
        clear hlt hk
        rcases hq with ⟨h2, h3⟩ | h2
        all_goals
          go_wp2_with fail
          refine (Kept_any w.heap.size _ bs 71 _ hin.own (hb0.old hin.bel) (by omega)).mono ?_
          rintro e w7 ⟨rfl, q, rfl⟩
          go_wp2
          go_ret
          exact ⟨rfl, (hin.drewN q).bel⟩

theorem own : ownKnob Try.prog.godebug = none := by kernel_rfl
theorem laidOut : laidOutB Try.prog = true := by kernel_rfl

set_option maxRecDepth 100000 in
theorem lifted (os : Os) (started : os.Started) (H : Type) (enc : TypeId × Value → H) :
    ReturnsInHanded {} Try.checked os 4 .any (Rows.octetsReadSpec.pre6 enc Try.prog Try.f4 Rows.octetsReadRow.domain false) (Rows.octetsReadSpec.post enc Try.prog Try.f4 false true false false) := by
  refine returnsInHanded_of_change (C := Try.checked) own started (by kernel_rfl) Try.func4
    (ChangeSpec.witness6 (enc := enc) (C := Try.checked) false ⟨#[], #[.slice none 0 0, .slice none 0 0], []⟩ 8 (by kernel_rfl) (by kernel_rfl) (by kernel_rfl) (by kernel_rfl)) ?_
  intro W base args ds gs before hval0 hW hcnd _
  have hval : ∀ (j : Nat) t v, Try.f4.params[j]? = some t → args[j]? = some v → Value.okWide Try.prog W .any base t v := hval0
  have hW' := hW
  obtain ⟨p, q, hA0, hV, rfl, hfz, hnd⟩ := hW
  have hA : DataW.TrodAll enc Try.prog W 0 (fun _ => true) true Try.f4.params.toList args.toList ds p := hA0
  rw [Try.params4] at hA hval
  obtain ⟨v0, vs0, d0, ds0, p0, q0, hargs, rfl, rfl, h0, r0⟩ := trodAll_cons hA
  obtain ⟨v1, vs1, d1, ds1, p1, q1, rfl, rfl, rfl, h1, r1⟩ := trodAll_cons r0
  obtain ⟨rfl, rfl, rfl⟩ := trodAll_nil r1
  obtain rfl : args = #[v0, v1] := by cases args; simp_all
  obtain ⟨rfl, rfl⟩ := trodVars_none hV
  have k0 := h0
  have lt0 : ∀ x ∈ p0, x.block < W.heap.size := by obtain ⟨m, hm⟩ := k0; exact DataW.trod_lt m _ _ _ hm
  obtain ⟨x0, l0, c0, rfl⟩ := okWide_slice Try.underlying23 (hval 0 23 v0 rfl rfl)
  obtain ⟨a0, w0⟩ : ∃ a, FactBytes W (.slice x0 l0 c0) a := by
    obtain ⟨fuel, hf⟩ := h0
    obtain ⟨v', a, hcs, hs⟩ := open_bytes Try.underlying23 Try.underlying5 (by kernel_rfl) hf
    obtain rfl : v' = .slice x0 l0 c0 := by simpa [Value.cells] using hcs.symm
    exact ⟨a, hs⟩
  have k1 := h1
  have lt1 : ∀ x ∈ p1, x.block < W.heap.size := by obtain ⟨m, hm⟩ := k1; exact DataW.trod_lt m _ _ _ hm
  obtain ⟨x1, l1, c1, rfl⟩ := okWide_slice Try.underlying49 (hval 1 49 v1 rfl rfl)
  obtain ⟨a1, w1⟩ : ∃ a, FactInts .i64 W (.slice x1 l1 c1) a := by
    obtain ⟨fuel, hf⟩ := h1
    obtain ⟨v', a, hcs, hs⟩ := open_intList Try.underlying49 Try.underlying3 (by kernel_rfl) hf
    obtain rfl : v' = .slice x1 l1 c1 := by simpa [Value.cells] using hcs.symm
    exact ⟨a, hs⟩
  clear hA0 hval0
  refine (walk (.slice x0 l0 c0) a0 (.slice x1 l1 c1) a1 W w0 w1).mono fun e W' ⟨he, bel⟩ => ?_
  subst he
  exact ⟨_, rfl, _, _, _, [], _, [], hW', trodAll_mk1 (shut_bool Try.underlying4 _), (trodAll_cons_mk (Below.trod laidOut (by kernel_rfl) (of_decide_eq_true (by kernel_rfl)) k0 bel lt0) (trodAll_cons_mk (Below.trod laidOut (by kernel_rfl) (of_decide_eq_true (by kernel_rfl)) k1 bel lt1) trodAll_mk0)), rfl, bel.frame _, fun h => by cases h⟩

theorem over : Rows.octetsReadRow.holds Try.pinned (OpenSpec.ofChange Rows.octetsReadSpec) :=
  OpenClaim.holds_of_wide 4 Try.f4 rfl rfl rfl rfl rfl rfl rfl ⟨rfl, rfl, rfl, rfl, rfl⟩ rfl rfl rfl rfl rfl (by kernel_rfl) Try.func4 (by kernel_rfl)
    (of_decide_eq_true (by kernel_rfl)) (by unfold Func.isWrapper; first | (rw [if_pos (by decide +kernel)]; kernel_rfl) | (rw [if_neg (by decide +kernel)]; exact ⟨rfl, rfl⟩))
    (fun os started H enc _ => lifted os started H enc)

/-- The statement. -/
theorem proved : Rows.OctetsReadSaid :=
  over
#print axioms proved

end Go.Proofs.Ytccfhbdafoamoaa.octetsRead
