/-
  Chunks held against each other (rickhelp.Chunk, Same).
-/
import Derived.Test.YtfldheegebopoaaCk
namespace Go.Proofs.Ytfldheegebopoaa
open Go.RowKit

theorem range4 {w : World} {b o : Nat} {u v x z : Value} (h1 : w.cell? ⟨b, o, none⟩ = some u) (h2 : w.cell? ⟨b, o + 1, none⟩ = some v) (h3 : w.cell? ⟨b, o + 2, none⟩ = some x) (h4 : w.cell? ⟨b, o + 3, none⟩ = some z) : w.rangeAt b o [u, v, x, z] := by
  intro j y hy
  match j, hy with
  | 0, hy => cases hy; exact h1
  | 1, hy => cases hy; exact h2
  | 2, hy => cases hy; exact h3
  | 3, hy => cases hy; exact h4
section
set_option maxRecDepth 100000
set_option maxHeartbeats 2000000
theorem ckEq_any (x y : CkS) (vb vo vt ub uo ut : Value) (w : World) (h1 : Sl w vb (strCells x.2.1)) (h2 : Sl w vo (strCells x.2.2.1)) (h3 : Sl w vt (strCells x.2.2.2)) (h4 : Sl w ub (strCells y.2.1)) (h5 : Sl w uo (strCells y.2.2.1)) (h6 : Sl w ut (strCells y.2.2.2)) (lx : x.2.1.length ≤ 4000000 ∧ x.2.2.1.length ≤ 4000000 ∧ x.2.2.2.length ≤ 4000000) :
    Calls Try.prog 17 #[.agg #[.int .i64 x.1, vb, vo, vt], .agg #[.int .i64 y.1, ub, uo, ut]] w fun e w' => e = .returned (.bool (x == y)) ∧ Below w.heap.size w w' := by
  obtain ⟨k, b, o, t⟩ := x
  obtain ⟨j, c, p, q⟩ := y
  have HF := hid (show ((k, b, o, t) == ((j, c, p, q) : CkS)) = ((k == j) && (b == c) && (o == p) && (t == q)) by
    show ((k == j) && ((b == c) && ((o == p) && (t == q)))) = _
    rw [Bool.and_assoc, Bool.and_assoc])
  have H1 := hid h1
  have H2 := hid h2
  have H3 := hid h3
  have H4 := hid h4
  have H5 := hid h5
  have H6 := hid h6
  have L := hid (show b.length ≤ maxLen ∧ o.length ≤ maxLen ∧ t.length ≤ maxLen by unfold maxLen; have a1 := lx.1; have a2 := lx.2.1; have a3 := lx.2.2; simp only at a1 a2 a3; omega)
  clear h1 h2 h3 h4 h5 h6 lx
  have hb2 : ∀ o1 o2, Below w.heap.size w ((w.alloc o1).alloc o2) := fun o1 o2 => ((Below.refl _ w).alloc (Nat.le_refl _) o1).alloc (by simp) o2
  have dr : ∀ (X : World) n, Below w.heap.size w X → Below w.heap.size w (X.drewN n) := fun X n h => h.trans ⟨rfl, rfl, rfl, Nat.le_refl _, fun _ _ => rfl⟩
  dsimp only
  by_cases e1 : k = j
  · have d1 : (k == j) = true := by simp [e1]
    have HB := hid (hb2 (.cells #[.int .i64 k, vb, vo, vt] 34) (.cells #[.int .i64 j, ub, uo, ut] 34))
    clear e1 hb2
    go_enter Try.func17, Try.ntmps17
    cases hA : (b == c) with
    | false =>
      have HO := hid hA
      clear hA
      go_wp2_with fail
      refine (SPlain_any _ _ b c _ (Sl.old H1.out HB.out) (Sl.old H4.out HB.out) L.out.1).mono ?_
      rintro e w3 ⟨rfl, q3, rfl⟩
      rw [HO.out]
      go_wp2_with fail
      go_ret
      exact ⟨by rw [HF.out, d1, HO.out]; rfl, dr _ _ HB.out⟩
    | true =>
      have HO := hid hA
      clear hA
      go_wp2_with fail
      refine (SPlain_any _ _ b c _ (Sl.old H1.out HB.out) (Sl.old H4.out HB.out) L.out.1).mono ?_
      rintro e w3 ⟨rfl, q3, rfl⟩
      rw [HO.out]
      have HBN := hid (fun n => dr _ n HB.out)
      cases hA : (o == p) with
      | false =>
        have HP := hid hA
        clear hA
        go_wp2_with fail
        refine (SPlain_any _ _ o p _ (Sl.old H2.out (HBN.out _)) (Sl.old H5.out (HBN.out _)) L.out.2.1).mono ?_
        rintro e w4 ⟨rfl, q4, rfl⟩
        rw [HP.out]
        go_wp2_with fail
        go_ret
        exact ⟨by rw [HF.out, d1, HO.out, HP.out]; rfl, HBN.out _⟩
      | true =>
        have HP := hid hA
        clear hA
        go_wp2_with fail
        refine (SPlain_any _ _ o p _ (Sl.old H2.out (HBN.out _)) (Sl.old H5.out (HBN.out _)) L.out.2.1).mono ?_
        rintro e w4 ⟨rfl, q4, rfl⟩
        rw [HP.out]
        go_wp2_with fail
        refine (SPlain_any _ _ t q _ (Sl.old H3.out (HBN.out _)) (Sl.old H6.out (HBN.out _)) L.out.2.2).mono ?_
        rintro e w5 ⟨rfl, q5, rfl⟩
        go_wp2_with fail
        go_ret
        exact ⟨by rw [HF.out, d1, HO.out, HP.out]; rfl, HBN.out _⟩
  · have d1 : (k == j) = false := by simp [e1]
    clear e1
    go_enter Try.func17, Try.ntmps17
    go_wp2_with fail
    go_ret
    exact ⟨by rw [HF.out, d1]; rfl, hb2 _ _⟩

theorem CSame_at (a b : Value) (x y : List CkS) (w : World) (ha : SlC w a x) (hb : SlC w b y) (hx : x.length ≤ maxLen) (fx : ckFew x) :
    Calls Try.prog 16 #[a, b, .func (Fn.func 17) #[] #[]] w fun e w' => e = .returned (.bool (x == y)) ∧ Below w.heap.size w w' := by
  obtain ⟨aa, ca, rfl⟩ := ha.form
  obtain ⟨ab, cb, rfl⟩ := hb.form
  unfold maxLen at hx
  by_cases hl : x.length = y.length
  · have hne : (x.length != y.length) = false := by simp [hl]
    have hne' : ((x.length : Int) != (y.length : Int)) = false := by simp [hl]
    have HL := hid hl
    clear hl
    go_enter Try.func16, Try.ntmps16
    go_wp2
    go_loopw [7] (fun i wr => ∃ k : Nat, k ≤ x.length ∧ i = .int .i64 k ∧ x.take k = y.take k ∧ Below w.heap.size w wr) (fun i _ => x.length - (intOf i).toNat)
    case atStart => exact ⟨0, Nat.zero_le _, rfl, rfl, Below.refl _ _⟩
    case round =>
      obtain ⟨k, hk, rfl, heq, hbel⟩ := hrel
      by_cases hlt : k < x.length
      · obtain ⟨b1, o1, k1, p1', o1', n1', vb1, vo1, vn1, rfl, hc1, hd1, he1, hf1, hp1, hs1, hn1, hb1⟩ := (ha.old hbel).at' (i := k) hlt
        obtain ⟨b2, o2, k2, p2', o2', n2', vb2, vo2, vn2, rfl, hc2, hd2, he2, hf2, hp2, hs2, hn2, hb2⟩ := (hb.old hbel).at' (i := k) (by rw [← HL.out]; exact hlt)
        have lx := fx.at hb1
        have hlt2 : k < y.length := by rw [← HL.out]; exact hlt
        have i0 : (0 : Int) ≤ (k : Int) := Int.natCast_nonneg _
        have i1 : (k : Int) < (x.length : Int) := by omega
        have i2 : (k : Int) < (y.length : Int) := by omega
        obtain ⟨C, hC⟩ : ∃ C : World → Prop, C = fun wy => Below wr.heap.size wr wy := ⟨_, rfl⟩
        have ra : ∀ wy, C wy → wy.rangeAt b1 (o1 + k * 4) [.int .i64 k1, vb1, vo1, vn1] := by
          rw [hC]
          exact fun wy h => range4 ((World.cell?_of_block (w := wr) (h.block _ (World.block_lt_of_cell? wr _ hc1))).trans hc1) ((World.cell?_of_block (w := wr) (h.block _ (World.block_lt_of_cell? wr _ hd1))).trans hd1) ((World.cell?_of_block (w := wr) (h.block _ (World.block_lt_of_cell? wr _ he1))).trans he1) ((World.cell?_of_block (w := wr) (h.block _ (World.block_lt_of_cell? wr _ hf1))).trans hf1)
        have rb : ∀ wy, C wy → wy.rangeAt b2 (o2 + k * 4) [.int .i64 k2, vb2, vo2, vn2] := by
          rw [hC]
          exact fun wy h => range4 ((World.cell?_of_block (w := wr) (h.block _ (World.block_lt_of_cell? wr _ hc2))).trans hc2) ((World.cell?_of_block (w := wr) (h.block _ (World.block_lt_of_cell? wr _ hd2))).trans hd2) ((World.cell?_of_block (w := wr) (h.block _ (World.block_lt_of_cell? wr _ he2))).trans he2) ((World.cell?_of_block (w := wr) (h.block _ (World.block_lt_of_cell? wr _ hf2))).trans hf2)
        obtain ⟨tt, htt⟩ : ∃ tt, (((k1, p1', o1', n1') : CkS) == (k2, p2', o2', n2')) = tt := ⟨_, rfl⟩
        have HEQ := hid (show ∀ wy, C wy → Calls Try.prog 17 #[.agg #[.int .i64 k1, vb1, vo1, vn1], .agg #[.int .i64 k2, vb2, vo2, vn2]] wy fun e w' => e = .returned (.bool tt) ∧ C w' from fun wy hy => by
          rw [← htt]
          rw [hC] at hy
          refine (ckEq_any (k1, p1', o1', n1') (k2, p2', o2', n2') vb1 vo1 vn1 vb2 vo2 vn2 wy (hp1.old hy) (hs1.old hy) (hn1.old hy) (hp2.old hy) (hs2.old hy) (hn2.old hy) lx).mono fun e w' h => ⟨h.1, ?_⟩
          rw [hC]
          exact below_step hy h.2 hy.size)
        have hCd : C wr.drew := by rw [hC]; exact ⟨rfl, rfl, rfl, Nat.le_refl _, fun _ _ => rfl⟩
        have HCW := hid (show ∀ wy, C wy → Below w.heap.size w wy from fun wy h => by rw [hC] at h; exact below_step hbel h hbel.size)
        have HRA := hid ra
        have HRB := hid rb
        have hse : (Try.prog.info? 34).map (·.size) = some 4 := by kernel_rfl
        have HIA := hid hse
        have HT := hid htt
        have HE := hid heq
        have HB1 := hid hb1
        have HB2 := hid hb2
        have HCD := hid hCd
        clear hC hc1 hd1 hc2 hd2 he1 he2 hf1 hf2 hp1 hp2 hs1 hs2 hn1 hn2 lx ra rb hCd hse htt heq hb1 hb2 ha hb hbel
        go_wp2_with fail
        refine quiet_region C (by kernel_rfl) (by kernel_rfl) HCD.out ?_
        repeat (first
          | go_big_quiet_skip
          | (go_big_quiet_want; first
            | (refine quiet_load 34 _ rfl b1 (o1 + k * 4) rfl _ _ HRA.out Try.underlying34 rfl HIA.out ?_; simp only [Act.put, List.setIfInBounds_toArray, List.set_cons_zero, List.set_cons_succ]; go_big_quiet_on)
            | (refine quiet_load 34 _ rfl b2 (o2 + k * 4) rfl _ _ HRB.out Try.underlying34 rfl HIA.out ?_; simp only [Act.put, List.setIfInBounds_toArray, List.set_cons_zero, List.set_cons_succ]; go_big_quiet_on)
            | (go_big_quiet_op; first
              | go_big_quiet_on
              | (apply Exists.intro; with_reducible refine ⟨fun _ _ => rfl, ?_⟩; go_big_quiet_on)
              | (apply Exists.intro
                 refine ⟨fun wy hy => ?_, ?_⟩
                 · with_reducible exact HEQ.out wy hy
                 go_big_quiet_on))))
        refine wpQuiet_nil ?_
        intro w5 hC5
        have hbw := HCW.out w5 hC5
        clear hC5
        cases tt with
        | true =>
          have h12 : (k1, p1', o1', n1') = (k2, p2', o2', n2') := by simpa using HT.out
          have R := hid (show x.take (k + 1) = y.take (k + 1) by rw [take_snoc HB1.out, take_snoc HB2.out, HE.out, h12])
          clear h12
          go_wp2
          go_roundw
          case rel => exact ⟨k + 1, by omega, by go_num, R.out, hbw⟩
          case measure => simp [intOf]; omega
        | false =>
          have hxy := hid (show (x == y) = false by
            have h12 : (k1, p1', o1', n1') ≠ (k2, p2', o2', n2') := by
              intro e
              have := HT.out
              rw [e] at this
              simp at this
            rw [beq_eq_false_iff_ne]
            intro e
            subst e
            have := HB1.out.symm.trans HB2.out
            exact h12 (Option.some.inj this))
          go_wp2
          go_ret
          rw [hxy.out]
          exact ⟨rfl, hbw⟩
      · obtain rfl : k = x.length := by omega
        have hxy := hid (show (x == y) = true by
          rw [List.take_length, HL.out, List.take_length] at heq
          simpa using heq)
        clear heq
        go_wp2
        go_ret
        rw [hxy.out]
        exact ⟨rfl, hbel⟩
  · have hne : (x.length != y.length) = true := by simpa using hl
    have hne' : ((x.length : Int) != (y.length : Int)) = true := by simp; omega
    have hxy := hid (show (x == y) = false by
      rw [beq_eq_false_iff_ne]
      intro e
      subst e
      exact hl rfl)
    clear hl
    go_enter Try.func16, Try.ntmps16
    go_wp2
    go_ret
    rw [hxy.out]
    exact ⟨rfl, Below.refl _ _⟩
end
end Go.Proofs.Ytfldheegebopoaa
