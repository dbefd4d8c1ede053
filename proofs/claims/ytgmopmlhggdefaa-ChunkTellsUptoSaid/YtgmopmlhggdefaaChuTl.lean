/-
  ChunkTells: the chunks of any three lists, whether any are clean, and what they come to; what is handed in stays.
  By size alone it is false (thirty chunks may share one list that no memory holds thirty times): the second form is proved.
-/
import Derived.Test.YtgmopmlhggdefaaCk
import Derived.Test.YtgmopmlhggdefaaCkAw
import Derived.Test.YtgmopmlhggdefaaCkO
import Derived.Test.YtgmopmlhggdefaaCkF
import Derived.Test.YtgmopmlhggdefaaOpenS
import Derived.Test.YtgmopmlhggdefaaBulk
import Derived.ProofKit
import Derived.OpenShut
namespace Go.Proofs.Ytgmopmlhggdefaa
open Go.RowKit

theorem range4 {w : World} {b o : Nat} {u v x z : Value} (h1 : w.cell? ⟨b, o, none⟩ = some u) (h2 : w.cell? ⟨b, o + 1, none⟩ = some v) (h3 : w.cell? ⟨b, o + 2, none⟩ = some x) (h4 : w.cell? ⟨b, o + 3, none⟩ = some z) : w.rangeAt b o [u, v, x, z] := by
  intro j y hy
  match j, hy with
  | 0, hy => cases hy; exact h1
  | 1, hy => cases hy; exact h2
  | 2, hy => cases hy; exact h3
  | 3, hy => cases hy; exact h4
section
set_option maxRecDepth 100000
set_option maxHeartbeats 2000000
theorem ckEq_any (x y : CkS) (vb vo vt ub uo ut : Value) (w : World) (h1 : Sl w vb (strCells x.2.1)) (h2 : Sl w vo (strCells x.2.2.1)) (h3 : Sl w vt (strCells x.2.2.2)) (h4 : Sl w ub (strCells y.2.1)) (h5 : Sl w uo (strCells y.2.2.1)) (h6 : Sl w ut (strCells y.2.2.2)) (lx : x.2.1.length ≤ 4000000 ∧ x.2.2.1.length ≤ 4000000 ∧ x.2.2.2.length ≤ 4000000) :
    Calls Try.prog 15 #[.agg #[.int .i64 x.1, vb, vo, vt], .agg #[.int .i64 y.1, ub, uo, ut]] w fun e w' => e = .returned (.bool (x == y)) ∧ Below w.heap.size w w' := by
  obtain ⟨k, b, o, t⟩ := x
  obtain ⟨j, c, p, q⟩ := y
  have HF := hid (show ((k, b, o, t) == ((j, c, p, q) : CkS)) = ((k == j) && (b == c) && (o == p) && (t == q)) by
    show ((k == j) && ((b == c) && ((o == p) && (t == q)))) = _
    rw [Bool.and_assoc, Bool.and_assoc])
  have H1 := hid h1
  have H2 := hid h2
  have H3 := hid h3
  have H4 := hid h4
  have H5 := hid h5
  have H6 := hid h6
  have L := hid (show b.length ≤ maxLen ∧ o.length ≤ maxLen ∧ t.length ≤ maxLen by unfold maxLen; have a1 := lx.1; have a2 := lx.2.1; have a3 := lx.2.2; simp only at a1 a2 a3; omega)
  clear h1 h2 h3 h4 h5 h6 lx
  have hb2 : ∀ o1 o2, Below w.heap.size w ((w.alloc o1).alloc o2) := fun o1 o2 => ((Below.refl _ w).alloc (Nat.le_refl _) o1).alloc (by simp) o2
  have dr : ∀ (X : World) n, Below w.heap.size w X → Below w.heap.size w (X.drewN n) := fun X n h => h.trans ⟨rfl, rfl, rfl, Nat.le_refl _, fun _ _ => rfl⟩
  dsimp only
  by_cases e1 : k = j
  · have d1 : (k == j) = true := by simp [e1]
    have HB := hid (hb2 (.cells #[.int .i64 k, vb, vo, vt] 29) (.cells #[.int .i64 j, ub, uo, ut] 29))
    clear e1 hb2
    go_enter Try.func15, Try.ntmps15
    cases hA : (b == c) with
    | false =>
      have HO := hid hA
      clear hA
      go_wp2_with fail
      refine (SPlain_any _ _ b c _ (Sl.old H1.out HB.out) (Sl.old H4.out HB.out) L.out.1).mono ?_
      rintro e w3 ⟨rfl, q3, rfl⟩
      rw [HO.out]
      go_wp2_with fail
      go_ret
      exact ⟨by rw [HF.out, d1, HO.out]; rfl, dr _ _ HB.out⟩
    | true =>
      have HO := hid hA
      clear hA
      go_wp2_with fail
      refine (SPlain_any _ _ b c _ (Sl.old H1.out HB.out) (Sl.old H4.out HB.out) L.out.1).mono ?_
      rintro e w3 ⟨rfl, q3, rfl⟩
      rw [HO.out]
      have HBN := hid (fun n => dr _ n HB.out)
      cases hA : (o == p) with
      | false =>
        have HP := hid hA
        clear hA
        go_wp2_with fail
        refine (SPlain_any _ _ o p _ (Sl.old H2.out (HBN.out _)) (Sl.old H5.out (HBN.out _)) L.out.2.1).mono ?_
        rintro e w4 ⟨rfl, q4, rfl⟩
        rw [HP.out]
        go_wp2_with fail
        go_ret
        exact ⟨by rw [HF.out, d1, HO.out, HP.out]; rfl, HBN.out _⟩
      | true =>
        have HP := hid hA
        clear hA
        go_wp2_with fail
        refine (SPlain_any _ _ o p _ (Sl.old H2.out (HBN.out _)) (Sl.old H5.out (HBN.out _)) L.out.2.1).mono ?_
        rintro e w4 ⟨rfl, q4, rfl⟩
        rw [HP.out]
        go_wp2_with fail
        refine (SPlain_any _ _ t q _ (Sl.old H3.out (HBN.out _)) (Sl.old H6.out (HBN.out _)) L.out.2.2).mono ?_
        rintro e w5 ⟨rfl, q5, rfl⟩
        go_wp2_with fail
        go_ret
        exact ⟨by rw [HF.out, d1, HO.out, HP.out]; rfl, HBN.out _⟩
  · have d1 : (k == j) = false := by simp [e1]
    clear e1
    go_enter Try.func15, Try.ntmps15
    go_wp2_with fail
    go_ret
    exact ⟨by rw [HF.out, d1]; rfl, hb2 _ _⟩

theorem CSame_at (a b : Value) (x y : List CkS) (w : World) (ha : SlC w a x) (hb : SlC w b y) (hx : x.length ≤ maxLen) (fx : ckFew x) :
    Calls Try.prog 12 #[a, b, .func (Fn.func 15) #[] #[]] w fun e w' => e = .returned (.bool (x == y)) ∧ Below w.heap.size w w' := by
  obtain ⟨aa, ca, rfl⟩ := ha.form
  obtain ⟨ab, cb, rfl⟩ := hb.form
  unfold maxLen at hx
  by_cases hl : x.length = y.length
  · have hne : (x.length != y.length) = false := by simp [hl]
    have hne' : ((x.length : Int) != (y.length : Int)) = false := by simp [hl]
    have HL := hid hl
    clear hl
    go_enter Try.func12, Try.ntmps12
    go_wp2
    go_loopw [7] (fun i wr => ∃ k : Nat, k ≤ x.length ∧ i = .int .i64 k ∧ x.take k = y.take k ∧ Below w.heap.size w wr) (fun i _ => x.length - (intOf i).toNat)
    case atStart => exact ⟨0, Nat.zero_le _, rfl, rfl, Below.refl _ _⟩
    case round =>
      obtain ⟨k, hk, rfl, heq, hbel⟩ := hrel
      by_cases hlt : k < x.length
      · obtain ⟨b1, o1, k1, p1', o1', n1', vb1, vo1, vn1, rfl, hc1, hd1, he1, hf1, hp1, hs1, hn1, hb1⟩ := (ha.old hbel).at' (i := k) hlt
        obtain ⟨b2, o2, k2, p2', o2', n2', vb2, vo2, vn2, rfl, hc2, hd2, he2, hf2, hp2, hs2, hn2, hb2⟩ := (hb.old hbel).at' (i := k) (by rw [← HL.out]; exact hlt)
        have lx := fx.at hb1
        have hlt2 : k < y.length := by rw [← HL.out]; exact hlt
        have i0 : (0 : Int) ≤ (k : Int) := Int.natCast_nonneg _
        have i1 : (k : Int) < (x.length : Int) := by omega
        have i2 : (k : Int) < (y.length : Int) := by omega
        obtain ⟨C, hC⟩ : ∃ C : World → Prop, C = fun wy => Below wr.heap.size wr wy := ⟨_, rfl⟩
        have ra : ∀ wy, C wy → wy.rangeAt b1 (o1 + k * 4) [.int .i64 k1, vb1, vo1, vn1] := by
          rw [hC]
          exact fun wy h => range4 ((World.cell?_of_block (w := wr) (h.block _ (World.block_lt_of_cell? wr _ hc1))).trans hc1) ((World.cell?_of_block (w := wr) (h.block _ (World.block_lt_of_cell? wr _ hd1))).trans hd1) ((World.cell?_of_block (w := wr) (h.block _ (World.block_lt_of_cell? wr _ he1))).trans he1) ((World.cell?_of_block (w := wr) (h.block _ (World.block_lt_of_cell? wr _ hf1))).trans hf1)
        have rb : ∀ wy, C wy → wy.rangeAt b2 (o2 + k * 4) [.int .i64 k2, vb2, vo2, vn2] := by
          rw [hC]
          exact fun wy h => range4 ((World.cell?_of_block (w := wr) (h.block _ (World.block_lt_of_cell? wr _ hc2))).trans hc2) ((World.cell?_of_block (w := wr) (h.block _ (World.block_lt_of_cell? wr _ hd2))).trans hd2) ((World.cell?_of_block (w := wr) (h.block _ (World.block_lt_of_cell? wr _ he2))).trans he2) ((World.cell?_of_block (w := wr) (h.block _ (World.block_lt_of_cell? wr _ hf2))).trans hf2)
        obtain ⟨tt, htt⟩ : ∃ tt, (((k1, p1', o1', n1') : CkS) == (k2, p2', o2', n2')) = tt := ⟨_, rfl⟩
        have HEQ := hid (show ∀ wy, C wy → Calls Try.prog 15 #[.agg #[.int .i64 k1, vb1, vo1, vn1], .agg #[.int .i64 k2, vb2, vo2, vn2]] wy fun e w' => e = .returned (.bool tt) ∧ C w' from fun wy hy => by
          rw [← htt]
          rw [hC] at hy
          refine (ckEq_any (k1, p1', o1', n1') (k2, p2', o2', n2') vb1 vo1 vn1 vb2 vo2 vn2 wy (hp1.old hy) (hs1.old hy) (hn1.old hy) (hp2.old hy) (hs2.old hy) (hn2.old hy) lx).mono fun e w' h => ⟨h.1, ?_⟩
          rw [hC]
          exact below_step hy h.2 hy.size)
        have hCd : C wr.drew := by rw [hC]; exact ⟨rfl, rfl, rfl, Nat.le_refl _, fun _ _ => rfl⟩
        have HCW := hid (show ∀ wy, C wy → Below w.heap.size w wy from fun wy h => by rw [hC] at h; exact below_step hbel h hbel.size)
        have HRA := hid ra
        have HRB := hid rb
        have hse : (Try.prog.info? 29).map (·.size) = some 4 := by kernel_rfl
        have HIA := hid hse
        have HT := hid htt
        have HE := hid heq
        have HB1 := hid hb1
        have HB2 := hid hb2
        have HCD := hid hCd
        clear hC hc1 hd1 hc2 hd2 he1 he2 hf1 hf2 hp1 hp2 hs1 hs2 hn1 hn2 lx ra rb hCd hse htt heq hb1 hb2 ha hb hbel
        go_wp2_with fail
        refine quiet_region C (by kernel_rfl) (by kernel_rfl) HCD.out ?_
        repeat (first
          | go_big_quiet_skip
          | (go_big_quiet_want; first
            | (refine quiet_load 29 _ rfl b1 (o1 + k * 4) rfl _ _ HRA.out Try.underlying29 rfl HIA.out ?_; simp only [Act.put, List.setIfInBounds_toArray, List.set_cons_zero, List.set_cons_succ]; go_big_quiet_on)
            | (refine quiet_load 29 _ rfl b2 (o2 + k * 4) rfl _ _ HRB.out Try.underlying29 rfl HIA.out ?_; simp only [Act.put, List.setIfInBounds_toArray, List.set_cons_zero, List.set_cons_succ]; go_big_quiet_on)
            | (go_big_quiet_op; first
              | go_big_quiet_on
              | (apply Exists.intro; with_reducible refine ⟨fun _ _ => rfl, ?_⟩; go_big_quiet_on)
              | (apply Exists.intro
                 refine ⟨fun wy hy => ?_, ?_⟩
                 · with_reducible exact HEQ.out wy hy
                 go_big_quiet_on))))
        refine wpQuiet_nil ?_
        intro w5 hC5
        have hbw := HCW.out w5 hC5
        clear hC5
        cases tt with
        | true =>
          have h12 : (k1, p1', o1', n1') = (k2, p2', o2', n2') := by simpa using HT.out
          have R := hid (show x.take (k + 1) = y.take (k + 1) by rw [take_snoc HB1.out, take_snoc HB2.out, HE.out, h12])
          clear h12
          go_wp2
          go_roundw
          case rel => exact ⟨k + 1, by omega, by go_num, R.out, hbw⟩
          case measure => simp [intOf]; omega
        | false =>
          have hxy := hid (show (x == y) = false by
            have h12 : (k1, p1', o1', n1') ≠ (k2, p2', o2', n2') := by
              intro e
              have := HT.out
              rw [e] at this
              simp at this
            rw [beq_eq_false_iff_ne]
            intro e
            subst e
            have := HB1.out.symm.trans HB2.out
            exact h12 (Option.some.inj this))
          go_wp2
          go_ret
          rw [hxy.out]
          exact ⟨rfl, hbw⟩
      · obtain rfl : k = x.length := by omega
        have hxy := hid (show (x == y) = true by
          rw [List.take_length, HL.out, List.take_length] at heq
          simpa using heq)
        clear heq
        go_wp2
        go_ret
        rw [hxy.out]
        exact ⟨rfl, hbel⟩
  · have hne : (x.length != y.length) = true := by simpa using hl
    have hne' : ((x.length : Int) != (y.length : Int)) = true := by simp; omega
    have hxy := hid (show (x == y) = false by
      rw [beq_eq_false_iff_ne]
      intro e
      subst e
      exact hl rfl)
    clear hl
    go_enter Try.func12, Try.ntmps12
    go_wp2
    go_ret
    rw [hxy.out]
    exact ⟨rfl, Below.refl _ _⟩
end
end Go.Proofs.Ytgmopmlhggdefaa

namespace Go.Proofs.Ytgmopmlhggdefaa.chunkTells
open Go.ChangeShapes Go.WideShapes Go.ChangeAt Go.RowKit

theorem merged_len {l : List CkS} (h : ckFew l) : (mergedS l).length ≤ l.length * 4000000 := by
  induction l with
  | nil => simp [mergedS]
  | cons x l ih =>
    have h1 := h x (List.mem_cons_self ..)
    have h2 := ih (fun y hy => h y (List.mem_cons_of_mem _ hy))
    have e : mergedS (x :: l) = (if x.1 = 3 then x.2.2.2 else x.2.2.1) ++ mergedS l := by simp [mergedS]
    rw [e, List.length_append, List.length_cons]
    split <;> omega
section
set_option maxRecDepth 100000
set_option maxHeartbeats 4000000
theorem walk_big (va : Value) (a : List (List UInt8)) (vb : Value) (b : List (List UInt8)) (vc : Value) (c : List (List UInt8)) (vl : Value) (l : List CkS) (w : World) (ha : FactStrs w va a) (hb : FactStrs w vb b) (hc : FactStrs w vc c) (hl : SlC w vl l) (hbig : ¬ (a.length ≤ 60 ∧ b.length ≤ 60 ∧ c.length ≤ 60) ∨ 30 < l.length) :
    Calls Try.prog 3 #[va, vb, vc, vl] w fun e w' => e = .returned (.bool true) ∧ Below w.heap.size w w' := by
  have HFEW := cfew_any _ _ _ a b c w ha.1 hb.1 hc.1
  obtain ⟨ao, ac, rfl⟩ := ha.1.form
  obtain ⟨bo, bc, rfl⟩ := hb.1.form
  obtain ⟨co, cc, rfl⟩ := hc.1.form
  obtain ⟨lo, lc, rfl⟩ := hl.form
  clear ha hb hc hl
  by_cases hf : a.length ≤ 60 ∧ b.length ≤ 60 ∧ c.length ≤ 60
  · have h30 : (30 : Int) < (l.length : Int) := by
      rcases hbig with h | h
      · exact absurd hf h
      · omega
    rw [decide_eq_true hf] at HFEW
    have HF := hid HFEW
    clear hf hbig HFEW
    go_enter Try.func3, Try.ntmps3
    go_wp2_with fail
    refine HF.out.mono ?_
    rintro e w1 ⟨rfl, rfl⟩
    clear HF
    go_wp2_with fail
    refine (awake_any w).mono ?_
    rintro e w1 ⟨rfl, hb1⟩
    go_wp2
    go_ret
    exact ⟨rfl, hb1⟩
  · rw [decide_eq_false hf] at HFEW
    have HF := hid HFEW
    clear hf hbig HFEW
    go_enter Try.func3, Try.ntmps3
    go_wp2_with fail
    refine HF.out.mono ?_
    rintro e w1 ⟨rfl, rfl⟩
    clear HF
    go_wp2_with fail
    refine (awake_any w).mono ?_
    rintro e w1 ⟨rfl, hb1⟩
    go_wp2
    go_ret
    exact ⟨rfl, hb1⟩
theorem walk_at (va : Value) (a : List (List UInt8)) (vb : Value) (b : List (List UInt8)) (vc : Value) (c : List (List UInt8)) (vl : Value) (l : List CkS) (w : World) (ha : FactStrs w va a) (hb : FactStrs w vb b) (hc : FactStrs w vc c) (hl : SlC w vl l) (hf : a.length ≤ 60 ∧ b.length ≤ 60 ∧ c.length ≤ 60) (hll : l.length ≤ 30) (hcf : ckFew l) :
    Calls Try.prog 3 #[va, vb, vc, vl] w fun e w' => e = .returned (.bool true) ∧ Below w.heap.size w w' := by
  have hFEW := cfew_any _ _ _ a b c w ha.1 hb.1 hc.1
  rw [decide_eq_true hf] at hFEW
  have HA := hid ha.1
  have HB := hid hb.1
  have HC := hid hc.1
  have HL := hid hl
  have HCF := hid hcf
  have HMG := hid (show (mergedS l).length ≤ 200000000 from by have := merged_len hcf; omega)
  obtain ⟨ao, ac, rfl⟩ := HA.out.form
  obtain ⟨bo, bc, rfl⟩ := HB.out.form
  obtain ⟨co, cc, rfl⟩ := HC.out.form
  obtain ⟨lo, lc, rfl⟩ := HL.out.form
  simp only [strCells_length] at HA HB HC hFEW ⊢
  have HFEW := hid hFEW
  have HN := hid (show a.length ≤ 60 ∧ b.length ≤ 60 ∧ c.length ≤ 60 ∧ l.length ≤ 30 from ⟨hf.1, hf.2.1, hf.2.2, hll⟩)
  have HF := hid (chunks_few (a := a) (b := b) (c := c) (by omega) (by omega) (by omega))
  have h30 : ¬ (30 : Int) < (l.length : Int) := by omega
  have heq : (cleanS l == cleanS l) = true := by simp
  clear ha hb hc hl hf hll hcf hFEW
  go_enter Try.func3, Try.ntmps3
  go_wp2_with fail
  refine HFEW.out.mono ?_
  rintro e w1 ⟨rfl, rfl⟩
  clear HFEW
  go_wp2_with fail
  refine (SOwn_any _ b [55, 49] w HB.out (by have := HN.out.2.1; omega)).mono ?_
  rintro e x1 ⟨rfl, own, hb⟩
  have hB1 := hb
  have HA := hid (Sl.old HA.out hb)
  have HB := hid (Sl.old HB.out hb)
  have HC := hid (Sl.old HC.out hb)
  have HL := hid (HL.out.old hb)
  obtain ⟨g, hg⟩ : ∃ z, w.heap.size = z := ⟨_, rfl⟩
  rw [hg] at own ⊢
  have HOWN := hid own
  clear hb own
  go_wp2_with fail
  have hT := awake_any x1
  refine hT.mono ?_
  rintro e x2 ⟨rfl, hb⟩
  have hB2 := below_step hB1 hb hB1.size
  have HA := hid (Sl.old HA.out hb)
  have HB := hid (Sl.old HB.out hb)
  have HC := hid (Sl.old HC.out hb)
  have HL := hid (HL.out.old hb)
  have HOWN := hid (HOWN.out.old hb)
  clear hb hT hB1
  go_wp2_with fail
  refine (DOf_any _ _ _ a b c x2 HA.out HOWN.out.sl HC.out (by have := HN.out; omega) (by have := HN.out; omega) (by have := HN.out; omega)).mono ?_
  rintro e x3 ⟨v3, rfl, s3, hb⟩
  have hB3 := below_step hB2 hb hB2.size
  have HA := hid (Sl.old HA.out hb)
  have HB := hid (Sl.old HB.out hb)
  have HC := hid (Sl.old HC.out hb)
  have HL := hid (HL.out.old hb)
  have HOWN := hid (HOWN.out.old hb)
  obtain ⟨o3, c3, rfl⟩ := s3.form
  have C0 := hid s3
  clear hb s3 hB2
  go_wp2_with fail
  refine (ROf_any _ _ _ a b c x3 HA.out HB.out HC.out (by have := HN.out; omega) (by have := HN.out; omega) (by have := HN.out; omega)).mono ?_
  rintro e x4 ⟨v4, rfl, s4, hb⟩
  have hB4 := below_step hB3 hb hB3.size
  have HA := hid (Sl.old HA.out hb)
  have HB := hid (Sl.old HB.out hb)
  have HC := hid (Sl.old HC.out hb)
  have HL := hid (HL.out.old hb)
  have HOWN := hid (HOWN.out.old hb)
  have C0 := hid (C0.out.old hb)
  obtain ⟨o4, c4, rfl⟩ := s4.form
  have C1 := hid s4
  clear hb s4 hB3
  go_wp2_with fail
  have hT := CSame_at _ _ _ _ x4 C0.out C1.out (by have := HF.out.2.2; have := HN.out; unfold maxLen; omega) HF.out.1
  rw [beq_self_eq_true] at hT
  refine hT.mono ?_
  rintro e x5 ⟨rfl, hb⟩
  have hB5 := below_step hB4 hb hB4.size
  have HA := hid (Sl.old HA.out hb)
  have HB := hid (Sl.old HB.out hb)
  have HC := hid (Sl.old HC.out hb)
  have HL := hid (HL.out.old hb)
  have HOWN := hid (HOWN.out.old hb)
  have C0 := hid (C0.out.old hb)
  have C1 := hid (C1.out.old hb)
  clear hb hT hB4
  clear C0 C1
  go_wp2_with fail
  have hT := DClean_any _ l x5 HL.out (by have := HN.out; omega)
  refine hT.mono ?_
  rintro e x6 ⟨rfl, hb⟩
  have hB6 := below_step hB5 hb hB5.size
  have HA := hid (Sl.old HA.out hb)
  have HB := hid (Sl.old HB.out hb)
  have HC := hid (Sl.old HC.out hb)
  have HL := hid (HL.out.old hb)
  have HOWN := hid (HOWN.out.old hb)
  clear hb hT hB5
  go_wp2_with fail
  refine (RClean_any _ l x6 HL.out (by have := HN.out; omega)).mono ?_
  rintro e _ ⟨rfl, rfl⟩
  go_wp2_with fail
  refine (DMerged_any _ l x6 HL.out (by have := HN.out; omega) HCF.out).mono ?_
  rintro e x7 ⟨v7, rfl, s7, hb⟩
  have hB7 := below_step hB6 hb hB6.size
  have HA := hid (Sl.old HA.out hb)
  have HB := hid (Sl.old HB.out hb)
  have HC := hid (Sl.old HC.out hb)
  have HL := hid (HL.out.old hb)
  have HOWN := hid (HOWN.out.old hb)
  obtain ⟨o7, c7, rfl⟩ := s7.form
  rw [strCells_length] at s7 ⊢
  have M0 := hid s7
  clear hb s7 hB6
  go_wp2_with fail
  refine (RMerged_any _ l x7 HL.out (by have := HN.out; omega) HCF.out).mono ?_
  rintro e x8 ⟨v8, rfl, t8, hb⟩
  have hB8 := below_step hB7 hb hB7.size
  have HA := hid (Sl.old HA.out hb)
  have HB := hid (Sl.old HB.out hb)
  have HC := hid (Sl.old HC.out hb)
  have HL := hid (HL.out.old hb)
  have HOWN := hid (HOWN.out.old hb)
  have M0 := hid (Sl.old M0.out hb)
  have M1 := hid (Sl.ofOwns t8)
  obtain ⟨o8, c8, rfl⟩ := M1.out.form
  rw [strCells_length] at M1 ⊢
  clear hb t8 hB7
  go_wp2_with fail
  have hT := SPlain_any _ _ (mergedS l) (mergedS l) x8 M0.out M1.out (by have := HMG.out; unfold maxLen; omega)
  rw [beq_self_eq_true] at hT
  refine hT.mono ?_
  rintro e _ ⟨rfl, q9, rfl⟩
  have hb : Below x8.heap.size x8 (x8.drewN q9) := below_drewN _ _
  have hB9 := below_step hB8 hb hB8.size
  have HA := hid (Sl.old HA.out hb)
  have HB := hid (Sl.old HB.out hb)
  have HC := hid (Sl.old HC.out hb)
  have HL := hid (HL.out.old hb)
  have HOWN := hid (HOWN.out.old hb)
  have M0 := hid (Sl.old M0.out hb)
  have M1 := hid (Sl.old M1.out hb)
  clear hb hT hB8
  generalize x8.drewN q9 = x9 at hB9 HA HB HC HL HOWN M0 M1 ⊢
  clear M0 M1
  go_wp2_with fail
  have hT := SKept_any g _ b [55, 49] x9 HOWN.out HB.out (by have := HN.out.2.1; omega)
  refine hT.mono ?_
  rintro e _ ⟨rfl, q10, rfl⟩
  have hb : Below x9.heap.size x9 (x9.drewN q10) := below_drewN _ _
  have hB10 := below_step hB9 hb hB9.size
  have HA := hid (Sl.old HA.out hb)
  have HB := hid (Sl.old HB.out hb)
  have HC := hid (Sl.old HC.out hb)
  have HL := hid (HL.out.old hb)
  have HOWN := hid (HOWN.out.old hb)
  clear hb hT hB9
  generalize x9.drewN q10 = x10 at hB10 HA HB HC HL HOWN ⊢
  go_wp2_with fail
  go_ret
  exact ⟨by simp, hB10⟩
theorem walk (va : Value) (a : List (List UInt8)) (vb : Value) (b : List (List UInt8)) (vc : Value) (c : List (List UInt8)) (vl : Value) (l : List CkS) (w : World) (ha : FactStrs w va a) (hb : FactStrs w vb b) (hc : FactStrs w vc c) (hl : FactCks w vl l ∧ ckFew l) (_ : a.flatten.length + a.length ≤ 1048576) (_ : b.flatten.length + b.length ≤ 1048576) (_ : c.flatten.length + c.length ≤ 1048576) :
    Calls Try.prog 3 #[va, vb, vc, vl] w fun e w' => e = .returned (.bool true) ∧ Below w.heap.size w w' := by
  by_cases hf : (a.length ≤ 60 ∧ b.length ≤ 60 ∧ c.length ≤ 60) ∧ l.length ≤ 30
  · exact walk_at va a vb b vc c vl l w ha hb hc hl.1.1 hf.1 hf.2 hl.2
  · refine walk_big va a vb b vc c vl l w ha hb hc hl.1.1 ?_
    by_cases h1 : a.length ≤ 60 ∧ b.length ≤ 60 ∧ c.length ≤ 60
    · right
      by_cases h2 : l.length ≤ 30
      · exact absurd ⟨h1, h2⟩ hf
      · omega
    · exact .inl h1
end

theorem own : ownKnob Try.prog.godebug = none := by kernel_rfl
theorem laidOut : laidOutB Try.prog = true := by kernel_rfl

theorem contract (H : Type) (enc : TypeId × Value → H) (W : World) (base : Nat) (args : Array Value) (ds gs : List (DataW H)) (before : List MemPlace)
    (hval : ∀ (j : Nat) t v, Try.f3.params[j]? = some t → args[j]? = some v → Value.okWide Try.prog W .any base t v)
    (hW : DataW.Whole enc Try.prog Try.f3.params.toList Rows.chunkTellsSpec.vars false W args.toList ds gs before) (hk : Rows.uptoSmall H (ds ++ gs) = true) :
    Calls Try.prog 3 args W fun e W' => ∃ v, e = .returned v ∧ Rows.chunkTellsSpec.post enc Try.prog Try.f3 false true false false W args v W' := by
  have hW' := hW
  obtain ⟨p, q, hA0, hV, rfl, hfz, hnd⟩ := hW
  have hA : DataW.TrodAll enc Try.prog W 0 (fun _ => true) true Try.f3.params.toList args.toList ds p := hA0
  rw [Try.params3] at hA hval
  obtain ⟨v0, vs0, d0, ds0, p0, q0, hargs, rfl, rfl, h0, r0⟩ := trodAll_cons hA
  obtain ⟨v1, vs1, d1, ds1, p1, q1, rfl, rfl, rfl, h1, r1⟩ := trodAll_cons r0
  obtain ⟨v2, vs2, d2, ds2, p2, q2, rfl, rfl, rfl, h2, r2⟩ := trodAll_cons r1
  obtain ⟨v3, vs3, d3, ds3, p3, q3, rfl, rfl, rfl, h3, r3⟩ := trodAll_cons r2
  obtain ⟨rfl, rfl, rfl⟩ := trodAll_nil r3
  obtain rfl : args = #[v0, v1, v2, v3] := by cases args; simp_all
  obtain ⟨rfl, rfl⟩ := trodVars_none hV
  have k0 := h0
  have lt0 : ∀ x ∈ p0, x.block < W.heap.size := by obtain ⟨m, hm⟩ := k0; exact DataW.trod_lt m _ _ _ hm
  obtain ⟨x0, l0, c0, rfl⟩ := okWide_slice Try.underlying22 (hval 0 22 v0 rfl rfl)
  obtain ⟨a0, w0, e0⟩ : ∃ a, FactStrs W (.slice x0 l0 c0) a ∧ ((d0 = .nil ∧ a = []) ∨ ∃ rest, d0 = .slice (dataStrs a) rest) := by
    obtain ⟨fuel, hf⟩ := h0
    obtain ⟨v', a, hcs, hs, hx⟩ := open_strL Try.underlying22 Try.underlying9 (by kernel_rfl) hf
    obtain rfl : v' = .slice x0 l0 c0 := by simpa [Value.cells] using hcs.symm
    exact ⟨a, hs, hx⟩
  have b0 := bulk_list hk (List.mem_append_left _ (by simp)) e0
  have k1 := h1
  have lt1 : ∀ x ∈ p1, x.block < W.heap.size := by obtain ⟨m, hm⟩ := k1; exact DataW.trod_lt m _ _ _ hm
  obtain ⟨x1, l1, c1, rfl⟩ := okWide_slice Try.underlying22 (hval 1 22 v1 rfl rfl)
  obtain ⟨a1, w1, e1⟩ : ∃ a, FactStrs W (.slice x1 l1 c1) a ∧ ((d1 = .nil ∧ a = []) ∨ ∃ rest, d1 = .slice (dataStrs a) rest) := by
    obtain ⟨fuel, hf⟩ := h1
    obtain ⟨v', a, hcs, hs, hx⟩ := open_strL Try.underlying22 Try.underlying9 (by kernel_rfl) hf
    obtain rfl : v' = .slice x1 l1 c1 := by simpa [Value.cells] using hcs.symm
    exact ⟨a, hs, hx⟩
  have b1 := bulk_list hk (List.mem_append_left _ (by simp)) e1
  have k2 := h2
  have lt2 : ∀ x ∈ p2, x.block < W.heap.size := by obtain ⟨m, hm⟩ := k2; exact DataW.trod_lt m _ _ _ hm
  obtain ⟨x2, l2, c2, rfl⟩ := okWide_slice Try.underlying22 (hval 2 22 v2 rfl rfl)
  obtain ⟨a2, w2, e2⟩ : ∃ a, FactStrs W (.slice x2 l2 c2) a ∧ ((d2 = .nil ∧ a = []) ∨ ∃ rest, d2 = .slice (dataStrs a) rest) := by
    obtain ⟨fuel, hf⟩ := h2
    obtain ⟨v', a, hcs, hs, hx⟩ := open_strL Try.underlying22 Try.underlying9 (by kernel_rfl) hf
    obtain rfl : v' = .slice x2 l2 c2 := by simpa [Value.cells] using hcs.symm
    exact ⟨a, hs, hx⟩
  have b2 := bulk_list hk (List.mem_append_left _ (by simp)) e2
  have k3 := h3
  have lt3 : ∀ x ∈ p3, x.block < W.heap.size := by obtain ⟨m, hm⟩ := k3; exact DataW.trod_lt m _ _ _ hm
  obtain ⟨x3, l3, c3, rfl⟩ := okWide_slice Try.underlying23 (hval 3 23 v3 rfl rfl)
  obtain ⟨a3, w3⟩ : ∃ a, FactCks W (.slice x3 l3 c3) a ∧ ckFew a := by
    obtain ⟨fuel, hf⟩ := h3
    obtain ⟨v', a, hcs, hs, hx⟩ := open_cks hf
    obtain rfl : v' = .slice x3 l3 c3 := by simpa [Value.cells] using hcs.symm
    refine ⟨a, hs, fun q hq => ?_⟩
    have h1 : Rows.uptoBulk d3 ≤ 1048576 := Nat.le_trans (bulk_part (List.mem_append_left _ (by simp))) (bulk_bound hk)
    obtain ⟨g1, g2, g3⟩ := hx q hq
    dsimp only at g1 g2 g3
    omega
  clear hA0
  refine (walk (.slice x0 l0 c0) a0 (.slice x1 l1 c1) a1 (.slice x2 l2 c2) a2 (.slice x3 l3 c3) a3 W w0 w1 w2 w3 b0 b1 b2).mono fun e W' ⟨he, bel⟩ => ?_
  subst he
  exact ⟨_, rfl, _, _, _, [], _, [], hW', trodAll_mk1 (shut_bool Try.underlying4 _), (trodAll_cons_mk (Below.trod laidOut (by kernel_rfl) (of_decide_eq_true (by kernel_rfl)) k0 bel lt0) (trodAll_cons_mk (Below.trod laidOut (by kernel_rfl) (of_decide_eq_true (by kernel_rfl)) k1 bel lt1) (trodAll_cons_mk (Below.trod laidOut (by kernel_rfl) (of_decide_eq_true (by kernel_rfl)) k2 bel lt2) (trodAll_cons_mk (Below.trod laidOut (by kernel_rfl) (of_decide_eq_true (by kernel_rfl)) k3 bel lt3) trodAll_mk0)))), rfl, bel.frame _, fun h => by cases h⟩

set_option maxRecDepth 100000 in
theorem lifted (os : Os) (started : os.Started) (H : Type) (enc : TypeId × Value → H) (F : Stop.Interp) :
    ReturnsInHanded {} Try.checked os 3 .any ((Rows.OpenSpec.upto Rows.chunkTellsSpec).pre6 enc Try.prog Try.f3 Rows.chunkTellsUptoRow.domain false) (((Rows.OpenSpec.upto Rows.chunkTellsSpec).at F).post enc Try.prog Try.f3 false true false false) := by
  refine returnsInHanded_of_cond (C := Try.checked) (s := Rows.OpenSpec.upto Rows.chunkTellsSpec) (k := Rows.uptoSmall) rfl own started (by kernel_rfl) Try.func3
    (OpenSpec.witness (enc := enc) (C := Try.checked) (s := Rows.OpenSpec.upto Rows.chunkTellsSpec) (k := Rows.uptoSmall) rfl false ⟨#[], #[.slice none 0 0, .slice none 0 0, .slice none 0 0, .slice none 0 0], []⟩ 8 (by kernel_rfl) (by kernel_rfl) (by kernel_rfl)
      (x := ([.nil, .nil, .nil, .nil], [], [])) (by kernel_rfl) rfl (by kernel_rfl)) ?_
  intro W base args ds gs before hval hW _ hk _
  exact contract H enc W base args ds gs before hval hW hk

theorem over : Rows.chunkTellsUptoRow.holds Try.pinned (Rows.OpenSpec.upto Rows.chunkTellsSpec) :=
  OpenClaim.holds_of_cond 3 Try.f3 rfl rfl rfl rfl rfl rfl rfl ⟨rfl, rfl, rfl, rfl, rfl⟩ rfl rfl rfl rfl rfl (by kernel_rfl) Try.func3 (by kernel_rfl)
    (of_decide_eq_true (by kernel_rfl)) (by unfold Func.isWrapper; first | (rw [if_pos (by decide +kernel)]; kernel_rfl) | (rw [if_neg (by decide +kernel)]; exact ⟨rfl, rfl⟩))
    (fun os started H enc _ F => lifted os started H enc F)

/-- The statement. -/
theorem proved : Rows.ChunkTellsUptoSaid :=
  over
#print axioms proved
end Go.Proofs.Ytgmopmlhggdefaa.chunkTells
