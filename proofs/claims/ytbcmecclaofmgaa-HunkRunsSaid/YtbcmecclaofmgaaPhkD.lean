/-
  Package hunk: Of; and what the laws take of the package.
-/
import Derived.Test.YtbcmecclaofmgaaPhkI
import Derived.Test.YtbcmecclaofmgaaPhkP
import Derived.Test.YtbcmecclaofmgaaPdfA
import Derived.Test.YtbcmecclaofmgaaHkB
import Derived.Test.YtbcmecclaofmgaaCutS
namespace Go.Proofs.Ytbcmecclaofmgaa
open Go.RowKit

theorem set3 {wZ : World} {N : Nat} {x y z : Value} {t : TypeId} (h : wZ.heap[N]? = some (.cells #[x, y, z] t (0, 0))) (a b c : Value) :
    (((wZ.setCell ⟨N, 0, none⟩ a).setCell ⟨N, 1, none⟩ b).setCell ⟨N, 2, none⟩ c).heap[N]? = some (.cells #[a, b, c] t (0, 0)) ∧
    (∀ j, j < wZ.heap.size → j ≠ N → (((wZ.setCell ⟨N, 0, none⟩ a).setCell ⟨N, 1, none⟩ b).setCell ⟨N, 2, none⟩ c).heap[j]? = wZ.heap[j]?) ∧
    wZ.heap.size ≤ (((wZ.setCell ⟨N, 0, none⟩ a).setCell ⟨N, 1, none⟩ b).setCell ⟨N, 2, none⟩ c).heap.size ∧
    ∀ base W, base ≤ N → Below base W wZ → Below base W (((wZ.setCell ⟨N, 0, none⟩ a).setCell ⟨N, 1, none⟩ b).setCell ⟨N, 2, none⟩ c) :=
  ⟨blk_set (i := 2) (blk_set (i := 1) (blk_set (i := 0) h)), fun j _ hj => (Below.heap_setCell _ _ _ _ hj).trans ((Below.heap_setCell _ _ _ _ hj).trans (Below.heap_setCell _ _ _ _ hj)), by simp [World.setCell], fun base W hN hW => ((hW.setCell hN _).setCell hN _).setCell hN _⟩
theorem alloc3 (wZ : World) (cs : Array Value) (t : TypeId) :
    (wZ.alloc (.cells cs t)).heap[wZ.heap.size]? = some (.cells cs t (0, 0)) ∧ (∀ j, j < wZ.heap.size → j ≠ wZ.heap.size → (wZ.alloc (.cells cs t)).heap[j]? = wZ.heap[j]?) ∧ wZ.heap.size ≤ (wZ.alloc (.cells cs t)).heap.size ∧
    ∀ base W, base ≤ wZ.heap.size → Below base W wZ → Below base W (wZ.alloc (.cells cs t)) :=
  ⟨heap_alloc_new wZ _, fun j hj _ => Below.heap_alloc wZ _ j hj, by simp, fun base W hN hW => hW.alloc hN _⟩
def Off (u : Value) (N : Nat) : Prop := ∀ (a : Addr) (n c : Nat), u = .slice (some a) n c → a.block ≠ N
theorem far_last {wZ : World} {v u1 u2 : Value} {xs ys : List (List UInt8)} (h1 : Nest wZ v u1 xs) (h2 : Nest wZ v u2 ys) : Off u1 wZ.heap.size ∧ Off u2 wZ.heap.size :=
  ⟨fun a n c e => Nat.ne_of_lt (h1.2 a n c e).1, fun a n c e => Nat.ne_of_lt (h2.2 a n c e).1⟩
theorem far_one {w0 w : World} {u : Value} {xs : List (List UInt8)} (h : w.ownsRow w0.heap.size 9 1 u xs.length (strCells xs)) {N : Nat} (hN : N < w0.heap.size) : Off u N :=
  fun a n c e => Nat.ne_of_gt (Nat.lt_of_lt_of_le hN ((Fresh.ofOwns h).far a n c e).1)
theorem far_first {w0 w : World} {u1 u2 : Value} {ys : List (List UInt8)} {N : Nat} (h1 : Off u1 N) (h2 : w.ownsRow w0.heap.size 9 1 u2 ys.length (strCells ys)) (hN : N < w0.heap.size) : Off u1 N ∧ Off u2 N := ⟨h1, far_one h2 hN⟩
theorem far_mid {wd w4 w : World} {o : Obj} {u1 u2 : Value} {xs ys : List (List UInt8)} (h1 : Fresh wd w4 u1 xs) (h2 : w.ownsRow (w4.alloc o).heap.size 9 1 u2 ys.length (strCells ys)) : Off u1 w4.heap.size ∧ Off u2 w4.heap.size :=
  ⟨fun a n c e => Nat.ne_of_lt (h1.far a n c e).2, far_one h2 (by simp)⟩
theorem nest_laid {wZ wF : World} {N : Nat} {v u : Value} {xs : List (List UInt8)} (h : Nest wZ v u xs) (hk : ∀ j, j < wZ.heap.size → j ≠ N → wF.heap[j]? = wZ.heap[j]?) (hz : wZ.heap.size ≤ wF.heap.size) (hf : Off u N) : Nest wF v u xs :=
  ⟨h.1.kept fun a n c e hlt => hk _ hlt (hf a n c e), fun a n c e => ⟨Nat.lt_of_lt_of_le (h.2 a n c e).1 hz, (h.2 a n c e).2⟩⟩
section
set_option maxRecDepth 100000
set_option maxHeartbeats 4000000
theorem DOf_own (v : Value) (es : List (Int × List UInt8)) (w : World) (hv : SlE w v es) (hl : es.length ≤ 1000000) :
    Calls Try.prog 15 #[v] w fun e w' => ∃ u, e = .returned u ∧ OwnHk w' w.heap.size u (hunksS es) ∧ Below w.heap.size w w' := by
  obtain ⟨i0, hi0, hi1, hi2, hi3⟩ := info_parts Try.infoEd
  obtain ⟨ao, cap, rfl⟩ := hv.form
  have HV := hid hv
  clear hv
  go_enter Try.func15, Try.ntmps15
  go_wp2_with fail
  go_loopg [0, 3, 4] es.length (fun g l out at' wr => ∃ (k A : Nat) (D : List HkS), k ≤ es.length ∧ A ≤ k ∧ g = es.length - k ∧ at' = .int .i64 A ∧ Hid (SlE w l (es.drop k)) ∧ Hid (D ++ hunksG none A (es.drop k) = hunksS es) ∧ Hid (OwnHk wr w.heap.size out D) ∧ Hid (D.length ≤ k) ∧ Below w.heap.size w wr)
  case atStart => exact ⟨0, 0, [], Nat.zero_le _, Nat.le_refl _, rfl, rfl, HV, hid rfl, hid (OwnHk.nil _ _), hid (Nat.le_refl _), Below.refl _ _⟩
  case round =>
    obtain ⟨k, A, D, hk, hA, rfl, rfl, HE, HD, HO, HL, hbel⟩ := hrel
    have hz := hbel.size
    have A0 : (0 : Int) ≤ (A : Int) := Int.natCast_nonneg _
    obtain ⟨lo, lc, rfl⟩ := HE.out.form
    have hlen : (es.drop k).length = es.length - k := List.length_drop
    by_cases hlt : k < es.length
    · have HRUN := hid (DRun_any _ (es.drop k) wr (HE.out.old hbel) (by omega))
      have hRle := runN_le (es.drop k)
      have HKEEP := hid (fun h => hunks_keep (l := es.drop k) A h (by omega))
      have HRUNS := hid (hunks_run (es.drop k) A)
      obtain ⟨R, hR⟩ : ∃ R, runN (es.drop k) = R := ⟨_, rfl⟩
      rw [hR] at HRUN HKEEP HRUNS hRle
      rw [hlen] at hRle HRUN ⊢
      have m0 : (0 : Int) < ((es.length - k : Nat) : Int) := by omega
      by_cases hR0 : R = 0
      · subst hR0
        obtain ⟨so, sc, rs, hs⟩ := run_slice_edits (P := Try.prog) 22 30 Try.underlying22 hi0 hi2 HE.out 1 (by omega)
        rw [hlen] at rs hs
        rw [List.drop_drop] at hs
        have aw : IntKind.i64.wrap ((A : Int) + 1) = ((A + 1 : Nat) : Int) := (IntWalk.i64_in _ (by omega)).trans (by omega)
        have HD2 := hid (show D ++ hunksG none (A + 1) (es.drop (k + 1)) = hunksS es by
          rw [← HD.out, HKEEP.out rfl, List.drop_drop])
        have HS := hid hs
        have rs' : ∀ wx, (Instr.slice 22 (.slice lo (es.length - k) lc) (some (.int .i64 1)) none none).run Try.prog wx = _ := rs
        have m1 : (1 : Int) ≤ ((es.length - k : Nat) : Int) := by omega
        clear hs rs
        go_wp2_with (go_at_call 28; refine HRUN.out.mono ?_; rintro e w2 ⟨rfl, hb2⟩)
        go_wp2_with fail
        go_roundg (es.length - (k + 1))
        case measure => omega
        case rel => exact ⟨k + 1, A + 1, D, by omega, by omega, rfl, rfl, HS, HD2, hid (HO.out.old hb2), hid (by have := HL.out; omega), below_step hbel hb2 hz⟩
      · have hRi : ¬ (R : Int) = 0 := by omega
        have hRb : ((R : Int) == 0) = false := by simpa using hRi
        have hRn : (0 : Int) ≤ (R : Int) := Int.natCast_nonneg _
        have hRm : (R : Int) ≤ ((es.length - k : Nat) : Int) := by omega
        obtain ⟨to', tc, rt, ht⟩ := slice_edits_to (P := Try.prog) 22 30 Try.underlying22 hi0 HE.out R (by omega)
        obtain ⟨so, sc, rs, hs⟩ := run_slice_edits (P := Try.prog) 22 30 Try.underlying22 hi0 hi2 HE.out R (by omega)
        rw [hlen] at rt rs hs
        rw [List.drop_drop] at hs
        have htl : ((es.drop k).take R).length = R := by rw [List.length_take]; omega
        have HOLD := hid (fun wx hx => DOld_any _ ((es.drop k).take R) wx (ht.old hx) (by omega))
        have HNEW := hid (fun wx hx => DNew_any _ ((es.drop k).take R) wx (ht.old hx) (by omega))
        have HRS := HRUNS.out (by omega)
        have hO1 := sideS_le 2 ((es.drop k).take R)
        have hN1 := sideS_le 3 ((es.drop k).take R)
        rw [htl] at hO1 hN1
        generalize sideS 2 ((es.drop k).take R) = old at HOLD HRS hO1
        generalize sideS 3 ((es.drop k).take R) = new at HNEW HRS hN1
        rw [List.drop_drop] at HRS
        have aw : IntKind.i64.wrap ((A : Int) + (old.length : Int)) = ((A + old.length : Nat) : Int) := (IntWalk.i64_in _ (by omega)).trans (by omega)
        have aw2 : IntKind.i64.wrap ((A : Int) + ((strCells old).length : Int)) = ((A + old.length : Nat) : Int) := by rw [strCells_length]; exact aw
        have HD2 := hid (show (D ++ [((A : Int), old, new)]) ++ hunksG none (A + old.length) (es.drop (k + R)) = hunksS es by
          rw [← HD.out, HRS, List.append_assoc]
          rfl)
        have HS := hid hs
        have HOL := hid (fun j hj => (HO.out.lt j hj).2)
        have HL' := hid (show D.length ≤ 4000000 by have := HL.out; omega)
        clear hs ht htl HRS hlen HD HRUNS HKEEP hR
        have hR1 : 0 < R := by omega
        clear hR0 hRi
        go_wp2_with (go_at_call 28; refine HRUN.out.mono ?_; rintro e w2 ⟨rfl, hb2⟩)
        have hwd : Below wr.heap.size wr w2.drew := hb2.trans ⟨rfl, rfl, rfl, Nat.le_refl _, fun _ _ => rfl⟩
        have hbd : Below w.heap.size w w2.drew := below_step hbel hwd hz
        have HOD := hid (HO.out.old hwd)
        have HZ := hid hwd.size
        have hd1 := hbd.size
        clear hb2
        go_wp2_with fail
        have HOL2 := hid (fun j hj => Nat.lt_of_lt_of_le (HOL.out j hj) HZ.out)
        have hA0 := (Below.refl _ w2).alloc (Nat.le_refl _) (.cells #[.int .i64 0, .slice none 0 0, .slice none 0 0] 36)
        have SdA : Below w2.drew.heap.size w2.drew (w2.alloc (.cells #[.int .i64 0, .slice none 0 0, .slice none 0 0] 36)).drew := ⟨hA0.os, hA0.tape, hA0.output, hA0.size, hA0.block⟩
        have blkA : (w2.alloc (.cells #[.int .i64 0, .slice none 0 0, .slice none 0 0] 36)).drew.heap[w2.heap.size]? = some (.cells #[.int .i64 0, .slice none 0 0, .slice none 0 0] 36 (0, 0)) := heap_alloc_new w2 _
        have hnA := lt_of_block blkA
        have hbdA : Below w.heap.size w (w2.alloc (.cells #[.int .i64 0, .slice none 0 0, .slice none 0 0] 36)).drew := below_step hbd SdA hd1
        clear hA0
        go_region_held_law (fun _ => True)
          (trivial)
          (first
            | (go_at_call 30; with_reducible refine (HNEW.out w4 hb4).mono ?_; rintro e wZ ⟨uN, rfl, FN', BZ'⟩; have BZ : Below w4.heap.size w4 wZ := BZ'; (try (have blkZ := (BZ.block _ hn4).trans blk4; have q0 := blk_cell (i := 0) blkZ rfl; have q1 := blk_cell (i := 1) blkZ rfl; have q2 := blk_cell (i := 2) blkZ rfl; have f0 := blk_free (i := 0) blkZ; have f1 := blk_free (i := 1) blkZ; have f2 := blk_free (i := 2) blkZ)); have FN := (Fresh.ofOwns FN').mono (w1 := w2.drew) (Nat.le_trans S4.size (Nat.le_refl _)); obtain ⟨xn, yn, rfl⟩ := FN.sl.form; have FOZ := hid ((FO.out.old BZ).nest HOL2.out); have FNZ := hid (FN.nest HOL2.out); have ONE := hid (And.intro FO.out.one FN.one); have SZ := S4.trans (BZ.mono S4.size); have hwrZ : Below wr.heap.size wr wZ := hwd.trans (SZ.mono hwd.size); (first | have FAR := hid (far_first FAR4.out FN' hn4) | have FAR := hid (far_last FOZ.out FNZ.out)); have hbZ := below_step hbd SZ hbd.size; have hzZ := hbZ.size; clear FN FN' BZ BZ' SZ)
            | (go_at_call 30; with_reducible refine (HNEW.out (w4.alloc (.cells #[.int .i64 0, .slice none 0 0, .slice none 0 0] 36)) hb4A).mono ?_; rintro e wZ ⟨uN, rfl, FN', BZ'⟩; have BZ : Below w4.heap.size w4 wZ := (S4A).trans (BZ'.mono (by simp)); have blkZ := (BZ'.block w4.heap.size (by simp)).trans (heap_alloc_new w4 _); have q0 := blk_cell (i := 0) blkZ rfl; have q1 := blk_cell (i := 1) blkZ rfl; have q2 := blk_cell (i := 2) blkZ rfl; have f0 := blk_free (i := 0) blkZ; have f1 := blk_free (i := 1) blkZ; have f2 := blk_free (i := 2) blkZ; have FN := (Fresh.ofOwns FN').mono (w1 := w2.drew) (Nat.le_trans S4.size (by simp)); obtain ⟨xn, yn, rfl⟩ := FN.sl.form; have FOZ := hid ((FO.out.old BZ).nest HOL2.out); have FNZ := hid (FN.nest HOL2.out); have ONE := hid (And.intro FO.out.one FN.one); have SZ := S4.trans (BZ.mono S4.size); have hwrZ : Below wr.heap.size wr wZ := hwd.trans (SZ.mono hwd.size); have FAR := hid (far_mid FO.out FN'); have hbZ := below_step hbd SZ hbd.size; have hzZ := hbZ.size; clear FN FN' BZ BZ' SZ)
            | (go_at_call 29; with_reducible refine (HOLD.out w2.drew hbd).mono ?_; rintro e w4 ⟨uO, rfl, FO', B'⟩; have S4 : Below w2.drew.heap.size w2.drew w4 := B'; have FO := hid ((Fresh.ofOwns FO').mono (w1 := w2.drew) (Nat.le_refl _)); clear FO' B'; obtain ⟨xo, yo, rfl⟩ := FO.out.sl.form; have hb4 : Below w.heap.size w w4 := below_step hbd S4 hbd.size; have hz4 := hb4.size; have S4A : Below w4.heap.size w4 (w4.alloc (.cells #[.int .i64 0, .slice none 0 0, .slice none 0 0] 36)) := (Below.refl _ w4).alloc (Nat.le_refl _) _; have hb4A : Below w.heap.size w (w4.alloc (.cells #[.int .i64 0, .slice none 0 0, .slice none 0 0] 36)) := below_step hb4 S4A hz4)
            | (go_at_call 29; with_reducible refine (HOLD.out ((w2.alloc (.cells #[.int .i64 0, .slice none 0 0, .slice none 0 0] 36)).drew) hbdA).mono ?_; rintro e w4 ⟨uO, rfl, FO', B'⟩; have S4 : Below w2.drew.heap.size w2.drew w4 := SdA.trans (B'.mono SdA.size); have blk4 := (B'.block w2.heap.size hnA).trans blkA; have hn4 := lt_of_block blk4; have FO := hid ((Fresh.ofOwns FO').mono (w1 := w2.drew) SdA.size); have FAR4 := hid (far_one FO' hnA); clear FO' B'; obtain ⟨xo, yo, rfl⟩ := FO.out.sl.form; have hb4 : Below w.heap.size w w4 := below_step hbd S4 hbd.size; have hz4 := hb4.size; have S4A : Below w4.heap.size w4 (w4.alloc (.cells #[.int .i64 0, .slice none 0 0, .slice none 0 0] 36)) := (Below.refl _ w4).alloc (Nat.le_refl _) _; have hb4A : Below w.heap.size w (w4.alloc (.cells #[.int .i64 0, .slice none 0 0, .slice none 0 0] 36)) := below_step hb4 S4A hz4))
        · go_simp
          obtain ⟨blkF, kF, zF, bF⟩ := alloc3 wZ #[.int .i64 (A : Int), .slice xo (strCells old).length yo, .slice xn (strCells new).length yn] 36
          have hNlo : wr.heap.size ≤ wZ.heap.size := hwrZ.size
          have hNo : ∀ j, u3.ownBlock = some j → j ≠ wZ.heap.size := fun j hj => by have := HOL.out j hj; omega
          have hF : Below wr.heap.size wr (wZ.alloc (.cells #[.int .i64 (A : Int), .slice xo (strCells old).length yo, .slice xn (strCells new).length yn] 36)) := bF _ _ hNlo hwrZ
          have FOF := hid (nest_laid FOZ.out kF zF FAR.out.1)
          have FNF := hid (nest_laid FNZ.out kF zF FAR.out.2)
          clear bF kF zF FOZ FNZ
          have HOF := hid (HO.out.old hF)
          have hbF := below_step hbel hF hz
          have hNhi := lt_of_block blkF
          have hzF := hbF.size
          have c0 := blk_cell (i := 0) blkF rfl
          have c1 := blk_cell (i := 1) blkF rfl
          have c2 := blk_cell (i := 2) blkF rfl
          clear hF hbel
          generalize (wZ.alloc (.cells #[.int .i64 (A : Int), .slice xo (strCells old).length yo, .slice xn (strCells new).length yn] 36)) = wF at HOF hbF hNhi hzF c0 c1 c2 FOF FNF blkF ⊢
          go_wp2_with (refine wpList_append_hk2 (w := wF) (by rfl) (.tmp 28) (.tmp 30) (by rfl) w.heap.size _ D A old new (.slice xo (strCells old).length yo) (.slice xn (strCells new).length yn) (by rfl) HOF.out FOF.out FNF.out (by rfl) (by rfl) (by rfl) HL'.out (by omega) ?_; intro u5 w5 hO5 B5 K5; have HO5 := hid hO5; have hb5 := hbF.trans B5; have blk5 : w5.heap[wZ.heap.size]? = _ := (K5 _ hNhi (fun e => hNo _ e rfl)).trans blkF; have e1 := blk_cell (i := 1) blk5 rfl; clear hO5 B5 K5 c0 c1 c2)
          go_wp2_with fail
          go_roundg (es.length - (k + R))
          case measure => omega
          case rel => exact ⟨k + R, A + old.length, _, by omega, by omega, rfl, rfl, HS, HD2, HO5, hid (by have := HL.out; rw [List.length_append, List.length_singleton]; omega), hb5⟩
        · go_simp
          obtain ⟨blkF, kF, zF, bF⟩ := set3 blkZ (.int .i64 (A : Int)) (.slice xo (strCells old).length yo) (.slice xn (strCells new).length yn)
          have hNlo : wr.heap.size ≤ w4.heap.size := Nat.le_trans HZ.out S4.size
          have hNo : ∀ j, u3.ownBlock = some j → j ≠ w4.heap.size := fun j hj => by have := HOL.out j hj; omega
          have hF : Below wr.heap.size wr (((wZ.setCell ⟨w4.heap.size, 0, none⟩ (.int .i64 (A : Int))).setCell ⟨w4.heap.size, 1, none⟩ (.slice xo (strCells old).length yo)).setCell ⟨w4.heap.size, 2, none⟩ (.slice xn (strCells new).length yn)) := bF _ _ hNlo hwrZ
          have FOF := hid (nest_laid FOZ.out kF zF FAR.out.1)
          have FNF := hid (nest_laid FNZ.out kF zF FAR.out.2)
          clear bF kF zF FOZ FNZ
          have HOF := hid (HO.out.old hF)
          have hbF := below_step hbel hF hz
          have hNhi := lt_of_block blkF
          have hzF := hbF.size
          have c0 := blk_cell (i := 0) blkF rfl
          have c1 := blk_cell (i := 1) blkF rfl
          have c2 := blk_cell (i := 2) blkF rfl
          clear hF hbel
          generalize (((wZ.setCell ⟨w4.heap.size, 0, none⟩ (.int .i64 (A : Int))).setCell ⟨w4.heap.size, 1, none⟩ (.slice xo (strCells old).length yo)).setCell ⟨w4.heap.size, 2, none⟩ (.slice xn (strCells new).length yn)) = wF at HOF hbF hNhi hzF c0 c1 c2 FOF FNF blkF ⊢
          go_wp2_with (refine wpList_append_hk2 (w := wF) (by rfl) (.tmp 28) (.tmp 30) (by rfl) w.heap.size _ D A old new (.slice xo (strCells old).length yo) (.slice xn (strCells new).length yn) (by rfl) HOF.out FOF.out FNF.out (by rfl) (by rfl) (by rfl) HL'.out (by omega) ?_; intro u5 w5 hO5 B5 K5; have HO5 := hid hO5; have hb5 := hbF.trans B5; have blk5 : w5.heap[w4.heap.size]? = _ := (K5 _ hNhi (fun e => hNo _ e rfl)).trans blkF; have e1 := blk_cell (i := 1) blk5 rfl; clear hO5 B5 K5 c0 c1 c2)
          go_wp2_with fail
          go_roundg (es.length - (k + R))
          case measure => omega
          case rel => exact ⟨k + R, A + old.length, _, by omega, by omega, rfl, rfl, HS, HD2, HO5, hid (by have := HL.out; rw [List.length_append, List.length_singleton]; omega), hb5⟩
        · go_simp
          obtain ⟨blkF, kF, zF, bF⟩ := set3 blkZ (.int .i64 (A : Int)) (.slice xo (strCells old).length yo) (.slice xn (strCells new).length yn)
          have hNlo : wr.heap.size ≤ w2.heap.size := HZ.out
          have hNo : ∀ j, u3.ownBlock = some j → j ≠ w2.heap.size := fun j hj => by have := HOL.out j hj; omega
          have hF : Below wr.heap.size wr (((wZ.setCell ⟨w2.heap.size, 0, none⟩ (.int .i64 (A : Int))).setCell ⟨w2.heap.size, 1, none⟩ (.slice xo (strCells old).length yo)).setCell ⟨w2.heap.size, 2, none⟩ (.slice xn (strCells new).length yn)) := bF _ _ hNlo hwrZ
          have FOF := hid (nest_laid FOZ.out kF zF FAR.out.1)
          have FNF := hid (nest_laid FNZ.out kF zF FAR.out.2)
          clear bF kF zF FOZ FNZ
          have HOF := hid (HO.out.old hF)
          have hbF := below_step hbel hF hz
          have hNhi := lt_of_block blkF
          have hzF := hbF.size
          have c0 := blk_cell (i := 0) blkF rfl
          have c1 := blk_cell (i := 1) blkF rfl
          have c2 := blk_cell (i := 2) blkF rfl
          clear hF hbel
          generalize (((wZ.setCell ⟨w2.heap.size, 0, none⟩ (.int .i64 (A : Int))).setCell ⟨w2.heap.size, 1, none⟩ (.slice xo (strCells old).length yo)).setCell ⟨w2.heap.size, 2, none⟩ (.slice xn (strCells new).length yn)) = wF at HOF hbF hNhi hzF c0 c1 c2 FOF FNF blkF ⊢
          go_wp2_with (refine wpList_append_hk2 (w := wF) (by rfl) (.tmp 28) (.tmp 30) (by rfl) w.heap.size _ D A old new (.slice xo (strCells old).length yo) (.slice xn (strCells new).length yn) (by rfl) HOF.out FOF.out FNF.out (by rfl) (by rfl) (by rfl) HL'.out (by omega) ?_; intro u5 w5 hO5 B5 K5; have HO5 := hid hO5; have hb5 := hbF.trans B5; have blk5 : w5.heap[w2.heap.size]? = _ := (K5 _ hNhi (fun e => hNo _ e rfl)).trans blkF; have e1 := blk_cell (i := 1) blk5 rfl; clear hO5 B5 K5 c0 c1 c2)
          go_wp2_with fail
          go_roundg (es.length - (k + R))
          case measure => omega
          case rel => exact ⟨k + R, A + old.length, _, by omega, by omega, rfl, rfl, HS, HD2, HO5, hid (by have := HL.out; rw [List.length_append, List.length_singleton]; omega), hb5⟩
    · obtain rfl : k = es.length := by omega
      rw [hlen, Nat.sub_self]
      have hD := HD.out
      rw [List.drop_length] at hD
      rw [show D ++ hunksG none A [] = D from List.append_nil D] at hD
      obtain ⟨ao2, cap2, rfl⟩ := HO.out.form
      have HD2 := hid hD
      clear hD
      go_wp2_with fail
      go_ret
      exact ⟨_, rfl, by rw [← HD2.out]; exact HO.out, hbel⟩
end
theorem DRight_any (v : Value) (hs : List HkS) (w : World) (hv : SlH w v hs) (hf : hkFew hs) (hl : hs.length ≤ 1000) :
    Calls Try.prog 18 #[v] w fun e w' => e = .returned (.bool (rightS hs)) ∧ Below w.heap.size w w' := DRight_all v hs w hv hf (by omega)
theorem DInvert_any (v : Value) (hs : List HkS) (w : World) (hv : SlH w v hs) (hf : hkFew hs) (hl : hs.length ≤ 1000) :
    Calls Try.prog 21 #[v] w fun e w' => ∃ u, e = .returned u ∧ SlH w' u (invertS hs) ∧ Below w.heap.size w w' := by
  refine (DInvert_own v hs w hv hf (by omega)).mono ?_
  rintro e w' ⟨u, rfl, h1, h2⟩
  exact ⟨u, rfl, h1.slH, h2⟩
theorem DOf_any (v : Value) (es : List (Int × List UInt8)) (w : World) (hv : SlE w v es) (hl : es.length ≤ 1000000) :
    Calls Try.prog 15 #[v] w fun e w' => ∃ u, e = .returned u ∧ SlH w' u (hunksS es) ∧ Below w.heap.size w w' := by
  refine (DOf_own v es w hv hl).mono ?_
  rintro e w' ⟨u, rfl, h1, h2⟩
  exact ⟨u, rfl, h1.slH, h2⟩
end Go.Proofs.Ytbcmecclaofmgaa
