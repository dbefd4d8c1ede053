/-
  Package hunk: Invert.
-/
import Derived.Test.YtbcmecclaofmgaaPhkR
import Derived.Test.YtbcmecclaofmgaaEqS
import Derived.Test.YtbcmecclaofmgaaHkC
import Derived.Deep.RegionHeldLaw
namespace Go.Proofs.Ytbcmecclaofmgaa
open Go.RowKit

section
set_option maxRecDepth 100000
set_option maxHeartbeats 4000000
theorem DInvert_own (v : Value) (hs : List HkS) (w : World) (hv : SlH w v hs) (hf : hkFew hs) (hl : hs.length ≤ 1000000) :
    Calls Try.prog 21 #[v] w fun e w' => ∃ u, e = .returned u ∧ OwnHk w' w.heap.size u (invertS hs) ∧ Below w.heap.size w w' := by
  have HR := hid (DRight_all v hs w hv hf hl)
  obtain ⟨ao, cap, rfl⟩ := hv.form
  have HV := hid hv
  have HF := hid hf
  clear hv hf
  go_enter Try.func21, Try.ntmps21
  go_wp2_with fail
  refine HR.out.mono ?_
  rintro e w1 ⟨rfl, hb1⟩
  cases hr : rightS hs with
  | false =>
    have HN := hid (show invertS hs = [] by unfold invertS; rw [hr]; rfl)
    clear hr HR
    go_wp2_with fail
    go_ret
    exact ⟨_, rfl, by rw [HN.out]; exact OwnHk.nil _ _, hb1⟩
  | true =>
    have HN := hid (show invertS hs = invertFrom 0 hs by unfold invertS; rw [hr]; rfl)
    have HOK := hid (fun p hp => okOne_iff.1 (right_at hr p hp))
    clear hr HR
    go_wp2_with fail
    go_loopg [3, 4, 12] hs.length (fun g out m i wr => ∃ (k : Nat) (M : Int) (D : List HkS), k ≤ hs.length ∧ g = hs.length - k ∧ i = .int .i64 k ∧ m = .int .i64 M ∧ Hid (D ++ invertFrom M (hs.drop k) = invertS hs) ∧ Hid (OwnHk wr w.heap.size out D) ∧ Hid (D.length = k) ∧ Hid (-((k : Int) * 1000000) ≤ M ∧ M ≤ (k : Int) * 1000000) ∧ Below w.heap.size w wr)
    case atStart => exact ⟨0, 0, [], Nat.zero_le _, rfl, rfl, rfl, hid (by rw [HN.out, List.drop_zero]; rfl), hid (OwnHk.nil _ _), hid rfl, hid (by simp), hb1⟩
    case round =>
      obtain ⟨k, M, D, hk, rfl, rfl, rfl, HD, HO, HL, HM, hbel⟩ := hrel
      have hz := hbel.size
      have k0 : (0 : Int) ≤ (k : Int) := Int.natCast_nonneg _
      by_cases hlt : k < hs.length
      · have k1 : (k : Int) < (hs.length : Int) := by omega
        have kw : IntKind.i64.wrap ((k : Int) + 1) = (k : Int) + 1 := IntWalk.i64_in _ (by omega)
        obtain ⟨b, o, z, old, new, vo, vn, rfl, c1, c2, c3, s1, s2, he⟩ := (HV.out.old hbel).at' (i := k) hlt
        obtain ⟨oo, oc, rfl⟩ := s1.form
        obtain ⟨no, nc, rfl⟩ := s2.form
        rw [strCells_length] at c2 c3 s1 s2
        obtain ⟨l1, l2⟩ := HF.out.at he
        have hok := HOK.out _ (List.mem_of_getElem? he)
        have hz0 : 0 ≤ z := hok.1
        have hz1 : z ≤ 2147483647 := hok.2.1
        have HSTEP := hid (invert_step he M)
        obtain ⟨m1, m2⟩ := HM.out
        have zw : IntKind.i64.wrap (z + M) = z + M := IntWalk.i64_in _ (by omega)
        have mw1 : IntKind.i64.wrap ((new.length : Int) - (old.length : Int)) = (new.length : Int) - (old.length : Int) := IntWalk.i64_in _ (by omega)
        have mw2 : IntKind.i64.wrap (M + ((new.length : Int) - (old.length : Int))) = M + (new.length : Int) - (old.length : Int) := (IntWalk.i64_in _ (by omega)).trans (by omega)
        have HM' := hid (show -(((k + 1 : Nat) : Int) * 1000000) ≤ M + (new.length : Int) - (old.length : Int) ∧ M + (new.length : Int) - (old.length : Int) ≤ ((k + 1 : Nat) : Int) * 1000000 by omega)
        have HL' := hid (show D.length ≤ 4000000 by have := HL.out; omega)
        have HLEN := hid (And.intro l1 l2)
        have HOL := hid (fun j hj => (HO.out.lt j hj).2)
        clear he hok HM l1 l2 m1 m2 hz0 hz1
        go_wp2_with fail
        have hwa : Below wr.heap.size wr (wr.alloc (.cells #[.int .i64 z, .slice oo old.length oc, .slice no new.length nc] 36)) := (Below.refl _ wr).alloc (Nat.le_refl _) _
        have hbx : (wr.alloc (.cells #[.int .i64 z, .slice oo old.length oc, .slice no new.length nc] 36)).heap[wr.heap.size]? = some (.cells #[.int .i64 z, .slice oo old.length oc, .slice no new.length nc] 36 (0, 0)) := heap_alloc_new wr _
        generalize wr.alloc (.cells #[.int .i64 z, .slice oo old.length oc, .slice no new.length nc] 36) = wa at hwa hbx ⊢
        have hwd : Below wr.heap.size wr wa.drew := hwa.trans ⟨rfl, rfl, rfl, Nat.le_refl _, fun _ _ => rfl⟩
        have hbd : Below w.heap.size w wa.drew := below_step hbel hwd hz
        have blk1 : wa.drew.heap[wr.heap.size]? = some (.cells #[.int .i64 z, .slice oo old.length oc, .slice no new.length nc] 36 (0, 0)) := hbx
        have hn1 : wr.heap.size < wa.drew.heap.size := lt_of_block hbx
        have hd1 := hbd.size
        have CELLS := hid (show ∀ wy : World, wy.heap[wr.heap.size]? = some (.cells #[.int .i64 z, .slice oo old.length oc, .slice no new.length nc] 36 (0, 0)) → wy.cell? ⟨wr.heap.size, 0, none⟩ = some (.int .i64 z) ∧ wy.cell? ⟨wr.heap.size, 1, none⟩ = some (.slice oo old.length oc) ∧ wy.cell? ⟨wr.heap.size, 2, none⟩ = some (.slice no new.length nc) from fun wy hy => ⟨blk_cell (i := 0) hy rfl, blk_cell (i := 1) hy rfl, blk_cell (i := 2) hy rfl⟩)
        have HS1 := hid (Sl.old s1 hwd)
        have HS2 := hid (Sl.old s2 hwd)
        have HOD := hid (HO.out.old hwd)
        have HZ := hid hwd.size
        clear s1 s2 HO hwa hbx hwd hbel c1 c2 c3
        go_region_held_law (fun wy => wy.cell? ⟨wr.heap.size, 0, none⟩ = some (.int .i64 z) ∧ wy.cell? ⟨wr.heap.size, 1, none⟩ = some (.slice oo old.length oc) ∧ wy.cell? ⟨wr.heap.size, 2, none⟩ = some (.slice no new.length nc))
          (first | exact CELLS.out _ (by assumption) | exact CELLS.out _ ((Below.heap_alloc _ _ _ (by assumption)).trans (by assumption)))
          (first
            | (refine step_append_hk2 (w := wZ) (by rfl) (.tmp 16) (.tmp 28) (by rfl) w.heap.size _ D (z + M) new old (.slice xo (strCells new).length yo) (.slice xn (strCells old).length yn) (by rfl) ODZ.out FOZ.out FNZ.out (by rfl) ONE.out.1 ONE.out.2 HL'.out (by omega) ?_; intro u5 w5 hO5 B5 K5; have HO5 := hid hO5; have hb5 := hbZ.trans B5; have blk5 : w5.heap[wr.heap.size]? = _ := (K5 _ hnZ (fun e => Nat.lt_irrefl _ (HOL.out _ e))).trans blkZ; clear hO5 B5 K5)
            | (go_at_call 33; with_reducible refine (SClone_any _ old w2 (Sl.old HS1.out B2) (by have := HLEN.out.1; omega)).mono ?_; rintro e wZ ⟨uN, rfl, FN, BZ⟩; obtain ⟨xn, yn, rfl⟩ := FN.sl.form; have FOZ := hid ((FO.out.old BZ).nest (fun j hj => Nat.lt_of_lt_of_le (HOL.out j hj) HZ.out)); have FNZ := hid (FN.nest (fun j hj => Nat.lt_of_lt_of_le (HOL.out j hj) (Nat.le_trans HZ.out B2.size))); have ONE := hid (And.intro FO.out.one FN.one); have ODZ := hid ((HOD.out.old B2).old BZ); have hbZ := below_step hb2 BZ hb2.size; have blkZ := (BZ.block _ hn2).trans blk2; have hnZ := Nat.lt_of_lt_of_le hn2 BZ.size; have hzZ := hbZ.size; clear FN BZ)
            | (go_at_call 33; with_reducible refine (SClone_any _ new w3 (Sl.old HS2.out B3) (by have := HLEN.out.2; omega)).mono ?_; rintro e wZ ⟨uO, rfl, FO, BZ⟩; obtain ⟨xo, yo, rfl⟩ := FO.sl.form; have FNZ := hid ((FN.out.old BZ).nest (fun j hj => Nat.lt_of_lt_of_le (HOL.out j hj) HZ.out)); have FOZ := hid (FO.nest (fun j hj => Nat.lt_of_lt_of_le (HOL.out j hj) (Nat.le_trans HZ.out B3.size))); have ONE := hid (And.intro FO.one FN.out.one); have ODZ := hid ((HOD.out.old B3).old BZ); have hbZ := below_step hb3 BZ hb3.size; have blkZ := (BZ.block _ hn3).trans blk3; have hnZ := Nat.lt_of_lt_of_le hn3 BZ.size; have hzZ := hbZ.size; clear FO BZ)
            | (go_at_call 33; with_reducible refine (SClone_any _ new wa.drew HS2.out (by have := HLEN.out.2; omega)).mono ?_; rintro e w2 ⟨uO, rfl, FO', B2⟩; obtain ⟨xo, yo, rfl⟩ := FO'.sl.form; have FO := hid FO'; clear FO'; have hb2 : Below w.heap.size w w2 := below_step hbd B2 hbd.size; have hz2 := hb2.size; have blk2 := (B2.block _ hn1).trans blk1; have hn2 := Nat.lt_of_lt_of_le hn1 B2.size)
            | (go_at_call 33; with_reducible refine (SClone_any _ old wa.drew HS1.out (by have := HLEN.out.1; omega)).mono ?_; rintro e w3 ⟨uN, rfl, FN', B3⟩; obtain ⟨xn, yn, rfl⟩ := FN'.sl.form; have FN := hid FN'; clear FN'; have hb3 : Below w.heap.size w w3 := below_step hbd B3 hbd.size; have hz3 := hb3.size; have blk3 := (B3.block _ hn1).trans blk1; have hn3 := Nat.lt_of_lt_of_le hn1 B3.size))
        all_goals
          obtain ⟨e1, e2, e3⟩ := CELLS.out _ blk5
          have HD' := hid (show (D ++ [(z + M, new, old)]) ++ invertFrom (M + (new.length : Int) - (old.length : Int)) (hs.drop (k + 1)) = invertS hs by
            rw [← HD.out, HSTEP.out, List.append_assoc]
            rfl)
          have HL5 := hid (show (D ++ [(z + M, new, old)]).length = k + 1 by rw [List.length_append, HL.out]; rfl)
          clear hbd blk1
          go_simp
          go_wp2_with fail
          go_roundg (hs.length - (k + 1))
          case measure => omega
          case rel => exact ⟨k + 1, _, _, by omega, rfl, rfl, rfl, HD', HO5, HL5, HM', hb5⟩
      · obtain rfl : k = hs.length := by omega
        have hneg : ¬ (hs.length : Int) < (hs.length : Int) := by omega
        have hD := HD.out
        rw [List.drop_length] at hD
        rw [show D ++ invertFrom M [] = D from List.append_nil D] at hD
        obtain ⟨ao2, cap2, rfl⟩ := HO.out.form
        have HD2 := hid hD
        clear hD
        go_wp2_with fail
        go_ret
        exact ⟨_, rfl, by rw [← HD2.out]; exact HO.out, hbel⟩
end
end Go.Proofs.Ytbcmecclaofmgaa
