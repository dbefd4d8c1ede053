/-
  The document's own entries: may they be? By a contract. The document's own Tree and Commit: the bytes that they write.
-/
import Derived.Test.YtbcpfakdmnccmaaDoorG3
import Derived.Test.YtbcpfakdmnccmaaDoorG4
import Derived.Test.YtbcpfakdmnccmaaDoorG2
import Derived.Deep.LoopGhost
import Derived.Deep.RegionHeld3
import Derived.Deep.DeepCutAuto
import Derived.Deep.CutBlock
import Derived.Deep.CutRange
import Derived.Test.YtbcpfakdmnccmaaDoorG1
import Derived.Deep.RegionLaw
namespace Go.Proofs.YtbcpfakdmnccmaaDoor
open Go.RowKit

section
set_option maxRecDepth 100000
set_option maxHeartbeats 4000000
theorem REntries_any (v : Value) (l : List EntS) (w : World) (hv : SlEnt w v l) :
    Calls Tryd.prog 35 #[v] w fun e w' => e = .returned (.bool (entsR l)) ∧ Below w.heap.size w w' := by
  obtain ⟨ao, cap, rfl⟩ := hv.form
  have HV := hid hv
  clear hv
  by_cases h100 : l.length ≤ 100
  · have hl1 : decide (100 < (l.length : Int)) = false := decide_eq_false (by omega)
    have hl2 : decide (100 < l.length) = false := decide_eq_false (by omega)
    have HR := hid (show entsR l = okEnts [] l by unfold entsR; rw [decide_eq_true h100, Bool.true_and])
    have HL := hid h100
    clear h100
    go_enter Tryd.func35, Tryd.ntmps35
    go_wp2_with fail
    go_loopg [3] l.length (fun g i wr => ∃ k : Nat, k ≤ l.length ∧ l.length - k = g ∧ i = .int .i64 k ∧ Hid (entsR l = okEnts (l.take k) (l.drop k)) ∧ Below w.heap.size w wr)
    case atStart => exact ⟨0, Nat.zero_le _, rfl, rfl, hid (by rw [HR.out]; rfl), Below.refl _ _⟩
    case round =>
      obtain ⟨k, hk, rfl, rfl, HA, hbx⟩ := hrel
      have hzx := hbx.size
      have k0 : (0 : Int) ≤ (k : Int) := Int.natCast_nonneg _
      by_cases hlt : k < l.length
      · have k1 : (k : Int) < (l.length : Int) := by omega
        have kw : IntKind.i64.wrap ((k : Int) + 1) = (k : Int) + 1 := IntWalk.i64_in _ (by have := HL.out; omega)
        obtain ⟨b, o, ⟨p, x, kk⟩, rfl, he, _, c1, _, _⟩ := SlEnt.at (HV.out.old hbx) hlt
        have hd := drop_one he
        have ht : l.take (k + 1) = l.take k ++ [(p, x, kk)] := by rw [List.take_add_one, he]; rfl
        have HX := hid (show entsR l = (okEnt (l.take k) (p, x, kk) && okEnts (l.take (k + 1)) (l.drop (k + 1))) by rw [HA.out, hd, okEnts, ht])
        have HP := hid (fun wy => RPath_any p wy)
        obtain ⟨rp, hrp⟩ : ∃ z, rightS p = z := ⟨_, rfl⟩
        have HOK := hid (show okEnt (l.take k) (p, x, kk) = (rp && ((match (l.take k).getLast? with | some g => !(ltS p g.1 || p == g.1) | none => true) && (l.take k).all fun g => !clashS g.1 p)) by rw [← hrp]; rfl)
        rw [hrp] at HP
        unfold strV at HP
        have HE := hid he
        clear he hd ht hrp HA
        obtain ⟨ok3, hok3⟩ : ∃ z, (rp && (match (l.take k).getLast? with | some g => !(ltS p g.1 || p == g.1) | none => true)) = z := ⟨_, rfl⟩
        have HOK2 := hid (show okEnt (l.take k) (p, x, kk) = (ok3 && (l.take k).all fun g => !clashS g.1 p) by rw [HOK.out, ← hok3]; simp only [Bool.and_assoc])
        have HO3 := hid hok3
        clear hok3 HOK
        go_upto_region 6 with fail
        go_cut [38] from 14 to 38 (fun q wx => q = .bool (!ok3) ∧ Below w.heap.size w wx)
        case first =>
          obtain ⟨ι, _, f, hf, hc⟩ := fam wr
          have c1 := fam_cell hf c1
          cases rp with
          | false =>
            have HQ := hid (show ok3 = false by rw [← HO3.out]; rfl)
            refine quiet_region (fun w' => ∃ i, w' = f i) (by kernel_rfl) (by kernel_rfl) (hc _ ((Below.refl _ _).drew)) ?_
            repeat (go_big_quiet_step ((go_at_call 56; exact fam_call hf hc (HP.out _))))
            refine wpQuiet_nil ?_
            intro _ hw'
            obtain ⟨nq, hw''⟩ := hw'
            subst hw''
            go_wp2_with fail
            go_meet
            exact ⟨by rw [HQ.out]; rfl, below_step hbx (hf nq) hzx⟩
          | true =>
            by_cases hk0 : k = 0
            · have z1 : decide (0 < (k : Int)) = false := decide_eq_false (by omega)
              have z2 : decide (0 < k) = false := decide_eq_false (by omega)
              have HQ := hid (show ok3 = true by rw [← HO3.out, hk0]; rfl)
              clear hk0
              refine quiet_region (fun w' => ∃ i, w' = f i) (by kernel_rfl) (by kernel_rfl) (hc _ ((Below.refl _ _).drew)) ?_
              repeat (go_big_quiet_step ((go_at_call 56; exact fam_call hf hc (HP.out _))))
              refine wpQuiet_nil ?_
              intro _ hw'
              obtain ⟨nq, hw''⟩ := hw'
              subst hw''
              go_wp2_with fail
              go_meet
              exact ⟨by rw [HQ.out]; rfl, below_step hbx (hf nq) hzx⟩
            · have z1 : decide (0 < (k : Int)) = true := decide_eq_true (by omega)
              have z2 : decide (0 < k) = true := decide_eq_true (by omega)
              obtain ⟨j, hj⟩ : ∃ j, k = j + 1 := ⟨k - 1, by omega⟩
              have j0 : (0 : Int) ≤ (j : Int) := Int.natCast_nonneg _
              have jl : (j : Int) < (l.length : Int) := by omega
              have jw : IntKind.i64.wrap ((k : Int) - 1) = (j : Int) := (IntWalk.i64_in _ (by have := HL.out; omega)).trans (by omega)
              obtain ⟨b', o', ⟨pj, xj, tj⟩, hao, hej, _, cj, _, _⟩ := SlEnt.at (HV.out.old hbx) (i := j) (by omega)
              cases hao
              have cj := fam_cell hf cj
              have hgl : (l.take k).getLast? = some (pj, xj, tj) := by
                rw [hj, List.take_add_one, hej]
                simp
              have HQ := hid (show ok3 = !(ltS p pj || p == pj) by rw [← HO3.out, hgl]; rfl)
              clear hk0 hgl hej hj
              obtain ⟨e1, he1⟩ : ∃ z, Op.bytesLess p pj = z := ⟨_, rfl⟩
              obtain ⟨e2, he2⟩ : ∃ z, (p == pj) = z := ⟨_, rfl⟩
              have HQ := hid (show ok3 = !(e1 || e2) by rw [HQ.out, ← he1, ← he2])
              refine quiet_region (fun w' => ∃ i, w' = f i) (by kernel_rfl) (by kernel_rfl) (hc _ ((Below.refl _ _).drew)) ?_
              repeat (go_big_quiet_step ((go_at_call 56; exact fam_call hf hc (HP.out _))))
              refine wpQuiet_nil ?_
              intro _ hw'
              obtain ⟨nq, hw''⟩ := hw'
              subst hw''
              go_wp2_with fail
              go_meet
              exact ⟨by rw [HQ.out]; simp, below_step hbx (hf nq) hzx⟩
        case rest =>
          obtain ⟨rfl, hbc⟩ := hcut
          cases ok3 with
          | false =>
            have HF := hid (show entsR l = false by rw [HX.out, HOK2.out]; rfl)
            clear HX HOK2 HO3
            go_wp2_with fail
            go_ret
            exact ⟨by rw [HF.out]; rfl, hbc⟩
          | true =>
            have HY := hid (show entsR l = (((l.take k).all fun g => !clashS g.1 p) && okEnts (l.take (k + 1)) (l.drop (k + 1))) by rw [HX.out, HOK2.out, Bool.true_and])
            clear HX HOK2 HO3
            go_wp2_with fail
            go_loopg [4] k (fun g i wy => ∃ j : Nat, j ≤ k ∧ k - j = g ∧ i = .int .i64 j ∧ Hid (entsR l = ((((l.take k).drop j).all fun g => !clashS g.1 p) && okEnts (l.take (k + 1)) (l.drop (k + 1)))) ∧ Below w.heap.size w wy)
            case atStart => exact ⟨0, Nat.zero_le _, rfl, rfl, HY, hbc⟩
            case round =>
              obtain ⟨j, hj, rfl, rfl, HB, hby⟩ := hrel
              clear HY
              have j0 : (0 : Int) ≤ (j : Int) := Int.natCast_nonneg _
              by_cases hjk : j < k
              · have j1 : (j : Int) < (k : Int) := by omega
                have j2 : (j : Int) < (l.length : Int) := by omega
                have jw : IntKind.i64.wrap ((j : Int) + 1) = (j : Int) + 1 := IntWalk.i64_in _ (by have := HL.out; omega)
                obtain ⟨b1, o1, ⟨pj, xj, tj⟩, hao, hej, _, cj, _, _⟩ := SlEnt.at (HV.out.old hby) (i := j) (by omega)
                cases hao
                obtain ⟨b2, o2, ⟨p2, x2, t2⟩, hao, he2, _, ck, _, _⟩ := SlEnt.at (HV.out.old hby) hlt
                cases hao
                cases HE.out.symm.trans he2
                clear he2
                have hd := drop_one (l := l.take k) (show (l.take k)[j]? = some (pj, xj, tj) by rw [List.getElem?_take_of_lt hjk]; exact hej)
                obtain ⟨y, hy⟩ : ∃ y, clashS pj p = y := ⟨_, rfl⟩
                have HB2 := hid (show entsR l = ((!y && ((l.take k).drop (j + 1)).all fun g => !clashS g.1 p) && okEnts (l.take (k + 1)) (l.drop (k + 1))) by rw [HB.out, hd, List.all_cons, hy])
                have HC := hid (fun wz => RClash_any pj p wz)
                rw [hy] at HC
                unfold strV at HC
                clear hej hd hy HB
                obtain ⟨ι, _, f, hf, hc⟩ := fam wr
                have cj := fam_cell hf cj
                have ck := fam_cell hf ck
                go_upto_region 11 with fail
                cases y with
                | true =>
                  have HF := hid (show entsR l = false by rw [HB2.out]; rfl)
                  clear HB2
                  refine quiet_region (fun w' => ∃ i, w' = f i) (by kernel_rfl) (by kernel_rfl) (hc _ ((Below.refl _ _).drew)) ?_
                  repeat (go_big_quiet_step ((go_at_call 57; exact fam_call hf hc ((HC.out _).mono (fun _ _ ⟨h1, h2⟩ => ⟨h1, h2 ▸ Below.refl _ _⟩)))))
                  refine wpQuiet_nil ?_
                  intro _ hw'
                  obtain ⟨nq, hw''⟩ := hw'
                  subst hw''
                  go_wp2_with fail
                  go_ret
                  exact ⟨by rw [HF.out]; rfl, below_step hby (hf nq) hby.size⟩
                | false =>
                  have HF := hid (show entsR l = ((((l.take k).drop (j + 1)).all fun g => !clashS g.1 p) && okEnts (l.take (k + 1)) (l.drop (k + 1))) by rw [HB2.out]; rfl)
                  clear HB2
                  refine quiet_region (fun w' => ∃ i, w' = f i) (by kernel_rfl) (by kernel_rfl) (hc _ ((Below.refl _ _).drew)) ?_
                  repeat (go_big_quiet_step ((go_at_call 57; exact fam_call hf hc ((HC.out _).mono (fun _ _ ⟨h1, h2⟩ => ⟨h1, h2 ▸ Below.refl _ _⟩)))))
                  refine wpQuiet_nil ?_
                  intro _ hw'
                  obtain ⟨nq, hw''⟩ := hw'
                  subst hw''
                  go_wp2_with fail
                  go_roundg (k - (j + 1))
                  case measure => omega
                  case rel => exact ⟨j + 1, by omega, rfl, by go_num, HF, below_step hby (hf nq) hby.size⟩
              · obtain rfl : j = k := by omega
                have hneg : ¬ (j : Int) < (j : Int) := by omega
                have hz : (l.take j).drop j = [] := by rw [List.drop_eq_nil_iff, List.length_take]; omega
                have HZ := hid (show entsR l = okEnts (l.take (j + 1)) (l.drop (j + 1)) by rw [HB.out, hz]; rfl)
                clear hz HB
                go_wp2_with fail
                go_roundg (l.length - (j + 1))
                case measure => omega
                case rel => exact ⟨j + 1, by omega, rfl, by go_num, HZ, hby⟩
      · obtain rfl : k = l.length := by omega
        have hneg : ¬ (l.length : Int) < (l.length : Int) := by omega
        have HF := hid (show entsR l = true by rw [HA.out, List.drop_length]; rfl)
        go_wp2_with fail
        go_ret
        exact ⟨by rw [HF.out]; rfl, hbx⟩
  · have hl1 : decide (100 < (l.length : Int)) = true := decide_eq_true (by omega)
    have hl2 : decide (100 < l.length) = true := decide_eq_true (by omega)
    have HR := hid (show entsR l = false by unfold entsR; rw [decide_eq_false h100, Bool.false_and])
    clear h100
    go_enter Tryd.func35, Tryd.ntmps35
    go_wp2_with fail
    go_ret
    exact ⟨by rw [HR.out]; rfl, Below.refl _ _⟩
end
end Go.Proofs.YtbcpfakdmnccmaaDoor

namespace Go.Proofs.YtbcpfakdmnccmaaDoor
open Go.RowKit

theorem entsB_snoc (l : List EntS) (f : EntS) : entsB (l ++ [f]) = entsB l ++ entB f := by simp [entsB]
theorem entsB_most {l : List EntS} (h : ∀ f ∈ l, f.1.length ≤ 100) : (entsB l).length ≤ l.length * 137 := by
  induction l with
  | nil => simp [entsB]
  | cons f l ih =>
    have h1 := h f (by simp)
    have h2 := ih fun g hg => h g (by simp [hg])
    rw [entsB, List.flatMap_cons, List.length_append, entB_len, List.length_cons, ← entsB]
    omega
theorem bs_size (p : List UInt8) : (⟨p.toArray⟩ : ByteArray).size = p.length := by simp [ByteArray.size]
section
set_option maxRecDepth 100000
set_option maxHeartbeats 4000000
theorem RTree_any (v : Value) (l : List EntS) (w : World) (hv : SlEnt w v l) :
    Calls Tryd.prog 12 #[v] w fun e w' => ∃ u, e = .returned (.tuple #[u, .int .i64 (treeW l).2]) ∧ OwnB w' w.heap.size u (treeW l).1 ∧ Below w.heap.size w w' := by
  have HE := hid (REntries_any v l w hv)
  by_cases hr : entsR l = true
  · rw [hr] at HE
    obtain ⟨hl, hp⟩ := entsR_len hr
    have HT := hid (show treeW l = ([2] ++ lowBytes l.length 4 ++ entsB l, 0) by unfold treeW; rw [if_pos hr]; rfl)
    have HP := hid hp
    have HL := hid hl
    obtain ⟨ao, cap, rfl⟩ := hv.form
    have HV := hid hv
    have nw : IntKind.u64.wrap (l.length : Int) = (l.length : Int) := by rw [IntKind.wrap_u64]; omega
    clear hr hp hl hv
    go_enter Tryd.func12, Tryd.ntmps12
    go_wp2_with fail
    refine HE.out.mono ?_
    rintro e w1 ⟨rfl, hb1⟩
    have HB1 := hid hb1
    clear hb1
    go_wp2_with fail
    have hlit := lit_ob w1 2
    have hbl : Below w.heap.size w (w1.alloc (.cells #[.int .u8 2] 5)) := HB1.out.alloc HB1.out.size _
    refine (WNum_any _ [2] _ 4 (by omega) _ (Sl.ofOwns hlit) (by simp)).mono ?_
    rintro e w2 ⟨u2, rfl, ho2, hb2⟩
    rw [show heldN 4 = 4 from rfl, Int.toNat_natCast] at ho2
    have HB2 := hid (below_step hbl hb2 hbl.size)
    have HO2 := hid ((OwnB.of ho2).lower hbl.size)
    obtain ⟨uo, uc, rfl⟩ := owns_form HO2.out
    clear hlit hbl ho2 hb2
    go_wp2_with fail
    go_loopg [4, 5] l.length (fun g u i wr => ∃ (k : Nat) (B : List UInt8), k ≤ l.length ∧ l.length - k = g ∧ i = .int .i64 (k : Nat) ∧ Hid (B = [2] ++ lowBytes l.length 4 ++ entsB (l.take k)) ∧ Hid (OwnB wr w.heap.size u B) ∧ Hid (Below w.heap.size w wr))
    case atStart => exact ⟨0, _, Nat.zero_le _, rfl, rfl, hid (by simp [entsB]), HO2, HB2⟩
    case round =>
      obtain ⟨k, B, hk, rfl, rfl, HBB, HO, HB⟩ := hrel
      obtain ⟨no, nc, rfl⟩ := owns_form HO.out
      have k0 : (0 : Int) ≤ (k : Int) := Int.natCast_nonneg _
      have hll := HL.out
      by_cases hlt : k < l.length
      · have k1 : (k : Int) < (l.length : Int) := by omega
        have kw : IntKind.i64.wrap ((k : Int) + 1) = (k : Int) + 1 := IntWalk.i64_in _ (by omega)
        obtain ⟨b, o, f, rfl, he, _, c1, c2, c3⟩ := SlEnt.at (HV.out.old HB.out) hlt
        have hfl := HP.out f (List.mem_of_getElem? he)
        have ht : l.take (k + 1) = l.take k ++ [f] := by rw [List.take_add_one, he]; rfl
        have hBl : B.length ≤ 13800 := by
          have h1 := entsB_most (l := l.take k) fun g hg => HP.out g (List.mem_of_mem_take hg)
          have h2 : (l.take k).length ≤ 100 := by rw [List.length_take]; omega
          rw [HBB.out, List.length_append, List.length_append, lowBytes_length, List.length_singleton]
          omega
        have HB2' := hid (show B ++ intBytes f.1.length ++ f.1 ++ [b01 f.2.1] ++ f.2.2.1 = [2] ++ lowBytes l.length 4 ++ entsB (l.take (k + 1)) by rw [ht, entsB_snoc, HBB.out]; simp [entB])
        have HBL := hid hBl
        have HFL := hid hfl
        have HSB := hid (bs_size f.1)
        have HKL := hid (keyC_len f.2.2)
        have HSK := hid (show ∀ wy, Below wr.heap.size wr wy → Sl wy (.slice (some ⟨b, o + k * 34 + 2, none⟩) 32 32) (Lib.byteCells f.2.2.1) from fun wy h => by
          have h1 := range_sl (range_old' c3 h)
          rw [keyC_len] at h1
          exact h1)
        have HLT := hid (show (B ++ intBytes f.1.length).length + (⟨f.1.toArray⟩ : ByteArray).data.toList.length ≤ 70368744177000 by rw [List.length_append, intBytes_length]; have h3 : (⟨f.1.toArray⟩ : ByteArray).data.toList = f.1 := rfl; rw [h3]; omega)
        have HLA := hid (show (B ++ intBytes f.1.length ++ f.1 ++ [b01 f.2.1]).length + f.2.2.1.length ≤ 70368744177664 by rw [f.2.2.2]; simp only [List.length_append, intBytes_length, List.length_singleton]; omega)
        clear he ht hBl hfl c3
        go_wp2_with fail
        go_region_held3 (fun wy => wy.cell? ⟨b, o + k * 34, none⟩ = some (.string ⟨f.1.toArray⟩) ∧ wy.cell? ⟨b, o + k * 34 + 1, none⟩ = some (.bool f.2.1)) (first | exact ⟨c1, c2⟩ | exact ⟨d1, d2⟩ | exact ⟨g1, g2⟩ | exact ⟨q1, q2⟩) ((first
          | (go_at_call 38; refine (WText_any _ B ⟨f.1.toArray⟩ _ ((Sl.ofOwns HO.out).old (below_drewN wr 1)) (by rw [HSB.out]; have h1 := HBL.out; have h2 := HFL.out; omega)).mono ?_; rintro e w3 ⟨u3, rfl, ho3, hb3⟩; have d1 := cell_old (w := wr.drew) c1 hb3; have d2 := cell_old (w := wr.drew) c2 hb3; have HO3 := hid (OwnB.of ho3); have HB3 := hid (below_step (Below.refl wr.heap.size wr).drew hb3 (Nat.le_refl _)); clear ho3 hb3)
          | (go_at_call 37; refine (WBool_any _ _ f.2.1 _ (Sl.ofOwns HO3.out) (by rw [List.length_append, List.length_append, intBytes_length]; have h1 := HBL.out; have h2 := HFL.out; simp; omega)).mono ?_; rintro e w4 ⟨u4, rfl, ho4, hb4⟩; have g1 := cell_old d1 hb4; have g2 := cell_old d2 hb4; rw [HSB.out] at ho4; have HZ4 := hid hb4.size; have HO4 := hid (show OwnB w4 w3.heap.size u4 (B ++ intBytes f.1.length ++ f.1 ++ [b01 f.2.1]) from OwnB.of ho4); have HB4 := hid (below_step HB3.out hb4 HB3.out.size); clear ho4 hb4)
          | (refine step_append_ob rfl (.tmp 32) (.tmp 37) rfl w3.heap.size _ (B ++ intBytes f.1.length ++ f.1 ++ [b01 f.2.1]) f.2.2.1 rfl HO4.out _ rfl (HSK.out _ HB4.out) HLA.out HZ4.out ?_; intro v5 w5 hO5 hb5; have HO5 := hid hO5; have HB5 := hid (HB4.out.trans (hb5.mono HB3.out.size)); have q1 := cell_old c1 HB5.out; have q2 := cell_old c2 HB5.out; clear hO5 hb5)))
        obtain ⟨xo, xc, rfl⟩ := owns_form HO5.out
        have HO6 := hid (OwnB.lower HO5.out (Nat.le_trans HB.out.size HB3.out.size))
        have HB6 := hid (below_step HB.out HB5.out HB.out.size)
        clear c1 c2 d1 d2 g1 g2 q1 q2
        go_wp2_with fail
        go_roundg (l.length - (k + 1))
        case measure => omega
        case rel => exact ⟨k + 1, _, by omega, rfl, by go_num, HB2', HO6, HB6⟩
      · obtain rfl : k = l.length := by omega
        have hneg : ¬ (l.length : Int) < (l.length : Int) := by omega
        have HBB2 := hid (show B = [2] ++ lowBytes l.length 4 ++ entsB l by rw [HBB.out, List.take_length])
        go_wp2_with fail
        refine bodyPost_ret (results_tmp2 rfl _ _ _) rfl ⟨_, by rw [HT.out]; rfl, ?_, HB.out⟩
        rw [HT.out, ← HBB2.out]
        exact HO.out
  · have hr2 : entsR l = false := by simpa using hr
    rw [hr2] at HE
    have HT := hid (show treeW l = ([], 5) by unfold treeW; rw [if_neg hr])
    obtain ⟨ao, cap, rfl⟩ := hv.form
    clear hr hr2
    go_enter Tryd.func12, Tryd.ntmps12
    go_wp2_with fail
    refine HE.out.mono ?_
    rintro e w1 ⟨rfl, hb1⟩
    go_wp2_with fail
    refine bodyPost_ret (results_tmp2 rfl _ _ _) rfl ⟨_, by rw [HT.out]; rfl, ?_, hb1⟩
    rw [HT.out]
    exact OwnB.nil _
end
end Go.Proofs.YtbcpfakdmnccmaaDoor
