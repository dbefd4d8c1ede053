/-
  Package tree (landed): Right, by a contract.
-/
import Derived.Test.YtndmblelkeepjaaGreatDoorPtrF
import Derived.Test.YtndmblelkeepjaaGreatDoorFam
namespace Go.Proofs.YtndmblelkeepjaaGreatDoor
open Go.RowKit
open BigFrame

section
set_option maxRecDepth 100000
set_option maxHeartbeats 4000000
theorem wrong_cases (f : FileS) : (wrongS f = 0 ∧ okOne f = true) ∨ (wrongS f = 6 ∧ okOne f = false) ∨ (wrongS f = 11 ∧ okOne f = false) := by
  unfold wrongS okOne
  cases rightS f.1 with
  | false => exact .inr (.inr ⟨rfl, rfl⟩)
  | true =>
    by_cases h : f.2.2.length ≤ 20000
    · rw [if_pos rfl, if_pos h, decide_eq_true h]; exact .inl ⟨rfl, rfl⟩
    · rw [if_pos rfl, if_neg h, decide_eq_false h]; exact .inr (.inl ⟨rfl, rfl⟩)
theorem okAllD_ok : ∀ (l pre : List FileS), okAllD pre l = true → ∀ f ∈ l, okOne f = true
  | [], _, _, _, hf => by cases hf
  | x :: r, pre, h, f, hf => by
    rw [okAllD, Bool.and_eq_true] at h
    rcases List.mem_cons.1 hf with rfl | hf
    · have := h.1
      unfold okD at this
      rw [Bool.and_eq_true] at this
      exact this.1
    · exact okAllD_ok r _ h.2 f hf
theorem DRightT_any (v : Value) (l : List FileS) (w : World) (hv : SlF w v l) :
    Calls Tryz.prog 17 #[v] w fun e w' => e = .returned (.bool (rightT l)) ∧ Below w.heap.size w w' := by
  rw [← rightD_eq]
  obtain ⟨ao, cap, rfl⟩ := hv.form
  have HV := hid hv
  clear hv
  by_cases h100 : l.length ≤ 100
  · have hl1 : decide (100 < (l.length : Int)) = false := decide_eq_false (by omega)
    have hl2 : decide (100 < l.length) = false := decide_eq_false (by omega)
    have HR := hid (show rightD l = (okAllD [] l && !nestedS l) by unfold rightD; rw [decide_eq_true h100, Bool.true_and])
    have HL := hid h100
    clear h100
    go_enter Tryz.func17, Tryz.ntmps17
    go_wp2_with fail
    go_loopg [10] l.length (fun g i wr => ∃ k : Nat, k ≤ l.length ∧ l.length - k = g ∧ i = .int .i64 k ∧ Hid (okAllD [] l = okAllD (l.take k) (l.drop k)) ∧ Hid (Below w.heap.size w wr))
    case atStart => exact ⟨0, Nat.zero_le _, rfl, rfl, hid rfl, hid (Below.refl _ _)⟩
    case round =>
      obtain ⟨k, hk, rfl, rfl, HA, HB⟩ := hrel
      have hbx := HB.out
      have hzx := hbx.size
      have k0 : (0 : Int) ≤ (k : Int) := Int.natCast_nonneg _
      by_cases hlt : k < l.length
      · have k1 : (k : Int) < (l.length : Int) := by omega
        have kw : IntKind.i64.wrap ((k : Int) + 1) = (k : Int) + 1 := IntWalk.i64_in _ (by have := HL.out; omega)
        obtain ⟨b, o, p, x, t, rfl, he, c1, c2, c3⟩ := SlF.at (HV.out.old hbx) hlt
        have hd := drop_one he
        have ht : l.take (k + 1) = l.take k ++ [(p, x, t)] := by rw [List.take_add_one, he]; rfl
        have HX := hid (show okAllD [] l = (okD (l.take k) (p, x, t) && okAllD (l.take (k + 1)) (l.drop (k + 1))) by rw [HA.out, hd, okAllD, ht])
        have HW := hid (fun wy => DWrong_any (p, x, t) wy)
        obtain ⟨wn, hwn⟩ : ∃ z, wrongS (p, x, t) = z := ⟨_, rfl⟩
        have hwc := wrong_cases (p, x, t)
        rw [hwn] at HW hwc
        obtain ⟨ok1, hok1⟩ : ∃ z, okOne (p, x, t) = z := ⟨_, rfl⟩
        have HOK := hid (show okD (l.take k) (p, x, t) = (ok1 && (match (l.take k).getLast? with | some g => !(ltS p g.1 || p == g.1) | none => true)) by rw [← hok1]; rfl)
        rw [hok1] at hwc
        obtain ⟨ok3, hok3⟩ : ∃ z, okD (l.take k) (p, x, t) = z := ⟨_, rfl⟩
        rw [hok3] at HOK HX
        unfold fileV strV at HW
        have HE := hid he
        clear he hd ht hwn hok1 hok3 HA
        go_upto_region 6 with fail
        have HBA := hid (hbx.alloc hzx (.cells #[.string ⟨p.toArray⟩, .bool x, .string ⟨t.toArray⟩] 35))
        have hg := heap_alloc_new wr (.cells #[.string ⟨p.toArray⟩, .bool x, .string ⟨t.toArray⟩] 35)
        have f0 := blk_cell (i := 0) hg rfl
        have f1 := blk_cell (i := 1) hg rfl
        have f2 := blk_cell (i := 2) hg rfl
        clear hg c1 c2 c3
        generalize wr.heap.size = g at f0 f1 f2 ⊢
        generalize wr.alloc (.cells #[.string ⟨p.toArray⟩, .bool x, .string ⟨t.toArray⟩] 35) = W1 at HBA f0 f1 f2 ⊢
        go_cut [32] from 15 to 32 (fun q wx => q = .bool (!ok3) ∧ Hid (Below w.heap.size w wx))
        case first =>
          obtain ⟨ι, _, f, hf, hc⟩ := fam W1
          have f0 := fam_cell hf f0
          have f1 := fam_cell hf f1
          have f2 := fam_cell hf f2
          rcases hwc with ⟨rfl, rfl⟩ | ⟨rfl, rfl⟩ | ⟨rfl, rfl⟩
          · by_cases hk0 : k = 0
            · have z1 : decide (0 < (k : Int)) = false := decide_eq_false (by omega)
              have z2 : decide (0 < k) = false := decide_eq_false (by omega)
              have HQ := hid (show ok3 = true by rw [HOK.out, hk0]; rfl)
              clear hk0
              refine quiet_region (fun w' => ∃ i, w' = f i) (by kernel_rfl) (by kernel_rfl) (hc _ ((Below.refl _ _).drew)) ?_
              repeat (go_big_quiet_step ((go_at_call 35; exact fam_call hf hc (HW.out _))))
              refine wpQuiet_nil ?_
              intro _ hw'
              obtain ⟨nq, hw''⟩ := hw'
              subst hw''
              go_wp2_with fail
              go_meet
              exact ⟨by rw [HQ.out]; rfl, hid (below_step HBA.out (hf nq) HBA.out.size)⟩
            · have z1 : decide (0 < (k : Int)) = true := decide_eq_true (by omega)
              have z2 : decide (0 < k) = true := decide_eq_true (by omega)
              obtain ⟨j, hj⟩ : ∃ j, k = j + 1 := ⟨k - 1, by omega⟩
              have j0 : (0 : Int) ≤ (j : Int) := Int.natCast_nonneg _
              have jl : (j : Int) < (l.length : Int) := by omega
              have jw : IntKind.i64.wrap ((k : Int) - 1) = (j : Int) := (IntWalk.i64_in _ (by have := HL.out; omega)).trans (by omega)
              obtain ⟨b', o', pj, xj, tj, hao, hej, cj, _, _⟩ := SlF.at (HV.out.old HBA.out) (i := j) (by omega)
              cases hao
              have cj := fam_cell hf cj
              have hgl : (l.take k).getLast? = some (pj, xj, tj) := by
                rw [hj, List.take_add_one, hej]
                simp
              have HQ := hid (show ok3 = !(ltS p pj || p == pj) by rw [HOK.out, hgl]; rfl)
              clear hk0 hgl hej hj
              obtain ⟨e1, he1⟩ : ∃ z, Op.bytesLess p pj = z := ⟨_, rfl⟩
              obtain ⟨e2, he2⟩ : ∃ z, (p == pj) = z := ⟨_, rfl⟩
              have HQ := hid (show ok3 = !(e1 || e2) by rw [HQ.out, ← he1, ← he2])
              refine quiet_region (fun w' => ∃ i, w' = f i) (by kernel_rfl) (by kernel_rfl) (hc _ ((Below.refl _ _).drew)) ?_
              repeat (go_big_quiet_step ((go_at_call 35; exact fam_call hf hc (HW.out _))))
              refine wpQuiet_nil ?_
              intro _ hw'
              obtain ⟨nq, hw''⟩ := hw'
              subst hw''
              go_wp2_with fail
              go_meet
              exact ⟨by rw [HQ.out]; simp, hid (below_step HBA.out (hf nq) HBA.out.size)⟩
          · have HQ := hid (show ok3 = false by rw [HOK.out]; rfl)
            refine quiet_region (fun w' => ∃ i, w' = f i) (by kernel_rfl) (by kernel_rfl) (hc _ ((Below.refl _ _).drew)) ?_
            repeat (go_big_quiet_step ((go_at_call 35; exact fam_call hf hc (HW.out _))))
            refine wpQuiet_nil ?_
            intro _ hw'
            obtain ⟨nq, hw''⟩ := hw'
            subst hw''
            go_wp2_with fail
            go_meet
            exact ⟨by rw [HQ.out]; rfl, hid (below_step HBA.out (hf nq) HBA.out.size)⟩
          · have HQ := hid (show ok3 = false by rw [HOK.out]; rfl)
            refine quiet_region (fun w' => ∃ i, w' = f i) (by kernel_rfl) (by kernel_rfl) (hc _ ((Below.refl _ _).drew)) ?_
            repeat (go_big_quiet_step ((go_at_call 35; exact fam_call hf hc (HW.out _))))
            refine wpQuiet_nil ?_
            intro _ hw'
            obtain ⟨nq, hw''⟩ := hw'
            subst hw''
            go_wp2_with fail
            go_meet
            exact ⟨by rw [HQ.out]; rfl, hid (below_step HBA.out (hf nq) HBA.out.size)⟩
        case rest =>
          obtain ⟨rfl, HC⟩ := hcut
          cases ok3 with
          | false =>
            have HF := hid (show rightD l = false by rw [HR.out, HX.out]; rfl)
            clear HX HOK
            go_wp2_with fail
            go_ret
            exact ⟨by rw [HF.out]; rfl, HC.out⟩
          | true =>
            have HY := hid (show okAllD [] l = okAllD (l.take (k + 1)) (l.drop (k + 1)) by rw [HX.out, Bool.true_and])
            clear HX HOK
            go_wp2_with fail
            go_roundg (l.length - (k + 1))
            case measure => omega
            case rel => exact ⟨k + 1, by omega, rfl, by go_num, HY, HC⟩
      · obtain rfl : k = l.length := by omega
        have hneg : ¬ (l.length : Int) < (l.length : Int) := by omega
        have hok : okAllD [] l = true := by rw [HA.out, List.drop_length]; rfl
        have HF := hid (show rightD l = !nestedS l by rw [HR.out, hok, Bool.true_and])
        have HN := hid (DNested_any _ l wr (HV.out.old hbx) (by have := HL.out; omega) (fun f hf => okOne_len (okAllD_ok l [] hok f hf)))
        clear hok HA
        go_wp2_with (go_at_call 36; refine HN.out.mono ?_; rintro e w3 ⟨rfl, hb3⟩; have HB3 := hid (below_step hbx hb3 hzx); clear hb3)
        go_ret
        exact ⟨by rw [HF.out]; rfl, HB3.out⟩
  · have hl1 : decide (100 < (l.length : Int)) = true := decide_eq_true (by omega)
    have hl2 : decide (100 < l.length) = true := decide_eq_true (by omega)
    have HR := hid (show rightD l = false by unfold rightD; rw [decide_eq_false h100, Bool.false_and])
    clear h100
    go_enter Tryz.func17, Tryz.ntmps17
    go_wp2_with fail
    go_ret
    exact ⟨by rw [HR.out]; rfl, Below.refl _ _⟩
end
end Go.Proofs.YtndmblelkeepjaaGreatDoor
