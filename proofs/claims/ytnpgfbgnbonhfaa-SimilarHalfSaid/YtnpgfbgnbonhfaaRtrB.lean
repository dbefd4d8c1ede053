/-
  Trees (the document's own): Right, Put, Drop, each by a contract.
-/
import Derived.Test.YtnpgfbgnbonhfaaRtrA
import Derived.Test.YtnpgfbgnbonhfaaFam
import Derived.Deep.LoopGhost
import Derived.Deep.RegionHeld3
import Derived.Deep.DeepCutAuto
import Derived.Deep.CutBlock
import Derived.Deep.CutRange
namespace Go.Proofs.Ytnpgfbgnbonhfaa
open Go.RowKit

/-- may it stand behind these? -/
def okFile (pre : List FileS) (f : FileS) : Bool :=
  rightS f.1 && (decide (f.2.2.length ≤ 20000) && ((match pre.getLast? with | some g => !(ltS f.1 g.1 || f.1 == g.1) | none => true) && pre.all fun g => !clashS g.1 f.1))
def okAll : List FileS → List FileS → Bool
  | _, [] => true
  | pre, f :: r => okFile pre f && okAll (pre ++ [f]) r
def rightT (l : List FileS) : Bool := decide (l.length ≤ 100) && okAll [] l
section
set_option maxRecDepth 100000
set_option maxHeartbeats 4000000
theorem RRight_any (v : Value) (l : List FileS) (w : World) (hv : SlF w v l) :
    Calls Try.prog 27 #[v] w fun e w' => e = .returned (.bool (rightT l)) ∧ Below w.heap.size w w' := by
  obtain ⟨ao, cap, rfl⟩ := hv.form
  have HV := hid hv
  clear hv
  by_cases h100 : l.length ≤ 100
  · have hl1 : decide (100 < (l.length : Int)) = false := decide_eq_false (by omega)
    have hl2 : decide (100 < l.length) = false := decide_eq_false (by omega)
    have HR := hid (show rightT l = okAll [] l by unfold rightT; rw [decide_eq_true h100, Bool.true_and])
    have HL := hid h100
    clear h100
    go_enter Try.func27, Try.ntmps27
    go_wp2_with fail
    go_loopg [3] l.length (fun g i wr => ∃ k : Nat, k ≤ l.length ∧ l.length - k = g ∧ i = .int .i64 k ∧ Hid (rightT l = okAll (l.take k) (l.drop k)) ∧ Below w.heap.size w wr)
    case atStart => exact ⟨0, Nat.zero_le _, rfl, rfl, hid (by rw [HR.out]; rfl), Below.refl _ _⟩
    case round =>
      obtain ⟨k, hk, rfl, rfl, HA, hbx⟩ := hrel
      have hzx := hbx.size
      have k0 : (0 : Int) ≤ (k : Int) := Int.natCast_nonneg _
      by_cases hlt : k < l.length
      · have k1 : (k : Int) < (l.length : Int) := by omega
        have kw : IntKind.i64.wrap ((k : Int) + 1) = (k : Int) + 1 := IntWalk.i64_in _ (by have := HL.out; omega)
        obtain ⟨b, o, p, x, t, rfl, he, c1, c2, c3⟩ := SlF.at (HV.out.old hbx) hlt
        have hd := drop_one he
        have ht : l.take (k + 1) = l.take k ++ [(p, x, t)] := by rw [List.take_add_one, he]; rfl
        have HX := hid (show rightT l = (okFile (l.take k) (p, x, t) && okAll (l.take (k + 1)) (l.drop (k + 1))) by rw [HA.out, hd, okAll, ht])
        have HP := hid (fun wy => RPath_any p wy)
        obtain ⟨rp, hrp⟩ : ∃ z, rightS p = z := ⟨_, rfl⟩
        have HOK := hid (show okFile (l.take k) (p, x, t) = (rp && (decide (t.length ≤ 20000) && ((match (l.take k).getLast? with | some g => !(ltS p g.1 || p == g.1) | none => true) && (l.take k).all fun g => !clashS g.1 p))) by rw [← hrp]; rfl)
        rw [hrp] at HP
        unfold strV at HP
        have HE := hid he
        clear he hd ht hrp HA
        obtain ⟨ok3, hok3⟩ : ∃ z, (rp && (decide (t.length ≤ 20000) && (match (l.take k).getLast? with | some g => !(ltS p g.1 || p == g.1) | none => true))) = z := ⟨_, rfl⟩
        have HOK2 := hid (show okFile (l.take k) (p, x, t) = (ok3 && (l.take k).all fun g => !clashS g.1 p) by rw [HOK.out, ← hok3]; simp only [Bool.and_assoc])
        have HO3 := hid hok3
        clear hok3 HOK
        go_upto_region 6 with fail
        go_cut [47] from 14 to 47 (fun q wx => q = .bool (!ok3) ∧ Below w.heap.size w wx)
        case first =>
          obtain ⟨ι, _, f, hf, hc⟩ := fam wr
          have c1 := fam_cell hf c1
          have c3 := fam_cell hf c3
          cases rp with
          | false =>
            have HQ := hid (show ok3 = false by rw [← HO3.out]; rfl)
            refine quiet_region (fun w' => ∃ i, w' = f i) (by kernel_rfl) (by kernel_rfl) (hc _ ((Below.refl _ _).drew)) ?_
            repeat (go_big_quiet_step ((go_at_call 29; exact fam_call hf hc (HP.out _))))
            refine wpQuiet_nil ?_
            intro _ hw'
            obtain ⟨nq, hw''⟩ := hw'
            subst hw''
            go_wp2_with fail
            go_meet
            exact ⟨by rw [HQ.out]; rfl, below_step hbx (hf nq) hzx⟩
          | true =>
            by_cases ht : t.length ≤ 20000
            · have t1 : decide (20000 < (t.length : Int)) = false := decide_eq_false (by omega)
              have t2 : decide (20000 < t.length) = false := decide_eq_false (by omega)
              by_cases hk0 : k = 0
              · have z1 : decide (0 < (k : Int)) = false := decide_eq_false (by omega)
                have z2 : decide (0 < k) = false := decide_eq_false (by omega)
                have HQ := hid (show ok3 = true by rw [← HO3.out, decide_eq_true ht, hk0]; rfl)
                clear hk0 ht
                refine quiet_region (fun w' => ∃ i, w' = f i) (by kernel_rfl) (by kernel_rfl) (hc _ ((Below.refl _ _).drew)) ?_
                repeat (go_big_quiet_step ((go_at_call 29; exact fam_call hf hc (HP.out _))))
                refine wpQuiet_nil ?_
                intro _ hw'
                obtain ⟨nq, hw''⟩ := hw'
                subst hw''
                go_wp2_with fail
                go_meet
                exact ⟨by rw [HQ.out]; rfl, below_step hbx (hf nq) hzx⟩
              · have z1 : decide (0 < (k : Int)) = true := decide_eq_true (by omega)
                have z2 : decide (0 < k) = true := decide_eq_true (by omega)
                obtain ⟨j, hj⟩ : ∃ j, k = j + 1 := ⟨k - 1, by omega⟩
                have j0 : (0 : Int) ≤ (j : Int) := Int.natCast_nonneg _
                have jl : (j : Int) < (l.length : Int) := by omega
                have jw : IntKind.i64.wrap ((k : Int) - 1) = (j : Int) := (IntWalk.i64_in _ (by have := HL.out; omega)).trans (by omega)
                obtain ⟨b', o', pj, xj, tj, hao, hej, cj, _, _⟩ := SlF.at (HV.out.old hbx) (i := j) (by omega)
                cases hao
                have cj := fam_cell hf cj
                have hgl : (l.take k).getLast? = some (pj, xj, tj) := by
                  rw [hj, List.take_add_one, hej]
                  simp
                have HQ := hid (show ok3 = !(ltS p pj || p == pj) by rw [← HO3.out, decide_eq_true ht, hgl]; rfl)
                clear hk0 ht hgl hej hj
                obtain ⟨e1, he1⟩ : ∃ z, Op.bytesLess p pj = z := ⟨_, rfl⟩
                obtain ⟨e2, he2⟩ : ∃ z, (p == pj) = z := ⟨_, rfl⟩
                have HQ := hid (show ok3 = !(e1 || e2) by rw [HQ.out, ← he1, ← he2])
                refine quiet_region (fun w' => ∃ i, w' = f i) (by kernel_rfl) (by kernel_rfl) (hc _ ((Below.refl _ _).drew)) ?_
                repeat (go_big_quiet_step ((go_at_call 29; exact fam_call hf hc (HP.out _))))
                refine wpQuiet_nil ?_
                intro _ hw'
                obtain ⟨nq, hw''⟩ := hw'
                subst hw''
                go_wp2_with fail
                go_meet
                exact ⟨by rw [HQ.out]; simp, below_step hbx (hf nq) hzx⟩
            · have t1 : decide (20000 < (t.length : Int)) = true := decide_eq_true (by omega)
              have t2 : decide (20000 < t.length) = true := decide_eq_true (by omega)
              have HQ := hid (show ok3 = false by rw [← HO3.out, decide_eq_false ht]; rfl)
              clear ht
              refine quiet_region (fun w' => ∃ i, w' = f i) (by kernel_rfl) (by kernel_rfl) (hc _ ((Below.refl _ _).drew)) ?_
              repeat (go_big_quiet_step ((go_at_call 29; exact fam_call hf hc (HP.out _))))
              refine wpQuiet_nil ?_
              intro _ hw'
              obtain ⟨nq, hw''⟩ := hw'
              subst hw''
              go_wp2_with fail
              go_meet
              exact ⟨by rw [HQ.out]; rfl, below_step hbx (hf nq) hzx⟩
        case rest =>
          obtain ⟨rfl, hbc⟩ := hcut
          cases ok3 with
          | false =>
            have HF := hid (show rightT l = false by rw [HX.out, HOK2.out]; rfl)
            clear HX HOK2 HO3
            go_wp2_with fail
            go_ret
            exact ⟨by rw [HF.out]; rfl, hbc⟩
          | true =>
            have HY := hid (show rightT l = (((l.take k).all fun g => !clashS g.1 p) && okAll (l.take (k + 1)) (l.drop (k + 1))) by rw [HX.out, HOK2.out, Bool.true_and])
            clear HX HOK2 HO3
            go_wp2_with fail
            go_loopg [4] k (fun g i wy => ∃ j : Nat, j ≤ k ∧ k - j = g ∧ i = .int .i64 j ∧ Hid (rightT l = ((((l.take k).drop j).all fun g => !clashS g.1 p) && okAll (l.take (k + 1)) (l.drop (k + 1)))) ∧ Below w.heap.size w wy)
            case atStart => exact ⟨0, Nat.zero_le _, rfl, rfl, HY, hbc⟩
            case round =>
              obtain ⟨j, hj, rfl, rfl, HB, hby⟩ := hrel
              clear HY
              have j0 : (0 : Int) ≤ (j : Int) := Int.natCast_nonneg _
              by_cases hjk : j < k
              · have j1 : (j : Int) < (k : Int) := by omega
                have j2 : (j : Int) < (l.length : Int) := by omega
                have jw : IntKind.i64.wrap ((j : Int) + 1) = (j : Int) + 1 := IntWalk.i64_in _ (by have := HL.out; omega)
                obtain ⟨b1, o1, pj, xj, tj, hao, hej, cj, _, _⟩ := SlF.at (HV.out.old hby) (i := j) (by omega)
                cases hao
                obtain ⟨b2, o2, p2, x2, t2, hao, he2, ck, _, _⟩ := SlF.at (HV.out.old hby) hlt
                cases hao
                cases HE.out.symm.trans he2
                clear he2
                have hd := drop_one (l := l.take k) (show (l.take k)[j]? = some (pj, xj, tj) by rw [List.getElem?_take_of_lt hjk]; exact hej)
                obtain ⟨y, hy⟩ : ∃ y, clashS pj p = y := ⟨_, rfl⟩
                have HB2 := hid (show rightT l = ((!y && ((l.take k).drop (j + 1)).all fun g => !clashS g.1 p) && okAll (l.take (k + 1)) (l.drop (k + 1))) by rw [HB.out, hd, List.all_cons, hy])
                have HC := hid (fun wz => RClash_any pj p wz)
                rw [hy] at HC
                unfold strV at HC
                clear hej hd hy HB
                obtain ⟨ι, _, f, hf, hc⟩ := fam wr
                have cj := fam_cell hf cj
                have ck := fam_cell hf ck
                go_upto_region 11 with fail
                cases y with
                | true =>
                  have HF := hid (show rightT l = false by rw [HB2.out]; rfl)
                  clear HB2
                  refine quiet_region (fun w' => ∃ i, w' = f i) (by kernel_rfl) (by kernel_rfl) (hc _ ((Below.refl _ _).drew)) ?_
                  repeat (go_big_quiet_step ((go_at_call 47; exact fam_call hf hc ((HC.out _).mono (fun _ _ ⟨h1, h2⟩ => ⟨h1, h2 ▸ Below.refl _ _⟩)))))
                  refine wpQuiet_nil ?_
                  intro _ hw'
                  obtain ⟨nq, hw''⟩ := hw'
                  subst hw''
                  go_wp2_with fail
                  go_ret
                  exact ⟨by rw [HF.out]; rfl, below_step hby (hf nq) hby.size⟩
                | false =>
                  have HF := hid (show rightT l = ((((l.take k).drop (j + 1)).all fun g => !clashS g.1 p) && okAll (l.take (k + 1)) (l.drop (k + 1))) by rw [HB2.out]; rfl)
                  clear HB2
                  refine quiet_region (fun w' => ∃ i, w' = f i) (by kernel_rfl) (by kernel_rfl) (hc _ ((Below.refl _ _).drew)) ?_
                  repeat (go_big_quiet_step ((go_at_call 47; exact fam_call hf hc ((HC.out _).mono (fun _ _ ⟨h1, h2⟩ => ⟨h1, h2 ▸ Below.refl _ _⟩)))))
                  refine wpQuiet_nil ?_
                  intro _ hw'
                  obtain ⟨nq, hw''⟩ := hw'
                  subst hw''
                  go_wp2_with fail
                  go_roundg (k - (j + 1))
                  case measure => omega
                  case rel => exact ⟨j + 1, by omega, rfl, by go_num, HF, below_step hby (hf nq) hby.size⟩
              · obtain rfl : j = k := by omega
                have hneg : ¬ (j : Int) < (j : Int) := by omega
                have hz : (l.take j).drop j = [] := by rw [List.drop_eq_nil_iff, List.length_take]; omega
                have HZ := hid (show rightT l = okAll (l.take (j + 1)) (l.drop (j + 1)) by rw [HB.out, hz]; rfl)
                clear hz HB
                go_wp2_with fail
                go_roundg (l.length - (j + 1))
                case measure => omega
                case rel => exact ⟨j + 1, by omega, rfl, by go_num, HZ, hby⟩
      · obtain rfl : k = l.length := by omega
        have hneg : ¬ (l.length : Int) < (l.length : Int) := by omega
        have HF := hid (show rightT l = true by rw [HA.out, List.drop_length]; rfl)
        go_wp2_with fail
        go_ret
        exact ⟨by rw [HF.out]; rfl, hbx⟩
  · have hl1 : decide (100 < (l.length : Int)) = true := decide_eq_true (by omega)
    have hl2 : decide (100 < l.length) = true := decide_eq_true (by omega)
    have HR := hid (show rightT l = false by unfold rightT; rw [decide_eq_false h100, Bool.false_and])
    clear h100
    go_enter Try.func27, Try.ntmps27
    go_wp2_with fail
    go_ret
    exact ⟨by rw [HR.out]; rfl, Below.refl _ _⟩
end
end Go.Proofs.Ytnpgfbgnbonhfaa
