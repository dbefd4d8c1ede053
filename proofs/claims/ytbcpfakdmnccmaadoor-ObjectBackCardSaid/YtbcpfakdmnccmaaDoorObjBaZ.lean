/-
  ObjectBack: what is written is taken; no object is of two kinds; a byte more, or less, is another one, or none.
-/
import Derived.Test.YtbcpfakdmnccmaaDoorG4
import Derived.Test.YtbcpfakdmnccmaaDoorG6
import Derived.Test.YtbcpfakdmnccmaaDoorTabU
import Derived.Test.YtbcpfakdmnccmaaDoorOpenS
import Derived.ProofKit
import Derived.OpenShut
namespace Go.Proofs.YtbcpfakdmnccmaaDoor.objectBack
open Go.ChangeShapes Go.WideShapes Go.ChangeAt Go.RowKit

section
set_option maxRecDepth 100000
set_option maxHeartbeats 4000000
theorem walk (a : List UInt8) (v : Value) (l : List EntS) (c : ComS) (w : World) (_ha : a.length ≤ maxLen) (hl : FactEnts w v l) (hc : c.2.2.2.1.length ≤ maxLen ∧ c.2.2.2.2 < 18446744073709551616) :
    Calls Tryd.prog 5 #[strV a, v, .agg (comC c).toArray] w fun e w' => e = .returned (.bool true) ∧ Below w.heap.size w w' := by
  obtain ⟨hs, _, _⟩ := hl
  have HSR := hid hc.2
  have hb0 : Below w.heap.size w (w.alloc (.cells (comC c).toArray 27)) := (Below.refl _ w).alloc (Nat.le_refl _) _
  have hg0 := heap_alloc_new w (.cells (comC c).toArray 27)
  have c3 := (ComAt.of hg0).c3
  have HG := hid hg0
  have hB0 := hid hb0
  have HV := hid (SlR.old hs hb0)
  have HI67 := hid (fun c : ComS => show (comC c).toArray.size = 67 by rw [List.size_toArray, comC_len])
  have HCI := hid (fun c : ComS => show (Tryd.prog.info? 27).map (·.size) = some (comC c).toArray.size by rw [HI67.out, Tryd.sizeCom])
  have HCO := hid (fun c : ComS => arr_one (comC_one c))
  have hsz : (⟨c.2.2.2.1.toArray⟩ : ByteArray).size = c.2.2.2.1.length := by simp [ByteArray.size]
  obtain ⟨ao, cap, rfl⟩ := hs.form
  unfold strV
  clear hs hg0 hb0 hc _ha
  by_cases h1 : a.length ≤ 300
  · have g1 : decide (300 < (a.length : Int)) = false := decide_eq_false (by omega)
    have g2 : decide (300 < a.length) = false := decide_eq_false (by omega)
    by_cases h2 : l.length ≤ 30
    · have g3 : decide (30 < (l.length : Int)) = false := decide_eq_false (by omega)
      have g4 : decide (30 < l.length) = false := decide_eq_false (by omega)
      by_cases h3 : c.2.2.2.1.length ≤ 300
      · have g5 : decide (300 < (c.2.2.2.1.length : Int)) = false := decide_eq_false (by omega)
        have g6 : decide (300 < c.2.2.2.1.length) = false := decide_eq_false (by omega)
        have HL := hid (show l.length ≤ 1000000 by omega)
        have HA1 := hid (blob_back h1).1
        have HA2 := hid (blob_back h1).2
        have HAL := hid (show (1 :: a).length ≤ 70368744177664 by rw [List.length_cons]; omega)
        have HCL := hid (show (comB c).length ≤ 30000 by rw [comB_len]; omega)
        have HCK := hid (comB_kind c)
        have HCT := hid (tree_none (b := comB c) (by rw [comB_kind c]; decide))
        have zL : (l == l) = true := by simp
        have zc := com_eql c c
        rw [show (c == c) = true by simp] at zc
        have hC : (c.1 = true ∧ (c.2.1 != kz) = true ∧ comW c = ([], 5)) ∨ (comW c = (comB c, 0) ∧ takeComS (comB c) = (c, 0) ∧ ((takeComS (comB c ++ [0])).2 == 0) = false) := by
          rcases comE_cases c with ⟨h9, hE⟩ | ⟨h9, _, hE⟩ | ⟨h9, h8, h7, hE⟩ | ⟨h9, _, _, hE⟩
          · omega
          · exact .inr ⟨by unfold comW; rw [if_pos hE], take_com hE HSR.out, by simpa using com_more hE HSR.out 0⟩
          · exact .inl ⟨h8, h7, by unfold comW; rw [if_neg (by rw [hE]; decide), hE]⟩
          · exact .inr ⟨by unfold comW; rw [if_pos hE], take_com hE HSR.out, by simpa using com_more hE HSR.out 0⟩
        clear h1 h2 h3
        go_enter Tryd.func5, Tryd.ntmps5
        by_cases hr : entsR l = true
        · obtain ⟨B, hB⟩ : ∃ B, treeB l = B := ⟨_, rfl⟩
          have hw : treeW l = (B, 0) := by unfold treeW; rw [if_pos hr, hB]
          have ht := take_tree hr
          have hm := take_more hr 0
          have he := take_less hr
          have hn := treeB_len hr
          have hk := treeB_kind l
          rw [hB] at ht hm he hn hk
          obtain ⟨N, hN⟩ : ∃ N, B.length = N := ⟨_, rfl⟩
          rw [hN] at he hn
          obtain ⟨e1, he1⟩ : ∃ e, (takeTreeS (B ++ [0])).2 = e := ⟨_, rfl⟩
          obtain ⟨e2, he2⟩ : ∃ e, (takeTreeS (B.take (N - 1))).2 = e := ⟨_, rfl⟩
          rw [he1] at hm
          rw [he2] at he
          have zE1 : (e1 == 0) = false := by simpa using hm
          have zE2 : (e2 == 0) = false := by simpa using he
          have zN : ((N : Int) == 0) = false := by simp; omega
          have zN1 : wrap64 ((N : Int) - 1) = ((N - 1 : Nat) : Int) := (IntWalk.wrap64_in _ (by omega)).trans (by omega)
          have HTW := hid hw
          have HTT := hid ht
          have HE1 := hid he1
          have HE2 := hid he2
          have HBN := hid hN
          have HBL := hid (show B.length ≤ 30000 by omega)
          have HTB := hid (blob_none (b := B) (by rw [hk]; decide))
          clear hB hw ht hm he hn hk hN he1 he2 hr
          go_wp2_with fail
          have hT := DBlob_any a (w.alloc (.cells (comC c).toArray 27))
          rw [HA1.out] at hT
          refine hT.mono ?_
          rintro e x1 ⟨u1, rfl, ho, hb⟩
          have hB1 := hid (below_step hB0.out hb hB0.out.size)
          have HG := hid (row_old HG.out hb)
          have HV := hid (SlR.old HV.out hb)
          have HU1 := hid ho
          clear hb hT
          clear ho c3
          go_wp2_with fail
          have hT := DTakeBlob_any _ (1 :: a) x1 HU1.out.sl HAL.out
          rw [HA2.out] at hT
          refine hT.mono ?_
          rintro e _ ⟨rfl, rfl⟩
          clear hT
          clear HU1
          go_wp2_with fail
          have hT := awake_any x1
          refine hT.mono ?_
          rintro e x2 ⟨rfl, hb⟩
          have hB2 := hid (below_step hB1.out hb hB1.out.size)
          have HG := hid (row_old HG.out hb)
          have HV := hid (SlR.old HV.out hb)
          clear hb hT
          go_wp2_with fail
          have hT := DTree_any _ l x2 HV.out
          rw [HTW.out] at hT
          refine hT.mono ?_
          rintro e x3 ⟨u2, rfl, ho, hb⟩
          have hB3 := hid (below_step hB2.out hb hB2.out.size)
          have HG := hid (row_old HG.out hb)
          have HV := hid (SlR.old HV.out hb)
          have HU2 := hid ho
          clear hb hT
          clear ho
          obtain ⟨xo, xc, rfl⟩ := own_len N HU2.out HBN.out
          go_wp2_with fail
          have hT := DTakeTree_any _ B x3 HU2.out.sl (by have := HBL.out; omega)
          rw [HTT.out] at hT
          refine hT.mono ?_
          rintro e x4 ⟨u3, rfl, ho, hb⟩
          have hB4 := hid (below_step hB3.out hb hB3.out.size)
          have HG := hid (row_old HG.out hb)
          have HV := hid (SlR.old HV.out hb)
          have HU2 := hid (OwnB.old HU2.out hb)
          have HU3 := hid ho
          clear hb hT
          clear ho
          go_wp2_with (first | (refine wpList_append_ob rfl (.const (.slice none 0 0)) (.tmp 78) rfl x4.heap.size _ [] B rfl (OwnB.nil _) _ rfl (OwnB.sl HU2.out) (by have := HBL.out; simp; omega) (Nat.le_refl _) ?_; intro vat xat hOa hba; have HOat := hid (OwnB.old hOa ((Below.refl _ xat).alloc (Nat.le_refl _) (.cells #[.int .u8 0] 5))); have HBat := hid (hba.alloc hba.size (.cells #[.int .u8 0] 5)); have HLat := hid (lit_zero xat); clear hOa hba) | (refine wpList_append_ob rfl (.tmp 79) (.tmp 80) rfl x4.heap.size vat ([] ++ B) [0] rfl HOat.out _ rfl (OwnB.sl HLat.out) (by have := HBL.out; simp; omega) HBat.out.size ?_; intro vbt x5 hOb hbb; have hb := HBat.out.trans hbb; have hB5 := hid (below_step hB4.out hb hB4.out.size); have HG := hid (row_old HG.out hb); have HV := hid (SlR.old HV.out hb); have HU2 := hid (OwnB.old HU2.out hb); have HU3 := hid (owns_old HU3.out hb); have HOt := hid (show OwnB x5 x4.heap.size vbt (B ++ [0]) from hOb); clear hb hOb hbb))
          have hT := DTakeTree_any vbt (B ++ [0]) x5 HOt.out.sl (by have := HBL.out; simp; omega)
          rw [HE1.out] at hT
          refine hT.mono ?_
          rintro e x6 ⟨u4, rfl, ho, hb⟩
          have hB6 := hid (below_step hB5.out hb hB5.out.size)
          have HG := hid (row_old HG.out hb)
          have HV := hid (SlR.old HV.out hb)
          have HU2 := hid (OwnB.old HU2.out hb)
          have HU3 := hid (owns_old HU3.out hb)
          clear hb hT ho HOt
          go_wp2_with fail
          have hT := DTakeBlob_any _ B x6 HU2.out.sl (by have := HBL.out; omega)
          rw [HTB.out] at hT
          refine hT.mono ?_
          rintro e _ ⟨rfl, rfl⟩
          clear hT
          go_wp2_with fail
          have hT := PlainEn_any _ _ l l x6 (OwnEnt.sl HU3.out) HV.out HL.out
          rw [zL] at hT
          refine hT.mono ?_
          rintro e x7 ⟨rfl, hb⟩
          have hB7 := hid (below_step hB6.out hb hB6.out.size)
          have HG := hid (row_old HG.out hb)
          have HV := hid (SlR.old HV.out hb)
          have HU2 := hid (OwnB.old HU2.out hb)
          have HU3 := hid (owns_old HU3.out hb)
          clear hb hT
          obtain ⟨v9, s1, hs1⟩ := run_cut HU2.out.sl (N - 1) (by have := HBN.out; omega)
          have HS1 := hid hs1
          clear hs1
          go_wp2_with fail
          have hT := DTakeTree_any v9 (B.take (N - 1)) x7 HS1.out (by have := HBL.out; rw [List.length_take]; omega)
          rw [HE2.out] at hT
          refine hT.mono ?_
          rintro e x8 ⟨u6, rfl, ho, hb⟩
          have hB8 := hid (below_step hB7.out hb hB7.out.size)
          have HG := hid (row_old HG.out hb)
          have HV := hid (SlR.old HV.out hb)
          have HU2 := hid (OwnB.old HU2.out hb)
          have HU3 := hid (owns_old HU3.out hb)
          clear hb hT ho HS1 s1
          clear HU3
          clear HU2
          go_wp2_with (refine wpList_load_row rfl 27 _ rfl w.heap.size rfl _ _ _ _ HG.out Tryd.underlying27 rfl (HCI.out c) ?_)
          have hT := DCommit_any c HSR.out x8
          refine hT.mono ?_
          rintro e x9 ⟨u5, rfl, ho, hb⟩
          have hB9 := hid (below_step hB8.out hb hB8.out.size)
          have HG := hid (row_old HG.out hb)
          have HV := hid (SlR.old HV.out hb)
          have HU5 := hid ho
          clear hb hT
          clear ho
          rcases hC with ⟨hx, hk, hw⟩ | ⟨hw, ht, zM⟩
          · have HW := hid hw
            clear hw
            have c0 := (ComAt.of HG.out).c0
            rw [hx] at c0
            have HR := hid (ComAt.of HG.out).c1
            have HKI := hid (keyInfo c.2.1)
            have hne := key_neq c.2.1 kz
            rw [hk] at hne
            clear hx hk
            rw [HW.out] at HU5 ⊢
            go_wp2_with (first | (refine wpList_load_mid_g (by rfl) 24 _ rfl w.heap.size 1 rfl _ _ HR.out Tryd.underlying24 rfl HKI.out ?_) | (refine wpList_key0_g (by rfl) rfl ?_))
            go_ret
            exact ⟨rfl, hB9.out⟩
          · have HW := hid hw
            have HTC := hid ht
            clear hw ht
            rw [HW.out] at HU5 ⊢
            go_wp2_with fail
            have hT := DTakeCommit_any _ (comB c) x9 HU5.out.sl (by have := HCL.out; omega)
            rw [HTC.out] at hT
            refine hT.mono ?_
            rintro e x10 ⟨rfl, hb⟩
            have hB10 := hid (below_step hB9.out hb hB9.out.size)
            have HG := hid (row_old HG.out hb)
            have HV := hid (SlR.old HV.out hb)
            have HU5 := hid (OwnB.old HU5.out hb)
            clear hb hT
            obtain ⟨q0, hq0⟩ : ∃ q, takeComS (comB c ++ [0]) = q := ⟨_, rfl⟩
            rw [hq0] at zM
            have zM2 : (q0.2 != 0) = true := by simpa using zM
            have zM3 : ¬ q0.2 = 0 := by simpa using zM
            have HQ := hid hq0
            clear hq0
            go_wp2_with (first | (refine wpList_store_all rfl 27 _ _ rfl x10.heap.size _ rfl rfl _ _ (heap_alloc_new x10 _) 67 Tryd.sizeCom (HI67.out (c)) rfl (HCO.out (c)) ?_; intro x11 hg9 hk9; have hb : Below x10.heap.size x10 x11 := ((Below.refl _ x10).alloc (Nat.le_refl _) _).trans (hk9.below (by simp) (fun j hj => by show ¬ j = _; omega)); have hB11 := hid (below_step hB10.out hb hB10.out.size); have HG := hid (row_old HG.out hb); have HV := hid (SlR.old HV.out hb); have HU5 := hid (OwnB.old HU5.out hb); have HC1 := hid hg9; clear hb hg9 hk9) | (refine wpList_append_ob rfl (.const (.slice none 0 0)) (.tmp 143) rfl x11.heap.size _ [] (comB c) rfl (OwnB.nil _) _ rfl (OwnB.sl HU5.out) (by have := HCL.out; simp; omega) (Nat.le_refl _) ?_; intro vam xam hOa hba; have HOam := hid (OwnB.old hOa ((Below.refl _ xam).alloc (Nat.le_refl _) (.cells #[.int .u8 0] 5))); have HBam := hid (hba.alloc hba.size (.cells #[.int .u8 0] 5)); have HLam := hid (lit_zero xam); clear hOa hba) | (refine wpList_append_ob rfl (.tmp 144) (.tmp 145) rfl x11.heap.size vam ([] ++ (comB c)) [0] rfl HOam.out _ rfl (OwnB.sl HLam.out) (by have := HCL.out; simp; omega) HBam.out.size ?_; intro vbm x12 hOb hbb; have hb := HBam.out.trans hbb; have hB12 := hid (below_step hB11.out hb hB11.out.size); have HG := hid (row_old HG.out hb); have HV := hid (SlR.old HV.out hb); have HU5 := hid (OwnB.old HU5.out hb); have HC1 := hid (row_old HC1.out hb); have HOm := hid (show OwnB x12 x11.heap.size vbm ((comB c) ++ [0]) from hOb); clear hb hOb hbb))
            have hT := DTakeCommit_any vbm (comB c ++ [0]) x12 HOm.out.sl (by have := HCL.out; simp; omega)
            rw [HQ.out] at hT
            refine hT.mono ?_
            rintro e x13 ⟨rfl, hb⟩
            have hB13 := hid (below_step hB12.out hb hB12.out.size)
            have HG := hid (row_old HG.out hb)
            have HV := hid (SlR.old HV.out hb)
            have HU5 := hid (OwnB.old HU5.out hb)
            have HC1 := hid (row_old HC1.out hb)
            clear hb hT
            go_wp2_with (refine wpList_store_all rfl 27 _ _ rfl x13.heap.size _ rfl rfl _ _ (heap_alloc_new x13 _) 67 Tryd.sizeCom (HI67.out (q0.1)) rfl (HCO.out (q0.1)) ?_; intro x14 hg9 hk9; have hb : Below x13.heap.size x13 x14 := ((Below.refl _ x13).alloc (Nat.le_refl _) _).trans (hk9.below (by simp) (fun j hj => by show ¬ j = _; omega)); have hB14 := hid (below_step hB13.out hb hB13.out.size); have HG := hid (row_old HG.out hb); have HV := hid (SlR.old HV.out hb); have HU5 := hid (OwnB.old HU5.out hb); have HC1 := hid (row_old HC1.out hb); have HC2 := hid hg9; clear hb hg9 hk9)
            have hT := DTakeTree_any _ (comB c) x14 HU5.out.sl (by have := HCL.out; omega)
            rw [HCT.out] at hT
            refine hT.mono ?_
            rintro e x15 ⟨u7, rfl, ho, hb⟩
            have hB15 := hid (below_step hB14.out hb hB14.out.size)
            have HG := hid (row_old HG.out hb)
            have HV := hid (SlR.old HV.out hb)
            have HU5 := hid (OwnB.old HU5.out hb)
            have HC1 := hid (row_old HC1.out hb)
            have HC2 := hid (row_old HC2.out hb)
            clear hb hT ho
            go_wp2_with (first | (refine wpList_load_g (by rfl) 27 _ rfl x10.heap.size rfl _ _ _ _ HC1.out Tryd.underlying27 rfl (HCI.out c) ?_) | (refine wpList_load_g (by rfl) 27 _ rfl w.heap.size rfl _ _ _ _ HG.out Tryd.underlying27 rfl (HCI.out c) ?_))
            go_ret
            exact ⟨rfl, hB15.out⟩
        · have HTW := hid (show treeW l = ([], 5) by unfold treeW; rw [if_neg hr])
          clear hr
          go_wp2_with fail
          have hT := DBlob_any a (w.alloc (.cells (comC c).toArray 27))
          rw [HA1.out] at hT
          refine hT.mono ?_
          rintro e x1 ⟨u1, rfl, ho, hb⟩
          have hB1 := hid (below_step hB0.out hb hB0.out.size)
          have HG := hid (row_old HG.out hb)
          have HV := hid (SlR.old HV.out hb)
          have HU1 := hid ho
          clear hb hT
          clear ho c3
          go_wp2_with fail
          have hT := DTakeBlob_any _ (1 :: a) x1 HU1.out.sl HAL.out
          rw [HA2.out] at hT
          refine hT.mono ?_
          rintro e _ ⟨rfl, rfl⟩
          clear hT
          clear HU1
          go_wp2_with fail
          have hT := awake_any x1
          refine hT.mono ?_
          rintro e x2 ⟨rfl, hb⟩
          have hB2 := hid (below_step hB1.out hb hB1.out.size)
          have HG := hid (row_old HG.out hb)
          have HV := hid (SlR.old HV.out hb)
          clear hb hT
          go_wp2_with fail
          have hT := DTree_any _ l x2 HV.out
          rw [HTW.out] at hT
          refine hT.mono ?_
          rintro e x3 ⟨u2, rfl, ho, hb⟩
          have hB3 := hid (below_step hB2.out hb hB2.out.size)
          have HG := hid (row_old HG.out hb)
          have HV := hid (SlR.old HV.out hb)
          have HU2 := hid ho
          clear hb hT
          clear ho
          obtain ⟨xo, xc, rfl⟩ := own_len 0 HU2.out rfl
          clear HU2
          go_wp2_with (refine wpList_load_row rfl 27 _ rfl w.heap.size rfl _ _ _ _ HG.out Tryd.underlying27 rfl (HCI.out c) ?_)
          have hT := DCommit_any c HSR.out x3
          refine hT.mono ?_
          rintro e x4 ⟨u5, rfl, ho, hb⟩
          have hB4 := hid (below_step hB3.out hb hB3.out.size)
          have HG := hid (row_old HG.out hb)
          have HV := hid (SlR.old HV.out hb)
          have HU5 := hid ho
          clear hb hT
          clear ho
          rcases hC with ⟨hx, hk, hw⟩ | ⟨hw, ht, zM⟩
          · have HW := hid hw
            clear hw
            have c0 := (ComAt.of HG.out).c0
            rw [hx] at c0
            have HR := hid (ComAt.of HG.out).c1
            have HKI := hid (keyInfo c.2.1)
            have hne := key_neq c.2.1 kz
            rw [hk] at hne
            clear hx hk
            rw [HW.out] at HU5 ⊢
            go_wp2_with (first | (refine wpList_load_mid_g (by rfl) 24 _ rfl w.heap.size 1 rfl _ _ HR.out Tryd.underlying24 rfl HKI.out ?_) | (refine wpList_key0_g (by rfl) rfl ?_))
            go_ret
            exact ⟨rfl, hB4.out⟩
          · have HW := hid hw
            have HTC := hid ht
            clear hw ht
            rw [HW.out] at HU5 ⊢
            go_wp2_with fail
            have hT := DTakeCommit_any _ (comB c) x4 HU5.out.sl (by have := HCL.out; omega)
            rw [HTC.out] at hT
            refine hT.mono ?_
            rintro e x5 ⟨rfl, hb⟩
            have hB5 := hid (below_step hB4.out hb hB4.out.size)
            have HG := hid (row_old HG.out hb)
            have HV := hid (SlR.old HV.out hb)
            have HU5 := hid (OwnB.old HU5.out hb)
            clear hb hT
            obtain ⟨q0, hq0⟩ : ∃ q, takeComS (comB c ++ [0]) = q := ⟨_, rfl⟩
            rw [hq0] at zM
            have zM2 : (q0.2 != 0) = true := by simpa using zM
            have zM3 : ¬ q0.2 = 0 := by simpa using zM
            have HQ := hid hq0
            clear hq0
            go_wp2_with (first | (refine wpList_store_all rfl 27 _ _ rfl x5.heap.size _ rfl rfl _ _ (heap_alloc_new x5 _) 67 Tryd.sizeCom (HI67.out (c)) rfl (HCO.out (c)) ?_; intro x6 hg9 hk9; have hb : Below x5.heap.size x5 x6 := ((Below.refl _ x5).alloc (Nat.le_refl _) _).trans (hk9.below (by simp) (fun j hj => by show ¬ j = _; omega)); have hB6 := hid (below_step hB5.out hb hB5.out.size); have HG := hid (row_old HG.out hb); have HV := hid (SlR.old HV.out hb); have HU5 := hid (OwnB.old HU5.out hb); have HC1 := hid hg9; clear hb hg9 hk9) | (refine wpList_append_ob rfl (.const (.slice none 0 0)) (.tmp 143) rfl x6.heap.size _ [] (comB c) rfl (OwnB.nil _) _ rfl (OwnB.sl HU5.out) (by have := HCL.out; simp; omega) (Nat.le_refl _) ?_; intro vam xam hOa hba; have HOam := hid (OwnB.old hOa ((Below.refl _ xam).alloc (Nat.le_refl _) (.cells #[.int .u8 0] 5))); have HBam := hid (hba.alloc hba.size (.cells #[.int .u8 0] 5)); have HLam := hid (lit_zero xam); clear hOa hba) | (refine wpList_append_ob rfl (.tmp 144) (.tmp 145) rfl x6.heap.size vam ([] ++ (comB c)) [0] rfl HOam.out _ rfl (OwnB.sl HLam.out) (by have := HCL.out; simp; omega) HBam.out.size ?_; intro vbm x7 hOb hbb; have hb := HBam.out.trans hbb; have hB7 := hid (below_step hB6.out hb hB6.out.size); have HG := hid (row_old HG.out hb); have HV := hid (SlR.old HV.out hb); have HU5 := hid (OwnB.old HU5.out hb); have HC1 := hid (row_old HC1.out hb); have HOm := hid (show OwnB x7 x6.heap.size vbm ((comB c) ++ [0]) from hOb); clear hb hOb hbb))
            have hT := DTakeCommit_any vbm (comB c ++ [0]) x7 HOm.out.sl (by have := HCL.out; simp; omega)
            rw [HQ.out] at hT
            refine hT.mono ?_
            rintro e x8 ⟨rfl, hb⟩
            have hB8 := hid (below_step hB7.out hb hB7.out.size)
            have HG := hid (row_old HG.out hb)
            have HV := hid (SlR.old HV.out hb)
            have HU5 := hid (OwnB.old HU5.out hb)
            have HC1 := hid (row_old HC1.out hb)
            clear hb hT
            go_wp2_with (refine wpList_store_all rfl 27 _ _ rfl x8.heap.size _ rfl rfl _ _ (heap_alloc_new x8 _) 67 Tryd.sizeCom (HI67.out (q0.1)) rfl (HCO.out (q0.1)) ?_; intro x9 hg9 hk9; have hb : Below x8.heap.size x8 x9 := ((Below.refl _ x8).alloc (Nat.le_refl _) _).trans (hk9.below (by simp) (fun j hj => by show ¬ j = _; omega)); have hB9 := hid (below_step hB8.out hb hB8.out.size); have HG := hid (row_old HG.out hb); have HV := hid (SlR.old HV.out hb); have HU5 := hid (OwnB.old HU5.out hb); have HC1 := hid (row_old HC1.out hb); have HC2 := hid hg9; clear hb hg9 hk9)
            have hT := DTakeTree_any _ (comB c) x9 HU5.out.sl (by have := HCL.out; omega)
            rw [HCT.out] at hT
            refine hT.mono ?_
            rintro e x10 ⟨u7, rfl, ho, hb⟩
            have hB10 := hid (below_step hB9.out hb hB9.out.size)
            have HG := hid (row_old HG.out hb)
            have HV := hid (SlR.old HV.out hb)
            have HU5 := hid (OwnB.old HU5.out hb)
            have HC1 := hid (row_old HC1.out hb)
            have HC2 := hid (row_old HC2.out hb)
            clear hb hT ho
            go_wp2_with (first | (refine wpList_load_g (by rfl) 27 _ rfl x5.heap.size rfl _ _ _ _ HC1.out Tryd.underlying27 rfl (HCI.out c) ?_) | (refine wpList_load_g (by rfl) 27 _ rfl w.heap.size rfl _ _ _ _ HG.out Tryd.underlying27 rfl (HCI.out c) ?_))
            go_ret
            exact ⟨rfl, hB10.out⟩
      · have g5 : decide (300 < (c.2.2.2.1.length : Int)) = true := decide_eq_true (by omega)
        have g6 : decide (300 < c.2.2.2.1.length) = true := decide_eq_true (by omega)
        clear h1 h2 h3
        go_enter Tryd.func5, Tryd.ntmps5
        go_wp2_with fail
        refine (awake_any _).mono ?_
        rintro e w2 ⟨rfl, hb⟩
        go_wp2_with fail
        go_ret
        exact ⟨rfl, below_step hB0.out hb hB0.out.size⟩
    · have g3 : decide (30 < (l.length : Int)) = true := decide_eq_true (by omega)
      have g4 : decide (30 < l.length) = true := decide_eq_true (by omega)
      clear h1 h2
      go_enter Tryd.func5, Tryd.ntmps5
      go_wp2_with fail
      refine (awake_any _).mono ?_
      rintro e w2 ⟨rfl, hb⟩
      go_wp2_with fail
      go_ret
      exact ⟨rfl, below_step hB0.out hb hB0.out.size⟩
  · have g1 : decide (300 < (a.length : Int)) = true := decide_eq_true (by omega)
    have g2 : decide (300 < a.length) = true := decide_eq_true (by omega)
    clear h1
    go_enter Tryd.func5, Tryd.ntmps5
    go_wp2_with fail
    refine (awake_any _).mono ?_
    rintro e w2 ⟨rfl, hb⟩
    go_wp2_with fail
    go_ret
    exact ⟨rfl, below_step hB0.out hb hB0.out.size⟩
end
theorem own : ownKnob Tryd.prog.godebug = none := by kernel_rfl
theorem laidOut : laidOutB Tryd.prog = true := by kernel_rfl
theorem laid_met (os : Os) : laidMet Tryd.prog Rows.objectBackRow.laid ((laidWorld os).forCall (fun _ _ => 0) ⟨#[], #[.string ByteArray.empty, .slice none 0 0, com0], []⟩).memory :=
  laidMet_of_run' 8 (by kernel_rfl) (by kernel_rfl)
theorem reads (os : Os) {H : Type} (enc : TypeId × Value → H) : ∃ places, DataW.whole enc Tryd.prog ((laidWorld os).forCall (fun _ _ => 0) ⟨#[], #[.string ByteArray.empty, .slice none 0 0, com0], []⟩).memory Tryd.f5.params.toList Rows.objectBackSpec.vars false (#[.string ByteArray.empty, .slice none 0 0, com0] : Array Value).toList 8 = some ([.lit (.string []), .nil, .agg [.lit (.bool false), .agg (List.replicate 32 (.lit (.int .u8 0))), .agg (List.replicate 32 (.lit (.int .u8 0))), .lit (.string []), .lit (.int .u64 0)]], [], places) :=
  ⟨[], by kernel_rfl⟩

set_option maxRecDepth 100000 in
theorem contract (H : Type) (enc : TypeId × Value → H) (W : World) (base : Nat) (args : Array Value) (ds gs : List (DataW H)) (before : List MemPlace)
    (hval : ∀ (j : Nat) t v, Tryd.f5.params[j]? = some t → args[j]? = some v → Value.okWide Tryd.prog W .any base t v)
    (hW : DataW.Whole enc Tryd.prog Tryd.f5.params.toList Rows.objectBackSpec.vars false W args.toList ds gs before) (_hL : laidMetH Tryd.prog Rows.objectBackRow.laid W) :
    Calls Tryd.prog 5 args W fun e W' => ∃ v, e = .returned v ∧ Rows.objectBackSpec.post enc Tryd.prog Tryd.f5 false true false false W args v W' := by
  have hW' := hW
  obtain ⟨p, q, hA0, hV, rfl, hfz, hnd⟩ := hW
  have hA : DataW.TrodAll enc Tryd.prog W 0 (fun _ => true) true Tryd.f5.params.toList args.toList ds p := hA0
  rw [Tryd.params5] at hA hval
  obtain ⟨v0, vs0, d0, ds0, p0, q0, hargs, rfl, rfl, h0, r0⟩ := trodAll_cons hA
  obtain ⟨v1, vs1, d1, ds1, p1, q1, rfl, rfl, rfl, h1, r1⟩ := trodAll_cons r0
  obtain ⟨v2, vs2, d2, ds2, p2, q2, rfl, rfl, rfl, h2, r2⟩ := trodAll_cons r1
  obtain ⟨rfl, rfl, rfl⟩ := trodAll_nil r2
  obtain rfl : args = #[v0, v1, v2] := by cases args; simp_all
  obtain ⟨rfl, rfl⟩ := trodVars_none hV
  have k0 := h0
  have lt0 : ∀ x ∈ p0, x.block < W.heap.size := by obtain ⟨m, hm⟩ := k0; exact DataW.trod_lt m _ _ _ hm
  obtain ⟨a0, rfl, _, _, w0⟩ := open_str Tryd.underlying9 (hval 0 9 v0 rfl rfl) h0
  have k1 := h1
  have lt1 : ∀ x ∈ p1, x.block < W.heap.size := by obtain ⟨m, hm⟩ := k1; exact DataW.trod_lt m _ _ _ hm
  obtain ⟨x1, l1, c1, rfl⟩ := okWide_slice Tryd.underlying22 (hval 1 22 v1 rfl rfl)
  obtain ⟨a1, w1⟩ : ∃ a, FactEnts W (.slice x1 l1 c1) a := by
    obtain ⟨fuel, hf⟩ := h1
    obtain ⟨v', a, hcs, hs⟩ := open_ents hf
    obtain rfl : v' = .slice x1 l1 c1 := by simpa [Value.cells] using hcs.symm
    exact ⟨a, hs⟩
  have k2 := h2
  have lt2 : ∀ x ∈ p2, x.block < W.heap.size := by obtain ⟨m, hm⟩ := k2; exact DataW.trod_lt m _ _ _ hm
  obtain ⟨a2, rfl, w2⟩ := open_com (hval 2 27 v2 rfl rfl) h2
  clear hA0
  refine (walk a0 (.slice x1 l1 c1) a1 a2 W w0 w1 w2).mono fun e W' ⟨he, bel⟩ => ?_
  subst he
  exact ⟨_, rfl, _, _, _, [], _, [], hW', trodAll_mk1 (shut_bool Tryd.underlying4 _), (trodAll_cons_mk (Below.trod laidOut (by kernel_rfl) (of_decide_eq_true (by kernel_rfl)) k0 bel lt0) (trodAll_cons_mk (Below.trod laidOut (by kernel_rfl) (of_decide_eq_true (by kernel_rfl)) k1 bel lt1) (trodAll_cons_mk (Below.trod laidOut (by kernel_rfl) (of_decide_eq_true (by kernel_rfl)) k2 bel lt2) trodAll_mk0))), rfl, bel.frame _, fun h => by cases h⟩

set_option maxRecDepth 100000 in
theorem lifted (os : Os) (started : os.Started) (H : Type) (enc : TypeId × Value → H) (F : Stop.Interp) :
    ReturnsInHanded {} Tryd.checked os 5 .any ((OpenSpec.ofChange Rows.objectBackSpec).preRow enc Tryd.prog Tryd.f5 Rows.objectBackRow.domain false Rows.objectBackRow.laid) (((OpenSpec.ofChange Rows.objectBackSpec).at F).post enc Tryd.prog Tryd.f5 false true false false) := by
  obtain ⟨places, hx⟩ := reads os enc
  refine returnsInHanded_of_row (C := Tryd.checked) (s := OpenSpec.ofChange Rows.objectBackSpec) own started (by kernel_rfl) Tryd.func5
    (witness_row_at (enc := enc) (C := Tryd.checked) false (laidWorld os) #[.string ByteArray.empty, .slice none 0 0, com0] rfl (by kernel_rfl) (by kernel_rfl) (by kernel_rfl)
      (OpenSpec.preRow_of_cond 8 hx (by kernel_rfl) (fun k hk => by cases hk) (by kernel_rfl) (laid_met os))) ?_
  intro W base args ds gs before hval hW _ _ _ hL _ _
  exact contract H enc W base args ds gs before hval hW hL

theorem said : Rows.ObjectBackSaid :=
  OpenClaim.holds_of_cond 5 Tryd.f5 rfl rfl rfl rfl rfl rfl rfl ⟨rfl, rfl, rfl, rfl, rfl⟩ rfl rfl rfl rfl rfl (by kernel_rfl) Tryd.func5 (by kernel_rfl)
    (of_decide_eq_true (by kernel_rfl)) (by unfold Func.isWrapper; first | (rw [if_pos (by decide +kernel)]; kernel_rfl) | (rw [if_neg (by decide +kernel)]; exact ⟨rfl, rfl⟩))
    (fun os started H enc _ F => by rw [OpenClaim.pre_eq_preRow]; exact lifted os started H enc F)

theorem plain (f : FuncId) (fn : Func) (hf : Tryd.pinned.checked.prog.funcNamed "rick/ricklaw15.ObjectBack" = some f) (hfn : Tryd.pinned.checked.prog.funcs[f]? = some fn) :
    false = Tryd.pinned.checked.prog.looks [] ∧ ∀ (j : Nat) t, fn.params[j]? = some t → Tryd.pinned.checked.prog.wantsStandIn t = false := by
  obtain rfl : f = 5 := Option.some.inj ((show Tryd.prog.funcNamed "rick/ricklaw15.ObjectBack" = some 5 by kernel_rfl).symm.trans hf) |>.symm
  obtain rfl : fn = Tryd.f5 := (Option.some.inj (Tryd.func5.symm.trans hfn)).symm
  refine ⟨by kernel_rfl, fun j t ht => ?_⟩
  rw [Tryd.params5] at ht
  have hm := Array.mem_of_getElem? ht
  simp only [List.mem_toArray, List.mem_cons, List.not_mem_nil, or_false] at hm
  rcases hm with rfl | rfl | rfl
  · exact (show Tryd.prog.wantsStandIn 9 = false by kernel_rfl)
  · exact (show Tryd.prog.wantsStandIn 22 = false by kernel_rfl)
  · exact (show Tryd.prog.wantsStandIn 27 = false by kernel_rfl)

/-- The statement. -/
theorem proved : Rows.ObjectBackCardSaid :=
  Claim7.holds_tied_plain_at .later [] _ _ _ _ said (fun _ h => by cases h) (by kernel_rfl) (fun _ h => by cases h) objectBack_row_tie rfl ⟨rfl, rfl⟩ (by kernel_rfl) rfl plain (by kernel_rfl)
#print axioms proved
end Go.Proofs.YtbcpfakdmnccmaaDoor.objectBack
