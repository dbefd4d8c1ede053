/-
  ObjectBounds: a text, a message, as long as may be, and longer; a tree whose paths fall, or clash, is none.
-/
import Derived.Test.YtbcpfakdmnccmaaDoorG4
import Derived.Test.YtbcpfakdmnccmaaDoorOpenS
import Derived.Test.YtbcpfakdmnccmaaDoorG5
import Derived.Test.YtbcpfakdmnccmaaDoorTabU
import Derived.ProofKit
import Derived.OpenShut
namespace Go.Proofs.YtbcpfakdmnccmaaDoor.objectBounds
open Go.ChangeShapes Go.WideShapes Go.ChangeAt Go.RowKit

section
set_option maxRecDepth 100000
set_option maxHeartbeats 4000000
theorem walk (a : Int) (p q : List UInt8) (w : World) (_w0 : (Lit.int .i64 a).wf = true) (_w1 : p.length ≤ maxLen) (_w2 : q.length ≤ maxLen) :
    Calls Tryd.prog 6 #[.int .i64 a, strV p, strV q] w fun e w' => e = .returned (.bool true) ∧ Below w.heap.size w w' := by
  obtain ⟨m, hm6, hm⟩ := six_mod a
  obtain ⟨k, hk⟩ : ∃ k : Int, k = (m : Int) - 3 := ⟨_, rfl⟩
  obtain ⟨n1, hn1⟩ : ∃ n : Nat, n = 19997 + m := ⟨_, rfl⟩
  obtain ⟨n2, hn2⟩ : ∃ n : Nat, n = 997 + m := ⟨_, rfl⟩
  obtain ⟨R1, hR1⟩ : ∃ R, R = List.replicate n1 (0 : UInt8) := ⟨_, rfl⟩
  obtain ⟨R2, hR2⟩ : ∃ R, R = List.replicate n2 (0 : UInt8) := ⟨_, rfl⟩
  have t0 : wrap64 (Int.tmod (IntKind.u64.wrap a) 6) = (m : Int) := by rw [hm]; exact IntWalk.wrap64_in _ (by omega)
  have t1 : wrap64 ((m : Int) - 3) = k := (IntWalk.wrap64_in _ (by omega)).trans hk.symm
  have t2 : wrap64 (20000 + k) = (n1 : Int) := (IntWalk.wrap64_in _ (by omega)).trans (by omega)
  have t3 : wrap64 (1000 + k) = (n2 : Int) := (IntWalk.wrap64_in _ (by omega)).trans (by omega)
  have HMK1 := hid (fun wx => run_make0 wx n1 (by omega))
  have HMK2 := hid (fun wx => run_make0 wx n2 (by omega))
  rw [← hR1] at HMK1
  rw [← hR2] at HMK2
  have HCV1 := hid (fun wx : World => run_string_of (P := Tryd.prog) (w := wx.alloc (.cells (Lib.byteCells R1).toArray 5)) (v := .slice (some ⟨wx.heap.size, 0, none⟩) n1 n1) (bs := R1) 32 9 5 Tryd.underlying32 Tryd.underlying5 Tryd.underlying9 (made_sl R1 n1 (by rw [hR1, List.length_replicate]) wx))
  have HCV2 := hid (fun wx : World => run_string_of (P := Tryd.prog) (w := wx.alloc (.cells (Lib.byteCells R2).toArray 5)) (v := .slice (some ⟨wx.heap.size, 0, none⟩) n2 n2) (bs := R2) 32 9 5 Tryd.underlying32 Tryd.underlying5 Tryd.underlying9 (made_sl R2 n2 (by rw [hR2, List.length_replicate]) wx))
  have hE : (0 < k ∧ (blobS R1).2 = 6 ∧ (comW (true, kz, kz, R2, 0)).2 = 6) ∨ (¬ 0 < k ∧ (blobS R1).2 = 0 ∧ (comW (true, kz, kz, R2, 0)).2 = 0) := by
    have l1 : R1.length = n1 := by rw [hR1, List.length_replicate]
    have l2 : R2.length = n2 := by rw [hR2, List.length_replicate]
    by_cases h : 0 < k
    · refine .inl ⟨h, ?_, ?_⟩
      · unfold blobS
        rw [if_pos (by omega)]
      · have h6 : comE (true, kz, kz, R2, 0) = 6 := by
          unfold comE
          rw [if_pos (by show 1000 < R2.length; omega)]
        unfold comW
        rw [h6, if_neg (by decide)]
    · refine .inr ⟨h, ?_, ?_⟩
      · unfold blobS
        rw [if_neg (by omega)]
      · have h6 : comE (true, kz, kz, R2, 0) = 0 := by
          unfold comE
          rw [if_neg (by show ¬ 1000 < R2.length; omega)]
          simp
        unfold comW
        rw [h6, if_pos rfl]
  obtain ⟨T, hT1⟩ : ∃ T, (treeW [(p, false, kz), (q, false, kz)]).2 = T := ⟨_, rfl⟩
  obtain ⟨U, hU1⟩ : ∃ U, (treeW [(q, false, kz), (p, false, kz)]).2 = U := ⟨_, rfl⟩
  have hN : ((T == 0) = true ∧ (U == 0) = false) ∨ (T == 0) = false := by
    have h := not_both p q
    rw [hT1, hU1] at h
    by_cases h0 : T = 0
    · exact .inl ⟨by simp [h0], by simp; exact fun hu => h ⟨h0, hu⟩⟩
    · exact .inr (by simp [h0])
  have HT1 := hid hT1
  have HU1 := hid hU1
  have hB0 := hid (Below.refl w.heap.size w)
  have zT : (T == T) = true := by simp
  unfold strV
  clear hT1 hU1 hm hk hn1 hn2 hR1 hR2 hm6 _w1 _w2
  rcases hE with ⟨hk, he1, he2⟩ | ⟨hk, he1, he2⟩
  · have zk : decide (0 < k) = true := decide_eq_true hk
    have HE1 := hid he1
    have HE2 := hid he2
    clear hk he1 he2
    by_cases h1 : p.length ≤ 60
    · have g1 : decide (60 < (p.length : Int)) = false := decide_eq_false (by omega)
      by_cases h2 : q.length ≤ 60
      · have g2 : decide (60 < (q.length : Int)) = false := decide_eq_false (by omega)
        clear h1 h2
        rcases hN with ⟨z1, z2⟩ | z1
        · go_enter Tryd.func6, Tryd.ntmps6
          have hmk := HMK1.out w
          have hcv := HCV1.out w
          go_wp2_with fail
          clear hmk hcv
          have hB0a := hid (hB0.out.alloc hB0.out.size (.cells (Lib.byteCells R1).toArray 5))
          have hT := DBlob_any R1 (w.alloc (.cells (Lib.byteCells R1).toArray 5))
          rw [HE1.out] at hT
          refine hT.mono ?_
          rintro e x1 ⟨u1, rfl, ho, hb⟩
          have hB1 := hid (below_step hB0a.out hb hB0a.out.size)
          clear hb hT ho
          have hmk := HMK2.out x1
          have hcv := HCV2.out x1
          go_wp2_with (refine wpList_build_rooted rfl (.const (.bool true)) (.tmp 35) rfl R2 rfl rfl ?_)
          clear hmk hcv
          have hB1a := hid (hB1.out.alloc hB1.out.size (.cells (Lib.byteCells R2).toArray 5))
          have hT := DCommit_any (true, kz, kz, R2, 0) (by show (0 : Nat) < 18446744073709551616; decide) (x1.alloc (.cells (Lib.byteCells R2).toArray 5))
          rw [HE2.out] at hT
          refine hT.mono ?_
          rintro e x2 ⟨u2, rfl, ho, hb⟩
          have hB2 := hid (below_step hB1a.out hb hB1a.out.size)
          clear hb hT ho
          go_wp2_with first | (refine wpList_build_path rfl (.tmp 52) rfl p rfl ?_) | (refine wpList_build_path rfl (.tmp 54) rfl q rfl ?_) | (refine wpList_lit_ent2 rfl (.tmp 53) (.tmp 55) rfl (p, false, kz) (q, false, kz) rfl rfl ?_)
          have hB2a := hid (hB2.out.alloc hB2.out.size (.cells (entC (p, false, kz) ++ entC (q, false, kz)).toArray 31))
          have hT := DTree_any _ [(p, false, kz), (q, false, kz)] (x2.alloc (.cells (entC (p, false, kz) ++ entC (q, false, kz)).toArray 31)) (two_ents x2 (p, false, kz) (q, false, kz)).sl
          rw [HT1.out] at hT
          refine hT.mono ?_
          rintro e x3 ⟨v52, rfl, ho, hb⟩
          have hB3 := hid (below_step hB2a.out hb hB2a.out.size)
          clear hb hT ho
          go_wp2_with first | (refine wpList_build_path rfl (.tmp 61) rfl p rfl ?_) | (refine wpList_build_path rfl (.tmp 63) rfl q rfl ?_) | (refine wpList_lit_ent2 rfl (.tmp 62) (.tmp 64) rfl (p, false, kz) (q, false, kz) rfl rfl ?_)
          have hB3a := hid (hB3.out.alloc hB3.out.size (.cells (entC (p, false, kz) ++ entC (q, false, kz)).toArray 31))
          have hT := RTree_any _ [(p, false, kz), (q, false, kz)] (x3.alloc (.cells (entC (p, false, kz) ++ entC (q, false, kz)).toArray 31)) (two_ents x3 (p, false, kz) (q, false, kz)).sl
          rw [HT1.out] at hT
          refine hT.mono ?_
          rintro e x4 ⟨v61, rfl, ho, hb⟩
          have hB4 := hid (below_step hB3a.out hb hB3a.out.size)
          clear hb hT ho
          go_wp2_with first | (refine wpList_build_path rfl (.tmp 70) rfl q rfl ?_) | (refine wpList_build_path rfl (.tmp 72) rfl p rfl ?_) | (refine wpList_lit_ent2 rfl (.tmp 71) (.tmp 73) rfl (q, false, kz) (p, false, kz) rfl rfl ?_)
          have hB4a := hid (hB4.out.alloc hB4.out.size (.cells (entC (q, false, kz) ++ entC (p, false, kz)).toArray 31))
          have hT := DTree_any _ [(q, false, kz), (p, false, kz)] (x4.alloc (.cells (entC (q, false, kz) ++ entC (p, false, kz)).toArray 31)) (two_ents x4 (q, false, kz) (p, false, kz)).sl
          rw [HU1.out] at hT
          refine hT.mono ?_
          rintro e x5 ⟨v70, rfl, ho, hb⟩
          have hB5 := hid (below_step hB4a.out hb hB4a.out.size)
          clear hb hT ho
          go_wp2_with fail
          have hT := awake_any x5
          refine hT.mono ?_
          rintro e x6 ⟨rfl, hb⟩
          have hB6 := hid (below_step hB5.out hb hB5.out.size)
          clear hb hT
          go_wp2_with fail
          go_ret
          exact ⟨rfl, hB6.out⟩
        · go_enter Tryd.func6, Tryd.ntmps6
          have hmk := HMK1.out w
          have hcv := HCV1.out w
          go_wp2_with fail
          clear hmk hcv
          have hB0a := hid (hB0.out.alloc hB0.out.size (.cells (Lib.byteCells R1).toArray 5))
          have hT := DBlob_any R1 (w.alloc (.cells (Lib.byteCells R1).toArray 5))
          rw [HE1.out] at hT
          refine hT.mono ?_
          rintro e x1 ⟨u1, rfl, ho, hb⟩
          have hB1 := hid (below_step hB0a.out hb hB0a.out.size)
          clear hb hT ho
          have hmk := HMK2.out x1
          have hcv := HCV2.out x1
          go_wp2_with (refine wpList_build_rooted rfl (.const (.bool true)) (.tmp 35) rfl R2 rfl rfl ?_)
          clear hmk hcv
          have hB1a := hid (hB1.out.alloc hB1.out.size (.cells (Lib.byteCells R2).toArray 5))
          have hT := DCommit_any (true, kz, kz, R2, 0) (by show (0 : Nat) < 18446744073709551616; decide) (x1.alloc (.cells (Lib.byteCells R2).toArray 5))
          rw [HE2.out] at hT
          refine hT.mono ?_
          rintro e x2 ⟨u2, rfl, ho, hb⟩
          have hB2 := hid (below_step hB1a.out hb hB1a.out.size)
          clear hb hT ho
          go_wp2_with first | (refine wpList_build_path rfl (.tmp 52) rfl p rfl ?_) | (refine wpList_build_path rfl (.tmp 54) rfl q rfl ?_) | (refine wpList_lit_ent2 rfl (.tmp 53) (.tmp 55) rfl (p, false, kz) (q, false, kz) rfl rfl ?_)
          have hB2a := hid (hB2.out.alloc hB2.out.size (.cells (entC (p, false, kz) ++ entC (q, false, kz)).toArray 31))
          have hT := DTree_any _ [(p, false, kz), (q, false, kz)] (x2.alloc (.cells (entC (p, false, kz) ++ entC (q, false, kz)).toArray 31)) (two_ents x2 (p, false, kz) (q, false, kz)).sl
          rw [HT1.out] at hT
          refine hT.mono ?_
          rintro e x3 ⟨v52, rfl, ho, hb⟩
          have hB3 := hid (below_step hB2a.out hb hB2a.out.size)
          clear hb hT ho
          go_wp2_with first | (refine wpList_build_path rfl (.tmp 61) rfl p rfl ?_) | (refine wpList_build_path rfl (.tmp 63) rfl q rfl ?_) | (refine wpList_lit_ent2 rfl (.tmp 62) (.tmp 64) rfl (p, false, kz) (q, false, kz) rfl rfl ?_)
          have hB3a := hid (hB3.out.alloc hB3.out.size (.cells (entC (p, false, kz) ++ entC (q, false, kz)).toArray 31))
          have hT := RTree_any _ [(p, false, kz), (q, false, kz)] (x3.alloc (.cells (entC (p, false, kz) ++ entC (q, false, kz)).toArray 31)) (two_ents x3 (p, false, kz) (q, false, kz)).sl
          rw [HT1.out] at hT
          refine hT.mono ?_
          rintro e x4 ⟨v61, rfl, ho, hb⟩
          have hB4 := hid (below_step hB3a.out hb hB3a.out.size)
          clear hb hT ho
          go_wp2_with first | (refine wpList_build_path rfl (.tmp 70) rfl q rfl ?_) | (refine wpList_build_path rfl (.tmp 72) rfl p rfl ?_) | (refine wpList_lit_ent2 rfl (.tmp 71) (.tmp 73) rfl (q, false, kz) (p, false, kz) rfl rfl ?_)
          have hB4a := hid (hB4.out.alloc hB4.out.size (.cells (entC (q, false, kz) ++ entC (p, false, kz)).toArray 31))
          have hT := DTree_any _ [(q, false, kz), (p, false, kz)] (x4.alloc (.cells (entC (q, false, kz) ++ entC (p, false, kz)).toArray 31)) (two_ents x4 (q, false, kz) (p, false, kz)).sl
          rw [HU1.out] at hT
          refine hT.mono ?_
          rintro e x5 ⟨v70, rfl, ho, hb⟩
          have hB5 := hid (below_step hB4a.out hb hB4a.out.size)
          clear hb hT ho
          go_wp2_with fail
          have hT := awake_any x5
          refine hT.mono ?_
          rintro e x6 ⟨rfl, hb⟩
          have hB6 := hid (below_step hB5.out hb hB5.out.size)
          clear hb hT
          go_wp2_with fail
          go_ret
          exact ⟨rfl, hB6.out⟩
      · have g2 : decide (60 < (q.length : Int)) = true := decide_eq_true (by omega)
        clear h1 h2
        go_enter Tryd.func6, Tryd.ntmps6
        have hmk := HMK1.out w
        have hcv := HCV1.out w
        go_wp2_with fail
        clear hmk hcv
        have hB0a := hid (hB0.out.alloc hB0.out.size (.cells (Lib.byteCells R1).toArray 5))
        have hT := DBlob_any R1 (w.alloc (.cells (Lib.byteCells R1).toArray 5))
        rw [HE1.out] at hT
        refine hT.mono ?_
        rintro e x1 ⟨u1, rfl, ho, hb⟩
        have hB1 := hid (below_step hB0a.out hb hB0a.out.size)
        clear hb hT ho
        have hmk := HMK2.out x1
        have hcv := HCV2.out x1
        go_wp2_with (refine wpList_build_rooted rfl (.const (.bool true)) (.tmp 35) rfl R2 rfl rfl ?_)
        clear hmk hcv
        have hB1a := hid (hB1.out.alloc hB1.out.size (.cells (Lib.byteCells R2).toArray 5))
        have hT := DCommit_any (true, kz, kz, R2, 0) (by show (0 : Nat) < 18446744073709551616; decide) (x1.alloc (.cells (Lib.byteCells R2).toArray 5))
        rw [HE2.out] at hT
        refine hT.mono ?_
        rintro e x2 ⟨u2, rfl, ho, hb⟩
        have hB2 := hid (below_step hB1a.out hb hB1a.out.size)
        clear hb hT ho
        go_wp2_with fail
        have hT := awake_any x2
        refine hT.mono ?_
        rintro e x3 ⟨rfl, hb⟩
        have hB3 := hid (below_step hB2.out hb hB2.out.size)
        clear hb hT
        go_wp2_with fail
        go_ret
        exact ⟨rfl, hB3.out⟩
    · have g1 : decide (60 < (p.length : Int)) = true := decide_eq_true (by omega)
      clear h1
      go_enter Tryd.func6, Tryd.ntmps6
      have hmk := HMK1.out w
      have hcv := HCV1.out w
      go_wp2_with fail
      clear hmk hcv
      have hB0a := hid (hB0.out.alloc hB0.out.size (.cells (Lib.byteCells R1).toArray 5))
      have hT := DBlob_any R1 (w.alloc (.cells (Lib.byteCells R1).toArray 5))
      rw [HE1.out] at hT
      refine hT.mono ?_
      rintro e x1 ⟨u1, rfl, ho, hb⟩
      have hB1 := hid (below_step hB0a.out hb hB0a.out.size)
      clear hb hT ho
      have hmk := HMK2.out x1
      have hcv := HCV2.out x1
      go_wp2_with (refine wpList_build_rooted rfl (.const (.bool true)) (.tmp 35) rfl R2 rfl rfl ?_)
      clear hmk hcv
      have hB1a := hid (hB1.out.alloc hB1.out.size (.cells (Lib.byteCells R2).toArray 5))
      have hT := DCommit_any (true, kz, kz, R2, 0) (by show (0 : Nat) < 18446744073709551616; decide) (x1.alloc (.cells (Lib.byteCells R2).toArray 5))
      rw [HE2.out] at hT
      refine hT.mono ?_
      rintro e x2 ⟨u2, rfl, ho, hb⟩
      have hB2 := hid (below_step hB1a.out hb hB1a.out.size)
      clear hb hT ho
      go_wp2_with fail
      have hT := awake_any x2
      refine hT.mono ?_
      rintro e x3 ⟨rfl, hb⟩
      have hB3 := hid (below_step hB2.out hb hB2.out.size)
      clear hb hT
      go_wp2_with fail
      go_ret
      exact ⟨rfl, hB3.out⟩
  · have zk : decide (0 < k) = false := decide_eq_false hk
    have HE1 := hid he1
    have HE2 := hid he2
    clear hk he1 he2
    by_cases h1 : p.length ≤ 60
    · have g1 : decide (60 < (p.length : Int)) = false := decide_eq_false (by omega)
      by_cases h2 : q.length ≤ 60
      · have g2 : decide (60 < (q.length : Int)) = false := decide_eq_false (by omega)
        clear h1 h2
        rcases hN with ⟨z1, z2⟩ | z1
        · go_enter Tryd.func6, Tryd.ntmps6
          have hmk := HMK1.out w
          have hcv := HCV1.out w
          go_wp2_with fail
          clear hmk hcv
          have hB0a := hid (hB0.out.alloc hB0.out.size (.cells (Lib.byteCells R1).toArray 5))
          have hT := DBlob_any R1 (w.alloc (.cells (Lib.byteCells R1).toArray 5))
          rw [HE1.out] at hT
          refine hT.mono ?_
          rintro e x1 ⟨u1, rfl, ho, hb⟩
          have hB1 := hid (below_step hB0a.out hb hB0a.out.size)
          clear hb hT ho
          have hmk := HMK2.out x1
          have hcv := HCV2.out x1
          go_wp2_with (refine wpList_build_rooted rfl (.const (.bool true)) (.tmp 35) rfl R2 rfl rfl ?_)
          clear hmk hcv
          have hB1a := hid (hB1.out.alloc hB1.out.size (.cells (Lib.byteCells R2).toArray 5))
          have hT := DCommit_any (true, kz, kz, R2, 0) (by show (0 : Nat) < 18446744073709551616; decide) (x1.alloc (.cells (Lib.byteCells R2).toArray 5))
          rw [HE2.out] at hT
          refine hT.mono ?_
          rintro e x2 ⟨u2, rfl, ho, hb⟩
          have hB2 := hid (below_step hB1a.out hb hB1a.out.size)
          clear hb hT ho
          go_wp2_with first | (refine wpList_build_path rfl (.tmp 52) rfl p rfl ?_) | (refine wpList_build_path rfl (.tmp 54) rfl q rfl ?_) | (refine wpList_lit_ent2 rfl (.tmp 53) (.tmp 55) rfl (p, false, kz) (q, false, kz) rfl rfl ?_)
          have hB2a := hid (hB2.out.alloc hB2.out.size (.cells (entC (p, false, kz) ++ entC (q, false, kz)).toArray 31))
          have hT := DTree_any _ [(p, false, kz), (q, false, kz)] (x2.alloc (.cells (entC (p, false, kz) ++ entC (q, false, kz)).toArray 31)) (two_ents x2 (p, false, kz) (q, false, kz)).sl
          rw [HT1.out] at hT
          refine hT.mono ?_
          rintro e x3 ⟨v52, rfl, ho, hb⟩
          have hB3 := hid (below_step hB2a.out hb hB2a.out.size)
          clear hb hT ho
          go_wp2_with first | (refine wpList_build_path rfl (.tmp 61) rfl p rfl ?_) | (refine wpList_build_path rfl (.tmp 63) rfl q rfl ?_) | (refine wpList_lit_ent2 rfl (.tmp 62) (.tmp 64) rfl (p, false, kz) (q, false, kz) rfl rfl ?_)
          have hB3a := hid (hB3.out.alloc hB3.out.size (.cells (entC (p, false, kz) ++ entC (q, false, kz)).toArray 31))
          have hT := RTree_any _ [(p, false, kz), (q, false, kz)] (x3.alloc (.cells (entC (p, false, kz) ++ entC (q, false, kz)).toArray 31)) (two_ents x3 (p, false, kz) (q, false, kz)).sl
          rw [HT1.out] at hT
          refine hT.mono ?_
          rintro e x4 ⟨v61, rfl, ho, hb⟩
          have hB4 := hid (below_step hB3a.out hb hB3a.out.size)
          clear hb hT ho
          go_wp2_with first | (refine wpList_build_path rfl (.tmp 70) rfl q rfl ?_) | (refine wpList_build_path rfl (.tmp 72) rfl p rfl ?_) | (refine wpList_lit_ent2 rfl (.tmp 71) (.tmp 73) rfl (q, false, kz) (p, false, kz) rfl rfl ?_)
          have hB4a := hid (hB4.out.alloc hB4.out.size (.cells (entC (q, false, kz) ++ entC (p, false, kz)).toArray 31))
          have hT := DTree_any _ [(q, false, kz), (p, false, kz)] (x4.alloc (.cells (entC (q, false, kz) ++ entC (p, false, kz)).toArray 31)) (two_ents x4 (q, false, kz) (p, false, kz)).sl
          rw [HU1.out] at hT
          refine hT.mono ?_
          rintro e x5 ⟨v70, rfl, ho, hb⟩
          have hB5 := hid (below_step hB4a.out hb hB4a.out.size)
          clear hb hT ho
          go_wp2_with fail
          have hT := awake_any x5
          refine hT.mono ?_
          rintro e x6 ⟨rfl, hb⟩
          have hB6 := hid (below_step hB5.out hb hB5.out.size)
          clear hb hT
          go_wp2_with fail
          go_ret
          exact ⟨rfl, hB6.out⟩
        · go_enter Tryd.func6, Tryd.ntmps6
          have hmk := HMK1.out w
          have hcv := HCV1.out w
          go_wp2_with fail
          clear hmk hcv
          have hB0a := hid (hB0.out.alloc hB0.out.size (.cells (Lib.byteCells R1).toArray 5))
          have hT := DBlob_any R1 (w.alloc (.cells (Lib.byteCells R1).toArray 5))
          rw [HE1.out] at hT
          refine hT.mono ?_
          rintro e x1 ⟨u1, rfl, ho, hb⟩
          have hB1 := hid (below_step hB0a.out hb hB0a.out.size)
          clear hb hT ho
          have hmk := HMK2.out x1
          have hcv := HCV2.out x1
          go_wp2_with (refine wpList_build_rooted rfl (.const (.bool true)) (.tmp 35) rfl R2 rfl rfl ?_)
          clear hmk hcv
          have hB1a := hid (hB1.out.alloc hB1.out.size (.cells (Lib.byteCells R2).toArray 5))
          have hT := DCommit_any (true, kz, kz, R2, 0) (by show (0 : Nat) < 18446744073709551616; decide) (x1.alloc (.cells (Lib.byteCells R2).toArray 5))
          rw [HE2.out] at hT
          refine hT.mono ?_
          rintro e x2 ⟨u2, rfl, ho, hb⟩
          have hB2 := hid (below_step hB1a.out hb hB1a.out.size)
          clear hb hT ho
          go_wp2_with first | (refine wpList_build_path rfl (.tmp 52) rfl p rfl ?_) | (refine wpList_build_path rfl (.tmp 54) rfl q rfl ?_) | (refine wpList_lit_ent2 rfl (.tmp 53) (.tmp 55) rfl (p, false, kz) (q, false, kz) rfl rfl ?_)
          have hB2a := hid (hB2.out.alloc hB2.out.size (.cells (entC (p, false, kz) ++ entC (q, false, kz)).toArray 31))
          have hT := DTree_any _ [(p, false, kz), (q, false, kz)] (x2.alloc (.cells (entC (p, false, kz) ++ entC (q, false, kz)).toArray 31)) (two_ents x2 (p, false, kz) (q, false, kz)).sl
          rw [HT1.out] at hT
          refine hT.mono ?_
          rintro e x3 ⟨v52, rfl, ho, hb⟩
          have hB3 := hid (below_step hB2a.out hb hB2a.out.size)
          clear hb hT ho
          go_wp2_with first | (refine wpList_build_path rfl (.tmp 61) rfl p rfl ?_) | (refine wpList_build_path rfl (.tmp 63) rfl q rfl ?_) | (refine wpList_lit_ent2 rfl (.tmp 62) (.tmp 64) rfl (p, false, kz) (q, false, kz) rfl rfl ?_)
          have hB3a := hid (hB3.out.alloc hB3.out.size (.cells (entC (p, false, kz) ++ entC (q, false, kz)).toArray 31))
          have hT := RTree_any _ [(p, false, kz), (q, false, kz)] (x3.alloc (.cells (entC (p, false, kz) ++ entC (q, false, kz)).toArray 31)) (two_ents x3 (p, false, kz) (q, false, kz)).sl
          rw [HT1.out] at hT
          refine hT.mono ?_
          rintro e x4 ⟨v61, rfl, ho, hb⟩
          have hB4 := hid (below_step hB3a.out hb hB3a.out.size)
          clear hb hT ho
          go_wp2_with first | (refine wpList_build_path rfl (.tmp 70) rfl q rfl ?_) | (refine wpList_build_path rfl (.tmp 72) rfl p rfl ?_) | (refine wpList_lit_ent2 rfl (.tmp 71) (.tmp 73) rfl (q, false, kz) (p, false, kz) rfl rfl ?_)
          have hB4a := hid (hB4.out.alloc hB4.out.size (.cells (entC (q, false, kz) ++ entC (p, false, kz)).toArray 31))
          have hT := DTree_any _ [(q, false, kz), (p, false, kz)] (x4.alloc (.cells (entC (q, false, kz) ++ entC (p, false, kz)).toArray 31)) (two_ents x4 (q, false, kz) (p, false, kz)).sl
          rw [HU1.out] at hT
          refine hT.mono ?_
          rintro e x5 ⟨v70, rfl, ho, hb⟩
          have hB5 := hid (below_step hB4a.out hb hB4a.out.size)
          clear hb hT ho
          go_wp2_with fail
          have hT := awake_any x5
          refine hT.mono ?_
          rintro e x6 ⟨rfl, hb⟩
          have hB6 := hid (below_step hB5.out hb hB5.out.size)
          clear hb hT
          go_wp2_with fail
          go_ret
          exact ⟨rfl, hB6.out⟩
      · have g2 : decide (60 < (q.length : Int)) = true := decide_eq_true (by omega)
        clear h1 h2
        go_enter Tryd.func6, Tryd.ntmps6
        have hmk := HMK1.out w
        have hcv := HCV1.out w
        go_wp2_with fail
        clear hmk hcv
        have hB0a := hid (hB0.out.alloc hB0.out.size (.cells (Lib.byteCells R1).toArray 5))
        have hT := DBlob_any R1 (w.alloc (.cells (Lib.byteCells R1).toArray 5))
        rw [HE1.out] at hT
        refine hT.mono ?_
        rintro e x1 ⟨u1, rfl, ho, hb⟩
        have hB1 := hid (below_step hB0a.out hb hB0a.out.size)
        clear hb hT ho
        have hmk := HMK2.out x1
        have hcv := HCV2.out x1
        go_wp2_with (refine wpList_build_rooted rfl (.const (.bool true)) (.tmp 35) rfl R2 rfl rfl ?_)
        clear hmk hcv
        have hB1a := hid (hB1.out.alloc hB1.out.size (.cells (Lib.byteCells R2).toArray 5))
        have hT := DCommit_any (true, kz, kz, R2, 0) (by show (0 : Nat) < 18446744073709551616; decide) (x1.alloc (.cells (Lib.byteCells R2).toArray 5))
        rw [HE2.out] at hT
        refine hT.mono ?_
        rintro e x2 ⟨u2, rfl, ho, hb⟩
        have hB2 := hid (below_step hB1a.out hb hB1a.out.size)
        clear hb hT ho
        go_wp2_with fail
        have hT := awake_any x2
        refine hT.mono ?_
        rintro e x3 ⟨rfl, hb⟩
        have hB3 := hid (below_step hB2.out hb hB2.out.size)
        clear hb hT
        go_wp2_with fail
        go_ret
        exact ⟨rfl, hB3.out⟩
    · have g1 : decide (60 < (p.length : Int)) = true := decide_eq_true (by omega)
      clear h1
      go_enter Tryd.func6, Tryd.ntmps6
      have hmk := HMK1.out w
      have hcv := HCV1.out w
      go_wp2_with fail
      clear hmk hcv
      have hB0a := hid (hB0.out.alloc hB0.out.size (.cells (Lib.byteCells R1).toArray 5))
      have hT := DBlob_any R1 (w.alloc (.cells (Lib.byteCells R1).toArray 5))
      rw [HE1.out] at hT
      refine hT.mono ?_
      rintro e x1 ⟨u1, rfl, ho, hb⟩
      have hB1 := hid (below_step hB0a.out hb hB0a.out.size)
      clear hb hT ho
      have hmk := HMK2.out x1
      have hcv := HCV2.out x1
      go_wp2_with (refine wpList_build_rooted rfl (.const (.bool true)) (.tmp 35) rfl R2 rfl rfl ?_)
      clear hmk hcv
      have hB1a := hid (hB1.out.alloc hB1.out.size (.cells (Lib.byteCells R2).toArray 5))
      have hT := DCommit_any (true, kz, kz, R2, 0) (by show (0 : Nat) < 18446744073709551616; decide) (x1.alloc (.cells (Lib.byteCells R2).toArray 5))
      rw [HE2.out] at hT
      refine hT.mono ?_
      rintro e x2 ⟨u2, rfl, ho, hb⟩
      have hB2 := hid (below_step hB1a.out hb hB1a.out.size)
      clear hb hT ho
      go_wp2_with fail
      have hT := awake_any x2
      refine hT.mono ?_
      rintro e x3 ⟨rfl, hb⟩
      have hB3 := hid (below_step hB2.out hb hB2.out.size)
      clear hb hT
      go_wp2_with fail
      go_ret
      exact ⟨rfl, hB3.out⟩
end
theorem own : ownKnob Tryd.prog.godebug = none := by kernel_rfl
theorem laidOut : laidOutB Tryd.prog = true := by kernel_rfl
theorem laid_met (os : Os) : laidMet Tryd.prog Rows.objectBoundsRow.laid ((laidWorld os).forCall (fun _ _ => 0) ⟨#[], #[.int .i64 0, .string ByteArray.empty, .string ByteArray.empty], []⟩).memory :=
  laidMet_of_run' 8 (by kernel_rfl) (by kernel_rfl)
theorem reads (os : Os) {H : Type} (enc : TypeId × Value → H) : ∃ places, DataW.whole enc Tryd.prog ((laidWorld os).forCall (fun _ _ => 0) ⟨#[], #[.int .i64 0, .string ByteArray.empty, .string ByteArray.empty], []⟩).memory Tryd.f6.params.toList Rows.objectBoundsSpec.vars false (#[.int .i64 0, .string ByteArray.empty, .string ByteArray.empty] : Array Value).toList 8 = some ([.lit (.int .i64 0), .lit (.string []), .lit (.string [])], [], places) :=
  ⟨[], by kernel_rfl⟩

set_option maxRecDepth 100000 in
theorem contract (H : Type) (enc : TypeId × Value → H) (W : World) (base : Nat) (args : Array Value) (ds gs : List (DataW H)) (before : List MemPlace)
    (hval : ∀ (j : Nat) t v, Tryd.f6.params[j]? = some t → args[j]? = some v → Value.okWide Tryd.prog W .any base t v)
    (hW : DataW.Whole enc Tryd.prog Tryd.f6.params.toList Rows.objectBoundsSpec.vars false W args.toList ds gs before) (_hL : laidMetH Tryd.prog Rows.objectBoundsRow.laid W) :
    Calls Tryd.prog 6 args W fun e W' => ∃ v, e = .returned v ∧ Rows.objectBoundsSpec.post enc Tryd.prog Tryd.f6 false true false false W args v W' := by
  have hW' := hW
  obtain ⟨p, q, hA0, hV, rfl, hfz, hnd⟩ := hW
  have hA : DataW.TrodAll enc Tryd.prog W 0 (fun _ => true) true Tryd.f6.params.toList args.toList ds p := hA0
  rw [Tryd.params6] at hA hval
  obtain ⟨v0, vs0, d0, ds0, p0, q0, hargs, rfl, rfl, h0, r0⟩ := trodAll_cons hA
  obtain ⟨v1, vs1, d1, ds1, p1, q1, rfl, rfl, rfl, h1, r1⟩ := trodAll_cons r0
  obtain ⟨v2, vs2, d2, ds2, p2, q2, rfl, rfl, rfl, h2, r2⟩ := trodAll_cons r1
  obtain ⟨rfl, rfl, rfl⟩ := trodAll_nil r2
  obtain rfl : args = #[v0, v1, v2] := by cases args; simp_all
  obtain ⟨rfl, rfl⟩ := trodVars_none hV
  have k0 := h0
  have lt0 : ∀ x ∈ p0, x.block < W.heap.size := by obtain ⟨m, hm⟩ := k0; exact DataW.trod_lt m _ _ _ hm
  obtain ⟨a0, rfl, _, _, w0⟩ := open_int Tryd.underlying3 (hval 0 3 v0 rfl rfl) h0
  have k1 := h1
  have lt1 : ∀ x ∈ p1, x.block < W.heap.size := by obtain ⟨m, hm⟩ := k1; exact DataW.trod_lt m _ _ _ hm
  obtain ⟨a1, rfl, _, _, w1⟩ := open_str Tryd.underlying9 (hval 1 9 v1 rfl rfl) h1
  have k2 := h2
  have lt2 : ∀ x ∈ p2, x.block < W.heap.size := by obtain ⟨m, hm⟩ := k2; exact DataW.trod_lt m _ _ _ hm
  obtain ⟨a2, rfl, _, _, w2⟩ := open_str Tryd.underlying9 (hval 2 9 v2 rfl rfl) h2
  clear hA0
  refine (walk a0 a1 a2 W w0 w1 w2).mono fun e W' ⟨he, bel⟩ => ?_
  subst he
  exact ⟨_, rfl, _, _, _, [], _, [], hW', trodAll_mk1 (shut_bool Tryd.underlying4 _), (trodAll_cons_mk (Below.trod laidOut (by kernel_rfl) (of_decide_eq_true (by kernel_rfl)) k0 bel lt0) (trodAll_cons_mk (Below.trod laidOut (by kernel_rfl) (of_decide_eq_true (by kernel_rfl)) k1 bel lt1) (trodAll_cons_mk (Below.trod laidOut (by kernel_rfl) (of_decide_eq_true (by kernel_rfl)) k2 bel lt2) trodAll_mk0))), rfl, bel.frame _, fun h => by cases h⟩

set_option maxRecDepth 100000 in
theorem lifted (os : Os) (started : os.Started) (H : Type) (enc : TypeId × Value → H) (F : Stop.Interp) :
    ReturnsInHanded {} Tryd.checked os 6 .any ((OpenSpec.ofChange Rows.objectBoundsSpec).preRow enc Tryd.prog Tryd.f6 Rows.objectBoundsRow.domain false Rows.objectBoundsRow.laid) (((OpenSpec.ofChange Rows.objectBoundsSpec).at F).post enc Tryd.prog Tryd.f6 false true false false) := by
  obtain ⟨places, hx⟩ := reads os enc
  refine returnsInHanded_of_row (C := Tryd.checked) (s := OpenSpec.ofChange Rows.objectBoundsSpec) own started (by kernel_rfl) Tryd.func6
    (witness_row_at (enc := enc) (C := Tryd.checked) false (laidWorld os) #[.int .i64 0, .string ByteArray.empty, .string ByteArray.empty] rfl (by kernel_rfl) (by kernel_rfl) (by kernel_rfl)
      (OpenSpec.preRow_of_cond 8 hx (by kernel_rfl) (fun k hk => by cases hk) (by kernel_rfl) (laid_met os))) ?_
  intro W base args ds gs before hval hW _ _ _ hL _ _
  exact contract H enc W base args ds gs before hval hW hL

theorem said : Rows.ObjectBoundsSaid :=
  OpenClaim.holds_of_cond 6 Tryd.f6 rfl rfl rfl rfl rfl rfl rfl ⟨rfl, rfl, rfl, rfl, rfl⟩ rfl rfl rfl rfl rfl (by kernel_rfl) Tryd.func6 (by kernel_rfl)
    (of_decide_eq_true (by kernel_rfl)) (by unfold Func.isWrapper; first | (rw [if_pos (by decide +kernel)]; kernel_rfl) | (rw [if_neg (by decide +kernel)]; exact ⟨rfl, rfl⟩))
    (fun os started H enc _ F => by rw [OpenClaim.pre_eq_preRow]; exact lifted os started H enc F)

theorem plain (f : FuncId) (fn : Func) (hf : Tryd.pinned.checked.prog.funcNamed "rick/ricklaw15.ObjectBounds" = some f) (hfn : Tryd.pinned.checked.prog.funcs[f]? = some fn) :
    false = Tryd.pinned.checked.prog.looks [] ∧ ∀ (j : Nat) t, fn.params[j]? = some t → Tryd.pinned.checked.prog.wantsStandIn t = false := by
  obtain rfl : f = 6 := Option.some.inj ((show Tryd.prog.funcNamed "rick/ricklaw15.ObjectBounds" = some 6 by kernel_rfl).symm.trans hf) |>.symm
  obtain rfl : fn = Tryd.f6 := (Option.some.inj (Tryd.func6.symm.trans hfn)).symm
  refine ⟨by kernel_rfl, fun j t ht => ?_⟩
  rw [Tryd.params6] at ht
  have hm := Array.mem_of_getElem? ht
  simp only [List.mem_toArray, List.mem_cons, List.not_mem_nil, or_false] at hm
  rcases hm with rfl | rfl | rfl
  · exact (show Tryd.prog.wantsStandIn 3 = false by kernel_rfl)
  · exact (show Tryd.prog.wantsStandIn 9 = false by kernel_rfl)
  · exact (show Tryd.prog.wantsStandIn 9 = false by kernel_rfl)

/-- The statement. -/
theorem proved : Rows.ObjectBoundsCardSaid :=
  Claim7.holds_tied_plain_at .later [] _ _ _ _ said (fun _ h => by cases h) (by kernel_rfl) (fun _ h => by cases h) objectBounds_row_tie rfl ⟨rfl, rfl⟩ (by kernel_rfl) rfl plain (by kernel_rfl)
#print axioms proved
end Go.Proofs.YtbcpfakdmnccmaaDoor.objectBounds
