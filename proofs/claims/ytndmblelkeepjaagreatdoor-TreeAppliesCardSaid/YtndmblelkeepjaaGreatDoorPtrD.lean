/-
  Package tree (landed): drop, put of a tree, each by a contract.
-/
import Derived.Test.YtndmblelkeepjaaGreatDoorPtrB
import Derived.Test.YtndmblelkeepjaaGreatDoorPtrC
import Derived.Test.YtndmblelkeepjaaGreatDoorTrN
namespace Go.Proofs.YtndmblelkeepjaaGreatDoor
open Go.RowKit
open BigFrame

section
set_option maxRecDepth 100000
set_option maxHeartbeats 4000000
theorem IsTree.dropS_eq {l : List FileS} (h : IsTree l) (p : Txt) : dropS l p = if (findS l p).isSome = true then (withoutS l p, 0) else ([], 8) := by
  unfold dropS
  rw [if_pos ((rightT_iff l).2 h)]
theorem PDrop_any (v : Value) (l : List FileS) (p : Txt) (w : World) (hv : SlF w v l) (ht : IsTree l) :
    Calls Tryz.prog 38 #[v, strV p] w fun e w' => ∃ u, e = .returned (.tuple #[u, .int .i64 (dropS l p).2]) ∧ OwnF w' w.heap.size u (dropS l p).1 ∧ Below w.heap.size w w' := by
  obtain ⟨ao, cap, rfl⟩ := hv.form
  have HV := hid hv
  have HS := hid (DSearch_any _ l p w hv ht.rise (by have := ht.len; omega))
  have hd := ht.dropS_eq p
  have HL := hid ht.len
  obtain ⟨n, hn⟩ : ∃ n, aheadS l p = n := ⟨_, rfl⟩
  cases hs : (findS l p).isSome with
  | false =>
    rw [hs] at hd HS
    have HD := hid (show dropS l p = ([], 8) by rw [hd]; rfl)
    rw [hn] at HS
    clear hd hs hv hn ht
    unfold strV at HS ⊢
    go_enter Tryz.func38, Tryz.ntmps38
    go_wp2_with (go_at_call 46; refine HS.out.mono ?_; rintro e w1 ⟨rfl, hb1⟩; have HB1 := hid hb1; clear hb1)
    refine bodyPost_ret (results_tmp2 rfl _ _ _) rfl ?_
    rw [HD.out]
    exact ⟨_, rfl, World.ownsRow_nil _ _ _ _, HB1.out⟩
  | true =>
    obtain ⟨g1, g2⟩ := without_cut ht.rise hs
    rw [hs] at hd HS
    rw [hn] at g1 g2 HS
    have HD := hid (show dropS l p = (l.take n ++ l.drop (n + 1), 0) by rw [hd, if_pos rfl, g2])
    obtain ⟨i0, hi0, hi1, hi2, hi3⟩ := info_parts Tryz.infoFile
    have hcut := SlR.cut_to (P := Tryz.prog) Tryz.underlying22 hi0 hv (j := n) (by omega)
    obtain ⟨ao2, c2', hsl2, hs2⟩ := SlR.cut_from (P := Tryz.prog) Tryz.underlying22 hi0 hi2 hv (i := n + 1) (by omega)
    obtain ⟨m, hm⟩ : ∃ m, n + 1 = m := ⟨_, rfl⟩
    rw [hm] at hsl2 hs2 HD
    have mw : wrap64 ((n : Int) + 1) = (m : Int) := by unfold wrap64; have := HL.out; omega
    have mw2 : IntKind.i64.wrap ((n : Int) + 1) = (m : Int) := (IntWalk.i64_in _ (by have := HL.out; omega)).trans (by omega)
    have hsl1 := hcut.1
    have H1 := hid hcut.2
    have H2 := hid hs2
    have HLT := hid (show (l.take n).length ≤ 100 ∧ (l.drop m).length ≤ 100 by have := HL.out; simp; omega)
    have n0 : (0 : Int) ≤ (n : Int) := Int.natCast_nonneg _
    clear hd hs hv hn ht hcut hs2 hi0 hi1 hi2 hi3 hm g1 g2
    obtain ⟨L2, hL2⟩ : ∃ L2, l.length - m = L2 := ⟨_, rfl⟩
    rw [hL2] at hsl2 H2
    clear hL2
    unfold strV at HS ⊢
    go_enter Tryz.func38, Tryz.ntmps38
    go_wp2_with (go_at_call 46; refine HS.out.mono ?_; rintro e w1 ⟨rfl, hb1⟩; have HB1 := hid hb1; clear hb1)
    have HCC := hid (show Calls Tryz.prog 47 #[.slice (some ⟨w1.drew.heap.size, 0, none⟩) 2 2] (w1.drew.alloc (.cells #[.slice ao n cap, .slice ao2 L2 c2'] 22)) _ from
      PConcat_any w1.drew.heap.size 0 [(.slice ao n cap, l.take n), (.slice ao2 L2 c2', l.drop m)] (w1.drew.alloc (.cells #[.slice ao n cap, .slice ao2 L2 c2'] 22)) (fun i v x hx => by
        match i, hx with
        | 0, hx => cases hx; exact ⟨blk_cell (i := 0) (heap_alloc_new _ _) rfl, (H1.out.old HB1.out).alloc _⟩
        | 1, hx => cases hx; exact ⟨blk_cell (i := 1) (heap_alloc_new _ _) rfl, (H2.out.old HB1.out).alloc _⟩
        | i + 2, hx => simp at hx) (by have := HLT.out; simp only [sumLen]; omega) (by simp))
    go_region_law (go_simp; go_at_call 47; refine HCC.out.mono ?_; rintro e w2 ⟨u2, rfl, ho2, hb2⟩; have HO2 := hid (show OwnF w2 w.heap.size u2 (l.take n ++ l.drop m) from by have h := owns_lower ho2 (show w.heap.size ≤ _ from Nat.le_trans HB1.out.size (by simp)); simpa only [catS, List.flatMap_cons, List.flatMap_nil, List.append_nil] using h); have HB2 := hid ((HB1.out.drew.alloc HB1.out.size _).trans (hb2.mono (Nat.le_trans HB1.out.size (by simp)))); clear ho2 hb2; go_simp)
    all_goals (
      go_wp2_with fail
      refine bodyPost_ret (results_tmp2 rfl _ _ _) rfl ?_
      rw [HD.out]
      exact ⟨_, rfl, HO2.out, HB2.out⟩)
theorem IsTree.putS_eq {l : List FileS} (h : IsTree l) (f : FileS) : putS l f = if rightS f.1 = true then (if f.2.2.length ≤ 20000 then (if (findS l f.1).isSome = true then (l.take (aheadS l f.1) ++ [f] ++ l.drop (aheadS l f.1 + 1), 0) else if anyClash l f.1 = true then ([], 11) else if 100 ≤ l.length then ([], 6) else (l.take (aheadS l f.1) ++ [f] ++ l.drop (aheadS l f.1), 0)) else ([], 6)) else ([], 11) := by
  unfold putS
  rw [if_pos ((rightT_iff l).2 h)]
  by_cases h1 : rightS f.1 = true
  · rw [if_pos h1, if_pos h1]
    by_cases h2 : f.2.2.length ≤ 20000
    · rw [if_pos h2, if_pos h2]
      cases hs : (findS l f.1).isSome with
      | true => rw [if_pos rfl, if_neg (by simp), if_neg (by simp), sorted_cut h.rise hs]
      | false =>
        have hn : findS l f.1 = none := by
          cases e : findS l f.1 with
          | none => rfl
          | some g => rw [e] at hs; cases hs
        have hc : anyClash l f.1 = clashesS l f.1 := any_clash hn
        rw [hc, without_none (find_none.1 hn)]
        simp only [Bool.not_false, Bool.true_and, Bool.false_eq_true, if_false, decide_eq_true_eq]
        rfl
    · rw [if_neg h2, if_neg h2]
  · rw [if_neg h1, if_neg h1]
theorem okOne_len {f : FileS} (h : okOne f = true) : f.1.length ≤ 1000000 := by
  unfold okOne rightS at h
  simp only [Bool.and_eq_true, decide_eq_true_eq] at h
  omega
theorem PPut_any (v : Value) (l : List FileS) (f : FileS) (w : World) (hv : SlF w v l) (ht : IsTree l) :
    Calls Tryz.prog 34 #[v, fileV f] w fun e w' => ∃ u, e = .returned (.tuple #[u, .int .i64 (putS l f).2]) ∧ OwnF w' w.heap.size u (putS l f).1 ∧ Below w.heap.size w w' := by
  obtain ⟨ao, cap, rfl⟩ := hv.form
  obtain ⟨p, x, t⟩ := f
  have HB0 := hid ((Below.refl _ w).alloc (Nat.le_refl w.heap.size) (.cells #[.string ⟨p.toArray⟩, .bool x, .string ⟨t.toArray⟩] 35))
  have HV := hid (hv.old HB0.out)
  have hg := heap_alloc_new w (.cells #[.string ⟨p.toArray⟩, .bool x, .string ⟨t.toArray⟩] 35)
  have HC0 := hid (blk_cell (i := 0) hg rfl)
  have HC1 := hid (blk_cell (i := 1) hg rfl)
  have HC2 := hid (blk_cell (i := 2) hg rfl)
  have hD := ht.putS_eq (p, x, t)
  have HT := hid ht
  clear hv hg ht
  unfold fileV strV
  go_enter Tryz.func34, Tryz.ntmps34
  go_wp2_with fail
  generalize w.alloc (.cells #[.string ⟨p.toArray⟩, .bool x, .string ⟨t.toArray⟩] 35) = W at HV HB0 HC0 HC1 HC2 ⊢
  generalize w.heap.size = g at HC0 HC1 HC2 ⊢
  have HK := hid (Below.refl W.heap.size W)
  have HW := hid (fun (wy : World) => DWrong_any (p, x, t) wy)
  unfold fileV strV at HW
  obtain ⟨rp, hrp⟩ : ∃ r, rightS p = r := ⟨_, rfl⟩
  have c0 := HC0.out
  have c1 := HC1.out
  have c2 := HC2.out
  rw [hrp] at hD
  cases rp with
  | false =>
    have HD := hid (show putS l (p, x, t) = ([], 11) by rw [hD]; rfl)
    rw [show wrongS (p, x, t) = 11 by unfold wrongS; rw [hrp]; rfl] at HW
    clear hD hrp
    go_wp2_with (go_at_call 35; refine (HW.out _).mono ?_; rintro e w1 ⟨rfl, hb1⟩; have HK := hid (below_step HK.out hb1 HK.out.size); clear hb1)
    refine bodyPost_ret (results_tmp2 rfl _ _ _) rfl ?_
    rw [HD.out]
    exact ⟨_, rfl, World.ownsRow_nil _ _ _ _, below_step HB0.out HK.out HB0.out.size⟩
  | true =>
  by_cases htx : t.length ≤ 20000
  case neg =>
    have HD := hid (show putS l (p, x, t) = ([], 6) by rw [hD, if_pos rfl, if_neg htx])
    rw [show wrongS (p, x, t) = 6 by unfold wrongS; rw [hrp, if_pos rfl, if_neg htx]] at HW
    clear hD hrp htx
    go_wp2_with (go_at_call 35; refine (HW.out _).mono ?_; rintro e w1 ⟨rfl, hb1⟩; have HK := hid (below_step HK.out hb1 HK.out.size); clear hb1)
    refine bodyPost_ret (results_tmp2 rfl _ _ _) rfl ?_
    rw [HD.out]
    exact ⟨_, rfl, World.ownsRow_nil _ _ _ _, below_step HB0.out HK.out HB0.out.size⟩
  rw [show wrongS (p, x, t) = 0 by unfold wrongS; rw [hrp, if_pos rfl, if_pos htx]] at HW
  have HPL := hid (show p.length ≤ 1000000 by unfold rightS at hrp; simp only [Bool.and_eq_true, decide_eq_true_eq] at hrp; omega)
  have HS := hid (fun (wy : World) (h : Below W.heap.size W wy) => DSearch_any _ l p wy (HV.out.old h) HT.out.rise (by have := HT.out.len; omega))
  have HCl := hid (fun (wy : World) (h : Below W.heap.size W wy) => DClashes_any _ l p wy (HV.out.old h) (by have := HT.out.len; omega) (fun f hf => okOne_len (HT.out.ok f hf)) HPL.out)
  rw [if_pos rfl, if_pos htx] at hD
  obtain ⟨i0, hi0, hi1, hi2, hi3⟩ := info_parts Tryz.infoFile
  have HL := hid HT.out.len
  obtain ⟨n, hn⟩ : ∃ n, aheadS l p = n := ⟨_, rfl⟩
  have hnl := aheadS_le l p
  have hfa := fun h => (without_cut (l := l) (p := p) HT.out.rise h).1
  obtain ⟨is, his⟩ : ∃ z, (findS l p).isSome = z := ⟨_, rfl⟩
  rw [hn] at hD HS hnl hfa
  rw [his] at hD HS hfa
  unfold strV at HS HCl
  have hcut := SlR.cut_to (P := Tryz.prog) Tryz.underlying22 hi0 HV.out (j := n) hnl
  have hsl1 := hcut.1
  have H1 := hid hcut.2
  have n0 : (0 : Int) ≤ (n : Int) := Int.natCast_nonneg _
  have HGW := hid (World.block_lt_of_cell? W _ c0)
  clear hrp htx hn his hcut
  have key : ∀ (Y : World) (m L2 c2' : Nat) (ao2 : Option Addr), Below W.heap.size W Y → SlF W (.slice ao2 L2 c2') (l.drop m) →
      Calls Tryz.prog 47 #[.slice (some ⟨Y.heap.size + 1, 0, none⟩) 3 3] ((Y.drew.alloc (.cells #[.string ⟨p.toArray⟩, .bool x, .string ⟨t.toArray⟩] 35)).alloc (.cells #[.slice ao n cap, .slice (some ⟨Y.heap.size, 0, none⟩) 1 1, .slice ao2 L2 c2'] 22)) fun e w' => ∃ u, e = .returned u ∧ OwnF w' w.heap.size u (l.take n ++ [(p, x, t)] ++ l.drop m) ∧ Below w.heap.size w w' := by
    intro Y m L2 c2' ao2 hY h2
    have hz : Y.heap.size + 1 = (Y.drew.alloc (.cells #[.string ⟨p.toArray⟩, .bool x, .string ⟨t.toArray⟩] 35)).heap.size := by simp
    have hbw := below_step HB0.out hY HB0.out.size
    have hw2 : w.heap.size ≤ Y.heap.size := hbw.size
    have ha1 : Below Y.heap.size Y (Y.drew.alloc (.cells #[.string ⟨p.toArray⟩, .bool x, .string ⟨t.toArray⟩] 35)) := ((Below.refl _ Y).drew).alloc (Nat.le_refl _) _
    have hone : SlF (Y.drew.alloc (.cells #[.string ⟨p.toArray⟩, .bool x, .string ⟨t.toArray⟩] 35)) (.slice (some ⟨Y.heap.size, 0, none⟩) 1 1) [(p, x, t)] := SlR.one (heap_alloc_new Y.drew _) rfl
    have hb2 := below_step hbw ha1 hw2
    refine (PConcat_any (Y.heap.size + 1) 0 [(.slice ao n cap, l.take n), (.slice (some ⟨Y.heap.size, 0, none⟩) 1 1, [(p, x, t)]), (.slice ao2 L2 c2', l.drop m)] _ (fun i v q hx => ?_) ?_ (by simp)).mono ?_
    · match i, hx with
      | 0, hx => cases hx; exact ⟨blk_cell (i := 0) (by rw [hz]; exact heap_alloc_new _ _) rfl, ((H1.out.old hY).old ha1).alloc _⟩
      | 1, hx => cases hx; exact ⟨blk_cell (i := 1) (by rw [hz]; exact heap_alloc_new _ _) rfl, hone.alloc _⟩
      | 2, hx => cases hx; exact ⟨blk_cell (i := 2) (by rw [hz]; exact heap_alloc_new _ _) rfl, ((h2.old hY).old ha1).alloc _⟩
      | i + 3, hx => simp at hx
    · have := HL.out
      simp only [sumLen, List.length_take, List.length_drop, List.length_singleton]
      omega
    · rintro e w2 ⟨u2, rfl, ho2, hbb⟩
      have hb3 := hb2.alloc hb2.size (.cells #[.slice ao n cap, .slice (some ⟨Y.heap.size, 0, none⟩) 1 1, .slice ao2 L2 c2'] 22)
      refine ⟨u2, rfl, ?_, below_step hb3 hbb hb3.size⟩
      have h := owns_lower ho2 hb3.size
      simpa only [catS, List.flatMap_cons, List.flatMap_nil, List.append_nil, List.append_assoc] using h
  have KEY := hid key
  clear key
  cases is with
  | true =>
    have HD := hid (show putS l (p, x, t) = (l.take n ++ [(p, x, t)] ++ l.drop (n + 1), 0) by rw [hD, if_pos rfl])
    have g1 := hfa rfl
    obtain ⟨ao2, c2', hsl2, hs2⟩ := SlR.cut_from (P := Tryz.prog) Tryz.underlying22 hi0 hi2 HV.out (i := n + 1) (by omega)
    obtain ⟨m, hm⟩ : ∃ m, n + 1 = m := ⟨_, rfl⟩
    rw [hm] at hsl2 hs2 HD
    have mw : wrap64 ((n : Int) + 1) = (m : Int) := by unfold wrap64; have := HL.out; omega
    have mw2 : IntKind.i64.wrap ((n : Int) + 1) = (m : Int) := (IntWalk.i64_in _ (by have := HL.out; omega)).trans (by omega)
    have H2 := hid hs2
    obtain ⟨L2, hL2⟩ : ∃ L2, l.length - m = L2 := ⟨_, rfl⟩
    rw [hL2] at hsl2 H2
    clear hL2 hs2 hm g1 hD hfa hnl hi0 hi1 hi2 hi3
    go_wp2_with (first
      | (go_at_call 35; refine (HW.out _).mono ?_; rintro e w1 ⟨rfl, hb1⟩; have HK := hid (below_step HK.out hb1 HK.out.size); have c0 := below_cell HK.out HC0.out; have c1 := below_cell HK.out HC1.out; have c2 := below_cell HK.out HC2.out; clear hb1)
      | (go_at_call 46; refine (HS.out _ HK.out).mono ?_; rintro e Y ⟨rfl, hb1⟩; have HK := hid (below_step HK.out hb1 HK.out.size); have c0 := below_cell HK.out HC0.out; have c1 := below_cell HK.out HC1.out; have c2 := below_cell HK.out HC2.out; clear hb1))
    have HCC := hid (KEY.out Y m L2 c2' ao2 HK.out H2.out)
    go_region_law (go_simp; go_at_call 47; refine HCC.out.mono ?_; rintro e w2 ⟨u2, rfl, ho2, hb2⟩; have HO2 := hid ho2; have HB2 := hid hb2; clear ho2 hb2; go_simp)
    all_goals (
      go_wp2_with fail
      refine bodyPost_ret (results_tmp2 rfl _ _ _) rfl ?_
      rw [HD.out]
      exact ⟨_, rfl, HO2.out, HB2.out⟩)
  | false =>
  rw [if_neg (by simp)] at hD
  obtain ⟨y, hy⟩ : ∃ z, anyClash l p = z := ⟨_, rfl⟩
  rw [hy] at hD HCl
  clear hy hfa
  cases y with
  | true =>
    have HD := hid (show putS l (p, x, t) = ([], 11) by rw [hD]; rfl)
    clear hD hnl hi0 hi1 hi2 hi3
    go_wp2_with (first
      | (go_at_call 35; refine (HW.out _).mono ?_; rintro e w1 ⟨rfl, hb1⟩; have HK := hid (below_step HK.out hb1 HK.out.size); have c0 := below_cell HK.out HC0.out; have c1 := below_cell HK.out HC1.out; have c2 := below_cell HK.out HC2.out; clear hb1)
      | (go_at_call 46; refine (HS.out _ HK.out).mono ?_; rintro e w2 ⟨rfl, hb1⟩; have HK := hid (below_step HK.out hb1 HK.out.size); have c0 := below_cell HK.out HC0.out; have c1 := below_cell HK.out HC1.out; have c2 := below_cell HK.out HC2.out; clear hb1)
      | (go_at_call 48; refine (HCl.out _ HK.out).mono ?_; rintro e w3 ⟨rfl, hb1⟩; have HK := hid (below_step HK.out hb1 HK.out.size); clear hb1))
    refine bodyPost_ret (results_tmp2 rfl _ _ _) rfl ?_
    rw [HD.out]
    exact ⟨_, rfl, World.ownsRow_nil _ _ _ _, below_step HB0.out HK.out HB0.out.size⟩
  | false =>
  rw [if_neg (by simp)] at hD
  by_cases h100 : 100 ≤ l.length
  · have z1 : decide (100 ≤ (l.length : Int)) = true := decide_eq_true (by omega)
    have z2 : decide (100 ≤ l.length) = true := decide_eq_true h100
    have HD := hid (show putS l (p, x, t) = ([], 6) by rw [hD, if_pos h100])
    clear hD hnl hi0 hi1 hi2 hi3 h100
    go_wp2_with (first
      | (go_at_call 35; refine (HW.out _).mono ?_; rintro e w1 ⟨rfl, hb1⟩; have HK := hid (below_step HK.out hb1 HK.out.size); have c0 := below_cell HK.out HC0.out; have c1 := below_cell HK.out HC1.out; have c2 := below_cell HK.out HC2.out; clear hb1)
      | (go_at_call 46; refine (HS.out _ HK.out).mono ?_; rintro e w2 ⟨rfl, hb1⟩; have HK := hid (below_step HK.out hb1 HK.out.size); have c0 := below_cell HK.out HC0.out; have c1 := below_cell HK.out HC1.out; have c2 := below_cell HK.out HC2.out; clear hb1)
      | (go_at_call 48; refine (HCl.out _ HK.out).mono ?_; rintro e w3 ⟨rfl, hb1⟩; have HK := hid (below_step HK.out hb1 HK.out.size); clear hb1))
    refine bodyPost_ret (results_tmp2 rfl _ _ _) rfl ?_
    rw [HD.out]
    exact ⟨_, rfl, World.ownsRow_nil _ _ _ _, below_step HB0.out HK.out HB0.out.size⟩
  · have z1 : decide (100 ≤ (l.length : Int)) = false := decide_eq_false (by omega)
    have z2 : decide (100 ≤ l.length) = false := decide_eq_false h100
    have HD := hid (show putS l (p, x, t) = (l.take n ++ [(p, x, t)] ++ l.drop n, 0) by rw [hD, if_neg h100])
    obtain ⟨ao2, c2', hsl2, hs2⟩ := SlR.cut_from (P := Tryz.prog) Tryz.underlying22 hi0 hi2 HV.out (i := n) hnl
    have H2 := hid hs2
    obtain ⟨L2, hL2⟩ : ∃ L2, l.length - n = L2 := ⟨_, rfl⟩
    rw [hL2] at hsl2 H2
    clear hL2 hs2 hD hnl hi0 hi1 hi2 hi3 h100
    go_wp2_with (first
      | (go_at_call 35; refine (HW.out _).mono ?_; rintro e w1 ⟨rfl, hb1⟩; have HK := hid (below_step HK.out hb1 HK.out.size); have c0 := below_cell HK.out HC0.out; have c1 := below_cell HK.out HC1.out; have c2 := below_cell HK.out HC2.out; clear hb1)
      | (go_at_call 46; refine (HS.out _ HK.out).mono ?_; rintro e w2 ⟨rfl, hb1⟩; have HK := hid (below_step HK.out hb1 HK.out.size); have c0 := below_cell HK.out HC0.out; have c1 := below_cell HK.out HC1.out; have c2 := below_cell HK.out HC2.out; clear hb1)
      | (go_at_call 48; refine (HCl.out _ HK.out).mono ?_; rintro e Y ⟨rfl, hb1⟩; have HK := hid (below_step HK.out hb1 HK.out.size); have c0 := below_cell HK.out HC0.out; have c1 := below_cell HK.out HC1.out; have c2 := below_cell HK.out HC2.out; clear hb1))
    have HCC := hid (KEY.out Y n L2 c2' ao2 HK.out H2.out)
    go_region_law (go_simp; go_at_call 47; refine HCC.out.mono ?_; rintro e w2 ⟨u2, rfl, ho2, hb2⟩; have HO2 := hid ho2; have HB2 := hid hb2; clear ho2 hb2; go_simp)
    all_goals (
      go_wp2_with fail
      refine bodyPost_ret (results_tmp2 rfl _ _ _) rfl ?_
      rw [HD.out]
      exact ⟨_, rfl, HO2.out, HB2.out⟩)
end
end Go.Proofs.YtndmblelkeepjaaGreatDoor
