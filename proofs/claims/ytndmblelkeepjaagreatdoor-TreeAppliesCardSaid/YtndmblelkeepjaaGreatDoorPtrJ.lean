/-
  Package tree (landed): Changes, by a contract.
-/
import Derived.Test.YtndmblelkeepjaaGreatDoorPtrS
import Derived.Test.YtndmblelkeepjaaGreatDoorEqF
import Derived.Deep.RegionLaw
import Derived.Deep.QuietTactic
namespace Go.Proofs.YtndmblelkeepjaaGreatDoor
open Go.RowKit
open BigFrame

/-- the first place of a path leads to the first file of it -/
theorem idx_find (l : List FileS) (p : Txt) : match idxS (l.map (·.1)) p with | some i => ∃ f, l[i]? = some f ∧ findS l p = some f | none => findS l p = none := by
  unfold idxS findS
  induction l with
  | nil => simp
  | cons f r ih =>
    rw [List.map_cons, List.findIdx?_cons, List.find?_cons]
    cases h : f.1 == p with
    | true => exact ⟨f, by simp, rfl⟩
    | false =>
      simp only [Bool.false_eq_true, if_false]
      cases hi : List.findIdx? (· == p) (r.map (·.1)) with
      | none =>
        rw [hi] at ih
        simpa using ih
      | some i =>
        rw [hi] at ih
        obtain ⟨g, h1, h2⟩ := ih
        exact ⟨g, by simpa using h1, h2⟩
section
set_option maxRecDepth 100000
set_option maxHeartbeats 4000000
theorem DChanges_any (v v2 : Value) (a b : List FileS) (w : World) (hv : SlF w v a) (hv2 : SlF w v2 b) (hla : a.length ≤ 10000) (hlb : b.length ≤ 10000) (hpa : ∀ f ∈ a, f.1.length ≤ maxLen) (hpb : ∀ f ∈ b, f.1.length ≤ maxLen) :
    Calls Tryz.prog 11 #[v, v2] w fun e w' => ∃ u, e = .returned u ∧ OwnH w' w.heap.size u (changesS a b) ∧ Below w.heap.size w w' := by
  obtain ⟨ao, cap, rfl⟩ := hv.form
  obtain ⟨bo, cbp, rfl⟩ := hv2.form
  have HV := hid hv
  have HV2 := hid hv2
  have HL := hid (And.intro hla hlb)
  have HPA := hid hpa
  have HPB := hid hpb
  have HOa := hid (fun (wy : World) (h : Below w.heap.size w wy) => DPathsOf_any _ a wy (HV.out.old h) (by omega))
  have HOb := hid (fun (wy : World) (h : Below w.heap.size w wy) => DPathsOf_any _ b wy (HV2.out.old h) (by omega))
  have HMa := hid (fun (u : Value) (wy : World) (h : SlT wy u (a.map (·.1))) => DPlaces_any u (a.map (·.1)) wy h (by rw [List.length_map]; omega) (fun p hp' => by
    obtain ⟨f, hf, rfl⟩ := List.mem_map.1 hp'
    exact hpa f hf))
  have HMb := hid (fun (u : Value) (wy : World) (h : SlT wy u (b.map (·.1))) => DPlaces_any u (b.map (·.1)) wy h (by rw [List.length_map]; omega) (fun p hp' => by
    obtain ⟨f, hf, rfl⟩ := List.mem_map.1 hp'
    exact hpb f hf))
  have HPE := hid (paths_eq a b)
  have HPL := hid (show (pathsOf (a ++ b)).length ≤ 20000 from Nat.le_trans (pathsOf_len _) (by rw [List.length_append]; omega))
  have HPM := hid (show ∀ p ∈ pathsOf (a ++ b), p.length ≤ maxLen from fun p hp => by
    obtain ⟨f, hf, rfl⟩ := (paths_mem _ _).1 hp
    rcases List.mem_append.1 hf with h | h
    · exact hpa f h
    · exact hpb f h)
  have HCS := hid (show changesS a b = (pathsOf (a ++ b)).flatMap (changeOne a b) from rfl)
  obtain ⟨P, hP⟩ : ∃ P, pathsOf (a ++ b) = P := ⟨_, rfl⟩
  rw [hP] at HPE HPL HPM HCS
  have HLA := hid (show (a.map (·.1)).length ≤ 10000 ∧ (b.map (·.1)).length ≤ 10000 by simp; exact ⟨hla, hlb⟩)
  clear hv hv2 hla hlb hpa hpb hP
  obtain ⟨PA, hPA⟩ : ∃ P, a.map (·.1) = P := ⟨_, rfl⟩
  obtain ⟨PB, hPB⟩ : ∃ P, b.map (·.1) = P := ⟨_, rfl⟩
  have HIa := hid (fun p => idx_find a p)
  have HIb := hid (fun p => idx_find b p)
  rw [hPA] at HOa HMa HPE HLA HIa
  rw [hPB] at HOb HMb HPE HLA HIb
  have HPA2 := hid hPA
  have HPB2 := hid hPB
  clear hPA hPB
  have HK := hid (Below.refl w.heap.size w)
  go_enter Tryz.func11, Tryz.ntmps11
  go_upto_region 2 with (first
    | (go_at_call 29; with_reducible refine (HOa.out _ HK.out).mono ?_; rintro e w1 ⟨u1, rfl, ho1, hb1⟩; have HO1 := hid ho1.sl; have HK1 := hid (below_step HK.out hb1 HK.out.size); clear ho1 hb1)
    | (go_at_call 28; with_reducible refine (HMa.out _ _ HO1.out).mono ?_; rintro e w2 ⟨ga, rfl, hga, hma, hb2⟩; have HM1 := hid hma; have HK2 := hid (below_step HK1.out hb2 HK1.out.size); clear hga hma hb2)
    | (go_at_call 29; with_reducible refine (HOb.out _ HK2.out).mono ?_; rintro e w3 ⟨u3, rfl, ho3, hb3⟩; have HO3 := hid ho3.sl; have HM3 := hid (HM1.out.old hb3); have HK3 := hid (below_step HK2.out hb3 HK2.out.size); clear ho3 hb3)
    | (go_at_call 28; with_reducible refine (HMb.out _ _ HO3.out).mono ?_; rintro e w4 ⟨gb, rfl, hgb, hmb, hb4⟩; have HMB := hid hmb; have HMA := hid (HM3.out.old hb4); have HK4 := hid (below_step HK3.out hb4 HK3.out.size); clear hgb hmb hb4))
  clear HOa HMa HMb HO1 HO3 HM1 HM3 HK HK1 HK2 HK3
  have HOa := hid (fun (wy : World) (h : Below w4.heap.size w4 wy) => DPathsOf_any _ a wy (HV.out.old (below_step HK4.out h HK4.out.size)) (by have := HL.out; omega))
  have HOb := hid (fun (wy : World) (h : Below w4.heap.size w4 wy) => DPathsOf_any _ b wy (HV2.out.old (below_step HK4.out h HK4.out.size)) (by have := HL.out; omega))
  rw [HPA2.out] at HOa
  rw [HPB2.out] at HOb
  have HK := hid (Below.refl w4.heap.size w4)
  go_wp2_with (first
    | (go_at_call 29; with_reducible refine (HOa.out _ HK.out).mono ?_; rintro e w5 ⟨u5, rfl, ho5, hb5⟩; obtain ⟨xo5, xc5, rfl⟩ := owns_form ho5; have HO5 := hid ho5; have HK5 := hid (HK.out.trans hb5); clear ho5 hb5)
    | (go_at_call 29; with_reducible refine (HOb.out _ HK5.out).mono ?_; rintro e w6 ⟨u6, rfl, ho6, hb6⟩; obtain ⟨xo6, xc6, rfl⟩ := owns_form ho6; have HO6 := hid ho6.sl; have HO56 := hid (owns_below HO5.out hb6); have HK6 := hid (below_step HK5.out hb6 HK5.out.size); clear ho6 hb6)
    | (at_builtin; refine wpList_append_ts rfl (.tmp 22) (.tmp 24) rfl w4.heap.size _ PA PB rfl HO56.out _ rfl HO6.out (by have := HLA.out; omega) HK6.out.size ?_; intro v7 w7 ho7 hb7; have HO7 := hid ho7; have HK7 := hid (HK6.out.trans hb7); clear ho7 hb7)
    | (go_at_call 30; with_reducible refine (PSort_any _ _ _ w4.heap.size HK7.out.size HO7.out (by have := HLA.out; rw [List.length_append]; omega)).mono ?_; rintro e w8 ⟨rfl, ho8, hb8⟩; have HO8 := hid ho8; have HK8 := hid (HK7.out.trans hb8); clear ho8 hb8)
    | (go_at_call 31; with_reducible refine (PCompact_any _ _ _ w4.heap.size HK8.out.size HO8.out (by have := HLA.out; rw [List.length_mergeSort, List.length_append]; omega)).mono ?_; rintro e w9 ⟨u9, rfl, ho9, hb9⟩; rw [HPE.out] at ho9; obtain ⟨xo9, xc9, rfl⟩ := owns_form ho9; have HO9 := hid ho9.sl; have HK9 := hid (HK8.out.trans hb9); clear ho9 hb9))
  obtain ⟨na, Da, hma1, hma2⟩ := HMA.out
  obtain ⟨nb, Db, hmb1, hmb2⟩ := HMB.out
  have HMAo := hid (hma1.old HK9.out)
  have HMBo := hid (hmb1.old HK9.out)
  have HSA := hid hma2
  have HSB := hid hmb2
  have HVa := hid (HV.out.old (below_step HK4.out HK9.out HK4.out.size))
  have HVb := hid (HV2.out.old (below_step HK4.out HK9.out HK4.out.size))
  clear hma1 hma2 hmb1 hmb2
  go_loopg [8, 31] P.length (fun g r i wr => ∃ (k : Nat) (X : List ChangeS), k ≤ P.length ∧ P.length - k = g ∧ i = .int .i64 k ∧ Hid (X ++ (P.drop k).flatMap (changeOne a b) = changesS a b) ∧ Hid (OwnH wr w9.heap.size r X) ∧ X.length ≤ k ∧ Hid (Below w9.heap.size w9 wr))
  case atStart => exact ⟨0, [], Nat.zero_le _, rfl, rfl, hid (by rw [HCS.out]; rfl), hid (World.ownsRow_nil _ _ _ _), Nat.zero_le _, hid (Below.refl _ _)⟩
  case round =>
    obtain ⟨k, X, hk, rfl, rfl, HX, HN, hXl, HB⟩ := hrel
    have hz := HB.out.size
    have k0 : (0 : Int) ≤ (k : Int) := Int.natCast_nonneg _
    have HXL := hid (show X.length ≤ 20000 by have := HPL.out; omega)
    by_cases hlt : k < P.length
    · have k1 : (k : Int) < (P.length : Int) := by omega
      have kw : IntKind.i64.wrap ((k : Int) + 1) = (k : Int) + 1 := IntWalk.i64_in _ (by have := HPL.out; omega)
      obtain ⟨b1, o1, p, hxo, he, c1⟩ := SlT.at (HO9.out.old HB.out) hlt
      subst hxo
      obtain ⟨no, nc, rfl⟩ := owns_form HN.out
      have hd := drop_one he
      have HPLk := hid (HPM.out p (List.mem_iff_getElem?.2 ⟨k, he⟩))
      have HX1 := hid (show X ++ changeOne a b p ++ (P.drop (k + 1)).flatMap (changeOne a b) = changesS a b by rw [← HX.out, hd, List.flatMap_cons, List.append_assoc])
      have hia := HIa.out p
      have hib := HIb.out p
      clear he hd HX
      cases hjb : idxS PB p with
      | none =>
        rw [hjb] at hib
        have HX2 := hid (show (X ++ [(p, true, false, [])]) ++ (P.drop (k + 1)).flatMap (changeOne a b) = changesS a b by
          rw [← HX1.out]
          unfold changeOne
          rw [show findS b p = none from hib])
        have HRB := hid (show (idxS PB p).isSome = false by rw [hjb]; rfl)
        obtain ⟨ra, hra⟩ : ∃ z, (idxS PA p).isSome = z := ⟨_, rfl⟩
        have HRA := hid hra
        clear hia hib hjb hra HX1
        go_wp2_with (first
          | (at_lookup; refine wpList_lookup_t rfl (.tmp 36) (.tmp 38) rfl ga na Da PA p rfl (HMAo.out.old HB.out) HSA.out HPLk.out rfl ra HRA.out ?_; intro ca hca; clear hca)
          | (at_lookup; refine wpList_lookup_t rfl (.tmp 43) (.tmp 45) rfl gb nb Db PB p rfl (HMBo.out.old HB.out) HSB.out HPLk.out rfl false HRB.out ?_; intro cb hcb; clear hcb)
          | (at_builtin; refine wpList_append_h1 rfl (.tmp 52) (.tmp 55) rfl w9.heap.size _ X (p, true, false, []) rfl HN.out wr.heap.size rfl rfl (by have := HXL.out; omega) hz ?_; intro v8 w8 o8 b8; have HO8 := hid o8; have HB8 := hid (HB.out.trans b8); clear o8 b8))
        go_roundg (P.length - (k + 1))
        case measure => omega
        case rel => exact ⟨k + 1, X ++ [(p, true, false, [])], by omega, rfl, by go_num, HX2, HO8, by simp; omega, HB8⟩
      | some j =>
        rw [hjb] at hib
        obtain ⟨⟨yp, yx, yt⟩, hyj, hyf⟩ := hib
        have HRB := hid (show (idxS PB p).isSome = true by rw [hjb]; rfl)
        have HJB := hid hjb
        have hjl := (List.getElem?_eq_some_iff.1 hyj).1
        obtain ⟨b2, o2, yp', yx', yt', hbo, hyj', y0, y1, y2⟩ := SlF.at (HVb.out.old HB.out) hjl
        subst hbo
        cases hyj.symm.trans hyj'
        have j0 : (0 : Int) ≤ (j : Int) := Int.natCast_nonneg _
        have j1 : (j : Int) < (b.length : Int) := by omega
        have hone : changeOne a b p = if findS a p = some (yp, yx, yt) then [] else [(p, false, yx, yt)] := by
          unfold changeOne
          rw [hyf]
        clear hyj hyj' hyf hjb hjl
        cases hja : idxS PA p with
        | none =>
          rw [hja] at hia
          have HX2 := hid (show (X ++ [(p, false, yx, yt)]) ++ (P.drop (k + 1)).flatMap (changeOne a b) = changesS a b by
            rw [← HX1.out, hone, show findS a p = none from hia, if_neg (by simp)])
          have HRA := hid (show (idxS PA p).isSome = false by rw [hja]; rfl)
          clear hia hja hone HX1
          go_wp2_with (first
            | (at_lookup; refine wpList_lookup_t rfl (.tmp 36) (.tmp 38) rfl ga na Da PA p rfl (HMAo.out.old HB.out) HSA.out HPLk.out rfl false HRA.out ?_; intro ca hca; clear hca)
            | (at_lookup; refine wpList_lookup_t rfl (.tmp 43) (.tmp 45) rfl gb nb Db PB p rfl (HMBo.out.old HB.out) HSB.out HPLk.out rfl true HRB.out ?_; intro cb hcb; obtain rfl := hcb j HJB.out; clear hcb))
          go_quiet (fail)
          have HBq := hid (show Below w9.heap.size w9 (wr.drewN nq) from HB.out.trans ⟨rfl, rfl, rfl, Nat.le_refl _, fun _ _ => rfl⟩)
          have HNq := hid (show OwnH (wr.drewN nq) w9.heap.size (.slice no X.length nc) X from HN.out)
          have q0 : (wr.drewN nq).cell? ⟨b2, o2 + j * 3, none⟩ = some (.string ⟨List.toArray yp⟩) := y0
          have q1 : (wr.drewN nq).cell? ⟨b2, o2 + j * 3 + 1, none⟩ = some (.bool yx) := y1
          have q2 : (wr.drewN nq).cell? ⟨b2, o2 + j * 3 + 2, none⟩ = some (.string ⟨List.toArray yt⟩) := y2
          clear y0 y1 y2 c1 
          generalize wr.drewN nq = Y at HBq HNq q0 q1 q2 ⊢
          have hzq : w9.heap.size ≤ Y.heap.size := HBq.out.size
          go_wp2_with fail
          go_region_law (refine step_append_h1 (by rfl) (.tmp 71) (.tmp 84) rfl w9.heap.size (.slice no X.length nc) X (p, false, yx, yt) (by kernel_rfl) (World.ownsRow.alloc HNq.out _) _ rfl (SlR.one (heap_alloc_new _ _) rfl) (by have := HXL.out; omega) (Nat.le_trans hzq (by simp)) ?_; intro v8 w8 o8 b8; have HO8 := hid o8; have HB8 := hid b8; clear o8 b8)
          all_goals (
            have HB9 := hid (show Below w9.heap.size w9 w8 from by
              first
                | exact (HBq.out.alloc hzq _).drew.trans HB8.out
                | exact (HBq.out.drew.alloc hzq _).trans HB8.out)
            go_wp2_with fail
            go_roundg (P.length - (k + 1))
            case measure => omega
            case rel => exact ⟨k + 1, X ++ [(p, false, yx, yt)], by omega, rfl, by go_num, HX2, HO8, by simp; omega, HB9⟩)
        | some i =>
          rw [hja] at hia
          obtain ⟨⟨xp, xx, xt⟩, hxi, hxf⟩ := hia
          have HRA := hid (show (idxS PA p).isSome = true by rw [hja]; rfl)
          have HJA := hid hja
          have hil := (List.getElem?_eq_some_iff.1 hxi).1
          obtain ⟨b3, o3, xp', xx', xt', hao, hxi', x0, x1, x2⟩ := SlF.at (HVa.out.old HB.out) hil
          subst hao
          cases hxi.symm.trans hxi'
          have i0 : (0 : Int) ≤ (i : Int) := Int.natCast_nonneg _
          have i1 : (i : Int) < (a.length : Int) := by omega
          have hne := file_neq xp xt yp yt xx yx
          rw [hxf] at hone
          clear hxi hxi' hxf hja hil
          obtain ⟨nn, hnn⟩ : ∃ z, (((xp, xx, xt) : FileS) != (yp, yx, yt)) = z := ⟨_, rfl⟩
          rw [hnn] at hne
          cases nn with
          | true =>
            have HX2 := hid (show (X ++ [(p, false, yx, yt)]) ++ (P.drop (k + 1)).flatMap (changeOne a b) = changesS a b by
              rw [← HX1.out, hone, if_neg]
              intro h
              rw [Option.some.inj h] at hnn
              simp at hnn)
            clear hnn hone HX1
            go_wp2_with (first
              | (at_lookup; refine wpList_lookup_t rfl (.tmp 36) (.tmp 38) rfl ga na Da PA p rfl (HMAo.out.old HB.out) HSA.out HPLk.out rfl true HRA.out ?_; intro ca hca; obtain rfl := hca i HJA.out; clear hca)
              | (at_lookup; refine wpList_lookup_t rfl (.tmp 43) (.tmp 45) rfl gb nb Db PB p rfl (HMBo.out.old HB.out) HSB.out HPLk.out rfl true HRB.out ?_; intro cb hcb; obtain rfl := hcb j HJB.out; clear hcb))
            go_quiet (fail)
            have HBq := hid (show Below w9.heap.size w9 (wr.drewN nq) from HB.out.trans ⟨rfl, rfl, rfl, Nat.le_refl _, fun _ _ => rfl⟩)
            have HNq := hid (show OwnH (wr.drewN nq) w9.heap.size (.slice no X.length nc) X from HN.out)
            have q0 : (wr.drewN nq).cell? ⟨b2, o2 + j * 3, none⟩ = some (.string ⟨List.toArray yp⟩) := y0
            have q1 : (wr.drewN nq).cell? ⟨b2, o2 + j * 3 + 1, none⟩ = some (.bool yx) := y1
            have q2 : (wr.drewN nq).cell? ⟨b2, o2 + j * 3 + 2, none⟩ = some (.string ⟨List.toArray yt⟩) := y2
            clear y0 y1 y2 c1 x0 x1 x2 hne
            generalize wr.drewN nq = Y at HBq HNq q0 q1 q2 ⊢
            have hzq : w9.heap.size ≤ Y.heap.size := HBq.out.size
            go_wp2_with fail
            go_region_law (refine step_append_h1 (by rfl) (.tmp 71) (.tmp 84) rfl w9.heap.size (.slice no X.length nc) X (p, false, yx, yt) (by kernel_rfl) (World.ownsRow.alloc HNq.out _) _ rfl (SlR.one (heap_alloc_new _ _) rfl) (by have := HXL.out; omega) (Nat.le_trans hzq (by simp)) ?_; intro v8 w8 o8 b8; have HO8 := hid o8; have HB8 := hid b8; clear o8 b8)
            all_goals (
              have HB9 := hid (show Below w9.heap.size w9 w8 from by
                first
                  | exact (HBq.out.alloc hzq _).drew.trans HB8.out
                  | exact (HBq.out.drew.alloc hzq _).trans HB8.out)
              go_wp2_with fail
              go_roundg (P.length - (k + 1))
              case measure => omega
              case rel => exact ⟨k + 1, X ++ [(p, false, yx, yt)], by omega, rfl, by go_num, HX2, HO8, by simp; omega, HB9⟩)
          | false =>
            have HX2 := hid (show X ++ (P.drop (k + 1)).flatMap (changeOne a b) = changesS a b by
              rw [← HX1.out, hone, if_pos, List.append_nil]
              simp only [bne_eq_false_iff_eq] at hnn
              rw [hnn])
            clear hnn hone HX1
            go_wp2_with (first
              | (at_lookup; refine wpList_lookup_t rfl (.tmp 36) (.tmp 38) rfl ga na Da PA p rfl (HMAo.out.old HB.out) HSA.out HPLk.out rfl true HRA.out ?_; intro ca hca; obtain rfl := hca i HJA.out; clear hca)
              | (at_lookup; refine wpList_lookup_t rfl (.tmp 43) (.tmp 45) rfl gb nb Db PB p rfl (HMBo.out.old HB.out) HSB.out HPLk.out rfl true HRB.out ?_; intro cb hcb; obtain rfl := hcb j HJB.out; clear hcb))
            go_quiet (fail)
            have HBq := hid (show Below w9.heap.size w9 (wr.drewN nq) from HB.out.trans ⟨rfl, rfl, rfl, Nat.le_refl _, fun _ _ => rfl⟩)
            have HNq := hid (show OwnH (wr.drewN nq) w9.heap.size (.slice no X.length nc) X from HN.out)
            go_wp2_with fail
            go_roundg (P.length - (k + 1))
            case measure => omega
            case rel => exact ⟨k + 1, X, by omega, rfl, by go_num, HX2, HNq, by omega, HBq⟩
    · obtain rfl : k = P.length := by omega
      have hneg : ¬ (P.length : Int) < (P.length : Int) := by omega
      have HX2 := hid (show X = changesS a b by rw [← HX.out, List.drop_length]; simp)
      go_wp2_with fail
      go_ret
      rw [← HX2.out]
      have hz4 : w.heap.size ≤ w9.heap.size := Nat.le_trans HK4.out.size HK9.out.size
      exact ⟨_, rfl, owns_lower HN.out hz4, below_step HK4.out (HK9.out.trans (HB.out.mono HK9.out.size)) HK4.out.size⟩
end
end Go.Proofs.YtndmblelkeepjaaGreatDoor
