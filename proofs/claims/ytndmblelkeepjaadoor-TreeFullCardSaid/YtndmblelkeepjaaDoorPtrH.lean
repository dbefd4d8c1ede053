/-
  Package tree (landed): Find, Put, Drop, each by a contract.
-/
import Derived.Test.YtndmblelkeepjaaDoorPtrG
namespace Go.Proofs.YtndmblelkeepjaaDoor
open Go.RowKit
open BigFrame

section
set_option maxRecDepth 100000
set_option maxHeartbeats 4000000
theorem DFind_any (v : Value) (l : List FileS) (p : Txt) (w : World) (hv : SlF w v l) (hl : l.length ≤ 4611686018427387904) :
    Calls Tryd.prog 11 #[v, strV p] w fun e w' => e = .returned (.tuple #[fileV ((findS l p).getD fileZ), .bool (findS l p).isSome]) ∧ Below w.heap.size w w' := by
  obtain ⟨ao, cap, rfl⟩ := hv.form
  have HV := hid (hv.alloc (.cells #[.string ⟨#[]⟩, .bool false, .string ⟨#[]⟩] 24))
  have HL := hid hl
  have HG := hid (heap_alloc_new w (.cells #[.string ⟨#[]⟩, .bool false, .string ⟨#[]⟩] 24))
  have HB := hid ((Below.refl _ w).alloc (Nat.le_refl w.heap.size) (.cells #[.string ⟨#[]⟩, .bool false, .string ⟨#[]⟩] 24))
  clear hv hl
  unfold strV fileV
  go_enter Tryd.func11, Tryd.ntmps11
  go_wp2_with fail
  generalize w.alloc (.cells #[.string ⟨#[]⟩, .bool false, .string ⟨#[]⟩] 24) = W at HV HG HB ⊢
  obtain ⟨gm, hgm⟩ : ∃ g, w.heap.size = g := ⟨_, rfl⟩
  rw [hgm] at HG HB ⊢
  have HGM := hid hgm
  clear hgm
  go_loopg [10] l.length (fun g i wr => ∃ k : Nat, k ≤ l.length ∧ l.length - k = g ∧ i = .int .i64 k ∧ Hid (findS l p = findS (l.drop k) p) ∧ Hid (Below W.heap.size W wr))
  case atStart => exact ⟨0, Nat.zero_le _, rfl, rfl, hid rfl, hid (Below.refl _ _)⟩
  case round =>
    obtain ⟨k, hk, rfl, rfl, HF, HW⟩ := hrel
    have k0 : (0 : Int) ≤ (k : Int) := Int.natCast_nonneg _
    by_cases hlt : k < l.length
    · have k1 : (k : Int) < (l.length : Int) := by omega
      have kw : IntKind.i64.wrap ((k : Int) + 1) = (k : Int) + 1 := IntWalk.i64_in _ (by have := HL.out; omega)
      obtain ⟨b, o, p2, x2, t2, rfl, he, c1, c2, c3⟩ := SlF.at (HV.out.old HW.out) hlt
      have hd := drop_one he
      have HWA := hid (HW.out.alloc HW.out.size (.cells #[.string ⟨p2.toArray⟩, .bool x2, .string ⟨t2.toArray⟩] 24))
      have HGA := hid ((HWA.out.block gm (Array.getElem?_eq_some_iff.1 HG.out).1).trans HG.out)
      clear he
      by_cases hp : p2 = p
      · subst hp
        have HR := hid (show findS l p2 = some (p2, x2, t2) by rw [HF.out, hd]; simp [findS])
        clear hd
        go_wp2_with (refine file_store rfl 24 _ _ rfl gm #[.string ⟨p2.toArray⟩, .bool x2, .string ⟨t2.toArray⟩] rfl rfl _ _ HGA.out 3 Tryd.sizeFile rfl rfl (by simp [Value.oneCell']) ?_; intro w9 hg9 hk9)
        refine bodyPost_ret (file_results rfl _ _ gm _ _ _ _ _ rfl rfl hg9 Tryd.underlying24 rfl Tryd.sizeFile) rfl ?_
        refine ⟨by rw [HR.out]; rfl, ?_⟩
        rw [HGM.out]
        have hgs : gm ≤ W.heap.size := by rw [← HGM.out]; exact HB.out.size
        have hb1 := below_step HB.out HWA.out hgs
        exact hb1.trans (hk9.below (Nat.le_trans hgs HWA.out.size) (fun j hj e => by omega))
      · have hpb : (p2 == p) = false := by simpa using hp
        have HF2 := hid (show findS l p = findS (l.drop (k + 1)) p by rw [HF.out, hd]; simp [findS, hpb])
        clear hd hp
        go_wp2_with fail
        go_roundg (l.length - (k + 1))
        case measure => omega
        case rel => exact ⟨k + 1, by omega, rfl, by go_num, HF2, HWA⟩
    · obtain rfl : k = l.length := by omega
      have hneg : ¬ (l.length : Int) < (l.length : Int) := by omega
      have HR := hid (show findS l p = none by rw [HF.out, List.drop_length]; rfl)
      have HGA := hid ((HW.out.block gm (Array.getElem?_eq_some_iff.1 HG.out).1).trans HG.out)
      go_wp2_with (refine file_store rfl 24 _ _ rfl gm #[.string ⟨#[]⟩, .bool false, .string ⟨#[]⟩] rfl rfl _ _ HGA.out 3 Tryd.sizeFile rfl rfl (by simp [Value.oneCell']) ?_; intro w9 hg9 hk9)
      refine bodyPost_ret (file_results rfl _ _ gm _ _ _ _ _ rfl rfl hg9 Tryd.underlying24 rfl Tryd.sizeFile) rfl ?_
      refine ⟨by rw [HR.out]; rfl, ?_⟩
      rw [HGM.out]
      have hgs : gm ≤ W.heap.size := by rw [← HGM.out]; exact HB.out.size
      have hb1 := below_step HB.out HW.out hgs
      exact hb1.trans (hk9.below (Nat.le_trans hgs HW.out.size) (fun j hj e => by omega))
theorem DDrop_any (v : Value) (l : List FileS) (p : Txt) (w : World) (hv : SlF w v l) :
    Calls Tryd.prog 15 #[v, strV p] w fun e w' => ∃ u, e = .returned (.tuple #[u, .int .i64 (dropS l p).2]) ∧ OwnF w' w.heap.size u (dropS l p).1 ∧ Below w.heap.size w w' := by
  obtain ⟨ao, cap, rfl⟩ := hv.form
  have HV := hid hv
  have HR := hid (DRightT_any _ l w hv)
  clear hv
  obtain ⟨r, hr⟩ : ∃ r, rightT l = r := ⟨_, rfl⟩
  rw [hr] at HR
  cases r with
  | false =>
    have HD := hid (show dropS l p = ([], 5) by unfold dropS; rw [hr]; rfl)
    clear hr
    unfold strV
    go_enter Tryd.func15, Tryd.ntmps15
    go_wp2_with (go_at_call 17; refine HR.out.mono ?_; rintro e w1 ⟨rfl, hb1⟩; have HB1 := hid hb1; clear hb1)
    refine bodyPost_ret (results_tmp2 rfl _ _ _) rfl ?_
    rw [HD.out]
    exact ⟨_, rfl, World.ownsRow_nil _ _ _ _, HB1.out⟩
  | true =>
    have HC := hid (fun (wy : World) (h : Below w.heap.size w wy) => PDrop_any _ l p wy (HV.out.old h) ((rightT_iff l).1 hr))
    obtain ⟨⟨Y, en⟩, hY⟩ : ∃ y, dropS l p = y := ⟨_, rfl⟩
    rw [hY] at HC ⊢
    unfold strV at HC ⊢
    clear hr hY
    go_enter Tryd.func15, Tryd.ntmps15
    go_wp2_with (first
      | (go_at_call 17; refine HR.out.mono ?_; rintro e w1 ⟨rfl, hb1⟩; have HB1 := hid hb1; clear hb1)
      | (go_at_call 32; refine (HC.out _ HB1.out).mono ?_; rintro e w2 ⟨u2, rfl, ho2, hb2⟩; have HO2 := hid (owns_lower ho2 HB1.out.size); have HB2 := hid (below_step HB1.out hb2 HB1.out.size); clear ho2 hb2))
    refine bodyPost_ret (results_tmp2 rfl _ _ _) rfl ?_
    exact ⟨_, rfl, HO2.out, HB2.out⟩
theorem DPut_any (v : Value) (l : List FileS) (f : FileS) (w : World) (hv : SlF w v l) :
    Calls Tryd.prog 13 #[v, fileV f] w fun e w' => ∃ u, e = .returned (.tuple #[u, .int .i64 (putS l f).2]) ∧ OwnF w' w.heap.size u (putS l f).1 ∧ Below w.heap.size w w' := by
  obtain ⟨ao, cap, rfl⟩ := hv.form
  obtain ⟨p, x, t⟩ := f
  have HB0 := hid ((Below.refl _ w).alloc (Nat.le_refl w.heap.size) (.cells #[.string ⟨p.toArray⟩, .bool x, .string ⟨t.toArray⟩] 24))
  have HV := hid (hv.old HB0.out)
  have hg := heap_alloc_new w (.cells #[.string ⟨p.toArray⟩, .bool x, .string ⟨t.toArray⟩] 24)
  have HC0 := hid (blk_cell (i := 0) hg rfl)
  have HC1 := hid (blk_cell (i := 1) hg rfl)
  have HC2 := hid (blk_cell (i := 2) hg rfl)
  clear hv hg
  have HR := hid (DRightT_any _ l _ HV.out)
  obtain ⟨r, hr⟩ : ∃ r, rightT l = r := ⟨_, rfl⟩
  rw [hr] at HR
  cases r with
  | false =>
    have HD := hid (show putS l (p, x, t) = ([], 5) by unfold putS; rw [hr]; rfl)
    clear hr
    unfold fileV strV
    go_enter Tryd.func13, Tryd.ntmps13
    go_wp2_with (go_at_call 17; refine HR.out.mono ?_; rintro e w1 ⟨rfl, hb1⟩; have HB1 := hid (below_step HB0.out hb1 HB0.out.size); clear hb1)
    refine bodyPost_ret (results_tmp2 rfl _ _ _) rfl ?_
    rw [HD.out]
    exact ⟨_, rfl, World.ownsRow_nil _ _ _ _, HB1.out⟩
  | true =>
    have HC := hid (fun (u : Value) (wy : World) (h : SlF wy u l) => PPut_any u l (p, x, t) wy h ((rightT_iff l).1 hr))
    obtain ⟨⟨Y, en⟩, hY⟩ : ∃ y, putS l (p, x, t) = y := ⟨_, rfl⟩
    rw [hY] at HC ⊢
    unfold fileV strV at HC
    unfold fileV strV
    clear hr hY
    go_enter Tryd.func13, Tryd.ntmps13
    go_wp2_with (first
      | (go_at_call 17; refine HR.out.mono ?_; rintro e w1 ⟨rfl, hb1⟩; have HB1 := hid (below_step HB0.out hb1 HB0.out.size); have HV1 := hid (HV.out.old hb1); have c0 := below_cell hb1 HC0.out; have c1 := below_cell hb1 HC1.out; have c2 := below_cell hb1 HC2.out; clear hb1)
      | (go_at_call 27; refine (HC.out _ _ HV1.out).mono ?_; rintro e w2 ⟨u2, rfl, ho2, hb2⟩; have HO2 := hid (owns_lower ho2 HB1.out.size); have HB2 := hid (below_step HB1.out hb2 HB1.out.size); clear ho2 hb2))
    refine bodyPost_ret (results_tmp2 rfl _ _ _) rfl ?_
    exact ⟨_, rfl, HO2.out, HB2.out⟩
end
end Go.Proofs.YtndmblelkeepjaaDoor
