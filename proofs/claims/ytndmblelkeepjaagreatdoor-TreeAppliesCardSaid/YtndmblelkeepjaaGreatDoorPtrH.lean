/-
  Package tree (landed): Find, Put, Drop, each by a contract.
-/
import Derived.Test.YtndmblelkeepjaaGreatDoorPtrG
namespace Go.Proofs.YtndmblelkeepjaaGreatDoor
open Go.RowKit
open BigFrame

section
set_option maxRecDepth 100000
set_option maxHeartbeats 4000000
theorem DPut_any (v : Value) (l : List FileS) (f : FileS) (w : World) (hv : SlF w v l) :
    Calls Tryz.prog 16 #[v, fileV f] w fun e w' => ∃ u, e = .returned (.tuple #[u, .int .i64 (putS l f).2]) ∧ OwnF w' w.heap.size u (putS l f).1 ∧ Below w.heap.size w w' := by
  obtain ⟨ao, cap, rfl⟩ := hv.form
  obtain ⟨p, x, t⟩ := f
  have HB0 := hid ((Below.refl _ w).alloc (Nat.le_refl w.heap.size) (.cells #[.string ⟨p.toArray⟩, .bool x, .string ⟨t.toArray⟩] 35))
  have HV := hid (hv.old HB0.out)
  have hg := heap_alloc_new w (.cells #[.string ⟨p.toArray⟩, .bool x, .string ⟨t.toArray⟩] 35)
  have HC0 := hid (blk_cell (i := 0) hg rfl)
  have HC1 := hid (blk_cell (i := 1) hg rfl)
  have HC2 := hid (blk_cell (i := 2) hg rfl)
  clear hv hg
  have HR := hid (DRightT_any _ l _ HV.out)
  obtain ⟨r, hr⟩ : ∃ r, rightT l = r := ⟨_, rfl⟩
  rw [hr] at HR
  cases r with
  | false =>
    have HD := hid (show putS l (p, x, t) = ([], 5) by unfold putS; rw [hr]; rfl)
    clear hr
    unfold fileV strV
    go_enter Tryz.func16, Tryz.ntmps16
    go_wp2_with (go_at_call 17; refine HR.out.mono ?_; rintro e w1 ⟨rfl, hb1⟩; have HB1 := hid (below_step HB0.out hb1 HB0.out.size); clear hb1)
    refine bodyPost_ret (results_tmp2 rfl _ _ _) rfl ?_
    rw [HD.out]
    exact ⟨_, rfl, World.ownsRow_nil _ _ _ _, HB1.out⟩
  | true =>
    have HC := hid (fun (u : Value) (wy : World) (h : SlF wy u l) => PPut_any u l (p, x, t) wy h ((rightT_iff l).1 hr))
    obtain ⟨⟨Y, en⟩, hY⟩ : ∃ y, putS l (p, x, t) = y := ⟨_, rfl⟩
    rw [hY] at HC ⊢
    unfold fileV strV at HC
    unfold fileV strV
    clear hr hY
    go_enter Tryz.func16, Tryz.ntmps16
    go_wp2_with (first
      | (go_at_call 17; refine HR.out.mono ?_; rintro e w1 ⟨rfl, hb1⟩; have HB1 := hid (below_step HB0.out hb1 HB0.out.size); have HV1 := hid (HV.out.old hb1); have c0 := below_cell hb1 HC0.out; have c1 := below_cell hb1 HC1.out; have c2 := below_cell hb1 HC2.out; clear hb1)
      | (go_at_call 34; refine (HC.out _ _ HV1.out).mono ?_; rintro e w2 ⟨u2, rfl, ho2, hb2⟩; have HO2 := hid (owns_lower ho2 HB1.out.size); have HB2 := hid (below_step HB1.out hb2 HB1.out.size); clear ho2 hb2))
    refine bodyPost_ret (results_tmp2 rfl _ _ _) rfl ?_
    exact ⟨_, rfl, HO2.out, HB2.out⟩
end
end Go.Proofs.YtndmblelkeepjaaGreatDoor
