/-
  TreePuts: what is put is there, and a tree stays one; put again nothing changes; dropped it is gone; others stay.
-/
import Derived.Test.YtndmblelkeepjaaDoorTreAw
import Derived.Test.YtndmblelkeepjaaDoorTrQ
import Derived.Test.YtndmblelkeepjaaDoorRtrE
import Derived.Test.YtndmblelkeepjaaDoorOpenF
import Derived.Test.YtndmblelkeepjaaDoorTabU
import Derived.ProofKit
import Derived.OpenShut
namespace Go.Proofs.YtndmblelkeepjaaDoor.treePuts
open Go.ChangeShapes Go.WideShapes Go.ChangeAt Go.RowKit
open BigFrame

section
set_option maxRecDepth 100000
set_option maxHeartbeats 4000000
theorem walk (va : Value) (l : List FileS) (f : FileS) (p : List UInt8) (w : World) (ha : FactFiles w va l) (_hf : f.1.length ≤ maxLen ∧ f.2.2.length ≤ maxLen) (_hp : p.length ≤ maxLen) :
    Calls Tryd.prog 5 #[va, fileV f, strV p] w fun e w' => e = .returned (.bool true) ∧ Below w.heap.size w w' := by
  clear _hf _hp
  obtain ⟨fq, fx, ft⟩ := f
  have HB0 := hid ((Below.refl _ w).alloc (Nat.le_refl w.heap.size) (.cells #[.string ⟨fq.toArray⟩, .bool fx, .string ⟨ft.toArray⟩] 24))
  have HA := hid (SlR.old ha.1 HB0.out)
  have hg := heap_alloc_new w (.cells #[.string ⟨fq.toArray⟩, .bool fx, .string ⟨ft.toArray⟩] 24)
  have c0 := blk_cell (i := 0) hg rfl
  have c1 := blk_cell (i := 1) hg rfl
  have c2 := blk_cell (i := 2) hg rfl
  clear ha hg
  obtain ⟨A, hA⟩ : ∃ y, treeS l = y := ⟨_, rfl⟩
  have TA := treeS_is l
  rw [hA] at TA
  have HTA := hid TA.1
  have HLA := hid TA.2.1
  have HPA := hid (show ∀ f ∈ A, f.1.length ≤ maxLen from fun f hf => by
    have := okOne_len (TA.1.ok f hf)
    unfold maxLen
    omega)
  have HEA := hid hA
  clear TA hA
  unfold fileV strV
  go_enter Tryd.func5, Tryd.ntmps5
  go_wp2_with fail
  generalize w.alloc (.cells #[.string ⟨fq.toArray⟩, .bool fx, .string ⟨ft.toArray⟩] 24) = W at HB0 HA c0 c1 c2 ⊢
  have HAW := hid (fun (wy : World) => awake_any wy)
  have hT := PTree_any _ l W HA.out
  rw [HEA.out] at hT
  refine hT.mono ?_
  rintro e x1 ⟨u, rfl, ho, hb⟩
  have hB1 := hid (below_step HB0.out hb HB0.out.size)
  have HA := hid (SlR.old HA.out hb)
  have c0 := below_cell hb c0
  have c1 := below_cell hb c1
  have c2 := below_cell hb c2
  have TA := hid ho.sl
  obtain ⟨uo1, uc1, rfl⟩ := owns_form ho
  clear hb hT ho
  by_cases ht : ft.length ≤ 3000
  case neg =>
    have t1 : decide (3000 < (ft.length : Int)) = true := decide_eq_true (by omega)
    have t2 : decide (3000 < ft.length) = true := decide_eq_true (by omega)
    go_wp2_with (go_at_call 9; refine (HAW.out _).mono ?_; rintro e w2 ⟨rfl, hb2⟩; have HB2 := hid (below_step hB1.out hb2 hB1.out.size); clear hb2)
    go_ret
    exact ⟨rfl, HB2.out⟩
  have t1 : decide (3000 < (ft.length : Int)) = false := decide_eq_false (by omega)
  have t2 : decide (3000 < ft.length) = false := decide_eq_false (by omega)
  clear ht
  obtain ⟨⟨X, en⟩, hX⟩ : ∃ y, putS A (fq, fx, ft) = y := ⟨_, rfl⟩
  go_wp2_with fail
  have hT := DPut_any _ A (fq, fx, ft) x1 TA.out
  rw [hX] at hT
  unfold fileV strV at hT
  refine hT.mono ?_
  rintro e x2 ⟨u, rfl, ho, hb⟩
  have hB2 := hid (below_step hB1.out hb hB1.out.size)
  have HA := hid (SlR.old HA.out hb)
  have c0 := below_cell hb c0
  have c1 := below_cell hb c1
  have c2 := below_cell hb c2
  have TA := hid (SlR.old TA.out hb)
  have TX := hid ho.sl
  obtain ⟨uo2, uc2, rfl⟩ := owns_form ho
  clear hb hT ho
  go_wp2_with fail
  have hT := awake_any x2
  refine hT.mono ?_
  rintro e x3 ⟨rfl, hb⟩
  have hB3 := hid (below_step hB2.out hb hB2.out.size)
  have HA := hid (SlR.old HA.out hb)
  have c0 := below_cell hb c0
  have c1 := below_cell hb c1
  have c2 := below_cell hb c2
  have TA := hid (SlR.old TA.out hb)
  have TX := hid (SlR.old TX.out hb)
  clear hb hT
  go_wp2_with fail
  have hT := DRightT_any _ A x3 TA.out
  rw [show rightT A = true from (rightT_iff A).2 HTA.out] at hT
  refine hT.mono ?_
  rintro e x4 ⟨rfl, hb⟩
  have hB4 := hid (below_step hB3.out hb hB3.out.size)
  have HA := hid (SlR.old HA.out hb)
  have c0 := below_cell hb c0
  have c1 := below_cell hb c1
  have c2 := below_cell hb c2
  have TA := hid (SlR.old TA.out hb)
  have TX := hid (SlR.old TX.out hb)
  clear hb hT
  by_cases hen : en = 0
  case neg =>
    have hx : X = [] := by have := put_bad (l := A) (f := (fq, fx, ft)) (by rw [hX]; exact hen); rw [hX] at this; exact this
    have e1 : ((en : Int) == 0) = false := beq_false_of_ne (by omega)
    have e2 : (en == 0) = false := beq_false_of_ne hen
    have e3 : decide ((en : Int) = 0) = false := decide_eq_false (by omega)
    have hxl : X.length = 0 := by rw [hx]; rfl
    clear hx hX
    go_wp2_with fail
    go_ret
    exact ⟨rfl, hB4.out⟩
  subst hen
  have hp := put_did (l := A) (f := (fq, fx, ft)) (by rw [hX])
  have hag := put_again (A := A) (f := (fq, fx, ft)) (by rw [hX])
  obtain ⟨Z, hZ, hZt, hZf⟩ := put_drop (A := A) (f := (fq, fx, ft)) (by rw [hX])
  rw [hX] at hp hag hZ
  obtain ⟨hXt, hXf, _⟩ := hp
  have HXT := hid hXt
  have HXF := hid hXf
  have HAG := hid hag
  have HZZ := hid hZ
  have HZT := hid hZt
  have HZF := hid hZf
  clear hX hXt hXf hag hZ hZt hZf
  go_wp2_with fail
  have hT := DPut_any _ X (fq, fx, ft) x4 TX.out
  rw [HAG.out] at hT
  unfold fileV strV at hT
  refine hT.mono ?_
  rintro e x5 ⟨u, rfl, ho, hb⟩
  have hB5 := hid (below_step hB4.out hb hB4.out.size)
  have HA := hid (SlR.old HA.out hb)
  have c0 := below_cell hb c0
  have c1 := below_cell hb c1
  have c2 := below_cell hb c2
  have TA := hid (SlR.old TA.out hb)
  have TX := hid (SlR.old TX.out hb)
  have TY := hid ho.sl
  obtain ⟨uo5, uc5, rfl⟩ := owns_form ho
  clear hb hT ho
  go_wp2_with fail
  have hT := DDrop_any _ X fq x5 TX.out
  rw [HZZ.out] at hT
  unfold strV at hT
  refine hT.mono ?_
  rintro e x6 ⟨u, rfl, ho, hb⟩
  have hB6 := hid (below_step hB5.out hb hB5.out.size)
  have HA := hid (SlR.old HA.out hb)
  have c0 := below_cell hb c0
  have c1 := below_cell hb c1
  have c2 := below_cell hb c2
  have TA := hid (SlR.old TA.out hb)
  have TX := hid (SlR.old TX.out hb)
  have TY := hid (SlR.old TY.out hb)
  have TZ := hid ho.sl
  obtain ⟨uo6, uc6, rfl⟩ := owns_form ho
  clear hb hT ho
  go_wp2_with fail
  have hT := DFind_any _ X fq x6 TX.out (by have := HXT.out.len; omega)
  rw [show findS X fq = some (fq, fx, ft) by have := HXF.out fq; rwa [if_pos rfl] at this] at hT
  unfold fileV strV at hT
  simp only [Option.getD_some, Option.isSome_some] at hT
  refine hT.mono ?_
  rintro e x7 ⟨rfl, hb⟩
  have hB7 := hid (below_step hB6.out hb hB6.out.size)
  have HA := hid (SlR.old HA.out hb)
  have c0 := below_cell hb c0
  have c1 := below_cell hb c1
  have c2 := below_cell hb c2
  have TA := hid (SlR.old TA.out hb)
  have TX := hid (SlR.old TX.out hb)
  have TY := hid (SlR.old TY.out hb)
  have TZ := hid (SlR.old TZ.out hb)
  clear hb hT
  go_wp2_with (refine file_store rfl 24 _ _ rfl _ #[.string ⟨fq.toArray⟩, .bool fx, .string ⟨ft.toArray⟩] rfl rfl _ _ (heap_alloc_new _ _) 3 Tryd.sizeFile rfl rfl (by simp [Value.oneCell']) ?_; intro x8 hg9 hk9; have hb : Below x7.heap.size x7 x8 := ((Below.refl _ x7).alloc (Nat.le_refl _) _).trans (hk9.below (by simp) (fun j hj e => by omega)); have hB8 := hid (below_step hB7.out hb hB7.out.size); have HA := hid (SlR.old HA.out hb); have c0 := below_cell hb c0; have c1 := below_cell hb c1; have c2 := below_cell hb c2; have TA := hid (SlR.old TA.out hb); have TX := hid (SlR.old TX.out hb); have TY := hid (SlR.old TY.out hb); have TZ := hid (SlR.old TZ.out hb); have a0 := blk_cell (i := 0) hg9 rfl; have a1 := blk_cell (i := 1) hg9 rfl; have a2 := blk_cell (i := 2) hg9 rfl; clear hb hg9 hk9)
  have hT := DFind_any _ Z fq x8 TZ.out (by have := HZT.out.len; omega)
  rw [HZF.out] at hT
  unfold fileV strV fileZ at hT
  simp only [Option.getD_none, Option.isSome_none] at hT
  refine hT.mono ?_
  rintro e x9 ⟨rfl, hb⟩
  have hB9 := hid (below_step hB8.out hb hB8.out.size)
  have HA := hid (SlR.old HA.out hb)
  have c0 := below_cell hb c0
  have c1 := below_cell hb c1
  have c2 := below_cell hb c2
  have TA := hid (SlR.old TA.out hb)
  have TX := hid (SlR.old TX.out hb)
  have TY := hid (SlR.old TY.out hb)
  have TZ := hid (SlR.old TZ.out hb)
  have a0 := below_cell hb a0
  have a1 := below_cell hb a1
  have a2 := below_cell hb a2
  clear hb hT
  go_wp2_with (refine file_store rfl 24 _ _ rfl _ #[.string ⟨([] : List UInt8).toArray⟩, .bool false, .string ⟨([] : List UInt8).toArray⟩] rfl rfl _ _ (heap_alloc_new _ _) 3 Tryd.sizeFile rfl rfl (by simp [Value.oneCell']) ?_; intro x10 hg9 hk9; have hb : Below x9.heap.size x9 x10 := ((Below.refl _ x9).alloc (Nat.le_refl _) _).trans (hk9.below (by simp) (fun j hj e => by omega)); have hB10 := hid (below_step hB9.out hb hB9.out.size); have HA := hid (SlR.old HA.out hb); have c0 := below_cell hb c0; have c1 := below_cell hb c1; have c2 := below_cell hb c2; have TA := hid (SlR.old TA.out hb); have TX := hid (SlR.old TX.out hb); have TY := hid (SlR.old TY.out hb); have TZ := hid (SlR.old TZ.out hb); have a0 := below_cell hb a0; have a1 := below_cell hb a1; have a2 := below_cell hb a2; have z0 := blk_cell (i := 0) hg9 rfl; have z1 := blk_cell (i := 1) hg9 rfl; have z2 := blk_cell (i := 2) hg9 rfl; clear hb hg9 hk9)
  have hT := DRightT_any _ X x10 TX.out
  rw [show rightT X = true from (rightT_iff X).2 HXT.out] at hT
  refine hT.mono ?_
  rintro e x11 ⟨rfl, hb⟩
  have hB11 := hid (below_step hB10.out hb hB10.out.size)
  have HA := hid (SlR.old HA.out hb)
  have c0 := below_cell hb c0
  have c1 := below_cell hb c1
  have c2 := below_cell hb c2
  have TA := hid (SlR.old TA.out hb)
  have TX := hid (SlR.old TX.out hb)
  have TY := hid (SlR.old TY.out hb)
  have TZ := hid (SlR.old TZ.out hb)
  have a0 := below_cell hb a0
  have a1 := below_cell hb a1
  have a2 := below_cell hb a2
  have z0 := below_cell hb z0
  have z1 := below_cell hb z1
  have z2 := below_cell hb z2
  clear hb hT
  go_wp2_with fail
  have hT := DSame_any _ _ X X x11 TX.out TY.out (by have := HXT.out.len; omega)
  rw [show (X == X) = true by simp] at hT
  refine hT.mono ?_
  rintro e x12 ⟨rfl, hb⟩
  have hB12 := hid (below_step hB11.out hb hB11.out.size)
  have HA := hid (SlR.old HA.out hb)
  have c0 := below_cell hb c0
  have c1 := below_cell hb c1
  have c2 := below_cell hb c2
  have TA := hid (SlR.old TA.out hb)
  have TX := hid (SlR.old TX.out hb)
  have TY := hid (SlR.old TY.out hb)
  have TZ := hid (SlR.old TZ.out hb)
  have a0 := below_cell hb a0
  have a1 := below_cell hb a1
  have a2 := below_cell hb a2
  have z0 := below_cell hb z0
  have z1 := below_cell hb z1
  have z2 := below_cell hb z2
  clear hb hT
  have hne := file_neq fq ft fq ft fx fx
  rw [show (((fq, fx, ft) : FileS) != (fq, fx, ft)) = false by simp] at hne
  go_wp2_with fail
  have hT := DRightT_any _ Z x12 TZ.out
  rw [show rightT Z = true from (rightT_iff Z).2 HZT.out] at hT
  refine hT.mono ?_
  rintro e x13 ⟨rfl, hb⟩
  have hB13 := hid (below_step hB12.out hb hB12.out.size)
  have HA := hid (SlR.old HA.out hb)
  have c0 := below_cell hb c0
  have c1 := below_cell hb c1
  have c2 := below_cell hb c2
  have TA := hid (SlR.old TA.out hb)
  have TX := hid (SlR.old TX.out hb)
  have TY := hid (SlR.old TY.out hb)
  have TZ := hid (SlR.old TZ.out hb)
  have a0 := below_cell hb a0
  have a1 := below_cell hb a1
  have a2 := below_cell hb a2
  have z0 := below_cell hb z0
  have z1 := below_cell hb z1
  have z2 := below_cell hb z2
  clear hb hT
  clear hne
  by_cases hpq : p = fq
  case pos =>
    subst hpq
    have e1 : (p == p) = true := by simp
    go_wp2_with fail
    go_ret
    exact ⟨rfl, hB13.out⟩
  have e1 : (p == fq) = false := by simpa using hpq
  have hfe : findS X p = findS A p := by have := HXF.out p; rwa [if_neg hpq] at this
  obtain ⟨⟨gp, gx, gt⟩, hgf⟩ : ∃ y, (findS A p).getD fileZ = y := ⟨_, rfl⟩
  obtain ⟨is, his⟩ : ∃ z, (findS A p).isSome = z := ⟨_, rfl⟩
  have HGF := hid hgf
  have HIS := hid his
  have HFE := hid hfe
  clear hgf his hfe hpq
  go_wp2_with fail
  have hT := DFind_any _ A p x13 TA.out (by have := HLA.out; omega)
  rw [HGF.out, HIS.out] at hT
  unfold fileV strV at hT
  refine hT.mono ?_
  rintro e x14 ⟨rfl, hb⟩
  have hB14 := hid (below_step hB13.out hb hB13.out.size)
  have HA := hid (SlR.old HA.out hb)
  have c0 := below_cell hb c0
  have c1 := below_cell hb c1
  have c2 := below_cell hb c2
  have TA := hid (SlR.old TA.out hb)
  have TX := hid (SlR.old TX.out hb)
  have TY := hid (SlR.old TY.out hb)
  have TZ := hid (SlR.old TZ.out hb)
  have a0 := below_cell hb a0
  have a1 := below_cell hb a1
  have a2 := below_cell hb a2
  have z0 := below_cell hb z0
  have z1 := below_cell hb z1
  have z2 := below_cell hb z2
  clear hb hT
  go_wp2_with (refine file_store rfl 24 _ _ rfl _ #[.string ⟨gp.toArray⟩, .bool gx, .string ⟨gt.toArray⟩] rfl rfl _ _ (heap_alloc_new _ _) 3 Tryd.sizeFile rfl rfl (by simp [Value.oneCell']) ?_; intro x15 hg9 hk9; have hb : Below x14.heap.size x14 x15 := ((Below.refl _ x14).alloc (Nat.le_refl _) _).trans (hk9.below (by simp) (fun j hj e => by omega)); have hB15 := hid (below_step hB14.out hb hB14.out.size); have HA := hid (SlR.old HA.out hb); have c0 := below_cell hb c0; have c1 := below_cell hb c1; have c2 := below_cell hb c2; have TA := hid (SlR.old TA.out hb); have TX := hid (SlR.old TX.out hb); have TY := hid (SlR.old TY.out hb); have TZ := hid (SlR.old TZ.out hb); have a0 := below_cell hb a0; have a1 := below_cell hb a1; have a2 := below_cell hb a2; have z0 := below_cell hb z0; have z1 := below_cell hb z1; have z2 := below_cell hb z2; have d0 := blk_cell (i := 0) hg9 rfl; have d1 := blk_cell (i := 1) hg9 rfl; have d2 := blk_cell (i := 2) hg9 rfl; clear hb hg9 hk9)
  have hT := DFind_any _ X p x15 TX.out (by have := HXT.out.len; omega)
  rw [HFE.out, HGF.out, HIS.out] at hT
  unfold fileV strV at hT
  refine hT.mono ?_
  rintro e x16 ⟨rfl, hb⟩
  have hB16 := hid (below_step hB15.out hb hB15.out.size)
  have HA := hid (SlR.old HA.out hb)
  have c0 := below_cell hb c0
  have c1 := below_cell hb c1
  have c2 := below_cell hb c2
  have TA := hid (SlR.old TA.out hb)
  have TX := hid (SlR.old TX.out hb)
  have TY := hid (SlR.old TY.out hb)
  have TZ := hid (SlR.old TZ.out hb)
  have a0 := below_cell hb a0
  have a1 := below_cell hb a1
  have a2 := below_cell hb a2
  have z0 := below_cell hb z0
  have z1 := below_cell hb z1
  have z2 := below_cell hb z2
  have d0 := below_cell hb d0
  have d1 := below_cell hb d1
  have d2 := below_cell hb d2
  clear hb hT
  have he := file_eql gp gt gp gt gx gx
  rw [show (((gp, gx, gt) : FileS) == (gp, gx, gt)) = true by simp] at he
  go_wp2_with (refine file_store rfl 24 _ _ rfl _ #[.string ⟨gp.toArray⟩, .bool gx, .string ⟨gt.toArray⟩] rfl rfl _ _ (heap_alloc_new _ _) 3 Tryd.sizeFile rfl rfl (by simp [Value.oneCell']) ?_; intro x17 hg9 hk9; have hb : Below x16.heap.size x16 x17 := ((Below.refl _ x16).alloc (Nat.le_refl _) _).trans (hk9.below (by simp) (fun j hj e => by omega)); have hB17 := hid (below_step hB16.out hb hB16.out.size); have HA := hid (SlR.old HA.out hb); have c0 := below_cell hb c0; have c1 := below_cell hb c1; have c2 := below_cell hb c2; have TA := hid (SlR.old TA.out hb); have TX := hid (SlR.old TX.out hb); have TY := hid (SlR.old TY.out hb); have TZ := hid (SlR.old TZ.out hb); have a0 := below_cell hb a0; have a1 := below_cell hb a1; have a2 := below_cell hb a2; have z0 := below_cell hb z0; have z1 := below_cell hb z1; have z2 := below_cell hb z2; have d0 := below_cell hb d0; have d1 := below_cell hb d1; have d2 := below_cell hb d2; have k0 := blk_cell (i := 0) hg9 rfl; have k1 := blk_cell (i := 1) hg9 rfl; have k2 := blk_cell (i := 2) hg9 rfl; clear hb hg9 hk9)
  go_ret
  exact ⟨by simp, hB17.out⟩
end

theorem own : ownKnob Tryd.prog.godebug = none := by kernel_rfl
theorem laidOut : laidOutB Tryd.prog = true := by kernel_rfl
theorem laid_met (os : Os) : laidMet Tryd.prog Rows.treePutsRow.laid ((laidWorld os).forCall (fun _ _ => 0) ⟨#[], #[.slice none 0 0, .agg #[.string ByteArray.empty, .bool false, .string ByteArray.empty], .string ByteArray.empty], []⟩).memory :=
  laidMet_of_run' 8 (by kernel_rfl) (by kernel_rfl)
theorem reads (os : Os) {H : Type} (enc : TypeId × Value → H) : ∃ places, DataW.whole enc Tryd.prog ((laidWorld os).forCall (fun _ _ => 0) ⟨#[], #[.slice none 0 0, .agg #[.string ByteArray.empty, .bool false, .string ByteArray.empty], .string ByteArray.empty], []⟩).memory Tryd.f5.params.toList Rows.treePutsSpec.vars false (#[.slice none 0 0, .agg #[.string ByteArray.empty, .bool false, .string ByteArray.empty], .string ByteArray.empty] : Array Value).toList 8 = some ([.nil, .agg [.lit (.string []), .lit (.bool false), .lit (.string [])], .lit (.string [])], [], places) :=
  ⟨[], by kernel_rfl⟩

set_option maxRecDepth 100000 in
theorem contract (H : Type) (enc : TypeId × Value → H) (W : World) (base : Nat) (args : Array Value) (ds gs : List (DataW H)) (before : List MemPlace)
    (hval : ∀ (j : Nat) t v, Tryd.f5.params[j]? = some t → args[j]? = some v → Value.okWide Tryd.prog W .any base t v)
    (hW : DataW.Whole enc Tryd.prog Tryd.f5.params.toList Rows.treePutsSpec.vars false W args.toList ds gs before) (_hL : laidMetH Tryd.prog Rows.treePutsRow.laid W) :
    Calls Tryd.prog 5 args W fun e W' => ∃ v, e = .returned v ∧ Rows.treePutsSpec.post enc Tryd.prog Tryd.f5 false true false false W args v W' := by
  have hW' := hW
  obtain ⟨p, q, hA0, hV, rfl, hfz, hnd⟩ := hW
  have hA : DataW.TrodAll enc Tryd.prog W 0 (fun _ => true) true Tryd.f5.params.toList args.toList ds p := hA0
  rw [Tryd.params5] at hA hval
  obtain ⟨v0, vs0, d0, ds0, p0, q0, hargs, rfl, rfl, h0, r0⟩ := trodAll_cons hA
  obtain ⟨v1, vs1, d1, ds1, p1, q1, rfl, rfl, rfl, h1, r1⟩ := trodAll_cons r0
  obtain ⟨v2, vs2, d2, ds2, p2, q2, rfl, rfl, rfl, h2, r2⟩ := trodAll_cons r1
  obtain ⟨rfl, rfl, rfl⟩ := trodAll_nil r2
  obtain rfl : args = #[v0, v1, v2] := by cases args; simp_all
  obtain ⟨rfl, rfl⟩ := trodVars_none hV
  have k0 := h0
  have lt0 : ∀ x ∈ p0, x.block < W.heap.size := by obtain ⟨m, hm⟩ := k0; exact DataW.trod_lt m _ _ _ hm
  obtain ⟨x0, l0, c0, rfl⟩ := okWide_slice Tryd.underlying22 (hval 0 22 v0 rfl rfl)
  obtain ⟨a0, w0⟩ : ∃ a, FactFiles W (.slice x0 l0 c0) a := by
    obtain ⟨fuel, hf⟩ := h0
    obtain ⟨v', a, hcs, hs⟩ := open_files hf
    obtain rfl : v' = .slice x0 l0 c0 := by simpa [Value.cells] using hcs.symm
    exact ⟨a, hs⟩
  have k1 := h1
  have lt1 : ∀ x ∈ p1, x.block < W.heap.size := by obtain ⟨m, hm⟩ := k1; exact DataW.trod_lt m _ _ _ hm
  obtain ⟨a1, rfl, w1⟩ := open_file (hval 1 24 v1 rfl rfl) h1
  have k2 := h2
  have lt2 : ∀ x ∈ p2, x.block < W.heap.size := by obtain ⟨m, hm⟩ := k2; exact DataW.trod_lt m _ _ _ hm
  obtain ⟨a2, rfl, _, _, w2⟩ := open_str Tryd.underlying9 (hval 2 9 v2 rfl rfl) h2
  clear hA0
  refine (walk (.slice x0 l0 c0) a0 a1 a2 W w0 w1 w2).mono fun e W' ⟨he, bel⟩ => ?_
  subst he
  exact ⟨_, rfl, _, _, _, [], _, [], hW', trodAll_mk1 (shut_bool Tryd.underlying4 _), (trodAll_cons_mk (Below.trod laidOut (by kernel_rfl) (of_decide_eq_true (by kernel_rfl)) k0 bel lt0) (trodAll_cons_mk (Below.trod laidOut (by kernel_rfl) (of_decide_eq_true (by kernel_rfl)) k1 bel lt1) (trodAll_cons_mk (Below.trod laidOut (by kernel_rfl) (of_decide_eq_true (by kernel_rfl)) k2 bel lt2) trodAll_mk0))), rfl, bel.frame _, fun h => by cases h⟩

set_option maxRecDepth 100000 in
theorem lifted (os : Os) (started : os.Started) (H : Type) (enc : TypeId × Value → H) (F : Stop.Interp) :
    ReturnsInHanded {} Tryd.checked os 5 .any ((OpenSpec.ofChange Rows.treePutsSpec).preRow enc Tryd.prog Tryd.f5 Rows.treePutsRow.domain false Rows.treePutsRow.laid) (((OpenSpec.ofChange Rows.treePutsSpec).at F).post enc Tryd.prog Tryd.f5 false true false false) := by
  obtain ⟨places, hx⟩ := reads os enc
  refine returnsInHanded_of_row (C := Tryd.checked) (s := OpenSpec.ofChange Rows.treePutsSpec) own started (by kernel_rfl) Tryd.func5
    (witness_row_at (enc := enc) (C := Tryd.checked) false (laidWorld os) #[.slice none 0 0, .agg #[.string ByteArray.empty, .bool false, .string ByteArray.empty], .string ByteArray.empty] rfl (by kernel_rfl) (by kernel_rfl) (by kernel_rfl)
      (OpenSpec.preRow_of_cond 8 hx (by kernel_rfl) (fun k hk => by cases hk) (by kernel_rfl) (laid_met os))) ?_
  intro W base args ds gs before hval hW _ _ _ hL _ _
  exact contract H enc W base args ds gs before hval hW hL

theorem said : Rows.TreePutsSaid :=
  OpenClaim.holds_of_cond 5 Tryd.f5 rfl rfl rfl rfl rfl rfl rfl ⟨rfl, rfl, rfl, rfl, rfl⟩ rfl rfl rfl rfl rfl (by kernel_rfl) Tryd.func5 (by kernel_rfl)
    (of_decide_eq_true (by kernel_rfl)) (by unfold Func.isWrapper; first | (rw [if_pos (by decide +kernel)]; kernel_rfl) | (rw [if_neg (by decide +kernel)]; exact ⟨rfl, rfl⟩))
    (fun os started H enc _ F => by rw [OpenClaim.pre_eq_preRow]; exact lifted os started H enc F)

theorem plain (f : FuncId) (fn : Func) (hf : Tryd.pinned.checked.prog.funcNamed "rick/ricklaw12.TreePuts" = some f) (hfn : Tryd.pinned.checked.prog.funcs[f]? = some fn) :
    false = Tryd.pinned.checked.prog.looks [] ∧ ∀ (j : Nat) t, fn.params[j]? = some t → Tryd.pinned.checked.prog.wantsStandIn t = false := by
  obtain rfl : f = 5 := Option.some.inj ((show Tryd.prog.funcNamed "rick/ricklaw12.TreePuts" = some 5 by kernel_rfl).symm.trans hf) |>.symm
  obtain rfl : fn = Tryd.f5 := (Option.some.inj (Tryd.func5.symm.trans hfn)).symm
  refine ⟨by kernel_rfl, fun j t ht => ?_⟩
  rw [Tryd.params5] at ht
  have hm := Array.mem_of_getElem? ht
  simp only [List.mem_toArray, List.mem_cons, List.not_mem_nil, or_false] at hm
  rcases hm with rfl | rfl | rfl
  · exact (show Tryd.prog.wantsStandIn 22 = false by kernel_rfl)
  · exact (show Tryd.prog.wantsStandIn 24 = false by kernel_rfl)
  · exact (show Tryd.prog.wantsStandIn 9 = false by kernel_rfl)

/-- The statement. -/
theorem proved : Rows.TreePutsCardSaid :=
  Claim7.holds_tied_plain_at .later [] _ _ _ _ said (fun _ h => by cases h) (by kernel_rfl) (fun _ h => by cases h) treePuts_row_tie rfl ⟨rfl, rfl⟩ (by kernel_rfl) rfl plain (by kernel_rfl)
#print axioms proved

end Go.Proofs.YtndmblelkeepjaaDoor.treePuts
