/-
  TreeTells: whether any files are a tree, what is found, put, and dropped, or why not; what is handed in stays.
-/
import Derived.Test.YtndmblelkeepjaaDoorTreAw
import Derived.Test.YtndmblelkeepjaaDoorOwnF
import Derived.Test.YtndmblelkeepjaaDoorRtrC
import Derived.Test.YtndmblelkeepjaaDoorOpenF
import Derived.Test.YtndmblelkeepjaaDoorTabU
import Derived.ProofKit
import Derived.OpenShut
namespace Go.Proofs.YtndmblelkeepjaaDoor.treeTells
open Go.ChangeShapes Go.WideShapes Go.ChangeAt Go.RowKit
open BigFrame

section
set_option maxRecDepth 100000
set_option maxHeartbeats 4000000
theorem walk (va : Value) (l : List FileS) (vm : Value) (m : List FileS) (f : FileS) (p : List UInt8) (w : World) (ha : FactFiles w va l) (hm : FactFiles w vm m) (_hf : f.1.length ≤ maxLen ∧ f.2.2.length ≤ maxLen) (_hp : p.length ≤ maxLen) :
    Calls Tryd.prog 3 #[va, vm, fileV f, strV p] w fun e w' => e = .returned (.bool true) ∧ Below w.heap.size w w' := by
  clear _hf _hp
  obtain ⟨fq, fx, ft⟩ := f
  have HB0 := hid ((Below.refl _ w).alloc (Nat.le_refl w.heap.size) (.cells #[.string ⟨fq.toArray⟩, .bool fx, .string ⟨ft.toArray⟩] 24))
  have HA := hid (SlR.old ha.1 HB0.out)
  have HM := hid (SlR.old hm.1 HB0.out)
  have hg := heap_alloc_new w (.cells #[.string ⟨fq.toArray⟩, .bool fx, .string ⟨ft.toArray⟩] 24)
  have c0 := blk_cell (i := 0) hg rfl
  have c1 := blk_cell (i := 1) hg rfl
  have c2 := blk_cell (i := 2) hg rfl
  have HLA := hid ha.2.1
  have HLM := hid hm.2.1
  obtain ⟨ao, ac, rfl⟩ := SlR.form ha.1
  obtain ⟨mo, mc, rfl⟩ := SlR.form hm.1
  clear ha hm hg
  unfold fileV strV
  go_enter Tryd.func3, Tryd.ntmps3
  go_wp2_with fail
  generalize w.alloc (.cells #[.string ⟨fq.toArray⟩, .bool fx, .string ⟨ft.toArray⟩] 24) = W at HB0 HA HM c0 c1 c2 ⊢
  have HAW := hid (fun (wy : World) => awake_any wy)
  obtain ⟨ra, hra⟩ : ∃ r, fewS l [] = r := ⟨_, rfl⟩
  have hFA := few_any _ (.slice none 0 0) l [] W HA.out (SlR.nil _) HLA.out (by simp [maxLen])
  rw [hra] at hFA
  refine hFA.mono ?_
  rintro e _ ⟨rfl, rfl⟩
  clear hFA
  cases ra with
  | false =>
    go_wp2_with (go_at_call 9; refine (HAW.out _).mono ?_; rintro e w2 ⟨rfl, hb2⟩; have HB2 := hid (below_step HB0.out hb2 HB0.out.size); clear hb2)
    go_ret
    exact ⟨rfl, HB2.out⟩
  | true =>
  have HFL := hid (fewS_len hra).1
  obtain ⟨rb, hrb⟩ : ∃ r, fewS m [] = r := ⟨_, rfl⟩
  have hFM := few_any _ (.slice none 0 0) m [] W HM.out (SlR.nil _) HLM.out (by simp [maxLen])
  rw [hrb] at hFM
  go_wp2_with fail
  refine hFM.mono ?_
  rintro e _ ⟨rfl, rfl⟩
  clear hFM
  cases rb with
  | false =>
    go_wp2_with (go_at_call 9; refine (HAW.out _).mono ?_; rintro e w2 ⟨rfl, hb2⟩; have HB2 := hid (below_step HB0.out hb2 HB0.out.size); clear hb2)
    go_ret
    exact ⟨rfl, HB2.out⟩
  | true =>
  have HFM := hid (fewS_len hrb).1
  clear hra hrb
  by_cases ht : ft.length ≤ 30000
  case neg =>
    have t1 : decide (30000 < (ft.length : Int)) = true := decide_eq_true (by omega)
    have t2 : decide (30000 < ft.length) = true := decide_eq_true (by omega)
    go_wp2_with (go_at_call 9; refine (HAW.out _).mono ?_; rintro e w2 ⟨rfl, hb2⟩; have HB2 := hid (below_step HB0.out hb2 HB0.out.size); clear hb2)
    go_ret
    exact ⟨rfl, HB2.out⟩
  have t1 : decide (30000 < (ft.length : Int)) = false := decide_eq_false (by omega)
  have t2 : decide (30000 < ft.length) = false := decide_eq_false (by omega)
  clear ht
  obtain ⟨⟨gp, gx, gt⟩, hgf⟩ : ∃ y, (findS l p).getD fileZ = y := ⟨_, rfl⟩
  obtain ⟨is, his⟩ : ∃ z, (findS l p).isSome = z := ⟨_, rfl⟩
  obtain ⟨⟨Y, en⟩, hY⟩ : ∃ y, putS l (fq, fx, ft) = y := ⟨_, rfl⟩
  obtain ⟨⟨Z, dn⟩, hZ⟩ : ∃ y, dropS l p = y := ⟨_, rfl⟩
  have HY := hid (show Y.length ≤ 1000000 by
    by_cases h0 : en = 0
    · have := (put_did (l := l) (f := (fq, fx, ft)) (by rw [hY]; exact h0)).1.len
      rw [hY] at this
      exact Nat.le_trans this (by omega)
    · have := put_bad (l := l) (f := (fq, fx, ft)) (by rw [hY]; exact h0)
      rw [hY] at this
      simp only at this
      rw [this]; simp)
  have HZ := hid (show Z.length ≤ 1000000 by
    by_cases h0 : dn = 0
    · have := (drop_did (l := l) (p := p) (by rw [hZ]; exact h0)).1.len
      rw [hZ] at this
      exact Nat.le_trans this (by omega)
    · have := drop_bad (l := l) (p := p) (by rw [hZ]; exact h0)
      rw [hZ] at this
      simp only at this
      rw [this]; simp)
  obtain ⟨rt, hrt⟩ : ∃ z, rightT l = z := ⟨_, rfl⟩
  obtain ⟨lm, hlm⟩ : ∃ z, (l == m) = z := ⟨_, rfl⟩
  have HHY := hid hY
  have HHZ := hid hZ
  have HGF := hid hgf
  have HIS := hid his
  have HRT := hid hrt
  have HLMM := hid hlm
  clear hgf his hY hZ hrt hlm
  go_wp2_with fail
  have hT : Calls Tryd.prog 10 #[.slice ao l.length ac, .agg #[.string ⟨#[55, 49]⟩, .bool false, .string ⟨#[]⟩]] W _ := OwnF_any _ l ([55, 49], false, []) W HA.out (by have := HFL.out; omega)
  refine hT.mono ?_
  rintro e x1 ⟨g, hg, rfl, ho, hb⟩
  have hB1 := hid (below_step HB0.out hb HB0.out.size)
  have HA := hid (SlR.old HA.out hb)
  have HM := hid (SlR.old HM.out hb)
  have c0 := below_cell hb c0
  have c1 := below_cell hb c1
  have c2 := below_cell hb c2
  have HOC := hid ho
  clear hb hT ho hg
  go_wp2_with fail
  have hT := DFind_any _ l p x1 HOC.out.sl (by have := HFL.out; omega)
  rw [HGF.out, HIS.out] at hT
  unfold fileV strV at hT
  refine hT.mono ?_
  rintro e x2 ⟨rfl, hb⟩
  have hB2 := hid (below_step hB1.out hb hB1.out.size)
  have HA := hid (SlR.old HA.out hb)
  have HM := hid (SlR.old HM.out hb)
  have c0 := below_cell hb c0
  have c1 := below_cell hb c1
  have c2 := below_cell hb c2
  have HOC := hid (HOC.out.old hb)
  clear hb hT
  go_wp2_with (refine file_store rfl 24 _ _ rfl _ #[.string ⟨gp.toArray⟩, .bool gx, .string ⟨gt.toArray⟩] rfl rfl _ _ (heap_alloc_new _ _) 3 Tryd.sizeFile rfl rfl (by simp [Value.oneCell']) ?_; intro x3 hg9 hk9; have hb : Below x2.heap.size x2 x3 := ((Below.refl _ x2).alloc (Nat.le_refl _) _).trans (hk9.below (by simp) (fun j hj e => by omega)); have hB3 := hid (below_step hB2.out hb hB2.out.size); have HA := hid (SlR.old HA.out hb); have HM := hid (SlR.old HM.out hb); have c0 := below_cell hb c0; have c1 := below_cell hb c1; have c2 := below_cell hb c2; have HOC := hid (HOC.out.old hb); have a0 := blk_cell (i := 0) hg9 rfl; have a1 := blk_cell (i := 1) hg9 rfl; have a2 := blk_cell (i := 2) hg9 rfl; clear hb hg9 hk9)
  have hT := RFind_any _ l p x3 HA.out (by have := HFL.out; omega)
  rw [HGF.out, HIS.out] at hT
  unfold fileV strV at hT
  refine hT.mono ?_
  rintro e x4 ⟨rfl, hb⟩
  have hB4 := hid (below_step hB3.out hb hB3.out.size)
  have HA := hid (SlR.old HA.out hb)
  have HM := hid (SlR.old HM.out hb)
  have c0 := below_cell hb c0
  have c1 := below_cell hb c1
  have c2 := below_cell hb c2
  have HOC := hid (HOC.out.old hb)
  have a0 := below_cell hb a0
  have a1 := below_cell hb a1
  have a2 := below_cell hb a2
  clear hb hT
  go_wp2_with (refine file_store rfl 24 _ _ rfl _ #[.string ⟨gp.toArray⟩, .bool gx, .string ⟨gt.toArray⟩] rfl rfl _ _ (heap_alloc_new _ _) 3 Tryd.sizeFile rfl rfl (by simp [Value.oneCell']) ?_; intro x5 hg9 hk9; have hb : Below x4.heap.size x4 x5 := ((Below.refl _ x4).alloc (Nat.le_refl _) _).trans (hk9.below (by simp) (fun j hj e => by omega)); have hB5 := hid (below_step hB4.out hb hB4.out.size); have HA := hid (SlR.old HA.out hb); have HM := hid (SlR.old HM.out hb); have c0 := below_cell hb c0; have c1 := below_cell hb c1; have c2 := below_cell hb c2; have HOC := hid (HOC.out.old hb); have a0 := below_cell hb a0; have a1 := below_cell hb a1; have a2 := below_cell hb a2; have b0 := blk_cell (i := 0) hg9 rfl; have b1 := blk_cell (i := 1) hg9 rfl; have b2 := blk_cell (i := 2) hg9 rfl; clear hb hg9 hk9)
  have hT := DPut_any _ l (fq, fx, ft) x5 HOC.out.sl
  rw [HHY.out] at hT; unfold fileV strV at hT
  refine hT.mono ?_
  rintro e x6 ⟨u, rfl, ho, hb⟩
  have hB6 := hid (below_step hB5.out hb hB5.out.size)
  have HA := hid (SlR.old HA.out hb)
  have HM := hid (SlR.old HM.out hb)
  have c0 := below_cell hb c0
  have c1 := below_cell hb c1
  have c2 := below_cell hb c2
  have HOC := hid (HOC.out.old hb)
  have a0 := below_cell hb a0
  have a1 := below_cell hb a1
  have a2 := below_cell hb a2
  have b0 := below_cell hb b0
  have b1 := below_cell hb b1
  have b2 := below_cell hb b2
  have HX := hid ho.sl
  obtain ⟨uo6, uc6, rfl⟩ := owns_form ho
  clear hb hT ho
  go_wp2_with fail
  have hT := RPut_any _ l fq ft fx x6 HA.out
  rw [HHY.out] at hT; unfold strV at hT
  refine hT.mono ?_
  rintro e x7 ⟨u, rfl, ho, hb⟩
  have hB7 := hid (below_step hB6.out hb hB6.out.size)
  have HA := hid (SlR.old HA.out hb)
  have HM := hid (SlR.old HM.out hb)
  have c0 := below_cell hb c0
  have c1 := below_cell hb c1
  have c2 := below_cell hb c2
  have HOC := hid (HOC.out.old hb)
  have a0 := below_cell hb a0
  have a1 := below_cell hb a1
  have a2 := below_cell hb a2
  have b0 := below_cell hb b0
  have b1 := below_cell hb b1
  have b2 := below_cell hb b2
  have HX := hid (SlR.old HX.out hb)
  have HX2 := hid ho.sl
  obtain ⟨uo7, uc7, rfl⟩ := owns_form ho
  clear hb hT ho
  go_wp2_with fail
  have hT := DDrop_any _ l p x7 HOC.out.sl
  rw [HHZ.out] at hT; unfold strV at hT
  refine hT.mono ?_
  rintro e x8 ⟨u, rfl, ho, hb⟩
  have hB8 := hid (below_step hB7.out hb hB7.out.size)
  have HA := hid (SlR.old HA.out hb)
  have HM := hid (SlR.old HM.out hb)
  have c0 := below_cell hb c0
  have c1 := below_cell hb c1
  have c2 := below_cell hb c2
  have HOC := hid (HOC.out.old hb)
  have a0 := below_cell hb a0
  have a1 := below_cell hb a1
  have a2 := below_cell hb a2
  have b0 := below_cell hb b0
  have b1 := below_cell hb b1
  have b2 := below_cell hb b2
  have HX := hid (SlR.old HX.out hb)
  have HX2 := hid (SlR.old HX2.out hb)
  have HU := hid ho.sl
  obtain ⟨uo8, uc8, rfl⟩ := owns_form ho
  clear hb hT ho
  go_wp2_with fail
  have hT := RDrop_any _ l p x8 HA.out
  rw [HHZ.out] at hT; unfold strV at hT
  refine hT.mono ?_
  rintro e x9 ⟨u, rfl, ho, hb⟩
  have hB9 := hid (below_step hB8.out hb hB8.out.size)
  have HA := hid (SlR.old HA.out hb)
  have HM := hid (SlR.old HM.out hb)
  have c0 := below_cell hb c0
  have c1 := below_cell hb c1
  have c2 := below_cell hb c2
  have HOC := hid (HOC.out.old hb)
  have a0 := below_cell hb a0
  have a1 := below_cell hb a1
  have a2 := below_cell hb a2
  have b0 := below_cell hb b0
  have b1 := below_cell hb b1
  have b2 := below_cell hb b2
  have HX := hid (SlR.old HX.out hb)
  have HX2 := hid (SlR.old HX2.out hb)
  have HU := hid (SlR.old HU.out hb)
  have HU2 := hid ho.sl
  obtain ⟨uo9, uc9, rfl⟩ := owns_form ho
  clear hb hT ho
  go_wp2_with fail
  have hT := awake_any x9
  refine hT.mono ?_
  rintro e x10 ⟨rfl, hb⟩
  have hB10 := hid (below_step hB9.out hb hB9.out.size)
  have HA := hid (SlR.old HA.out hb)
  have HM := hid (SlR.old HM.out hb)
  have c0 := below_cell hb c0
  have c1 := below_cell hb c1
  have c2 := below_cell hb c2
  have HOC := hid (HOC.out.old hb)
  have a0 := below_cell hb a0
  have a1 := below_cell hb a1
  have a2 := below_cell hb a2
  have b0 := below_cell hb b0
  have b1 := below_cell hb b1
  have b2 := below_cell hb b2
  have HX := hid (SlR.old HX.out hb)
  have HX2 := hid (SlR.old HX2.out hb)
  have HU := hid (SlR.old HU.out hb)
  have HU2 := hid (SlR.old HU2.out hb)
  clear hb hT
  go_wp2_with fail
  have hT := DRightT_any _ l x10 HOC.out.sl
  rw [HRT.out] at hT
  refine hT.mono ?_
  rintro e x11 ⟨rfl, hb⟩
  have hB11 := hid (below_step hB10.out hb hB10.out.size)
  have HA := hid (SlR.old HA.out hb)
  have HM := hid (SlR.old HM.out hb)
  have c0 := below_cell hb c0
  have c1 := below_cell hb c1
  have c2 := below_cell hb c2
  have HOC := hid (HOC.out.old hb)
  have a0 := below_cell hb a0
  have a1 := below_cell hb a1
  have a2 := below_cell hb a2
  have b0 := below_cell hb b0
  have b1 := below_cell hb b1
  have b2 := below_cell hb b2
  have HX := hid (SlR.old HX.out hb)
  have HX2 := hid (SlR.old HX2.out hb)
  have HU := hid (SlR.old HU.out hb)
  have HU2 := hid (SlR.old HU2.out hb)
  clear hb hT
  go_wp2_with fail
  have hT := RRight_any _ l x11 HA.out
  rw [HRT.out] at hT
  refine hT.mono ?_
  rintro e x12 ⟨rfl, hb⟩
  have hB12 := hid (below_step hB11.out hb hB11.out.size)
  have HA := hid (SlR.old HA.out hb)
  have HM := hid (SlR.old HM.out hb)
  have c0 := below_cell hb c0
  have c1 := below_cell hb c1
  have c2 := below_cell hb c2
  have HOC := hid (HOC.out.old hb)
  have a0 := below_cell hb a0
  have a1 := below_cell hb a1
  have a2 := below_cell hb a2
  have b0 := below_cell hb b0
  have b1 := below_cell hb b1
  have b2 := below_cell hb b2
  have HX := hid (SlR.old HX.out hb)
  have HX2 := hid (SlR.old HX2.out hb)
  have HU := hid (SlR.old HU.out hb)
  have HU2 := hid (SlR.old HU2.out hb)
  clear hb hT
  have he := file_eql gp gt gp gt gx gx
  rw [show (((gp, gx, gt) : FileS) == (gp, gx, gt)) = true by simp] at he
  go_wp2_with fail
  have hT := PlainF_any _ _ Y Y x12 HX.out HX2.out HY.out
  rw [show (Y == Y) = true by simp] at hT
  refine hT.mono ?_
  rintro e x13 ⟨rfl, hb⟩
  have hB13 := hid (below_step hB12.out hb hB12.out.size)
  have HA := hid (SlR.old HA.out hb)
  have HM := hid (SlR.old HM.out hb)
  have c0 := below_cell hb c0
  have c1 := below_cell hb c1
  have c2 := below_cell hb c2
  have HOC := hid (HOC.out.old hb)
  have a0 := below_cell hb a0
  have a1 := below_cell hb a1
  have a2 := below_cell hb a2
  have b0 := below_cell hb b0
  have b1 := below_cell hb b1
  have b2 := below_cell hb b2
  have HX := hid (SlR.old HX.out hb)
  have HX2 := hid (SlR.old HX2.out hb)
  have HU := hid (SlR.old HU.out hb)
  have HU2 := hid (SlR.old HU2.out hb)
  clear hb hT
  clear he
  go_wp2_with fail
  have hT := PlainF_any _ _ Z Z x13 HU.out HU2.out HZ.out
  rw [show (Z == Z) = true by simp] at hT
  refine hT.mono ?_
  rintro e x14 ⟨rfl, hb⟩
  have hB14 := hid (below_step hB13.out hb hB13.out.size)
  have HA := hid (SlR.old HA.out hb)
  have HM := hid (SlR.old HM.out hb)
  have c0 := below_cell hb c0
  have c1 := below_cell hb c1
  have c2 := below_cell hb c2
  have HOC := hid (HOC.out.old hb)
  have a0 := below_cell hb a0
  have a1 := below_cell hb a1
  have a2 := below_cell hb a2
  have b0 := below_cell hb b0
  have b1 := below_cell hb b1
  have b2 := below_cell hb b2
  have HX := hid (SlR.old HX.out hb)
  have HX2 := hid (SlR.old HX2.out hb)
  have HU := hid (SlR.old HU.out hb)
  have HU2 := hid (SlR.old HU2.out hb)
  clear hb hT
  go_wp2_with fail
  have hT := DSame_any _ _ l m x14 HOC.out.sl HM.out (by have := HFL.out; omega)
  rw [HLMM.out] at hT
  refine hT.mono ?_
  rintro e x15 ⟨rfl, hb⟩
  have hB15 := hid (below_step hB14.out hb hB14.out.size)
  have HA := hid (SlR.old HA.out hb)
  have HM := hid (SlR.old HM.out hb)
  have c0 := below_cell hb c0
  have c1 := below_cell hb c1
  have c2 := below_cell hb c2
  have HOC := hid (HOC.out.old hb)
  have a0 := below_cell hb a0
  have a1 := below_cell hb a1
  have a2 := below_cell hb a2
  have b0 := below_cell hb b0
  have b1 := below_cell hb b1
  have b2 := below_cell hb b2
  have HX := hid (SlR.old HX.out hb)
  have HX2 := hid (SlR.old HX2.out hb)
  have HU := hid (SlR.old HU.out hb)
  have HU2 := hid (SlR.old HU2.out hb)
  clear hb hT
  go_wp2_with fail
  have hT := PlainF_any _ _ l m x15 HA.out HM.out (by have := HFL.out; omega)
  rw [HLMM.out] at hT
  refine hT.mono ?_
  rintro e x16 ⟨rfl, hb⟩
  have hB16 := hid (below_step hB15.out hb hB15.out.size)
  have HA := hid (SlR.old HA.out hb)
  have HM := hid (SlR.old HM.out hb)
  have c0 := below_cell hb c0
  have c1 := below_cell hb c1
  have c2 := below_cell hb c2
  have HOC := hid (HOC.out.old hb)
  have a0 := below_cell hb a0
  have a1 := below_cell hb a1
  have a2 := below_cell hb a2
  have b0 := below_cell hb b0
  have b1 := below_cell hb b1
  have b2 := below_cell hb b2
  have HX := hid (SlR.old HX.out hb)
  have HX2 := hid (SlR.old HX2.out hb)
  have HU := hid (SlR.old HU.out hb)
  have HU2 := hid (SlR.old HU2.out hb)
  clear hb hT
  go_wp2_with fail
  have hT : Calls Tryd.prog 21 #[.slice (some ⟨g, 0, none⟩) l.length (l.length + 3), .slice ao l.length ac, .agg #[.string ⟨#[55, 49]⟩, .bool false, .string ⟨#[]⟩]] x16 _ := KeptF_any g _ l ([55, 49], false, []) x16 HOC.out HA.out (by have := HFL.out; omega)
  refine hT.mono ?_
  rintro e x17 ⟨rfl, hb⟩
  have hB17 := hid (below_step hB16.out hb hB16.out.size)
  have HA := hid (SlR.old HA.out hb)
  have HM := hid (SlR.old HM.out hb)
  have c0 := below_cell hb c0
  have c1 := below_cell hb c1
  have c2 := below_cell hb c2
  have HOC := hid (HOC.out.old hb)
  have a0 := below_cell hb a0
  have a1 := below_cell hb a1
  have a2 := below_cell hb a2
  have b0 := below_cell hb b0
  have b1 := below_cell hb b1
  have b2 := below_cell hb b2
  have HX := hid (SlR.old HX.out hb)
  have HX2 := hid (SlR.old HX2.out hb)
  have HU := hid (SlR.old HU.out hb)
  have HU2 := hid (SlR.old HU2.out hb)
  clear hb hT
  go_wp2_with fail
  go_ret
  exact ⟨rfl, hB17.out⟩
end

theorem own : ownKnob Tryd.prog.godebug = none := by kernel_rfl
theorem laidOut : laidOutB Tryd.prog = true := by kernel_rfl
theorem laid_met (os : Os) : laidMet Tryd.prog Rows.treeTellsRow.laid ((laidWorld os).forCall (fun _ _ => 0) ⟨#[], #[.slice none 0 0, .slice none 0 0, .agg #[.string ByteArray.empty, .bool false, .string ByteArray.empty], .string ByteArray.empty], []⟩).memory :=
  laidMet_of_run' 8 (by kernel_rfl) (by kernel_rfl)
theorem reads (os : Os) {H : Type} (enc : TypeId × Value → H) : ∃ places, DataW.whole enc Tryd.prog ((laidWorld os).forCall (fun _ _ => 0) ⟨#[], #[.slice none 0 0, .slice none 0 0, .agg #[.string ByteArray.empty, .bool false, .string ByteArray.empty], .string ByteArray.empty], []⟩).memory Tryd.f3.params.toList Rows.treeTellsSpec.vars false (#[.slice none 0 0, .slice none 0 0, .agg #[.string ByteArray.empty, .bool false, .string ByteArray.empty], .string ByteArray.empty] : Array Value).toList 8 = some ([.nil, .nil, .agg [.lit (.string []), .lit (.bool false), .lit (.string [])], .lit (.string [])], [], places) :=
  ⟨[], by kernel_rfl⟩

set_option maxRecDepth 100000 in
theorem contract (H : Type) (enc : TypeId × Value → H) (W : World) (base : Nat) (args : Array Value) (ds gs : List (DataW H)) (before : List MemPlace)
    (hval : ∀ (j : Nat) t v, Tryd.f3.params[j]? = some t → args[j]? = some v → Value.okWide Tryd.prog W .any base t v)
    (hW : DataW.Whole enc Tryd.prog Tryd.f3.params.toList Rows.treeTellsSpec.vars false W args.toList ds gs before) (_hL : laidMetH Tryd.prog Rows.treeTellsRow.laid W) :
    Calls Tryd.prog 3 args W fun e W' => ∃ v, e = .returned v ∧ Rows.treeTellsSpec.post enc Tryd.prog Tryd.f3 false true false false W args v W' := by
  have hW' := hW
  obtain ⟨p, q, hA0, hV, rfl, hfz, hnd⟩ := hW
  have hA : DataW.TrodAll enc Tryd.prog W 0 (fun _ => true) true Tryd.f3.params.toList args.toList ds p := hA0
  rw [Tryd.params3] at hA hval
  obtain ⟨v0, vs0, d0, ds0, p0, q0, hargs, rfl, rfl, h0, r0⟩ := trodAll_cons hA
  obtain ⟨v1, vs1, d1, ds1, p1, q1, rfl, rfl, rfl, h1, r1⟩ := trodAll_cons r0
  obtain ⟨v2, vs2, d2, ds2, p2, q2, rfl, rfl, rfl, h2, r2⟩ := trodAll_cons r1
  obtain ⟨v3, vs3, d3, ds3, p3, q3, rfl, rfl, rfl, h3, r3⟩ := trodAll_cons r2
  obtain ⟨rfl, rfl, rfl⟩ := trodAll_nil r3
  obtain rfl : args = #[v0, v1, v2, v3] := by cases args; simp_all
  obtain ⟨rfl, rfl⟩ := trodVars_none hV
  have k0 := h0
  have lt0 : ∀ x ∈ p0, x.block < W.heap.size := by obtain ⟨m, hm⟩ := k0; exact DataW.trod_lt m _ _ _ hm
  obtain ⟨x0, l0, c0, rfl⟩ := okWide_slice Tryd.underlying22 (hval 0 22 v0 rfl rfl)
  obtain ⟨a0, w0⟩ : ∃ a, FactFiles W (.slice x0 l0 c0) a := by
    obtain ⟨fuel, hf⟩ := h0
    obtain ⟨v', a, hcs, hs⟩ := open_files hf
    obtain rfl : v' = .slice x0 l0 c0 := by simpa [Value.cells] using hcs.symm
    exact ⟨a, hs⟩
  have k1 := h1
  have lt1 : ∀ x ∈ p1, x.block < W.heap.size := by obtain ⟨m, hm⟩ := k1; exact DataW.trod_lt m _ _ _ hm
  obtain ⟨x1, l1, c1, rfl⟩ := okWide_slice Tryd.underlying22 (hval 1 22 v1 rfl rfl)
  obtain ⟨a1, w1⟩ : ∃ a, FactFiles W (.slice x1 l1 c1) a := by
    obtain ⟨fuel, hf⟩ := h1
    obtain ⟨v', a, hcs, hs⟩ := open_files hf
    obtain rfl : v' = .slice x1 l1 c1 := by simpa [Value.cells] using hcs.symm
    exact ⟨a, hs⟩
  have k2 := h2
  have lt2 : ∀ x ∈ p2, x.block < W.heap.size := by obtain ⟨m, hm⟩ := k2; exact DataW.trod_lt m _ _ _ hm
  obtain ⟨a2, rfl, w2⟩ := open_file (hval 2 24 v2 rfl rfl) h2
  have k3 := h3
  have lt3 : ∀ x ∈ p3, x.block < W.heap.size := by obtain ⟨m, hm⟩ := k3; exact DataW.trod_lt m _ _ _ hm
  obtain ⟨a3, rfl, _, _, w3⟩ := open_str Tryd.underlying9 (hval 3 9 v3 rfl rfl) h3
  clear hA0
  refine (walk (.slice x0 l0 c0) a0 (.slice x1 l1 c1) a1 a2 a3 W w0 w1 w2 w3).mono fun e W' ⟨he, bel⟩ => ?_
  subst he
  exact ⟨_, rfl, _, _, _, [], _, [], hW', trodAll_mk1 (shut_bool Tryd.underlying4 _), (trodAll_cons_mk (Below.trod laidOut (by kernel_rfl) (of_decide_eq_true (by kernel_rfl)) k0 bel lt0) (trodAll_cons_mk (Below.trod laidOut (by kernel_rfl) (of_decide_eq_true (by kernel_rfl)) k1 bel lt1) (trodAll_cons_mk (Below.trod laidOut (by kernel_rfl) (of_decide_eq_true (by kernel_rfl)) k2 bel lt2) (trodAll_cons_mk (Below.trod laidOut (by kernel_rfl) (of_decide_eq_true (by kernel_rfl)) k3 bel lt3) trodAll_mk0)))), rfl, bel.frame _, fun h => by cases h⟩

set_option maxRecDepth 100000 in
theorem lifted (os : Os) (started : os.Started) (H : Type) (enc : TypeId × Value → H) (F : Stop.Interp) :
    ReturnsInHanded {} Tryd.checked os 3 .any ((OpenSpec.ofChange Rows.treeTellsSpec).preRow enc Tryd.prog Tryd.f3 Rows.treeTellsRow.domain false Rows.treeTellsRow.laid) (((OpenSpec.ofChange Rows.treeTellsSpec).at F).post enc Tryd.prog Tryd.f3 false true false false) := by
  obtain ⟨places, hx⟩ := reads os enc
  refine returnsInHanded_of_row (C := Tryd.checked) (s := OpenSpec.ofChange Rows.treeTellsSpec) own started (by kernel_rfl) Tryd.func3
    (witness_row_at (enc := enc) (C := Tryd.checked) false (laidWorld os) #[.slice none 0 0, .slice none 0 0, .agg #[.string ByteArray.empty, .bool false, .string ByteArray.empty], .string ByteArray.empty] rfl (by kernel_rfl) (by kernel_rfl) (by kernel_rfl)
      (OpenSpec.preRow_of_cond 8 hx (by kernel_rfl) (fun k hk => by cases hk) (by kernel_rfl) (laid_met os))) ?_
  intro W base args ds gs before hval hW _ _ _ hL _ _
  exact contract H enc W base args ds gs before hval hW hL

theorem said : Rows.TreeTellsSaid :=
  OpenClaim.holds_of_cond 3 Tryd.f3 rfl rfl rfl rfl rfl rfl rfl ⟨rfl, rfl, rfl, rfl, rfl⟩ rfl rfl rfl rfl rfl (by kernel_rfl) Tryd.func3 (by kernel_rfl)
    (of_decide_eq_true (by kernel_rfl)) (by unfold Func.isWrapper; first | (rw [if_pos (by decide +kernel)]; kernel_rfl) | (rw [if_neg (by decide +kernel)]; exact ⟨rfl, rfl⟩))
    (fun os started H enc _ F => by rw [OpenClaim.pre_eq_preRow]; exact lifted os started H enc F)

theorem plain (f : FuncId) (fn : Func) (hf : Tryd.pinned.checked.prog.funcNamed "rick/ricklaw12.TreeTells" = some f) (hfn : Tryd.pinned.checked.prog.funcs[f]? = some fn) :
    false = Tryd.pinned.checked.prog.looks [] ∧ ∀ (j : Nat) t, fn.params[j]? = some t → Tryd.pinned.checked.prog.wantsStandIn t = false := by
  obtain rfl : f = 3 := Option.some.inj ((show Tryd.prog.funcNamed "rick/ricklaw12.TreeTells" = some 3 by kernel_rfl).symm.trans hf) |>.symm
  obtain rfl : fn = Tryd.f3 := (Option.some.inj (Tryd.func3.symm.trans hfn)).symm
  refine ⟨by kernel_rfl, fun j t ht => ?_⟩
  rw [Tryd.params3] at ht
  have hm := Array.mem_of_getElem? ht
  simp only [List.mem_toArray, List.mem_cons, List.not_mem_nil, or_false] at hm
  rcases hm with rfl | rfl | rfl | rfl
  · exact (show Tryd.prog.wantsStandIn 22 = false by kernel_rfl)
  · exact (show Tryd.prog.wantsStandIn 22 = false by kernel_rfl)
  · exact (show Tryd.prog.wantsStandIn 24 = false by kernel_rfl)
  · exact (show Tryd.prog.wantsStandIn 9 = false by kernel_rfl)

/-- The statement. -/
theorem proved : Rows.TreeTellsCardSaid :=
  Claim7.holds_tied_plain_at .later [] _ _ _ _ said (fun _ h => by cases h) (by kernel_rfl) (fun _ h => by cases h) treeTells_row_tie rfl ⟨rfl, rfl⟩ (by kernel_rfl) rfl plain (by kernel_rfl)
#print axioms proved

end Go.Proofs.YtndmblelkeepjaaDoor.treeTells
