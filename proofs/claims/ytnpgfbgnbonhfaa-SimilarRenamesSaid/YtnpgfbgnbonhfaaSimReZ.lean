/-
  SimilarRenames: what holds of each pair, as it is asked; where nothing moved there is none.
-/
import Derived.Test.YtnpgfbgnbonhfaaG4
import Derived.Test.YtnpgfbgnbonhfaaSimHm
import Derived.Test.YtnpgfbgnbonhfaaRtrE
import Derived.Test.YtnpgfbgnbonhfaaOpenF
import Derived.Test.YtnpgfbgnbonhfaaG6
import Derived.Test.YtnpgfbgnbonhfaaFam
import Derived.Deep.RegionLaw
import Derived.ProofKit
import Derived.OpenShut
namespace Go.Proofs.Ytnpgfbgnbonhfaa.similarRenames
open Go.ChangeShapes Go.WideShapes Go.ChangeAt Go.RowKit
open BigFrame

section
set_option maxRecDepth 100000
set_option maxHeartbeats 4000000
/-- one before the other -/
theorem ren_below {a b : List FileS} {r : List RenS} (h : RenOk a b r) {i j : Nat} {p q p2 q2 : Txt} (hij : i < j) (hi : r[i]? = some (p, q)) (hj : r[j]? = some (p2, q2)) : ltS p p2 = true := by
  obtain ⟨h1, e1⟩ := List.getElem?_eq_some_iff.1 hi
  obtain ⟨h2, e2⟩ := List.getElem?_eq_some_iff.1 hj
  have := List.pairwise_iff_getElem.1 h.rise i j h1 h2 hij
  rw [e1, e2] at this
  exact this
theorem ren_apart {a b : List FileS} {r : List RenS} (h : RenOk a b r) {i j : Nat} {p q p2 q2 : Txt} (hij : i < j) (hi : r[i]? = some (p, q)) (hj : r[j]? = some (p2, q2)) : q ≠ q2 := by
  obtain ⟨h1, e1⟩ := List.getElem?_eq_some_iff.1 hi
  obtain ⟨h2, e2⟩ := List.getElem?_eq_some_iff.1 hj
  have := List.pairwise_iff_getElem.1 h.once i j h1 h2 hij
  rw [e1, e2] at this
  exact this
theorem tree_text {l : List FileS} (h : IsTree l) {p t : Txt} {x : Bool} (hm : (p, x, t) ∈ l) : t.length ≤ 1000000 := by
  have := h.ok _ hm
  rw [okOne, Bool.and_eq_true] at this
  have h2 : t.length ≤ 20000 := of_decide_eq_true this.2
  omega
theorem walk (va : Value) (l : List FileS) (vb : Value) (m : List FileS) (w : World) (ha : FactFiles w va l) (hb : FactFiles w vb m) :
    Calls Try.prog 4 #[va, vb] w fun e w' => e = .returned (.bool true) ∧ Below w.heap.size w w' := by
  have HAW := hid (fun wy : World => awake_any wy)
  have HF1 := hid (few_any va l w ha.1 ha.2.1)
  have HF2 := hid (few_any vb m w hb.1 hb.2.1)
  have HA := hid ha.1
  have HM := hid hb.1
  clear ha hb
  obtain ⟨A, hA⟩ : ∃ y, treeS l = y := ⟨_, rfl⟩
  have HTA := hid (show IsTree A by rw [← hA]; exact (treeS_is l).1)
  have HEA := hid hA
  clear hA
  obtain ⟨B, hB⟩ : ∃ y, treeS m = y := ⟨_, rfl⟩
  have HTB := hid (show IsTree B by rw [← hB]; exact (treeS_is m).1)
  have HEB := hid hB
  clear hB
  have HB0 := hid (Below.refl w.heap.size w)
  go_enter Try.func4, Try.ntmps4
  go_wp2_with fail
  refine HF1.out.mono ?_
  rintro e _ ⟨⟨b, rfl⟩, rfl⟩
  clear HF1
  cases b with
  | false =>
    go_wp2_with (go_at_call 7; refine (HAW.out _).mono ?_; rintro e w2 ⟨rfl, hb2⟩; have HB2 := hid (below_step HB0.out hb2 HB0.out.size); clear hb2)
    go_ret
    exact ⟨rfl, HB2.out⟩
  | true =>
  go_wp2_with fail
  refine HF2.out.mono ?_
  rintro e _ ⟨⟨b, rfl⟩, rfl⟩
  clear HF2
  cases b with
  | false =>
    go_wp2_with (go_at_call 7; refine (HAW.out _).mono ?_; rintro e w2 ⟨rfl, hb2⟩; have HB2 := hid (below_step HB0.out hb2 HB0.out.size); clear hb2)
    go_ret
    exact ⟨rfl, HB2.out⟩
  | true =>
  go_wp2_with fail
  have hT := PTree_any _ l w HA.out
  rw [HEA.out] at hT
  refine hT.mono ?_
  rintro e x1 ⟨u, rfl, ho, hb⟩
  have hB1 := hid (below_step HB0.out hb HB0.out.size)
  have HM := hid (SlR.old HM.out hb)
  have TA := hid ho.sl
  obtain ⟨uo1, uc1, rfl⟩ := owns_form ho
  clear hb hT ho
  clear HA
  go_wp2_with fail
  have hT := PTree_any _ m x1 HM.out
  rw [HEB.out] at hT
  refine hT.mono ?_
  rintro e x2 ⟨u, rfl, ho, hb⟩
  have hB2 := hid (below_step hB1.out hb hB1.out.size)
  have HM := hid (SlR.old HM.out hb)
  have TA := hid (SlR.old TA.out hb)
  have TB := hid ho.sl
  obtain ⟨uo2, uc2, rfl⟩ := owns_form ho
  clear hb hT ho
  go_wp2_with fail
  refine (DRenames_any _ _ A B x2 TA.out TB.out HTA.out HTB.out).mono ?_
  rintro e x3 ⟨u, r, rfl, hok, ho, hb⟩
  have hB3 := hid (below_step hB2.out hb hB2.out.size)
  have HM := hid (SlR.old HM.out hb)
  have TA := hid (SlR.old TA.out hb)
  have TB := hid (SlR.old TB.out hb)
  have TR := hid ho.sl
  obtain ⟨uo3, uc3, rfl⟩ := owns_form ho
  have HOK := hid hok
  have HRL := hid (Nat.le_trans (RenOk.len hok) HTA.out.len)
  clear hb ho hok
  have HN1 := hid (fun (wy : World) (h : Below x3.heap.size x3 wy) => show Calls Try.prog 11 #[.slice uo1 A.length uc1, .slice uo1 A.length uc1] wy fun e w2 => ∃ xo xc, e = .returned (.slice xo 0 xc) ∧ Below x3.heap.size x3 w2 from (DRenames_any _ _ A A wy (SlR.old TA.out h) (SlR.old TA.out h) HTA.out HTA.out).mono fun e w2 ⟨v, r, he, hr, ho, hb⟩ => by obtain rfl := RenOk.same hr; obtain ⟨xo, xc, rfl⟩ := owns_form ho; exact ⟨xo, xc, he, below_step h hb h.size⟩)
  have HN2 := hid (fun (wy : World) (h : Below x3.heap.size x3 wy) => show Calls Try.prog 11 #[.slice uo1 A.length uc1, .slice none 0 0] wy fun e w2 => ∃ xo xc, e = .returned (.slice xo 0 xc) ∧ Below x3.heap.size x3 w2 from (DRenames_any _ _ A [] wy (SlR.old TA.out h) (SlR.nil _) HTA.out IsTree.nil).mono fun e w2 ⟨v, r, he, hr, ho, hb⟩ => by obtain rfl := RenOk.none_right hr; obtain ⟨xo, xc, rfl⟩ := owns_form ho; exact ⟨xo, xc, he, below_step h hb h.size⟩)
  have HN3 := hid (fun (wy : World) (h : Below x3.heap.size x3 wy) => show Calls Try.prog 11 #[.slice none 0 0, .slice uo2 B.length uc2] wy fun e w2 => ∃ xo xc, e = .returned (.slice xo 0 xc) ∧ Below x3.heap.size x3 w2 from (DRenames_any _ _ [] B wy (SlR.nil _) (SlR.old TB.out h) IsTree.nil HTB.out).mono fun e w2 ⟨v, r, he, hr, ho, hb⟩ => by obtain rfl := RenOk.none_left hr; obtain ⟨xo, xc, rfl⟩ := owns_form ho; exact ⟨xo, xc, he, below_step h hb h.size⟩)
  go_wp2_with fail
  go_loopg [8] r.length (fun g i wr => ∃ k : Nat, i = .int .i64 (k : Int) ∧ Hid (k ≤ r.length ∧ r.length - k ≤ g) ∧ Hid (Below x3.heap.size x3 wr))
  case atStart => exact ⟨0, rfl, hid ⟨Nat.zero_le _, Nat.le_refl _⟩, hid (Below.refl _ _)⟩
  case round =>
    obtain ⟨k, rfl, HQ, HB⟩ := hrel
    have hQ := HQ.out
    have k0 : (0 : Int) ≤ (k : Int) := Int.natCast_nonneg _
    by_cases hlt : k < r.length
    case neg =>
      obtain rfl : k = r.length := by omega
      have hneg : ¬ (r.length : Int) < (r.length : Int) := by omega
      clear hlt
      go_wp2_with (first | (go_at_call 7; refine (HAW.out _).mono ?_; rintro e y1 ⟨rfl, hb⟩; have HC := hid (below_step HB.out hb HB.out.size); clear hb) | (go_at_call 11; (first | with_reducible refine (HN1.out _ HC.out).mono ?_ | with_reducible refine (HN2.out _ HC.out).mono ?_ | with_reducible refine (HN3.out _ HC.out).mono ?_); rintro e y2 ⟨xo, xc, rfl, hb⟩; have HC := hid hb; clear hb))
      go_ret
      exact ⟨rfl, below_step hB3.out HC.out hB3.out.size⟩
    have k1 : (k : Int) < (r.length : Int) := by omega
    have kw : IntKind.i64.wrap ((k : Int) + 1) = (k : Int) + 1 := IntWalk.i64_in _ (by have := HRL.out; omega)
    obtain ⟨b, o, p, q, hao, he, c1, c2⟩ := SlV.at (SlR.old TR.out HB.out) hlt
    subst hao
    have HE := hid he
    obtain ⟨⟨xp, xx, tx⟩, ⟨yp, yx, ty⟩, f1, f2, f3, f4, f5, f6⟩ := HOK.out.find HTA.out.rise HTB.out.rise (List.mem_of_getElem? he)
    obtain ⟨⟨gp, gx, gt⟩, hgz⟩ : ∃ y : FileS, y = fileZ := ⟨_, rfl⟩
    have HLA := hid HTA.out.len
    have HLB := hid HTB.out.len
    have HD1 := hid (fun (wy : World) (h : Below x3.heap.size x3 wy) => show Calls Try.prog 12 #[.slice uo1 A.length uc1, .string ⟨p.toArray⟩] wy fun e w2 => e = .returned (.tuple #[.agg #[.string ⟨xp.toArray⟩, .bool xx, .string ⟨tx.toArray⟩], .bool true]) ∧ Below wy.heap.size wy w2 by have hT := RFind_any _ A p wy (SlR.old TA.out h) (by have := HLA.out; omega); rw [f1] at hT; exact hT)
    have HD2 := hid (fun (wy : World) (h : Below x3.heap.size x3 wy) => show Calls Try.prog 12 #[.slice uo2 B.length uc2, .string ⟨q.toArray⟩] wy fun e w2 => e = .returned (.tuple #[.agg #[.string ⟨yp.toArray⟩, .bool yx, .string ⟨ty.toArray⟩], .bool true]) ∧ Below wy.heap.size wy w2 by have hT := RFind_any _ B q wy (SlR.old TB.out h) (by have := HLB.out; omega); rw [f2] at hT; exact hT)
    have HD3 := hid (fun (wy : World) (h : Below x3.heap.size x3 wy) => show Calls Try.prog 12 #[.slice uo2 B.length uc2, .string ⟨p.toArray⟩] wy fun e w2 => e = .returned (.tuple #[.agg #[.string ⟨gp.toArray⟩, .bool gx, .string ⟨gt.toArray⟩], .bool false]) ∧ Below wy.heap.size wy w2 by have hT := RFind_any _ B p wy (SlR.old TB.out h) (by have := HLB.out; omega); rw [f3, Option.getD_none, ← hgz] at hT; exact hT)
    have HD4 := hid (fun (wy : World) (h : Below x3.heap.size x3 wy) => show Calls Try.prog 12 #[.slice uo1 A.length uc1, .string ⟨q.toArray⟩] wy fun e w2 => e = .returned (.tuple #[.agg #[.string ⟨gp.toArray⟩, .bool gx, .string ⟨gt.toArray⟩], .bool false]) ∧ Below wy.heap.size wy w2 by have hT := RFind_any _ A q wy (SlR.old TA.out h) (by have := HLA.out; omega); rw [f4, Option.getD_none, ← hgz] at hT; exact hT)
    have tb : (tx == []) = false := beq_false_of_ne f5
    have HAL := hid f6
    have hxl : tx.length ≤ 1000000 := tree_text HTA.out (find_some f1).1
    have hyl : ty.length ≤ 1000000 := tree_text HTB.out (find_some f2).1
    have HR := hid (fun wy : World => RRatio_any tx ty wy hxl hyl)
    clear f1 f2 f3 f4 f5 f6 hgz hxl hyl he
    go_wp2_with fail
    refine (HD1.out _ HB.out).mono ?_
    rintro e x4 ⟨rfl, hb⟩
    have hB4 := hid (below_step HB.out hb HB.out.size)
    have c1 := below_cell hb c1
    have c2 := below_cell hb c2
    clear hb HD1
    go_wp2_with (refine file_store rfl 31 _ _ rfl _ #[.string ⟨xp.toArray⟩, .bool xx, .string ⟨tx.toArray⟩] rfl rfl _ _ (heap_alloc_new _ _) 3 Try.sizeFile rfl rfl (by simp [Value.oneCell']) ?_; intro x5 hg9 hk9; have hb : Below x4.heap.size x4 x5 := ((Below.refl _ x4).alloc (Nat.le_refl _) _).trans (hk9.below (by simp) (fun j hj e => by omega)); have hB5 := hid (below_step hB4.out hb hB4.out.size); have c1 := below_cell hb c1; have c2 := below_cell hb c2; have d0 := blk_cell (i := 0) hg9 rfl; have d1 := blk_cell (i := 1) hg9 rfl; have d2 := blk_cell (i := 2) hg9 rfl; clear hb hg9 hk9)
    refine (HD2.out _ hB5.out).mono ?_
    rintro e x6 ⟨rfl, hb⟩
    have hB6 := hid (below_step hB5.out hb hB5.out.size)
    have c1 := below_cell hb c1
    have c2 := below_cell hb c2
    have d0 := below_cell hb d0
    have d1 := below_cell hb d1
    have d2 := below_cell hb d2
    clear hb HD2
    go_wp2_with (refine file_store rfl 31 _ _ rfl _ #[.string ⟨yp.toArray⟩, .bool yx, .string ⟨ty.toArray⟩] rfl rfl _ _ (heap_alloc_new _ _) 3 Try.sizeFile rfl rfl (by simp [Value.oneCell']) ?_; intro x7 hg9 hk9; have hb : Below x6.heap.size x6 x7 := ((Below.refl _ x6).alloc (Nat.le_refl _) _).trans (hk9.below (by simp) (fun j hj e => by omega)); have hB7 := hid (below_step hB6.out hb hB6.out.size); have c1 := below_cell hb c1; have c2 := below_cell hb c2; have d0 := below_cell hb d0; have d1 := below_cell hb d1; have d2 := below_cell hb d2; have e0 := blk_cell (i := 0) hg9 rfl; have e1 := blk_cell (i := 1) hg9 rfl; have e2 := blk_cell (i := 2) hg9 rfl; clear hb hg9 hk9)
    refine (HD3.out _ hB7.out).mono ?_
    rintro e x8 ⟨rfl, hb⟩
    have hB8 := hid (below_step hB7.out hb hB7.out.size)
    have c1 := below_cell hb c1
    have c2 := below_cell hb c2
    have d0 := below_cell hb d0
    have d1 := below_cell hb d1
    have d2 := below_cell hb d2
    have e0 := below_cell hb e0
    have e1 := below_cell hb e1
    have e2 := below_cell hb e2
    clear hb HD3
    go_wp2_with (refine file_store rfl 31 _ _ rfl _ #[.string ⟨gp.toArray⟩, .bool gx, .string ⟨gt.toArray⟩] rfl rfl _ _ (heap_alloc_new _ _) 3 Try.sizeFile rfl rfl (by simp [Value.oneCell']) ?_; intro x9 hg9 hk9; have hb : Below x8.heap.size x8 x9 := ((Below.refl _ x8).alloc (Nat.le_refl _) _).trans (hk9.below (by simp) (fun j hj e => by omega)); have hB9 := hid (below_step hB8.out hb hB8.out.size); have c1 := below_cell hb c1; have c2 := below_cell hb c2; have d0 := below_cell hb d0; have d1 := below_cell hb d1; have d2 := below_cell hb d2; have e0 := below_cell hb e0; have e1 := below_cell hb e1; have e2 := below_cell hb e2; have g0 := blk_cell (i := 0) hg9 rfl; have g1 := blk_cell (i := 1) hg9 rfl; have g2 := blk_cell (i := 2) hg9 rfl; clear hb hg9 hk9)
    refine (HD4.out _ hB9.out).mono ?_
    rintro e x10 ⟨rfl, hb⟩
    have hB10 := hid (below_step hB9.out hb hB9.out.size)
    have c1 := below_cell hb c1
    have c2 := below_cell hb c2
    have d0 := below_cell hb d0
    have d1 := below_cell hb d1
    have d2 := below_cell hb d2
    have e0 := below_cell hb e0
    have e1 := below_cell hb e1
    have e2 := below_cell hb e2
    have g0 := below_cell hb g0
    have g1 := below_cell hb g1
    have g2 := below_cell hb g2
    clear hb HD4
    clear g0 g1 g2
    go_upto_region 12 with (refine file_store rfl 31 _ _ rfl _ #[.string ⟨gp.toArray⟩, .bool gx, .string ⟨gt.toArray⟩] rfl rfl _ _ (heap_alloc_new _ _) 3 Try.sizeFile rfl rfl (by simp [Value.oneCell']) ?_; intro x11 hg9 hk9; have hb : Below x10.heap.size x10 x11 := ((Below.refl _ x10).alloc (Nat.le_refl _) _).trans (hk9.below (by simp) (fun j hj e => by omega)); have hB11 := hid (below_step hB10.out hb hB10.out.size); have c1 := below_cell hb c1; have c2 := below_cell hb c2; have d0 := below_cell hb d0; have d1 := below_cell hb d1; have d2 := below_cell hb d2; have e0 := below_cell hb e0; have e1 := below_cell hb e1; have e2 := below_cell hb e2; have h0 := blk_cell (i := 0) hg9 rfl; have h1 := blk_cell (i := 1) hg9 rfl; have h2 := blk_cell (i := 2) hg9 rfl; clear hb hg9 hk9)
    clear c2 d0 d1 e0 e1 h0 h1 h2
    unfold strV at HR
    go_cut [129] from 80 to 129 (fun c wx => c = .bool false ∧ Hid (Below x3.heap.size x3 wx))
    case first =>
      obtain ⟨ι, _, f, hf, hc⟩ := fam x11
      have c1 := fam_cell hf c1
      have d2 := fam_cell hf d2
      have e2 := fam_cell hf e2
      by_cases hte : tx = ty
      · subst hte
        have n1 : (tx == tx) = true := by simp
        have n2 : (tx != tx) = false := by simp
        by_cases hk0 : k = 0
        · have z1 : decide (0 < (k : Int)) = false := decide_eq_false (by omega)
          have z2 : decide (0 < k) = false := decide_eq_false (by omega)
          clear hk0
          refine quiet_region (fun w2 => ∃ i, w2 = f i) (by kernel_rfl) (by kernel_rfl) (hc _ ((Below.refl _ _).drew)) ?_
          repeat (go_big_quiet_step ((go_at_call 13; exact fam_call hf hc (HR.out _))))
          refine wpQuiet_nil ?_
          intro _ hw2
          obtain ⟨nq, hw3⟩ := hw2
          subst hw3
          go_wp2_with fail
          go_meet
          exact ⟨rfl, hid (below_step hB11.out (hf nq) hB11.out.size)⟩
        · have z1 : decide (0 < (k : Int)) = true := decide_eq_true (by omega)
          have z2 : decide (0 < k) = true := decide_eq_true (by omega)
          obtain ⟨j, hj⟩ : ∃ j, k = j + 1 := ⟨k - 1, by omega⟩
          have j0 : (0 : Int) ≤ (j : Int) := Int.natCast_nonneg _
          have jl : (j : Int) < (r.length : Int) := by omega
          have jw : IntKind.i64.wrap ((k : Int) - 1) = (j : Int) := (IntWalk.i64_in _ (by have := HRL.out; omega)).trans (by omega)
          obtain ⟨b2, o2, pj, qj, hao, hej, cj, _⟩ := SlV.at (SlR.old TR.out hB11.out) (i := j) (by omega)
          cases hao
          have cj := fam_cell hf cj
          have hlt2 := ren_below HOK.out (show j < k by omega) hej HE.out
          have s1 : Op.bytesLess p pj = false := lt_asym hlt2
          have s2 : Op.bytesLess pj p = true := hlt2
          have s3 : (p == pj) = false := beq_false_of_ne fun e => lt_ne hlt2 e.symm
          clear hk0 hj hej hlt2
          refine quiet_region (fun w2 => ∃ i, w2 = f i) (by kernel_rfl) (by kernel_rfl) (hc _ ((Below.refl _ _).drew)) ?_
          repeat (go_big_quiet_step ((go_at_call 13; exact fam_call hf hc (HR.out _))))
          refine wpQuiet_nil ?_
          intro _ hw2
          obtain ⟨nq, hw3⟩ := hw2
          subst hw3
          go_wp2_with fail
          go_meet
          exact ⟨rfl, hid (below_step hB11.out (hf nq) hB11.out.size)⟩
      · have n1 : (tx == ty) = false := beq_false_of_ne hte
        have n2 : (tx != ty) = true := by simpa using hte
        have h50 : 50 ≤ ratioS tx ty := HAL.out.resolve_left hte
        obtain ⟨R, hR⟩ : ∃ R, ratioS tx ty = R := ⟨_, rfl⟩
        rw [hR] at HR h50
        have r1 : decide ((R : Int) < 50) = false := decide_eq_false (by omega)
        have r2 : decide (R < 50) = false := decide_eq_false (by omega)
        clear hte hR h50
        by_cases hk0 : k = 0
        · have z1 : decide (0 < (k : Int)) = false := decide_eq_false (by omega)
          have z2 : decide (0 < k) = false := decide_eq_false (by omega)
          clear hk0
          refine quiet_region (fun w2 => ∃ i, w2 = f i) (by kernel_rfl) (by kernel_rfl) (hc _ ((Below.refl _ _).drew)) ?_
          repeat (go_big_quiet_step ((go_at_call 13; exact fam_call hf hc (HR.out _))))
          refine wpQuiet_nil ?_
          intro _ hw2
          obtain ⟨nq, hw3⟩ := hw2
          subst hw3
          go_wp2_with fail
          go_meet
          exact ⟨rfl, hid (below_step hB11.out (hf nq) hB11.out.size)⟩
        · have z1 : decide (0 < (k : Int)) = true := decide_eq_true (by omega)
          have z2 : decide (0 < k) = true := decide_eq_true (by omega)
          obtain ⟨j, hj⟩ : ∃ j, k = j + 1 := ⟨k - 1, by omega⟩
          have j0 : (0 : Int) ≤ (j : Int) := Int.natCast_nonneg _
          have jl : (j : Int) < (r.length : Int) := by omega
          have jw : IntKind.i64.wrap ((k : Int) - 1) = (j : Int) := (IntWalk.i64_in _ (by have := HRL.out; omega)).trans (by omega)
          obtain ⟨b2, o2, pj, qj, hao, hej, cj, _⟩ := SlV.at (SlR.old TR.out hB11.out) (i := j) (by omega)
          cases hao
          have cj := fam_cell hf cj
          have hlt2 := ren_below HOK.out (show j < k by omega) hej HE.out
          have s1 : Op.bytesLess p pj = false := lt_asym hlt2
          have s2 : Op.bytesLess pj p = true := hlt2
          have s3 : (p == pj) = false := beq_false_of_ne fun e => lt_ne hlt2 e.symm
          clear hk0 hj hej hlt2
          refine quiet_region (fun w2 => ∃ i, w2 = f i) (by kernel_rfl) (by kernel_rfl) (hc _ ((Below.refl _ _).drew)) ?_
          repeat (go_big_quiet_step ((go_at_call 13; exact fam_call hf hc (HR.out _))))
          refine wpQuiet_nil ?_
          intro _ hw2
          obtain ⟨nq, hw3⟩ := hw2
          subst hw3
          go_wp2_with fail
          go_meet
          exact ⟨rfl, hid (below_step hB11.out (hf nq) hB11.out.size)⟩
    case rest =>
      obtain ⟨rfl, HBC⟩ := hcut
      clear c1 d2 e2 HR HAL
      go_wp2_with fail
      go_loopg [17] k (fun g i wy => ∃ j : Nat, i = .int .i64 (j : Int) ∧ Hid (j ≤ k ∧ k - j ≤ g) ∧ Hid (Below x3.heap.size x3 wy))
      case atStart => exact ⟨0, rfl, hid ⟨Nat.zero_le _, Nat.le_refl _⟩, HBC⟩
      case round =>
        obtain ⟨j, rfl, HJ, HB⟩ := hrel
        have hJ := HJ.out
        have j0 : (0 : Int) ≤ (j : Int) := Int.natCast_nonneg _
        by_cases hjt : j < k
        · have j1 : (j : Int) < (k : Int) := by omega
          have j2 : (j : Int) < (r.length : Int) := by omega
          have jw : IntKind.i64.wrap ((j : Int) + 1) = (j : Int) + 1 := IntWalk.i64_in _ (by have := HRL.out; omega)
          obtain ⟨b2, o2, pj, qj, hao, hej, _, cj⟩ := SlV.at (SlR.old TR.out HB.out) (i := j) (by omega)
          cases hao
          obtain ⟨b3, o3, pk, qk, hao, hek, _, ck⟩ := SlV.at (SlR.old TR.out HB.out) (i := k) hlt
          cases hao
          have hne := ren_apart HOK.out hjt hej hek
          have n1 : (qj == qk) = false := beq_false_of_ne hne
          clear hej hek hne
          go_upto_region 17 with fail
          obtain ⟨ι, _, f, hf, hc⟩ := fam wr
          have cj := fam_cell hf cj
          have ck := fam_cell hf ck
          refine quiet_region (fun w2 => ∃ i, w2 = f i) (by kernel_rfl) (by kernel_rfl) (hc _ ((Below.refl _ _).drew)) ?_
          repeat (go_big_quiet_step (fail))
          refine wpQuiet_nil ?_
          intro _ hw2
          obtain ⟨nq, hw3⟩ := hw2
          subst hw3
          go_wp2_with fail
          go_roundg (k - (j + 1))
          case measure => omega
          case rel => exact ⟨j + 1, by go_num, hid (by omega), hid (below_step HB.out (hf nq) HB.out.size)⟩
        · obtain rfl : j = k := by omega
          have hneg : ¬ (j : Int) < (j : Int) := by omega
          go_wp2_with fail
          go_roundg (r.length - (j + 1))
          case measure => omega
          case rel => exact ⟨j + 1, by go_num, hid (by omega), HB⟩
end

theorem own : ownKnob Try.prog.godebug = none := by kernel_rfl
theorem laidOut : laidOutB Try.prog = true := by kernel_rfl

set_option maxRecDepth 100000 in
theorem contract (H : Type) (enc : TypeId × Value → H) (W : World) (base : Nat) (args : Array Value) (ds gs : List (DataW H)) (before : List MemPlace)
    (hval : ∀ (j : Nat) t v, Try.f4.params[j]? = some t → args[j]? = some v → Value.okWide Try.prog W .any base t v)
    (hW : DataW.Whole enc Try.prog Try.f4.params.toList Rows.similarRenamesSpec.vars false W args.toList ds gs before) :
    Calls Try.prog 4 args W fun e W' => ∃ v, e = .returned v ∧ Rows.similarRenamesSpec.post enc Try.prog Try.f4 false true false false W args v W' := by
  have hW' := hW
  obtain ⟨p, q, hA0, hV, rfl, hfz, hnd⟩ := hW
  have hA : DataW.TrodAll enc Try.prog W 0 (fun _ => true) true Try.f4.params.toList args.toList ds p := hA0
  rw [Try.params4] at hA hval
  obtain ⟨v0, vs0, d0, ds0, p0, q0, hargs, rfl, rfl, h0, r0⟩ := trodAll_cons hA
  obtain ⟨v1, vs1, d1, ds1, p1, q1, rfl, rfl, rfl, h1, r1⟩ := trodAll_cons r0
  obtain ⟨rfl, rfl, rfl⟩ := trodAll_nil r1
  obtain rfl : args = #[v0, v1] := by cases args; simp_all
  obtain ⟨rfl, rfl⟩ := trodVars_none hV
  have k0 := h0
  have lt0 : ∀ x ∈ p0, x.block < W.heap.size := by obtain ⟨m, hm⟩ := k0; exact DataW.trod_lt m _ _ _ hm
  obtain ⟨x0, l0, c0, rfl⟩ := okWide_slice Try.underlying25 (hval 0 25 v0 rfl rfl)
  obtain ⟨a0, w0⟩ : ∃ a, FactFiles W (.slice x0 l0 c0) a := by
    obtain ⟨fuel, hf⟩ := h0
    obtain ⟨v', a, hcs, hs⟩ := open_files hf
    obtain rfl : v' = .slice x0 l0 c0 := by simpa [Value.cells] using hcs.symm
    exact ⟨a, hs⟩
  have k1 := h1
  have lt1 : ∀ x ∈ p1, x.block < W.heap.size := by obtain ⟨m, hm⟩ := k1; exact DataW.trod_lt m _ _ _ hm
  obtain ⟨x1, l1, c1, rfl⟩ := okWide_slice Try.underlying25 (hval 1 25 v1 rfl rfl)
  obtain ⟨a1, w1⟩ : ∃ a, FactFiles W (.slice x1 l1 c1) a := by
    obtain ⟨fuel, hf⟩ := h1
    obtain ⟨v', a, hcs, hs⟩ := open_files hf
    obtain rfl : v' = .slice x1 l1 c1 := by simpa [Value.cells] using hcs.symm
    exact ⟨a, hs⟩
  clear hA0
  refine (walk (.slice x0 l0 c0) a0 (.slice x1 l1 c1) a1 W w0 w1).mono fun e W' ⟨he, bel⟩ => ?_
  subst he
  exact ⟨_, rfl, _, _, _, [], _, [], hW', trodAll_mk1 (shut_bool Try.underlying4 _), (trodAll_cons_mk (Below.trod laidOut (by kernel_rfl) (of_decide_eq_true (by kernel_rfl)) k0 bel lt0) (trodAll_cons_mk (Below.trod laidOut (by kernel_rfl) (of_decide_eq_true (by kernel_rfl)) k1 bel lt1) trodAll_mk0)), rfl, bel.frame _, fun h => by cases h⟩

set_option maxRecDepth 100000 in
theorem lifted (os : Os) (started : os.Started) (H : Type) (enc : TypeId × Value → H) :
    ReturnsInHanded {} Try.checked os 4 .any (Rows.similarRenamesSpec.pre6 enc Try.prog Try.f4 Rows.similarRenamesRow.domain false) (Rows.similarRenamesSpec.post enc Try.prog Try.f4 false true false false) := by
  refine returnsInHanded_of_change (C := Try.checked) own started (by kernel_rfl) Try.func4
    (ChangeSpec.witness6 (enc := enc) (C := Try.checked) false ⟨#[], #[.slice none 0 0, .slice none 0 0], []⟩ 8 (by kernel_rfl) (by kernel_rfl) (by kernel_rfl) (by kernel_rfl)) ?_
  intro W base args ds gs before hval hW _ _
  exact contract H enc W base args ds gs before hval hW

theorem over : Rows.similarRenamesRow.holds Try.pinned (OpenSpec.ofChange Rows.similarRenamesSpec) :=
  OpenClaim.holds_of_wide 4 Try.f4 rfl rfl rfl rfl rfl rfl rfl ⟨rfl, rfl, rfl, rfl, rfl⟩ rfl rfl rfl rfl rfl (by kernel_rfl) Try.func4 (by kernel_rfl)
    (of_decide_eq_true (by kernel_rfl)) (by unfold Func.isWrapper; first | (rw [if_pos (by decide +kernel)]; kernel_rfl) | (rw [if_neg (by decide +kernel)]; exact ⟨rfl, rfl⟩))
    (fun os started H enc _ => lifted os started H enc)

/-- The statement. -/
theorem proved : Rows.SimilarRenamesSaid :=
  over
#print axioms proved

end Go.Proofs.Ytnpgfbgnbonhfaa.similarRenames
