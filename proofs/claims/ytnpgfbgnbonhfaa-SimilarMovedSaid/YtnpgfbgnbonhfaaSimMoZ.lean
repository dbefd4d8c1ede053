/-
  SimilarMoved: a file that moves, as it is, to a place where nothing was, is found.
-/
import Derived.Test.YtnpgfbgnbonhfaaG4
import Derived.Test.YtnpgfbgnbonhfaaSimHm
import Derived.Test.YtnpgfbgnbonhfaaRtrE
import Derived.Test.YtnpgfbgnbonhfaaOpenF
import Derived.Deep.RegionLaw
import Derived.ProofKit
import Derived.OpenShut
namespace Go.Proofs.Ytnpgfbgnbonhfaa.similarMoved
open Go.ChangeShapes Go.WideShapes Go.ChangeAt Go.RowKit
open BigFrame

section
set_option maxRecDepth 100000
set_option maxHeartbeats 4000000
theorem walk (v : Value) (l : List FileS) (n : Int) (tt : List UInt8) (w : World) (ha : FactFiles w v l) (_hn : (Lit.int .i64 n).wf = true) (_ht : tt.length ≤ maxLen) :
    Calls Try.prog 5 #[v, .int .i64 n, strV tt] w fun e w' => e = .returned (.bool true) ∧ Below w.heap.size w w' := by
  clear _hn _ht
  have HAW := hid (fun wy : World => awake_any wy)
  have HF := hid (few_any v l w ha.1 ha.2.1)
  have HA := hid ha.1
  clear ha
  obtain ⟨A, hA⟩ : ∃ y, treeS l = y := ⟨_, rfl⟩
  have HTA := hid (show IsTree A by rw [← hA]; exact (treeS_is l).1)
  have HLA := hid (show A.length ≤ 30 by rw [← hA]; exact (treeS_is l).2.1)
  have HEA := hid hA
  clear hA
  have HB0 := hid (Below.refl w.heap.size w)
  unfold strV
  go_enter Try.func5, Try.ntmps5
  go_wp2_with fail
  refine HF.out.mono ?_
  rintro e _ ⟨⟨b, rfl⟩, rfl⟩
  clear HF
  cases b with
  | false =>
    go_wp2_with (go_at_call 7; refine (HAW.out _).mono ?_; rintro e w2 ⟨rfl, hb2⟩; have HB2 := hid (below_step HB0.out hb2 HB0.out.size); clear hb2)
    go_ret
    exact ⟨rfl, HB2.out⟩
  | true =>
  by_cases h1 : tt.length ≤ 50
  case neg =>
    have t1i : decide (50 < (tt.length : Int)) = true := decide_eq_true (by omega)
    have t1n : decide (50 < tt.length) = true := decide_eq_true (by omega)
    clear h1
    go_wp2_with (go_at_call 7; refine (HAW.out _).mono ?_; rintro e w2 ⟨rfl, hb2⟩; have HB2 := hid (below_step HB0.out hb2 HB0.out.size); clear hb2)
    go_ret
    exact ⟨rfl, HB2.out⟩
  have t1i : decide (50 < (tt.length : Int)) = false := decide_eq_false (by omega)
  have t1n : decide (50 < tt.length) = false := decide_eq_false (by omega)
  go_wp2_with fail
  have hT := PTree_any _ l w HA.out
  rw [HEA.out] at hT
  refine hT.mono ?_
  rintro e x1 ⟨u, rfl, ho, hb⟩
  have hB1 := hid (below_step HB0.out hb HB0.out.size)
  have HA := hid (SlR.old HA.out hb)
  have TA := hid ho.sl
  obtain ⟨uo1, uc1, rfl⟩ := owns_form ho
  clear hb hT ho
  by_cases hA0 : A.length = 0
  case pos =>
    have zi : (A.length : Int) = 0 := by omega
    have zb : ((A.length : Int) == 0) = true := by simpa using zi
    have zd : decide ((A.length : Int) = 0) = true := decide_eq_true zi
    clear hA0
    go_wp2_with (go_at_call 7; refine (HAW.out _).mono ?_; rintro e w2 ⟨rfl, hb2⟩; have HB2 := hid (below_step hB1.out hb2 hB1.out.size); clear hb2)
    go_ret
    exact ⟨rfl, HB2.out⟩
  have zi : ¬ (A.length : Int) = 0 := by omega
  have zb : ((A.length : Int) == 0) = false := beq_false_of_ne zi
  have zd : decide ((A.length : Int) = 0) = false := decide_eq_false zi
  have lw : IntKind.u64.wrap (A.length : Int) = (A.length : Int) := by have := HLA.out; simp [IntKind.wrap, IntKind.bits, IntKind.signed]; omega
  obtain ⟨i, hi, hit⟩ := low_mod n A.length (by omega) (by have := HLA.out; omega)
  obtain ⟨iw, iv, _⟩ := low_in i (Nat.lt_of_lt_of_le hi (Nat.le_trans HLA.out (by decide)))
  have i0 : (0 : Int) ≤ (i : Int) := Int.natCast_nonneg _
  have i1 : (i : Int) < (A.length : Int) := Int.ofNat_lt.2 hi
  obtain ⟨b, o, p, x, t, hao, he, c1, c2, c3⟩ := SlF.at TA.out hi
  subst hao
  have HIN := hid (List.mem_of_getElem? he)
  clear he hA0 h1
  obtain ⟨⟨D, en⟩, hD⟩ : ∃ y, dropS A p = y := ⟨_, rfl⟩
  have HD := hid hD
  clear hD
  go_wp2_with (refine file_store rfl 31 _ _ rfl _ #[.string ⟨p.toArray⟩, .bool x, .string ⟨t.toArray⟩] rfl rfl _ _ (heap_alloc_new _ _) 3 Try.sizeFile rfl rfl (by simp [Value.oneCell']) ?_; intro x2 hg9 hk9; have hb : Below x1.heap.size x1 x2 := ((Below.refl _ x1).alloc (Nat.le_refl _) _).trans (hk9.below (by simp) (fun j hj e => by omega)); have hB2 := hid (below_step hB1.out hb hB1.out.size); have HA := hid (SlR.old HA.out hb); have TA := hid (SlR.old TA.out hb); have c1 := below_cell hb c1; have c2 := below_cell hb c2; have c3 := below_cell hb c3; have d0 := blk_cell (i := 0) hg9 rfl; have d1 := blk_cell (i := 1) hg9 rfl; have d2 := blk_cell (i := 2) hg9 rfl; clear hb hg9 hk9)
  have hT := RDrop_any _ A p x2 TA.out
  rw [HD.out] at hT
  unfold strV at hT
  refine hT.mono ?_
  rintro e x3 ⟨u, rfl, ho, hb⟩
  have hB3 := hid (below_step hB2.out hb hB2.out.size)
  have HA := hid (SlR.old HA.out hb)
  have TA := hid (SlR.old TA.out hb)
  have c1 := below_cell hb c1
  have c2 := below_cell hb c2
  have c3 := below_cell hb c3
  have d0 := below_cell hb d0
  have d1 := below_cell hb d1
  have d2 := below_cell hb d2
  have TD := hid ho.sl
  obtain ⟨uo3, uc3, rfl⟩ := owns_form ho
  clear hb hT ho
  clear lw hit iw iv i0 i1 zi zb zd
  clear c1 c2 c3
  by_cases hen : en = 0
  case neg =>
    have zi : ¬ (en : Int) = 0 := by omega
    have zb : ((en : Int) == 0) = false := beq_false_of_ne zi
    have zd : decide ((en : Int) = 0) = false := decide_eq_false zi
    have ze : (en == 0) = false := beq_false_of_ne hen
    go_wp2_with (go_at_call 7; refine (HAW.out _).mono ?_; rintro e w2 ⟨rfl, hb2⟩; have HB2 := hid (below_step hB3.out hb2 hB3.out.size); clear hb2)
    go_ret
    exact ⟨rfl, HB2.out⟩
  subst hen
  by_cases ht0 : t = []
  case pos =>
    subst ht0
    go_wp2_with (go_at_call 7; refine (HAW.out _).mono ?_; rintro e w2 ⟨rfl, hb2⟩; have HB2 := hid (below_step hB3.out hb2 hB3.out.size); clear hb2)
    go_ret
    exact ⟨rfl, HB2.out⟩
  have tb : (t == []) = false := beq_false_of_ne ht0
  have HT0 := hid ht0
  clear ht0
  obtain ⟨⟨gp, gx, gt⟩, hgf⟩ : ∃ y, (findS A tt).getD fileZ = y := ⟨_, rfl⟩
  obtain ⟨is, his⟩ : ∃ z, (findS A tt).isSome = z := ⟨_, rfl⟩
  have HGF := hid hgf
  have HIS := hid his
  clear hgf his
  go_wp2_with fail
  have hT := RFind_any _ A tt x3 TA.out (by have := HLA.out; omega)
  rw [HGF.out, HIS.out] at hT
  unfold fileV strV at hT
  refine hT.mono ?_
  rintro e x4 ⟨rfl, hb⟩
  have hB4 := hid (below_step hB3.out hb hB3.out.size)
  have HA := hid (SlR.old HA.out hb)
  have TA := hid (SlR.old TA.out hb)
  have d0 := below_cell hb d0
  have d1 := below_cell hb d1
  have d2 := below_cell hb d2
  have TD := hid (SlR.old TD.out hb)
  clear hb hT
  obtain ⟨⟨X, em⟩, hX⟩ : ∃ y, putS D (tt, x, t) = y := ⟨_, rfl⟩
  have HX := hid hX
  clear hX
  go_wp2_with (first | (refine file_store rfl 31 _ _ rfl _ #[.string ⟨gp.toArray⟩, .bool gx, .string ⟨gt.toArray⟩] rfl rfl _ _ (heap_alloc_new _ _) 3 Try.sizeFile rfl rfl (by simp [Value.oneCell']) ?_; intro x5 hg9 hk9; have hb : Below x4.heap.size x4 x5 := ((Below.refl _ x4).alloc (Nat.le_refl _) _).trans (hk9.below (by simp) (fun j hj e => by omega)); have hB5 := hid (below_step hB4.out hb hB4.out.size); have HA := hid (SlR.old HA.out hb); have TA := hid (SlR.old TA.out hb); have d0 := below_cell hb d0; have d1 := below_cell hb d1; have d2 := below_cell hb d2; have TD := hid (SlR.old TD.out hb); have g0 := blk_cell (i := 0) hg9 rfl; have g1 := blk_cell (i := 1) hg9 rfl; have g2 := blk_cell (i := 2) hg9 rfl; clear hb hg9 hk9) | (refine file_store rfl 31 _ _ rfl _ #[.string ⟨p.toArray⟩, .bool x, .string ⟨t.toArray⟩] rfl rfl _ _ (heap_alloc_new _ _) 3 Try.sizeFile rfl rfl (by simp [Value.oneCell']) ?_; intro x6 hg9 hk9; have k0 := blk_cell (i := 0) hg9 rfl; have k1 := blk_cell (i := 1) hg9 rfl; have k2 := blk_cell (i := 2) hg9 rfl; have kf := blk_free (i := 0) hg9))
  have hb : Below x5.heap.size x5 (x6.setCell ⟨x5.heap.size, 0, none⟩ (.string ⟨tt.toArray⟩)) := (((Below.refl _ x5).alloc (Nat.le_refl _) _).trans (hk9.below (by simp) (fun j hj e => by omega))).setCell (Nat.le_refl _) _
  generalize x6.setCell ⟨x5.heap.size, 0, none⟩ (.string ⟨tt.toArray⟩) = Y at hb ⊢
  clear hk9 hg9 k0 k1 k2 kf
  have hB6 := hid (below_step hB5.out hb hB5.out.size)
  have HA := hid (SlR.old HA.out hb)
  have TA := hid (SlR.old TA.out hb)
  have d0 := below_cell hb d0
  have d1 := below_cell hb d1
  have d2 := below_cell hb d2
  have TD := hid (SlR.old TD.out hb)
  have g0 := below_cell hb g0
  have g1 := below_cell hb g1
  have g2 := below_cell hb g2
  clear hb
  have hT := RPut_any _ D tt t x Y TD.out
  rw [HX.out] at hT
  unfold strV at hT
  refine hT.mono ?_
  rintro e x7 ⟨u, rfl, ho, hb⟩
  have hB7 := hid (below_step hB6.out hb hB6.out.size)
  have HA := hid (SlR.old HA.out hb)
  have TA := hid (SlR.old TA.out hb)
  have d0 := below_cell hb d0
  have d1 := below_cell hb d1
  have d2 := below_cell hb d2
  have TD := hid (SlR.old TD.out hb)
  have g0 := below_cell hb g0
  have g1 := below_cell hb g1
  have g2 := below_cell hb g2
  have TX := hid ho.sl
  obtain ⟨uo7, uc7, rfl⟩ := owns_form ho
  clear hb hT ho
  clear g0 g1 g2 TD
  cases is with
  | true =>
    go_wp2_with (go_at_call 7; refine (HAW.out _).mono ?_; rintro e w2 ⟨rfl, hb2⟩; have HB2 := hid (below_step hB7.out hb2 hB7.out.size); clear hb2)
    go_ret
    exact ⟨rfl, HB2.out⟩
  | false =>
  by_cases hem : em = 0
  case neg =>
    have zi : ¬ (em : Int) = 0 := by omega
    have zb : ((em : Int) == 0) = false := beq_false_of_ne zi
    have zd : decide ((em : Int) = 0) = false := decide_eq_false zi
    have ze : (em == 0) = false := beq_false_of_ne hem
    clear hem
    go_wp2_with (go_at_call 7; refine (HAW.out _).mono ?_; rintro e w2 ⟨rfl, hb2⟩; have HB2 := hid (below_step hB7.out hb2 hB7.out.size); clear hb2)
    go_ret
    exact ⟨rfl, HB2.out⟩
  subst hem
  have h2 : (putS D (tt, x, t)).2 = 0 := by rw [HX.out]
  have hXt : IsTree X := by have := (put_did h2).1; rwa [HX.out] at this
  have HMV := hid (fun (r : List RenS) (h : RenOk A X r) => show r = [(p, tt)] from moved_ren (f := (p, x, t)) (tt := tt) HIN.out (by rw [HD.out]) (by have := HIS.out; simpa using this) (by rw [HD.out]; exact h2) HT0.out (by rw [HD.out]; show RenOk A (putS D (tt, x, t)).1 r; rw [HX.out]; exact h))
  have HRN := hid (fun (va vb : Value) (wy : World) (h1 : SlF wy va A) (h2 : SlF wy vb X) => DRenames_any va vb A X wy h1 h2 HTA.out hXt)
  clear h2 hXt
  have hpl : (([(p, tt)] : List MvS) == [(p, tt)]) = true := by simp
  have HPL := hid (fun (va vb : Value) (wy : World) (h1 : SlV wy va [(p, tt)]) (h2 : SlV wy vb [(p, tt)]) => PlainV_any va vb [(p, tt)] [(p, tt)] wy h1 h2 (by simp))
  rw [hpl] at HPL
  clear hpl
  have HFP := hid (fun (y : World) (hb : Below x7.drew.heap.size x7.drew y) => (⟨below_step (Below.refl _ x7).drew hb (Nat.le_refl _), below_cell hb d0⟩ : Below x7.heap.size x7 y ∧ y.cell? ⟨x1.heap.size, 0, none⟩ = some (.string ⟨p.toArray⟩)))
  have HAL := hid (fun (y : World) (o : Obj) (h : Below x7.heap.size x7 y) => h.alloc h.size o)
  have HNEW := hid (fun (y : World) => heap_alloc_new y (Obj.cells #[.string ⟨p.toArray⟩, .string ⟨tt.toArray⟩] 35))
  have HSA := hid (fun (y : World) (o : Obj) (u : Value) (h : SlV y u [(p, tt)]) => SlR.alloc h o)
  have HRW := hid (fun (y : World) (h : Below x7.heap.size x7 y) => show Calls Try.prog 11 #[.slice (some ⟨b, o, none⟩) A.length uc1, .slice uo7 X.length uc7] y fun e y2 => ∃ xo xc, e = .returned (.slice xo 1 xc) ∧ SlV y2 (.slice xo 1 xc) [(p, tt)] ∧ Below x7.heap.size x7 y2 ∧ y2.cell? ⟨x1.heap.size, 0, none⟩ = some (.string ⟨p.toArray⟩) ∧ ∀ q, y.heap[q]? = some (Obj.cells #[.string ⟨p.toArray⟩, .string ⟨tt.toArray⟩] 35 (0, 0)) → y2.heap[q]? = some (Obj.cells #[.string ⟨p.toArray⟩, .string ⟨tt.toArray⟩] 35 (0, 0)) by
    refine (HRN.out _ _ y (SlR.old TA.out h) (SlR.old TX.out h)).mono ?_
    rintro e y2 ⟨u, r, rfl, hr, ho, hb⟩
    obtain rfl := HMV.out r hr
    have hs := ho.sl
    obtain ⟨xo, xc, rfl⟩ := owns_form ho
    exact ⟨xo, xc, rfl, hs, below_step h hb h.size, below_cell hb (below_cell h d0), fun q hq => (hb.block q (lt_of_block hq)).trans hq⟩)
  have HPW := hid (fun (y : World) (u : Value) (q : Nat) (h1 : SlV y u [(p, tt)]) (h2 : y.heap[q]? = some (Obj.cells #[.string ⟨p.toArray⟩, .string ⟨tt.toArray⟩] 35 (0, 0))) (h : Below x7.heap.size x7 y) => show Calls Try.prog 16 #[u, .slice (some ⟨q, 0, none⟩) 1 1] y fun e y3 => e = .returned (.bool true) ∧ Below x7.heap.size x7 y3 from (HPL.out _ _ y h1 (SlR.one (E := encV) (x := (p, tt)) h2 rfl)).mono fun e y3 h3 => ⟨h3.1, below_step h h3.2 h.size⟩)
  go_wp2_with fail
  go_region_law (go_simp; (first
    | (go_at_call 7; with_reducible refine (HAW.out _).mono ?_; rintro e y1 ⟨rfl, hb⟩; have hf := HFP.out y1 hb; obtain ⟨hf1, d0⟩ := hf; have HC1 := hid hf1; clear hb hf1)
    | (go_at_call 11; (first | with_reducible refine (HRW.out _ HC1.out).mono ?_ | with_reducible refine (HRW.out _ (HAL.out _ _ HC1.out)).mono ?_); rintro e y2 ⟨xo, xc, rfl, ho, hc2, hd0, hq⟩; have d0 := hd0; have HO := hid ho; have HC2 := hid hc2; (try have HQ := hid (hq _ (HNEW.out y1))); clear ho hc2 hq)
    | (go_at_call 16; (first | with_reducible refine (HPW.out _ _ _ HO.out HQ.out HC2.out).mono ?_ | with_reducible refine (HPW.out _ _ _ (HSA.out _ _ _ HO.out) (HNEW.out _) (HAL.out _ _ HC2.out)).mono ?_); rintro e y3 ⟨rfl, hc3⟩; have HC3 := hid hc3; clear hc3)); go_simp)
  all_goals
    go_wp2_with fail
    go_ret
    exact ⟨rfl, below_step hB7.out HC3.out hB7.out.size⟩
end

theorem own : ownKnob Try.prog.godebug = none := by kernel_rfl
theorem laidOut : laidOutB Try.prog = true := by kernel_rfl

set_option maxRecDepth 100000 in
theorem contract (H : Type) (enc : TypeId × Value → H) (W : World) (base : Nat) (args : Array Value) (ds gs : List (DataW H)) (before : List MemPlace)
    (hval : ∀ (j : Nat) t v, Try.f5.params[j]? = some t → args[j]? = some v → Value.okWide Try.prog W .any base t v)
    (hW : DataW.Whole enc Try.prog Try.f5.params.toList Rows.similarMovedSpec.vars false W args.toList ds gs before) :
    Calls Try.prog 5 args W fun e W' => ∃ v, e = .returned v ∧ Rows.similarMovedSpec.post enc Try.prog Try.f5 false true false false W args v W' := by
  have hW' := hW
  obtain ⟨p, q, hA0, hV, rfl, hfz, hnd⟩ := hW
  have hA : DataW.TrodAll enc Try.prog W 0 (fun _ => true) true Try.f5.params.toList args.toList ds p := hA0
  rw [Try.params5] at hA hval
  obtain ⟨v0, vs0, d0, ds0, p0, q0, hargs, rfl, rfl, h0, r0⟩ := trodAll_cons hA
  obtain ⟨v1, vs1, d1, ds1, p1, q1, rfl, rfl, rfl, h1, r1⟩ := trodAll_cons r0
  obtain ⟨v2, vs2, d2, ds2, p2, q2, rfl, rfl, rfl, h2, r2⟩ := trodAll_cons r1
  obtain ⟨rfl, rfl, rfl⟩ := trodAll_nil r2
  obtain rfl : args = #[v0, v1, v2] := by cases args; simp_all
  obtain ⟨rfl, rfl⟩ := trodVars_none hV
  have k0 := h0
  have lt0 : ∀ x ∈ p0, x.block < W.heap.size := by obtain ⟨m, hm⟩ := k0; exact DataW.trod_lt m _ _ _ hm
  obtain ⟨x0, l0, c0, rfl⟩ := okWide_slice Try.underlying25 (hval 0 25 v0 rfl rfl)
  obtain ⟨a0, w0⟩ : ∃ a, FactFiles W (.slice x0 l0 c0) a := by
    obtain ⟨fuel, hf⟩ := h0
    obtain ⟨v', a, hcs, hs⟩ := open_files hf
    obtain rfl : v' = .slice x0 l0 c0 := by simpa [Value.cells] using hcs.symm
    exact ⟨a, hs⟩
  have k1 := h1
  have lt1 : ∀ x ∈ p1, x.block < W.heap.size := by obtain ⟨m, hm⟩ := k1; exact DataW.trod_lt m _ _ _ hm
  obtain ⟨a1, rfl, _, _, w1⟩ := open_int Try.underlying3 (hval 1 3 v1 rfl rfl) h1
  have k2 := h2
  have lt2 : ∀ x ∈ p2, x.block < W.heap.size := by obtain ⟨m, hm⟩ := k2; exact DataW.trod_lt m _ _ _ hm
  obtain ⟨a2, rfl, _, _, w2⟩ := open_str Try.underlying9 (hval 2 9 v2 rfl rfl) h2
  clear hA0
  refine (walk (.slice x0 l0 c0) a0 a1 a2 W w0 w1 w2).mono fun e W' ⟨he, bel⟩ => ?_
  subst he
  exact ⟨_, rfl, _, _, _, [], _, [], hW', trodAll_mk1 (shut_bool Try.underlying4 _), (trodAll_cons_mk (Below.trod laidOut (by kernel_rfl) (of_decide_eq_true (by kernel_rfl)) k0 bel lt0) (trodAll_cons_mk (Below.trod laidOut (by kernel_rfl) (of_decide_eq_true (by kernel_rfl)) k1 bel lt1) (trodAll_cons_mk (Below.trod laidOut (by kernel_rfl) (of_decide_eq_true (by kernel_rfl)) k2 bel lt2) trodAll_mk0))), rfl, bel.frame _, fun h => by cases h⟩

set_option maxRecDepth 100000 in
theorem lifted (os : Os) (started : os.Started) (H : Type) (enc : TypeId × Value → H) :
    ReturnsInHanded {} Try.checked os 5 .any (Rows.similarMovedSpec.pre6 enc Try.prog Try.f5 Rows.similarMovedRow.domain false) (Rows.similarMovedSpec.post enc Try.prog Try.f5 false true false false) := by
  refine returnsInHanded_of_change (C := Try.checked) own started (by kernel_rfl) Try.func5
    (ChangeSpec.witness6 (enc := enc) (C := Try.checked) false ⟨#[], #[.slice none 0 0, .int .i64 0, .string ByteArray.empty], []⟩ 8 (by kernel_rfl) (by kernel_rfl) (by kernel_rfl) (by kernel_rfl)) ?_
  intro W base args ds gs before hval hW _ _
  exact contract H enc W base args ds gs before hval hW

theorem over : Rows.similarMovedRow.holds Try.pinned (OpenSpec.ofChange Rows.similarMovedSpec) :=
  OpenClaim.holds_of_wide 5 Try.f5 rfl rfl rfl rfl rfl rfl rfl ⟨rfl, rfl, rfl, rfl, rfl⟩ rfl rfl rfl rfl rfl (by kernel_rfl) Try.func5 (by kernel_rfl)
    (of_decide_eq_true (by kernel_rfl)) (by unfold Func.isWrapper; first | (rw [if_pos (by decide +kernel)]; kernel_rfl) | (rw [if_neg (by decide +kernel)]; exact ⟨rfl, rfl⟩))
    (fun os started H enc _ => lifted os started H enc)

/-- The statement. -/
theorem proved : Rows.SimilarMovedSaid :=
  over
#print axioms proved

end Go.Proofs.Ytnpgfbgnbonhfaa.similarMoved
