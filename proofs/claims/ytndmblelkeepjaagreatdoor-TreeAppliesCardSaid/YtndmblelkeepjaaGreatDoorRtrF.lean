/-
  Trees (the document's own): Changes, by a contract.
-/
import Derived.Test.YtndmblelkeepjaaGreatDoorRtrE
import Derived.Test.YtndmblelkeepjaaGreatDoorTxt
namespace Go.Proofs.YtndmblelkeepjaaGreatDoor
open Go.RowKit
open BigFrame

/-- how many at the beginning stand ahead of that path -/
def aheadP : List Txt → Txt → Nat
  | [], _ => 0
  | q :: r, p => if ltS q p then aheadP r p + 1 else 0
theorem aheadP_le (l : List Txt) (p : Txt) : aheadP l p ≤ l.length := by
  induction l with
  | nil => simp [aheadP]
  | cons f r ih =>
    unfold aheadP
    split
    · simp; omega
    · omega
def putPath (l : List Txt) (p : Txt) : List Txt := l.take (aheadP l p) ++ [p] ++ l.drop (aheadP l p)
def pathStep (l : List Txt) (f : FileS) : List Txt := if inS l f.1 = true then l else putPath l f.1
def pathsOf (l : List FileS) : List Txt := l.foldl pathStep []
theorem paths_len (l : List FileS) : ∀ X : List Txt, (l.foldl pathStep X).length ≤ X.length + l.length := by
  induction l with
  | nil => intro X; simp
  | cons f r ih =>
    intro X
    have h1 : (pathStep X f).length ≤ X.length + 1 := by
      unfold pathStep
      split
      · omega
      · unfold putPath
        have := aheadP_le X f.1
        simp
        omega
    have := ih (pathStep X f)
    rw [List.foldl_cons, List.length_cons]
    omega
theorem pathsOf_len (l : List FileS) : (pathsOf l).length ≤ l.length := by
  have h := paths_len l []
  simp at h
  exact h
def changeOne (a b : List FileS) (p : Txt) : List ChangeS :=
  match findS b p with
  | none => [(p, true, false, [])]
  | some y => if findS a p = some y then [] else [(p, false, y.2.1, y.2.2)]
def changesS (a b : List FileS) : List ChangeS := (pathsOf (a ++ b)).flatMap (changeOne a b)
section
set_option maxRecDepth 100000
set_option maxHeartbeats 8000000
/-- what the first loop leaves -/
def CutP (W : World) (L : List Txt) (v : Value) (wx : World) : Prop := OwnT wx W.heap.size v L ∧ Below W.heap.size W wx
theorem RChanges_any (v v2 : Value) (a b : List FileS) (w : World) (hv : SlF w v a) (hv2 : SlF w v2 b) (hla : a.length ≤ 10000) (hlb : b.length ≤ 10000) :
    Calls Tryz.prog 12 #[v, v2] w fun e w' => ∃ u, e = .returned u ∧ OwnH w' w.heap.size u (changesS a b) ∧ Below w.heap.size w w' := by
  obtain ⟨ao, cap, rfl⟩ := hv.form
  obtain ⟨bo, cbp, rfl⟩ := hv2.form
  have HV := hid hv
  have HV2 := hid hv2
  have HL := hid (And.intro hla hlb)
  clear hv hv2 hla hlb
  obtain ⟨i0, hi0, hi1, hi2, hi3⟩ := info_parts Tryz.infoStr
  go_enter Tryz.func12, Tryz.ntmps12
  go_upto_block 0 with (first
    | (at_builtin; refine wpList_append_fs rfl (.const (.slice none 0 0)) (.tmp 15) rfl _ (.slice none 0 0) [] a rfl (World.ownsRow_nil _ _ _ _) _ rfl HV.out (by have := HL.out; simp only [List.length_nil]; omega) (Nat.le_refl _) ?_; intro v5 w5 o5 b5; have HO5 := hid o5; have HB5 := hid b5; clear o5 b5)
    | (at_builtin; refine wpList_append_fs rfl (.tmp 16) (.tmp 17) rfl w.heap.size _ ([] ++ a) b rfl HO5.out _ rfl (HV2.out.old HB5.out) (by have := HL.out; simp only [List.nil_append]; omega) HB5.out.size ?_; intro v6 w6 o6 b6; have HO6 := hid o6; have HB6 := hid (HB5.out.trans b6); clear o6 b6))
  obtain ⟨ALL, hALL⟩ : ∃ L, [] ++ a ++ b = L := ⟨_, rfl⟩
  rw [hALL] at HO6
  have HLL := hid (show ALL.length ≤ 20000 by rw [← hALL]; have := HL.out; simp; omega)
  have HAL := hid (show a ++ b = ALL by rw [← hALL, List.nil_append])
  have HU := hid HO6.out.sl
  clear hALL HO5 HB5
  obtain ⟨uo, uc, rfl⟩ := HU.out.form
  go_cut [5] from 7 to 65 (fun pv wx => CutP w6 (pathsOf ALL) pv wx)
  case first =>
    go_wp2_with fail
    go_loopg [5, 7, 8] ALL.length (fun g r i kk wr => ∃ (k : Nat) (X : List Txt), k ≤ ALL.length ∧ ALL.length - k = g ∧ i = .int .i64 k ∧ Hid (X = (ALL.take k).foldl pathStep []) ∧ Hid (OwnT wr w6.heap.size r X) ∧ X.length ≤ k ∧ Below w6.heap.size w6 wr)
    case atStart => exact ⟨0, [], Nat.zero_le _, rfl, rfl, hid rfl, hid (World.ownsRow_nil _ _ _ _), Nat.zero_le _, Below.refl _ _⟩
    case round =>
      obtain ⟨k, X, hk, rfl, rfl, HX, HN, hXl, hbel⟩ := hrel
      have hz := hbel.size
      have k0 : (0 : Int) ≤ (k : Int) := Int.natCast_nonneg _
      have hll := HLL.out
      obtain ⟨no, nc, rfl⟩ := owns_form HN.out
      by_cases hlt : k < ALL.length
      · have k1 : (k : Int) < (ALL.length : Int) := by omega
        have kw : IntKind.i64.wrap ((k : Int) + 1) = (k : Int) + 1 := IntWalk.i64_in _ (by omega)
        obtain ⟨b1, o1, p, x, t, rfl, he, c1, c2, c3⟩ := SlF.at (HU.out.old hbel) hlt
        have ht : (ALL.take (k + 1)).foldl pathStep [] = pathStep X (p, x, t) := by rw [List.take_add_one, he, HX.out]; simp
        have HIn := hid (RIn_any _ X p wr (by rw [← flatT]; exact Sl.ofOwns HN.out) (by omega))
        obtain ⟨y, hy⟩ : ∃ y, inS X p = y := ⟨_, rfl⟩
        rw [hy] at HIn
        unfold strV at HIn
        clear he HX c2 c3
        cases y with
        | true =>
          have HX2 := hid (show X = (ALL.take (k + 1)).foldl pathStep [] by rw [ht, pathStep, if_pos hy])
          clear ht hy
          go_wp2_with (go_at_call 32; refine HIn.out.mono ?_; rintro e _ ⟨rfl, rfl⟩)
          go_roundg (ALL.length - (k + 1))
          case measure => omega
          case rel => exact ⟨k + 1, X, by omega, rfl, by go_num, HX2, HN, by omega, hbel⟩
        | false =>
          have HX2 := hid (show putPath X p = (ALL.take (k + 1)).foldl pathStep [] by rw [ht, pathStep, if_neg (by simp [hy])])
          clear ht hy
          go_upto_block 2 with (go_at_call 32; refine HIn.out.mono ?_; rintro e _ ⟨rfl, rfl⟩)
          have HXL := hid (show X.length ≤ 20000 by omega)
          go_cut [8] from 32 to 50 (fun kv wx => kv = .int .i64 (aheadP X p) ∧ Below wr.heap.size wr wx)
          case first =>
            go_wp2_with fail
            go_loopg [8] X.length (fun g i wy => ∃ j : Nat, j ≤ X.length ∧ X.length - j = g ∧ i = .int .i64 j ∧ Hid (aheadP X p = j + aheadP (X.drop j) p) ∧ Below wr.heap.size wr wy)
            case atStart => exact ⟨0, Nat.zero_le _, rfl, rfl, hid (by simp), Below.refl _ _⟩
            case round =>
              obtain ⟨j, hj, rfl, rfl, HA, hby⟩ := hrel
              have j0 : (0 : Int) ≤ (j : Int) := Int.natCast_nonneg _
              have d1 := below_cell hby c1
              by_cases hjl : j < X.length
              · have j1 : (j : Int) < (X.length : Int) := by omega
                have jd : decide ((j : Int) < (X.length : Int)) = true := decide_eq_true j1
                have jw : IntKind.i64.wrap ((j : Int) + 1) = (j : Int) + 1 := IntWalk.i64_in _ (by have := HXL.out; omega)
                obtain ⟨b2, o2, q, rfl, heq, e1⟩ := SlT.at (SlR.old HN.out.sl hby) hjl
                have hd := drop_one heq
                have ha : aheadP (X.drop j) p = if ltS q p then aheadP (X.drop (j + 1)) p + 1 else 0 := by rw [hd]; rfl
                clear heq hd
                by_cases hp : Op.bytesLess q p = true
                · have HA2 := hid (show aheadP X p = j + 1 + aheadP (X.drop (j + 1)) p by rw [HA.out, ha, if_pos hp]; omega)
                  clear ha HA
                  go_wp2_with fail
                  go_quiet (fail)
                  go_wp2_with fail
                  go_roundg (X.length - (j + 1))
                  case measure => omega
                  case rel => exact ⟨j + 1, by omega, rfl, by go_num, HA2, hby.trans ⟨rfl, rfl, rfl, Nat.le_refl _, fun _ _ => rfl⟩⟩
                · have hpf : Op.bytesLess q p = false := by simpa using hp
                  have HA2 := hid (show aheadP X p = j by rw [HA.out, ha, if_neg hp]; rfl)
                  clear ha HA hp
                  go_wp2_with fail
                  go_quiet (fail)
                  go_wp2_with fail
                  go_meet
                  exact ⟨by rw [HA2.out], hby.trans ⟨rfl, rfl, rfl, Nat.le_refl _, fun _ _ => rfl⟩⟩
              · obtain rfl : j = X.length := by omega
                have hneg : ¬ (X.length : Int) < (X.length : Int) := by omega
                have jd : decide ((X.length : Int) < (X.length : Int)) = false := decide_eq_false (by omega)
                have HA2 := hid (show aheadP X p = X.length by rw [HA.out, List.drop_length]; rfl)
                clear HA
                go_wp2_with fail
                go_quiet (fail)
                go_wp2_with fail
                go_meet
                exact ⟨by rw [HA2.out], hby.trans ⟨rfl, rfl, rfl, Nat.le_refl _, fun _ _ => rfl⟩⟩
          case rest =>
            obtain ⟨rfl, hbc⟩ := hcut
            obtain ⟨m, hm⟩ : ∃ m, aheadP X p = m := ⟨_, rfl⟩
            have hml : m ≤ X.length := by rw [← hm]; exact aheadP_le _ _
            have HSO := hid (show [] ++ X.take m ++ [p] ++ X.drop m = putPath X p by unfold putPath; rw [hm, List.nil_append])
            have HKL := hid (show (X.take m).length ≤ 20000 ∧ (X.drop m).length ≤ 20000 ∧ (putPath X p).length ≤ k + 1 by
              rw [← HSO.out]
              have := HXL.out
              simp
              omega)
            rw [hm]
            clear hm HIn
            have m0 : (0 : Int) ≤ (m : Int) := Int.natCast_nonneg _
            have d1 := below_cell hbc c1
            have HBy := hid (below_step hbel hbc hz)
            have HNc := hid (owns_below HN.out hbc)
            have hcut := SlR.cut_to (P := Tryz.prog) Tryz.underlying24 hi0 (OwnT.sl HNc.out) (j := m) hml
            obtain ⟨ao2, c2', hsl2, hs2⟩ := SlR.cut_from (P := Tryz.prog) Tryz.underlying24 hi0 hi2 (OwnT.sl HNc.out) (i := m) hml
            have hsl1 := hcut.1
            have H1 := hid hcut.2
            have H2 := hid hs2
            clear hcut hs2 c1 hml
            have HBF := hid (show Below wc.heap.size wc (wc.alloc (.cells #[.string ⟨p.toArray⟩] 9)).drew from ((Below.refl _ wc).alloc (Nat.le_refl _) _).drew)
            have HWD := hid (show Below wc.heap.size wc wc.drew from (Below.refl _ wc).drew)
            have H1a := hid (show SlT wc.drew (.slice no m nc) (X.take m) from SlR.old H1.out HWD.out)
            have H1b := hid (show SlT (wc.alloc (.cells #[.string ⟨p.toArray⟩] 9)).drew (.slice no m nc) (X.take m) from SlR.old H1.out HBF.out)
            clear hbc
            go_wp2_with fail
            go_region_law (first
              | (refine step_append_ts (by rfl) (.const (.slice none 0 0)) (.tmp 52) rfl _ (.slice none 0 0) [] (X.take m) rfl (World.ownsRow_nil _ _ _ _) (.slice no m nc) (by kernel_rfl) (by first | with_reducible exact H1a.out | with_reducible exact H1b.out) (by have := HKL.out; simp only [List.length_nil]; omega) (Nat.le_refl _) ?_; intro v5 w5 o5 b5
                 have HO5 := hid (owns_lower o5 (show wc.heap.size ≤ _ from by first | exact HWD.out.size | exact HBF.out.size))
                 have HB5 := hid (show Below wc.heap.size wc w5 from by first | exact HWD.out.trans (b5.mono HWD.out.size) | exact HBF.out.trans (b5.mono HBF.out.size))
                 have HC5 := hid b5
                 have p1 := below_cell HB5.out d1
                 clear o5 b5)
              | (refine step_append_t1 (by rfl) (.tmp 53) (.tmp 59) rfl wc.heap.size v5 ([] ++ X.take m) p (by kernel_rfl) (World.ownsRow.alloc HO5.out _) (.slice (some ⟨w5.heap.size, 0, none⟩) 1 1) (by kernel_rfl) (SlR.one (heap_alloc_new w5 _) rfl) (by have := HKL.out; simp only [List.nil_append]; omega) (by have := HB5.out.size; simp; omega) ?_; intro v6 w7 o6 b6
                 have HO7 := hid o6
                 have HB7 := hid ((HB5.out.alloc HB5.out.size _).trans b6)
                 clear o6 b6)
              | (refine step_append_t1 (by rfl) (.tmp 53) (.tmp 59) rfl wc.heap.size v5 ([] ++ X.take m) p (by kernel_rfl) HO5.out (.slice (some ⟨wc.heap.size, 0, none⟩) 1 1) (by kernel_rfl) (SlR.old (SlR.one (w := (wc.alloc (.cells #[.string ⟨p.toArray⟩] 9)).drew) (heap_alloc_new wc _) rfl) HC5.out) (by have := HKL.out; simp only [List.nil_append]; omega) HB5.out.size ?_; intro v6 w7 o6 b6
                 have HO7 := hid o6
                 have HB7 := hid (HB5.out.trans b6)
                 clear o6 b6)
              | (refine step_append_ts (by rfl) (.tmp 60) (.tmp 63) rfl wc.heap.size v6 ([] ++ X.take m ++ [p]) (X.drop m) (by kernel_rfl) HO7.out (.slice ao2 (X.length - m) c2') (by kernel_rfl) (SlR.old H2.out HB7.out) (by have := HKL.out; simp only [List.nil_append, List.length_append, List.length_singleton]; omega) HB7.out.size ?_; intro v8 w8 o8 b8
                 have HO8 := hid (owns_lower o8 HBy.out.size)
                 have HB8 := hid (below_step HBy.out (HB7.out.trans b8) HBy.out.size)
                 clear o8 b8))
            all_goals (
              go_wp2_with fail
              rw [HSO.out] at HO8
              go_roundg (ALL.length - (k + 1))
              case measure => omega
              case rel => exact ⟨k + 1, putPath X p, by omega, rfl, by go_num, HX2, HO8, HKL.out.2.2, HB8.out⟩)
      · obtain rfl : k = ALL.length := by omega
        have hneg : ¬ (ALL.length : Int) < (ALL.length : Int) := by omega
        have HX2 := hid (show X = pathsOf ALL by rw [HX.out, List.take_length]; rfl)
        go_wp2_with fail
        go_meet
        rw [← HX2.out]
        exact ⟨HN.out, hbel⟩
  case rest =>
    obtain ⟨HP, hbc⟩ := hcut
    have HPs := hid (OwnT.sl HP)
    obtain ⟨P, hP⟩ : ∃ P, pathsOf ALL = P := ⟨_, rfl⟩
    rw [hP] at HPs
    have HPL := hid (show P.length ≤ 20000 by rw [← hP]; have := pathsOf_len ALL; have := HLL.out; omega)
    have HCS := hid (show changesS a b = P.flatMap (changeOne a b) by rw [← hP, ← HAL.out]; rfl)
    have HWC := hid (HB6.out.trans (hbc.mono HB6.out.size))
    have HVa := hid (HV.out.old HWC.out)
    have HVb := hid (HV2.out.old HWC.out)
    clear HP hP hbc HO6 HU HLL HAL
    obtain ⟨po, pc, rfl⟩ := HPs.out.form
    go_wp2_with fail
    go_loopg [9, 10, 11, 12, 13, 14] P.length (fun g r i t1 t2 t3 t4 wr => ∃ (k : Nat) (X : List ChangeS), k ≤ P.length ∧ P.length - k = g ∧ i = .int .i64 k ∧ Hid (X ++ (P.drop k).flatMap (changeOne a b) = changesS a b) ∧ Hid (OwnH wr wc.heap.size r X) ∧ X.length ≤ k ∧ Below wc.heap.size wc wr)
    case atStart => exact ⟨0, [], Nat.zero_le _, rfl, rfl, hid (by rw [HCS.out]; rfl), hid (World.ownsRow_nil _ _ _ _), Nat.zero_le _, Below.refl _ _⟩
    case round =>
      obtain ⟨k, X, hk, rfl, rfl, HX, HN, hXl, hbel⟩ := hrel
      have hz := hbel.size
      have k0 : (0 : Int) ≤ (k : Int) := Int.natCast_nonneg _
      have hll := HPL.out
      by_cases hlt : k < P.length
      · have k1 : (k : Int) < (P.length : Int) := by omega
        have kw : IntKind.i64.wrap ((k : Int) + 1) = (k : Int) + 1 := IntWalk.i64_in _ (by omega)
        obtain ⟨b1, o1, p, rfl, he, c1⟩ := SlT.at (HPs.out.old hbel) hlt
        have hd := drop_one he
        have HX1 := hid (show X ++ changeOne a b p ++ (P.drop (k + 1)).flatMap (changeOne a b) = changesS a b by rw [← HX.out, hd, List.flatMap_cons, List.append_assoc])
        have HCP := hid c1
        have HK0 := hid (Below.refl wr.heap.size wr)
        have HFa := hid (fun (wy : World) (h : Below wr.heap.size wr wy) => RFind_any _ a p wy ((HVa.out.old hbel).old h) (by have := HL.out; omega))
        have HFb := hid (fun (wy : World) (h : Below wr.heap.size wr wy) => RFind_any _ b p wy ((HVb.out.old hbel).old h) (by have := HL.out; omega))
        obtain ⟨⟨xp, xx, xt⟩, hxf⟩ : ∃ f, (findS a p).getD fileZ = f := ⟨_, rfl⟩
        obtain ⟨⟨yp, yx, yt⟩, hyf⟩ : ∃ f, (findS b p).getD fileZ = f := ⟨_, rfl⟩
        obtain ⟨xi, hxi⟩ : ∃ z, (findS a p).isSome = z := ⟨_, rfl⟩
        obtain ⟨yi, hyi⟩ : ∃ z, (findS b p).isSome = z := ⟨_, rfl⟩
        rw [hxf, hxi] at HFa
        rw [hyf, hyi] at HFb
        unfold fileV strV at HFa HFb
        clear he hd HX
        cases yi with
        | false =>
          have hone : changeOne a b p = [(p, true, false, [])] := by
            unfold changeOne
            rw [Option.isSome_eq_false_iff, Option.isNone_iff_eq_none] at hyi
            rw [hyi]
          have HX2 := hid (show (X ++ [(p, true, false, [])]) ++ (P.drop (k + 1)).flatMap (changeOne a b) = changesS a b by rw [← HX1.out, hone])
          clear hone HX1 hxf hyf hxi hyi
          go_wp2_with (first
            | (go_at_call 33; with_reducible refine (HFa.out _ HK0.out).mono ?_; rintro e w1 ⟨rfl, hb1⟩; have HK1 := hid (below_step HK0.out hb1 HK0.out.size); have c2 := below_cell HK1.out HCP.out; clear hb1)
            | (go_at_call 33; with_reducible refine (HFb.out _ HK9.out).mono ?_; rintro e w2 ⟨rfl, hb2⟩; have HK2 := hid (below_step HK9.out hb2 HK9.out.size); have c4 := below_cell HK2.out HCP.out; have HG2 := hid ((hb2.block _ (Array.getElem?_eq_some_iff.1 HG.out).1).trans HG.out); clear hb2)
            | (refine file_store rfl 35 _ _ rfl _ #[.string ⟨yp.toArray⟩, .bool yx, .string ⟨yt.toArray⟩] rfl rfl _ _ (heap_alloc_new _ _) 3 Tryz.sizeFile rfl rfl (by simp [Value.oneCell']) ?_; intro w10 hg9 hk9; have HQ := hid (((Below.refl _ w2).alloc (Nat.le_refl w2.heap.size) _).trans (hk9.below (by simp) (fun j hj e => by omega))); have HK := hid (below_step HK2.out HQ.out HK2.out.size); have HGa := hid ((HQ.out.block _ (Array.getElem?_eq_some_iff.1 HG2.out).1).trans HG2.out); have c5 := below_cell HK.out HCP.out; have x0 := blk_cell (i := 0) HGa.out rfl; have x1 := blk_cell (i := 1) HGa.out rfl; have x2 := blk_cell (i := 2) HGa.out rfl; have y0 := blk_cell (i := 0) hg9 rfl; have y1 := blk_cell (i := 1) hg9 rfl; have y2 := blk_cell (i := 2) hg9 rfl; have HN9 := hid (owns_below HN.out HK.out); clear hg9 hk9)
            | (refine file_store rfl 35 _ _ rfl _ #[.string ⟨xp.toArray⟩, .bool xx, .string ⟨xt.toArray⟩] rfl rfl _ _ (heap_alloc_new _ _) 3 Tryz.sizeFile rfl rfl (by simp [Value.oneCell']) ?_; intro w9 hg9 hk9; have HG := hid hg9; have HK9 := hid ((HK1.out.alloc HK1.out.size _).trans (hk9.below (Nat.le_trans HK1.out.size (by simp)) (fun j hj e => by have := HK1.out.size; omega))); have c3 := below_cell HK9.out HCP.out; clear hg9 hk9)
            | (at_builtin; refine wpList_append_h1 rfl (.tmp 92) (.tmp 98) rfl wc.heap.size _ X (p, true, false, []) rfl HN9.out _ rfl rfl (by omega) (Nat.le_trans hz HK.out.size) ?_; intro v8 w8 o8 b8; have HO8 := hid o8; have HB8 := hid ((below_step hbel HK.out hz).trans b8); clear o8 b8))
          go_roundg (P.length - (k + 1))
          case measure => omega
          case rel => exact ⟨k + 1, X ++ [(p, true, false, [])], by omega, rfl, by go_num, HX2, HO8, by simp; omega, HB8.out⟩
        | true =>
          obtain ⟨yf, hyf2⟩ := Option.isSome_iff_exists.1 hyi
          obtain rfl : yf = (yp, yx, yt) := by rw [hyf2] at hyf; exact hyf
          have hone : changeOne a b p = if findS a p = some (yp, yx, yt) then [] else [(p, false, yx, yt)] := by
            unfold changeOne
            rw [hyf2]
          cases xi with
          | false =>
            have HX2 := hid (show (X ++ [(p, false, yx, yt)]) ++ (P.drop (k + 1)).flatMap (changeOne a b) = changesS a b by
              rw [← HX1.out, hone, if_neg]
              intro h
              rw [h] at hxi
              cases hxi)
            clear hone HX1 hxf hyf hxi hyi hyf2
            go_wp2_with (first
              | (go_at_call 33; with_reducible refine (HFa.out _ HK0.out).mono ?_; rintro e w1 ⟨rfl, hb1⟩; have HK1 := hid (below_step HK0.out hb1 HK0.out.size); have c2 := below_cell HK1.out HCP.out; clear hb1)
              | (go_at_call 33; with_reducible refine (HFb.out _ HK9.out).mono ?_; rintro e w2 ⟨rfl, hb2⟩; have HK2 := hid (below_step HK9.out hb2 HK9.out.size); have c4 := below_cell HK2.out HCP.out; have HG2 := hid ((hb2.block _ (Array.getElem?_eq_some_iff.1 HG.out).1).trans HG.out); clear hb2)
              | (refine file_store rfl 35 _ _ rfl _ #[.string ⟨yp.toArray⟩, .bool yx, .string ⟨yt.toArray⟩] rfl rfl _ _ (heap_alloc_new _ _) 3 Tryz.sizeFile rfl rfl (by simp [Value.oneCell']) ?_; intro w10 hg9 hk9; have HQ := hid (((Below.refl _ w2).alloc (Nat.le_refl w2.heap.size) _).trans (hk9.below (by simp) (fun j hj e => by omega))); have HK := hid (below_step HK2.out HQ.out HK2.out.size); have HGa := hid ((HQ.out.block _ (Array.getElem?_eq_some_iff.1 HG2.out).1).trans HG2.out); have c5 := below_cell HK.out HCP.out; have x0 := blk_cell (i := 0) HGa.out rfl; have x1 := blk_cell (i := 1) HGa.out rfl; have x2 := blk_cell (i := 2) HGa.out rfl; have y0 := blk_cell (i := 0) hg9 rfl; have y1 := blk_cell (i := 1) hg9 rfl; have y2 := blk_cell (i := 2) hg9 rfl; have HN9 := hid (owns_below HN.out HK.out); clear hg9 hk9)
              | (refine file_store rfl 35 _ _ rfl _ #[.string ⟨xp.toArray⟩, .bool xx, .string ⟨xt.toArray⟩] rfl rfl _ _ (heap_alloc_new _ _) 3 Tryz.sizeFile rfl rfl (by simp [Value.oneCell']) ?_; intro w9 hg9 hk9; have HG := hid hg9; have HK9 := hid ((HK1.out.alloc HK1.out.size _).trans (hk9.below (Nat.le_trans HK1.out.size (by simp)) (fun j hj e => by have := HK1.out.size; omega))); have c3 := below_cell HK9.out HCP.out; clear hg9 hk9))
            go_region_law (refine step_append_h1 (by rfl) (.tmp 108) (.tmp 118) rfl wc.heap.size u9 X (p, false, yx, yt) (by kernel_rfl) (World.ownsRow.alloc HN9.out _) _ rfl (SlR.one (heap_alloc_new w10 _) rfl) (by omega) (Nat.le_trans hz (Nat.le_trans HK.out.size (by simp))) ?_; intro v8 w8 o8 b8; have HO8 := hid o8; have HB8 := hid b8; clear o8 b8)
            all_goals (
              have HB9 := hid (show Below wc.heap.size wc w8 from by
                first
                  | exact ((below_step hbel HK.out hz).alloc (Nat.le_trans hz HK.out.size) _).drew.trans HB8.out
                  | exact ((below_step hbel HK.out hz).drew.alloc (Nat.le_trans hz HK.out.size) _).trans HB8.out)
              go_wp2_with fail
              go_roundg (P.length - (k + 1))
              case measure => omega
              case rel => exact ⟨k + 1, X ++ [(p, false, yx, yt)], by omega, rfl, by go_num, HX2, HO8, by simp; omega, HB9.out⟩)
          | true =>
            obtain ⟨xf, hxf2⟩ := Option.isSome_iff_exists.1 hxi
            obtain rfl : xf = (xp, xx, xt) := by rw [hxf2] at hxf; exact hxf
            rw [hxf2] at hone
            clear hxf hyf hxi hyi hyf2 hxf2
            by_cases hxy : (xp, xx, xt) = (yp, yx, yt)
            · obtain ⟨rfl, hxy2⟩ := Prod.mk.inj hxy
              obtain ⟨rfl, rfl⟩ := Prod.mk.inj hxy2
              have HX2 := hid (show X ++ (P.drop (k + 1)).flatMap (changeOne a b) = changesS a b by
                rw [← HX1.out, hone, if_pos rfl, List.append_nil])
              have e1 : (xp == xp) = true := by simp
              have e2 : (xx == xx) = true := by simp
              have e3 : (xt == xt) = true := by simp
              clear hone HX1 hxy hxy2
              go_wp2_with (first
                | (go_at_call 33; with_reducible refine (HFa.out _ HK0.out).mono ?_; rintro e w1 ⟨rfl, hb1⟩; have HK1 := hid (below_step HK0.out hb1 HK0.out.size); have c2 := below_cell HK1.out HCP.out; clear hb1)
                | (go_at_call 33; with_reducible refine (HFb.out _ HK9.out).mono ?_; rintro e w2 ⟨rfl, hb2⟩; have HK2 := hid (below_step HK9.out hb2 HK9.out.size); have c4 := below_cell HK2.out HCP.out; have HG2 := hid ((hb2.block _ (Array.getElem?_eq_some_iff.1 HG.out).1).trans HG.out); clear hb2)
                | (refine file_store rfl 35 _ _ rfl _ #[.string ⟨xp.toArray⟩, .bool xx, .string ⟨xt.toArray⟩] rfl rfl _ _ (heap_alloc_new _ _) 3 Tryz.sizeFile rfl rfl (by simp [Value.oneCell']) ?_; intro w10 hg9 hk9; have HQ := hid (((Below.refl _ w2).alloc (Nat.le_refl w2.heap.size) _).trans (hk9.below (by simp) (fun j hj e => by omega))); have HK := hid (below_step HK2.out HQ.out HK2.out.size); have HGa := hid ((HQ.out.block _ (Array.getElem?_eq_some_iff.1 HG2.out).1).trans HG2.out); have c5 := below_cell HK.out HCP.out; have x0 := blk_cell (i := 0) HGa.out rfl; have x1 := blk_cell (i := 1) HGa.out rfl; have x2 := blk_cell (i := 2) HGa.out rfl; have y0 := blk_cell (i := 0) hg9 rfl; have y1 := blk_cell (i := 1) hg9 rfl; have y2 := blk_cell (i := 2) hg9 rfl; have HN9 := hid (owns_below HN.out HK.out); clear hg9 hk9)
                | (refine file_store rfl 35 _ _ rfl _ #[.string ⟨xp.toArray⟩, .bool xx, .string ⟨xt.toArray⟩] rfl rfl _ _ (heap_alloc_new _ _) 3 Tryz.sizeFile rfl rfl (by simp [Value.oneCell']) ?_; intro w9 hg9 hk9; have HG := hid hg9; have HK9 := hid ((HK1.out.alloc HK1.out.size _).trans (hk9.below (Nat.le_trans HK1.out.size (by simp)) (fun j hj e => by have := HK1.out.size; omega))); have c3 := below_cell HK9.out HCP.out; clear hg9 hk9))
              go_roundg (P.length - (k + 1))
              case measure => omega
              case rel => exact ⟨k + 1, X, by omega, rfl, by go_num, HX2, HN9, by omega, below_step hbel HK.out hz⟩
            · have HX2 := hid (show (X ++ [(p, false, yx, yt)]) ++ (P.drop (k + 1)).flatMap (changeOne a b) = changesS a b by
                rw [← HX1.out, hone, if_neg (by simpa using hxy)])
              clear hone HX1
              by_cases hp1 : xp = yp
              case neg =>
                have e1 : (xp == yp) = false := by simpa using hp1
                clear hxy hp1
                go_wp2_with (first
                  | (go_at_call 33; with_reducible refine (HFa.out _ HK0.out).mono ?_; rintro e w1 ⟨rfl, hb1⟩; have HK1 := hid (below_step HK0.out hb1 HK0.out.size); have c2 := below_cell HK1.out HCP.out; clear hb1)
                  | (go_at_call 33; with_reducible refine (HFb.out _ HK9.out).mono ?_; rintro e w2 ⟨rfl, hb2⟩; have HK2 := hid (below_step HK9.out hb2 HK9.out.size); have c4 := below_cell HK2.out HCP.out; have HG2 := hid ((hb2.block _ (Array.getElem?_eq_some_iff.1 HG.out).1).trans HG.out); clear hb2)
                  | (refine file_store rfl 35 _ _ rfl _ #[.string ⟨yp.toArray⟩, .bool yx, .string ⟨yt.toArray⟩] rfl rfl _ _ (heap_alloc_new _ _) 3 Tryz.sizeFile rfl rfl (by simp [Value.oneCell']) ?_; intro w10 hg9 hk9; have HQ := hid (((Below.refl _ w2).alloc (Nat.le_refl w2.heap.size) _).trans (hk9.below (by simp) (fun j hj e => by omega))); have HK := hid (below_step HK2.out HQ.out HK2.out.size); have HGa := hid ((HQ.out.block _ (Array.getElem?_eq_some_iff.1 HG2.out).1).trans HG2.out); have c5 := below_cell HK.out HCP.out; have x0 := blk_cell (i := 0) HGa.out rfl; have x1 := blk_cell (i := 1) HGa.out rfl; have x2 := blk_cell (i := 2) HGa.out rfl; have y0 := blk_cell (i := 0) hg9 rfl; have y1 := blk_cell (i := 1) hg9 rfl; have y2 := blk_cell (i := 2) hg9 rfl; have HN9 := hid (owns_below HN.out HK.out); clear hg9 hk9)
                  | (refine file_store rfl 35 _ _ rfl _ #[.string ⟨xp.toArray⟩, .bool xx, .string ⟨xt.toArray⟩] rfl rfl _ _ (heap_alloc_new _ _) 3 Tryz.sizeFile rfl rfl (by simp [Value.oneCell']) ?_; intro w9 hg9 hk9; have HG := hid hg9; have HK9 := hid ((HK1.out.alloc HK1.out.size _).trans (hk9.below (Nat.le_trans HK1.out.size (by simp)) (fun j hj e => by have := HK1.out.size; omega))); have c3 := below_cell HK9.out HCP.out; clear hg9 hk9))
                go_region_law (refine step_append_h1 (by rfl) (.tmp 108) (.tmp 118) rfl wc.heap.size u9 X (p, false, yx, yt) (by kernel_rfl) (World.ownsRow.alloc HN9.out _) _ rfl (SlR.one (heap_alloc_new w10 _) rfl) (by omega) (Nat.le_trans hz (Nat.le_trans HK.out.size (by simp))) ?_; intro v8 w8 o8 b8; have HO8 := hid o8; have HB8 := hid b8; clear o8 b8)
                all_goals (
                  have HB9 := hid (show Below wc.heap.size wc w8 from by
                    first
                      | exact ((below_step hbel HK.out hz).alloc (Nat.le_trans hz HK.out.size) _).drew.trans HB8.out
                      | exact ((below_step hbel HK.out hz).drew.alloc (Nat.le_trans hz HK.out.size) _).trans HB8.out)
                  go_wp2_with fail
                  go_roundg (P.length - (k + 1))
                  case measure => omega
                  case rel => exact ⟨k + 1, X ++ [(p, false, yx, yt)], by omega, rfl, by go_num, HX2, HO8, by simp; omega, HB9.out⟩)
              have e1 : (xp == yp) = true := by simpa using hp1
              by_cases hp2 : xx = yx
              case neg =>
                have e2 : (xx == yx) = false := by simpa using hp2
                clear hxy hp1 hp2
                go_wp2_with (first
                  | (go_at_call 33; with_reducible refine (HFa.out _ HK0.out).mono ?_; rintro e w1 ⟨rfl, hb1⟩; have HK1 := hid (below_step HK0.out hb1 HK0.out.size); have c2 := below_cell HK1.out HCP.out; clear hb1)
                  | (go_at_call 33; with_reducible refine (HFb.out _ HK9.out).mono ?_; rintro e w2 ⟨rfl, hb2⟩; have HK2 := hid (below_step HK9.out hb2 HK9.out.size); have c4 := below_cell HK2.out HCP.out; have HG2 := hid ((hb2.block _ (Array.getElem?_eq_some_iff.1 HG.out).1).trans HG.out); clear hb2)
                  | (refine file_store rfl 35 _ _ rfl _ #[.string ⟨yp.toArray⟩, .bool yx, .string ⟨yt.toArray⟩] rfl rfl _ _ (heap_alloc_new _ _) 3 Tryz.sizeFile rfl rfl (by simp [Value.oneCell']) ?_; intro w10 hg9 hk9; have HQ := hid (((Below.refl _ w2).alloc (Nat.le_refl w2.heap.size) _).trans (hk9.below (by simp) (fun j hj e => by omega))); have HK := hid (below_step HK2.out HQ.out HK2.out.size); have HGa := hid ((HQ.out.block _ (Array.getElem?_eq_some_iff.1 HG2.out).1).trans HG2.out); have c5 := below_cell HK.out HCP.out; have x0 := blk_cell (i := 0) HGa.out rfl; have x1 := blk_cell (i := 1) HGa.out rfl; have x2 := blk_cell (i := 2) HGa.out rfl; have y0 := blk_cell (i := 0) hg9 rfl; have y1 := blk_cell (i := 1) hg9 rfl; have y2 := blk_cell (i := 2) hg9 rfl; have HN9 := hid (owns_below HN.out HK.out); clear hg9 hk9)
                  | (refine file_store rfl 35 _ _ rfl _ #[.string ⟨xp.toArray⟩, .bool xx, .string ⟨xt.toArray⟩] rfl rfl _ _ (heap_alloc_new _ _) 3 Tryz.sizeFile rfl rfl (by simp [Value.oneCell']) ?_; intro w9 hg9 hk9; have HG := hid hg9; have HK9 := hid ((HK1.out.alloc HK1.out.size _).trans (hk9.below (Nat.le_trans HK1.out.size (by simp)) (fun j hj e => by have := HK1.out.size; omega))); have c3 := below_cell HK9.out HCP.out; clear hg9 hk9))
                go_region_law (refine step_append_h1 (by rfl) (.tmp 108) (.tmp 118) rfl wc.heap.size u9 X (p, false, yx, yt) (by kernel_rfl) (World.ownsRow.alloc HN9.out _) _ rfl (SlR.one (heap_alloc_new w10 _) rfl) (by omega) (Nat.le_trans hz (Nat.le_trans HK.out.size (by simp))) ?_; intro v8 w8 o8 b8; have HO8 := hid o8; have HB8 := hid b8; clear o8 b8)
                all_goals (
                  have HB9 := hid (show Below wc.heap.size wc w8 from by
                    first
                      | exact ((below_step hbel HK.out hz).alloc (Nat.le_trans hz HK.out.size) _).drew.trans HB8.out
                      | exact ((below_step hbel HK.out hz).drew.alloc (Nat.le_trans hz HK.out.size) _).trans HB8.out)
                  go_wp2_with fail
                  go_roundg (P.length - (k + 1))
                  case measure => omega
                  case rel => exact ⟨k + 1, X ++ [(p, false, yx, yt)], by omega, rfl, by go_num, HX2, HO8, by simp; omega, HB9.out⟩)
              have e2 : (xx == yx) = true := by simpa using hp2
              have e3 : (xt == yt) = false := by
                subst hp1 hp2
                simpa using hxy
              clear hxy hp1 hp2
              go_wp2_with (first
                | (go_at_call 33; with_reducible refine (HFa.out _ HK0.out).mono ?_; rintro e w1 ⟨rfl, hb1⟩; have HK1 := hid (below_step HK0.out hb1 HK0.out.size); have c2 := below_cell HK1.out HCP.out; clear hb1)
                | (go_at_call 33; with_reducible refine (HFb.out _ HK9.out).mono ?_; rintro e w2 ⟨rfl, hb2⟩; have HK2 := hid (below_step HK9.out hb2 HK9.out.size); have c4 := below_cell HK2.out HCP.out; have HG2 := hid ((hb2.block _ (Array.getElem?_eq_some_iff.1 HG.out).1).trans HG.out); clear hb2)
                | (refine file_store rfl 35 _ _ rfl _ #[.string ⟨yp.toArray⟩, .bool yx, .string ⟨yt.toArray⟩] rfl rfl _ _ (heap_alloc_new _ _) 3 Tryz.sizeFile rfl rfl (by simp [Value.oneCell']) ?_; intro w10 hg9 hk9; have HQ := hid (((Below.refl _ w2).alloc (Nat.le_refl w2.heap.size) _).trans (hk9.below (by simp) (fun j hj e => by omega))); have HK := hid (below_step HK2.out HQ.out HK2.out.size); have HGa := hid ((HQ.out.block _ (Array.getElem?_eq_some_iff.1 HG2.out).1).trans HG2.out); have c5 := below_cell HK.out HCP.out; have x0 := blk_cell (i := 0) HGa.out rfl; have x1 := blk_cell (i := 1) HGa.out rfl; have x2 := blk_cell (i := 2) HGa.out rfl; have y0 := blk_cell (i := 0) hg9 rfl; have y1 := blk_cell (i := 1) hg9 rfl; have y2 := blk_cell (i := 2) hg9 rfl; have HN9 := hid (owns_below HN.out HK.out); clear hg9 hk9)
                | (refine file_store rfl 35 _ _ rfl _ #[.string ⟨xp.toArray⟩, .bool xx, .string ⟨xt.toArray⟩] rfl rfl _ _ (heap_alloc_new _ _) 3 Tryz.sizeFile rfl rfl (by simp [Value.oneCell']) ?_; intro w9 hg9 hk9; have HG := hid hg9; have HK9 := hid ((HK1.out.alloc HK1.out.size _).trans (hk9.below (Nat.le_trans HK1.out.size (by simp)) (fun j hj e => by have := HK1.out.size; omega))); have c3 := below_cell HK9.out HCP.out; clear hg9 hk9))
              go_region_law (refine step_append_h1 (by rfl) (.tmp 108) (.tmp 118) rfl wc.heap.size u9 X (p, false, yx, yt) (by kernel_rfl) (World.ownsRow.alloc HN9.out _) _ rfl (SlR.one (heap_alloc_new w10 _) rfl) (by omega) (Nat.le_trans hz (Nat.le_trans HK.out.size (by simp))) ?_; intro v8 w8 o8 b8; have HO8 := hid o8; have HB8 := hid b8; clear o8 b8)
              all_goals (
                have HB9 := hid (show Below wc.heap.size wc w8 from by
                  first
                    | exact ((below_step hbel HK.out hz).alloc (Nat.le_trans hz HK.out.size) _).drew.trans HB8.out
                    | exact ((below_step hbel HK.out hz).drew.alloc (Nat.le_trans hz HK.out.size) _).trans HB8.out)
                go_wp2_with fail
                go_roundg (P.length - (k + 1))
                case measure => omega
                case rel => exact ⟨k + 1, X ++ [(p, false, yx, yt)], by omega, rfl, by go_num, HX2, HO8, by simp; omega, HB9.out⟩)
      · obtain rfl : k = P.length := by omega
        have hneg : ¬ (P.length : Int) < (P.length : Int) := by omega
        have HX2 := hid (show X = changesS a b by rw [← HX.out, List.drop_length]; simp)
        go_wp2_with fail
        go_ret
        rw [← HX2.out]
        exact ⟨_, rfl, owns_lower HN.out HWC.out.size, below_step HWC.out hbel HWC.out.size⟩
end
end Go.Proofs.YtndmblelkeepjaaGreatDoor
