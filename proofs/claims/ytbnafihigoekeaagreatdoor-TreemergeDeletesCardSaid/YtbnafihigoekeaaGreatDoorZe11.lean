/-
  TmDe, part 11.
-/
import Derived.Test.YtbnafihigoekeaaGreatDoorZe10
import Derived.Test.YtbnafihigoekeaaGreatDoorZe8
import Derived.Test.YtbnafihigoekeaaGreatDoorZe2
import Derived.Deep.RegionHeld3
namespace Go.Proofs.YtbnafihigoekeaaGreatDoor
open Go.RowKit
theorem Aside.none (w0 w : World) (v : Value) : Aside 0 0 w0 w v := ⟨fun _ _ => .inr (Nat.zero_le _), fun b _ h2 => by omega⟩
section
set_option maxRecDepth 100000
set_option maxHeartbeats 8000000
theorem DWalk_any (w0 : World) (l va vb : Value) (es : List (Int × List UInt8)) (a b : List (List UInt8)) (w : World) (hO : OwnE w w0.heap.size l es) (ha : Sl w0 va (strCells a)) (hb : Sl w0 vb (strCells b)) (hbel : Below w0.heap.size w0 w) (hel : es.length ≤ 1000000) (hal : a.length ≤ 60000) (hbl : b.length ≤ 60000) :
    Calls Tryz.prog 191 #[l, va, vb] w fun e w' => ∃ l', e = .returned l' ∧ OwnE w' w0.heap.size l' (es ++ goS a b) ∧ Below w0.heap.size w0 w' := by
  obtain ⟨aa, ca, rfl⟩ := ha.form
  obtain ⟨ab, cb, rfl⟩ := hb.form
  have HR := hid (DRests_any _ _ a b w (Sl.old ha hbel) (Sl.old hb hbel) hal hbl)
  rw [strCells_length] at ha hb HR ⊢
  rw [strCells_length] at HR ⊢
  obtain ⟨p, hp⟩ : ∃ p, a.length = p := ⟨_, rfl⟩
  obtain ⟨q, hq⟩ : ∃ q, b.length = q := ⟨_, rfl⟩
  rw [hp] at ha hal HR ⊢
  rw [hq] at hb hbl HR ⊢
  have HA := hid ha
  have HB := hid hb
  have HP := hid hp
  have HQ := hid hq
  have HO := hid hO
  have HL := hid (And.intro hel (And.intro hal hbl))
  have hw0 := hbel.size
  have HBEL := hid hbel
  clear ha hb hp hq hO hel hal hbl hbel
  go_enter Tryz.func191, Tryz.ntmps191
  go_wp2_with fail
  refine HR.out.mono ?_
  rintro e w1 ⟨t, rfl, ht, hb2⟩
  have hbw1 : Below w0.heap.size w0 w1 := below_step HBEL.out hb2 hw0
  have HO1 := hid (show OwnE w1 w0.heap.size l es from OwnE.old HO.out hb2)
  have HA1 := hid (show Aside w.heap.size w1.heap.size w1 w1 l from ⟨fun j hj => .inl (HO.out.lt j hj).2, fun _ _ _ => rfl⟩)
  obtain ⟨g, hg, rfl, ht'⟩ := ht
  have HT := hid (show TabQ .u16 w1 w.heap.size (.slice (some ⟨g, 0, none⟩) (p + 1) (p + 1)) p q (fun i k => lcs (a.drop i) (b.drop k)) from ⟨g, hg, rfl, ht'⟩)
  obtain ⟨p1, hp1⟩ : ∃ n, p + 1 = n := ⟨_, rfl⟩
  obtain ⟨q1, hq1⟩ : ∃ n, q + 1 = n := ⟨_, rfl⟩
  rw [hp1]
  have HP1 := hid hp1
  have HQ1 := hid hq1
  clear ht' hg hp1 hq1 HO HR HBEL hb2 hw0
  go_wp2_with fail
  go_loopg [0, 8, 9] (p + q) (fun gg l i j wr => ∃ (I J : Nat) (E : List (Int × List UInt8)), I ≤ p ∧ J ≤ q ∧ gg = (p - I) + (q - J) ∧ i = .int .i64 I ∧ j = .int .i64 J ∧ Hid (E ++ goS (a.drop I) (b.drop J) = es ++ goS a b) ∧ Hid (OwnE wr w0.heap.size l E) ∧ Hid (E.length ≤ es.length + I + J) ∧ Hid (Aside w.heap.size w1.heap.size w1 wr l) ∧ w1.heap.size ≤ wr.heap.size ∧ Below w0.heap.size w0 wr)
  case atStart => exact ⟨0, 0, es, Nat.zero_le _, Nat.zero_le _, by omega, rfl, rfl, hid rfl, HO1, hid (by omega), HA1, Nat.le_refl _, hbw1⟩
  case round =>
    clear HO1 HA1 hbw1
    obtain ⟨I, J, E, hI, hJ, rfl, rfl, rfl, HG, HE, HN, HS, hZr, hbr⟩ := hrel
    have hzr := hbr.size
    have I0 : (0 : Int) ≤ (I : Int) := Int.natCast_nonneg _
    have J0 : (0 : Int) ≤ (J : Int) := Int.natCast_nonneg _
    have HLE := hid (show E.length + p + q ≤ 3000000 by have h1 := HN.out; have h2 := HL.out.1; have h3 := HL.out.2.1; have h4 := HL.out.2.2; omega)
    obtain ⟨I2, hI2⟩ : ∃ n, I + 1 = n := ⟨_, rfl⟩
    obtain ⟨J2, hJ2⟩ : ∃ n, J + 1 = n := ⟨_, rfl⟩
    have Iw2 : IntKind.i64.wrap ((I : Int) + 1) = (I2 : Int) := (IntWalk.i64_in _ (by have := HLE.out; omega)).trans (by omega)
    have Jw2 : IntKind.i64.wrap ((J : Int) + 1) = (J2 : Int) := (IntWalk.i64_in _ (by have := HLE.out; omega)).trans (by omega)
    have HI2 := hid hI2
    have HJ2 := hid hJ2
    by_cases hi : I < p
    · have hi' : (I : Int) < (p : Int) := by omega
      by_cases hj : J < q
      · have hj' : (J : Int) < (q : Int) := by omega
        obtain ⟨a1, x, rfl, hcx, hx⟩ := (Sl.old HA.out hbr).strAt' (i := I) (by rw [HP.out]; exact hi)
        obtain ⟨a2, y, rfl, hcy, hy⟩ := (Sl.old HB.out hbr).strAt' (i := J) (by rw [HQ.out]; exact hj)
        have HX := hid hx
        have HY := hid hy
        clear hx hy
        by_cases hxy : x = y
        · subst hxy
          have hbe : (x == x) = true := by simp
          obtain ⟨ao, c, rc, hc⟩ := cutS_mid HA.out I I2 (by have := HI2.out; omega) (by have := HI2.out; rw [HP.out]; omega)
          rw [show I2 - I = 1 by have := HI2.out; omega] at rc hc
          rw [show (a.drop I).take 1 = [x] by rw [drop_one HX.out]; rfl] at hc
          have HC := hid hc
          clear hc hI2 hJ2
          go_wp2_with fail
          go_quiet (fail)
          have hS' := hid (HS.out.drew nq)
          have hE' := hid (HE.out.drew nq)
          have hb' : Below w0.heap.size w0 (wr.drewN nq) := below_step hbr (below_drewN _ _) hzr
          have hZ' : w1.heap.size ≤ (wr.drewN nq).heap.size := hZr
          clear hcx hcy hbr hzr hZr HS HE
          generalize wr.drewN nq = wa at hS' hE' hb' hZ'  ⊢
          go_wp2_with (go_at_call 190; refine (DAdd_any w0 _ _ E 1 [x] _ hE'.out HC.out hb' (by have := HLE.out; simp; omega) w.heap.size w1.heap.size w1 hZ' hS'.out).mono ?_; rintro e w5 ⟨l5, rfl, hO5, hb5, hz5, hA5⟩; have HO5 := hid hO5; have HA5 := hid hA5; clear hO5 hA5)
          have HG' := hid (show (E ++ [((1 : Int), x)]) ++ goS (a.drop I2) (b.drop J2) = es ++ goS a b by
            rw [← HG.out, drop_one HX.out, drop_one HY.out, goS_cons, if_pos rfl, HI2.out, HJ2.out, List.append_assoc]
            rfl)
          have HN' := hid (show (E ++ [((1 : Int), x)]).length ≤ es.length + I2 + J2 by have h1 := HN.out; have h2 := HI2.out; have h3 := HJ2.out; rw [List.length_append]; simp; omega)
          go_roundg ((p - I2) + (q - J2))
          case measure => have h2 := HI2.out; have h3 := HJ2.out; omega
          case rel => exact ⟨I2, J2, _, by have h2 := HI2.out; omega, by have h3 := HJ2.out; omega, rfl, rfl, rfl, HG', HO5, HN', HA5, Nat.le_trans hZ' hz5, hb5⟩
        · have hbe : (x == y) = false := by simpa using hxy
          obtain ⟨g', hg', eg, ht⟩ := HT.out.old (w' := wr) (fun b h1 h2 => HS.out.kept b h1 h2)
          simp only [Value.slice.injEq, Option.some.injEq, Addr.mk.injEq, and_true] at eg
          obtain rfl := eg
          obtain ⟨r1, hr1, e1, e2⟩ := ht I2 (by omega)
          obtain ⟨r0, hr0, e3, e4⟩ := ht I (by omega)
          have e2 := e2 J (by omega)
          have e4 := e4 J2 (by omega)
          rw [HQ1.out] at e1 e3
          obtain ⟨V, hV⟩ : ∃ V, lcs (a.drop I2) (b.drop J) = V := ⟨_, rfl⟩
          obtain ⟨U, hU⟩ : ∃ U, lcs (a.drop I) (b.drop J2) = U := ⟨_, rfl⟩
          have e2 : wr.cell? ⟨r1, J, none⟩ = some (.int .u16 (V : Nat)) := by rw [← hV]; exact e2
          have e4 : wr.cell? ⟨r0, J2, none⟩ = some (.int .u16 (U : Nat)) := by rw [← hU]; exact e4
          have I20 : (0 : Int) ≤ (I2 : Int) := Int.natCast_nonneg _
          have J20 : (0 : Int) ≤ (J2 : Int) := Int.natCast_nonneg _
          have g1 : (I : Int) < (p1 : Int) := by have := HP1.out; omega
          have g2 : (I2 : Int) < (p1 : Int) := by have := HP1.out; omega
          have g3 : (J : Int) < (q1 : Int) := by have := HQ1.out; omega
          have g4 : (J2 : Int) < (q1 : Int) := by have := HQ1.out; omega
          clear hg' hr1 hr0 ht hI2 hJ2
          by_cases hUV : U ≤ V
          · have hUV' : (U : Int) ≤ (V : Int) := by omega
            have HF := hid (show goS (a.drop I) (b.drop J) = ((2 : Int), x) :: goS (a.drop I2) (b.drop J) by
              have dx := drop_one HX.out
              have dy := drop_one HY.out
              rw [HI2.out] at dx
              rw [HJ2.out] at dy
              rw [dx, dy, goS_cons, if_neg hxy, ← dy, if_pos (by rw [← dx, hV, hU]; exact hUV)])
            clear hV hU hUV
            obtain ⟨ao, c, rc, hc⟩ := cutS_mid HA.out I I2 (by have := HI2.out; omega) (by have := HI2.out; rw [HP.out]; omega)
            rw [show I2 - I = 1 by have := HI2.out; omega] at rc hc
            rw [show (a.drop I).take 1 = [x] by rw [drop_one HX.out]; rfl] at hc
            have HC := hid hc
            clear hc
            go_wp2_with fail
            go_quiet (fail)
            have hS' := hid (HS.out.drew nq)
            have hE' := hid (HE.out.drew nq)
            have hb' : Below w0.heap.size w0 (wr.drewN nq) := below_step hbr (below_drewN _ _) hzr
            have hZ' : w1.heap.size ≤ (wr.drewN nq).heap.size := hZr
            have k1 : (wr.drewN nq).cell? ⟨g, I2, none⟩ = _ := e1
            have k2 : (wr.drewN nq).cell? ⟨r1, J, none⟩ = _ := e2
            have k3 : (wr.drewN nq).cell? ⟨g, I, none⟩ = _ := e3
            have k4 : (wr.drewN nq).cell? ⟨r0, J2, none⟩ = _ := e4
            clear hcx hcy hbr hzr hZr HS HE e1 e2 e3 e4
            generalize wr.drewN nq = wa at hS' hE' hb' hZ' k1 k2 k3 k4 ⊢
            go_wp2_with fail
            go_quiet (fail)
            have hS2 := hid (hS'.out.drew nq)
            have hE2 := hid (hE'.out.drew nq)
            have hb2 : Below w0.heap.size w0 (wa.drewN nq) := below_step hb' (below_drewN _ _) hb'.size
            have hZ2 : w1.heap.size ≤ (wa.drewN nq).heap.size := hZ'
            clear hS' hE' hb' hZ' k1 k2 k3 k4
            generalize wa.drewN nq = wb at hS2 hE2 hb2 hZ2 ⊢
            have hS' := hS2
            have hE' := hE2
            have hb' := hb2
            have hZ' := hZ2
            clear hS2 hE2 hb2 hZ2
            go_wp2_with (go_at_call 190; refine (DAdd_any w0 _ _ E 2 [x] _ hE'.out HC.out hb' (by have := HLE.out; simp; omega) w.heap.size w1.heap.size w1 hZ' hS'.out).mono ?_; rintro e w5 ⟨l5, rfl, hO5, hb5, hz5, hA5⟩; have HO5 := hid hO5; have HA5 := hid hA5; clear hO5 hA5)
            have HG' := hid (show (E ++ [((2 : Int), x)]) ++ goS (a.drop I2) (b.drop J) = es ++ goS a b by
              rw [← HG.out, HF.out, List.append_assoc]
              rfl)
            have HN' := hid (show (E ++ [((2 : Int), x)]).length ≤ es.length + I2 + J by have h1 := HN.out; have h2 := HI2.out; have h3 := HJ2.out; rw [List.length_append]; simp; omega)
            go_roundg ((p - I2) + (q - J))
            case measure => have h2 := HI2.out; have h3 := HJ2.out; omega
            case rel => exact ⟨I2, J, _, by have h2 := HI2.out; omega, by have h3 := HJ2.out; omega, rfl, rfl, rfl, HG', HO5, HN', HA5, Nat.le_trans hZ' hz5, hb5⟩
          · have hUV' : ¬ (U : Int) ≤ (V : Int) := by omega
            have HF := hid (show goS (a.drop I) (b.drop J) = ((3 : Int), y) :: goS (a.drop I) (b.drop J2) by
              have dx := drop_one HX.out
              have dy := drop_one HY.out
              rw [HI2.out] at dx
              rw [HJ2.out] at dy
              rw [dx, dy, goS_cons, if_neg hxy, ← dy, if_neg (by rw [← dx, hV, hU]; exact hUV), ← dx])
            clear hV hU hUV
            obtain ⟨ao, c, rc, hc⟩ := cutS_mid HB.out J J2 (by have := HJ2.out; omega) (by have := HJ2.out; rw [HQ.out]; omega)
            rw [show J2 - J = 1 by have := HJ2.out; omega] at rc hc
            rw [show (b.drop J).take 1 = [y] by rw [drop_one HY.out]; rfl] at hc
            have HC := hid hc
            clear hc
            go_wp2_with fail
            go_quiet (fail)
            have hS' := hid (HS.out.drew nq)
            have hE' := hid (HE.out.drew nq)
            have hb' : Below w0.heap.size w0 (wr.drewN nq) := below_step hbr (below_drewN _ _) hzr
            have hZ' : w1.heap.size ≤ (wr.drewN nq).heap.size := hZr
            have k1 : (wr.drewN nq).cell? ⟨g, I2, none⟩ = _ := e1
            have k2 : (wr.drewN nq).cell? ⟨r1, J, none⟩ = _ := e2
            have k3 : (wr.drewN nq).cell? ⟨g, I, none⟩ = _ := e3
            have k4 : (wr.drewN nq).cell? ⟨r0, J2, none⟩ = _ := e4
            clear hcx hcy hbr hzr hZr HS HE e1 e2 e3 e4
            generalize wr.drewN nq = wa at hS' hE' hb' hZ' k1 k2 k3 k4 ⊢
            go_wp2_with fail
            go_quiet (fail)
            have hS2 := hid (hS'.out.drew nq)
            have hE2 := hid (hE'.out.drew nq)
            have hb2 : Below w0.heap.size w0 (wa.drewN nq) := below_step hb' (below_drewN _ _) hb'.size
            have hZ2 : w1.heap.size ≤ (wa.drewN nq).heap.size := hZ'
            clear hS' hE' hb' hZ' k1 k2 k3 k4
            generalize wa.drewN nq = wb at hS2 hE2 hb2 hZ2 ⊢
            have hS' := hS2
            have hE' := hE2
            have hb' := hb2
            have hZ' := hZ2
            clear hS2 hE2 hb2 hZ2
            go_wp2_with (go_at_call 190; refine (DAdd_any w0 _ _ E 3 [y] _ hE'.out HC.out hb' (by have := HLE.out; simp; omega) w.heap.size w1.heap.size w1 hZ' hS'.out).mono ?_; rintro e w5 ⟨l5, rfl, hO5, hb5, hz5, hA5⟩; have HO5 := hid hO5; have HA5 := hid hA5; clear hO5 hA5)
            have HG' := hid (show (E ++ [((3 : Int), y)]) ++ goS (a.drop I) (b.drop J2) = es ++ goS a b by
              rw [← HG.out, HF.out, List.append_assoc]
              rfl)
            have HN' := hid (show (E ++ [((3 : Int), y)]).length ≤ es.length + I + J2 by have h1 := HN.out; have h2 := HI2.out; have h3 := HJ2.out; rw [List.length_append]; simp; omega)
            go_roundg ((p - I) + (q - J2))
            case measure => have h2 := HI2.out; have h3 := HJ2.out; omega
            case rel => exact ⟨I, J2, _, by have h2 := HI2.out; omega, by have h3 := HJ2.out; omega, rfl, rfl, rfl, HG', HO5, HN', HA5, Nat.le_trans hZ' hz5, hb5⟩
      · have hj' : ¬ (J : Int) < (q : Int) := by omega
        have HF := hid (show goS (a.drop I) (b.drop J) = ((a.drop I).map fun x => ((2 : Int), x)) ++ (b.drop J).map fun x => ((3 : Int), x) by
          rw [List.drop_of_length_le (l := b) (by rw [HQ.out]; omega), goS_nil]
          simp)
        obtain ⟨ao, c, rc, hc⟩ := cutS_from HA.out I (by rw [HP.out]; exact hI)
        obtain ⟨bo, d, rd, hd⟩ := cutS_from HB.out J (by rw [HQ.out]; exact hJ)
        rw [HP.out] at rc hc
        rw [HQ.out] at rd hd
        have HC := hid hc
        have HD := hid hd
        have I1 : (I : Int) ≤ (p : Int) := by omega
        have J1 : (J : Int) ≤ (q : Int) := by omega
        have hd1 : Below w0.heap.size w0 wr.drew := below_step hbr (show Below wr.heap.size wr wr.drew from ⟨rfl, rfl, rfl, Nat.le_refl _, fun _ _ => rfl⟩) hzr
        have H1 := hid (DAdd_any w0 _ _ E 2 (a.drop I) wr.drew (show OwnE wr.drew _ _ _ from HE.out) HC.out hd1 (by have := HLE.out; rw [List.length_drop, HP.out]; omega) 0 0 w (Nat.zero_le _) (Aside.none _ _ _))
        have HLD := hid (show (E ++ (a.drop I).map fun x => ((2 : Int), x)).length + (b.drop J).length ≤ 4000000 by have := HLE.out; rw [List.length_append, List.length_map, List.length_drop, List.length_drop, HP.out, HQ.out]; omega)
        clear hc hd hI2 hJ2
        go_wp2_with fail
        go_region_held3 (fun _ => True) (trivial) ((first
          | (go_at_call 190; with_reducible refine H1.out.mono ?_; rintro e w5 ⟨l5, rfl, hO5, hb5, hz5, hA5⟩; clear H1)
          | (go_at_call 190; with_reducible refine (DAdd_any w0 l5 _ _ 3 (b.drop J) _ hO5 HD.out hb5 HLD.out 0 0 w (Nat.zero_le _) (Aside.none _ _ _)).mono ?_; rintro e w6 ⟨l6, rfl, hO6, hb6, hz6, hA6⟩)))
        go_wp2_with fail
        go_ret
        refine ⟨_, rfl, ?_, hb6⟩
        rw [← HG.out, HF.out, ← List.append_assoc]
        exact hO6
    · have hi' : ¬ (I : Int) < (p : Int) := by omega
      have HF := hid (show goS (a.drop I) (b.drop J) = ((a.drop I).map fun x => ((2 : Int), x)) ++ (b.drop J).map fun x => ((3 : Int), x) by
        rw [List.drop_of_length_le (l := a) (by rw [HP.out]; omega), goS_nil_left]
        simp)
      obtain ⟨ao, c, rc, hc⟩ := cutS_from HA.out I (by rw [HP.out]; exact hI)
      obtain ⟨bo, d, rd, hd⟩ := cutS_from HB.out J (by rw [HQ.out]; exact hJ)
      rw [HP.out] at rc hc
      rw [HQ.out] at rd hd
      have HC := hid hc
      have HD := hid hd
      have I1 : (I : Int) ≤ (p : Int) := by omega
      have J1 : (J : Int) ≤ (q : Int) := by omega
      have hd1 : Below w0.heap.size w0 wr.drew := below_step hbr (show Below wr.heap.size wr wr.drew from ⟨rfl, rfl, rfl, Nat.le_refl _, fun _ _ => rfl⟩) hzr
      have H1 := hid (DAdd_any w0 _ _ E 2 (a.drop I) wr.drew (show OwnE wr.drew _ _ _ from HE.out) HC.out hd1 (by have := HLE.out; rw [List.length_drop, HP.out]; omega) 0 0 w (Nat.zero_le _) (Aside.none _ _ _))
      have HLD := hid (show (E ++ (a.drop I).map fun x => ((2 : Int), x)).length + (b.drop J).length ≤ 4000000 by have := HLE.out; rw [List.length_append, List.length_map, List.length_drop, List.length_drop, HP.out, HQ.out]; omega)
      clear hc hd hI2 hJ2
      go_wp2_with fail
      go_region_held3 (fun _ => True) (trivial) ((first
        | (go_at_call 190; with_reducible refine H1.out.mono ?_; rintro e w5 ⟨l5, rfl, hO5, hb5, hz5, hA5⟩; clear H1)
        | (go_at_call 190; with_reducible refine (DAdd_any w0 l5 _ _ 3 (b.drop J) _ hO5 HD.out hb5 HLD.out 0 0 w (Nat.zero_le _) (Aside.none _ _ _)).mono ?_; rintro e w6 ⟨l6, rfl, hO6, hb6, hz6, hA6⟩)))
      go_wp2_with fail
      go_ret
      refine ⟨_, rfl, ?_, hb6⟩
      rw [← HG.out, HF.out, ← List.append_assoc]
      exact hO6
end
end Go.Proofs.YtbnafihigoekeaaGreatDoor
namespace Go.Proofs.YtbnafihigoekeaaGreatDoor
open Go.RowKit
section
set_option maxRecDepth 100000
set_option maxHeartbeats 4000000
theorem DScript_any (va vb : Value) (a b : List (List UInt8)) (w : World) (ha : Sl w va (strCells a)) (hb : Sl w vb (strCells b)) (hal : a.length ≤ 1000000) (hbl : b.length ≤ 1000000) :
    Calls Tryz.prog 171 #[va, vb] w fun e w' => ∃ l, e = .returned l ∧ OwnE w' w.heap.size l (scriptS a b) ∧ Below w.heap.size w w' := by
  obtain ⟨aa, ca, rfl⟩ := ha.form
  obtain ⟨ab, cb, rfl⟩ := hb.form
  have HAl := hid (DAlike_any _ _ a b w ha hb hal)
  rw [strCells_length] at ha hb HAl ⊢
  rw [strCells_length] at HAl ⊢
  have HA := hid ha
  have HB := hid hb
  have HL := hid (And.intro hal hbl)
  clear ha hb
  go_enter Tryz.func171, Tryz.ntmps171
  go_wp2_with fail
  refine HAl.out.mono ?_
  rintro e w1 ⟨k, rfl, ⟨hka, hkb, hE, hmax⟩, hb1⟩
  have HS := hid (script_behind hE hmax)
  obtain ⟨ho, tc, rt, ht⟩ := cutS_to HA.out k hka
  obtain ⟨fo, fc, rf, hf⟩ := cutS_from HA.out k hka
  obtain ⟨so, sc, rs, hs⟩ := cutS_from HB.out k hkb
  have k0 : (0 : Int) ≤ (k : Int) := Int.natCast_nonneg _
  have k1 : (k : Int) ≤ (a.length : Int) := by omega
  have k2 : (k : Int) ≤ (b.length : Int) := by omega
  obtain ⟨E, hEE⟩ : ∃ E, (a.take k).map (fun x => ((1 : Int), x)) = E := ⟨_, rfl⟩
  obtain ⟨c, hc⟩ : ∃ c, a.drop k = c := ⟨_, rfl⟩
  obtain ⟨d, hd⟩ : ∃ d, b.drop k = d := ⟨_, rfl⟩
  obtain ⟨p, hp⟩ : ∃ p, a.length - k = p := ⟨_, rfl⟩
  obtain ⟨q, hq⟩ : ∃ q, b.length - k = q := ⟨_, rfl⟩
  have HCP := hid (show c.length = p by rw [← hc, List.length_drop]; exact hp)
  have HDQ := hid (show d.length = q by rw [← hd, List.length_drop]; exact hq)
  have HEL := hid (show E.length ≤ 1000000 by rw [← hEE, List.length_map, List.length_take]; omega)
  have HPQ := hid (show p ≤ 1000000 ∧ q ≤ 1000000 by omega)
  rw [hEE, hc, hd] at HS
  rw [hc, hp] at hf
  rw [hd, hq] at hs
  rw [hp] at rf
  rw [hq] at rs
  have HTK := hid ht
  have HC := hid hf
  have HD := hid hs
  have H1 := hid (DAdd_any w (.slice none 0 0) _ [] 1 (a.take k) w1 (OwnE.nil _ _) ht hb1 (by rw [List.length_take]; simp; omega) 0 0 w (Nat.zero_le _) (Aside.none _ _ _))
  rw [hEE] at H1
  clear ht hf hs hE hmax hEE hc hd hp hq HAl hka hkb
  go_wp2_with (go_at_call 190; refine H1.out.mono ?_; rintro e w2 ⟨l2, rfl, hO2, hb2, hz2, hA2⟩; clear H1 hA2 hz2; have HO2 := hid hO2; clear hO2)
  go_quiet (fail)
  have hO3 := hid (HO2.out.drew nq)
  have hb3 : Below w.heap.size w (w2.drewN nq) := below_step hb2 (below_drewN _ _) hb2.size
  clear HO2 hb2
  generalize w2.drewN nq = w3 at hO3 hb3 ⊢
  rw [List.nil_append] at hO3
  by_cases hlong : 400 < p ∨ 400 < q
  · have HR := hid (show scriptS a b = E ++ ((c.map fun x => ((2 : Int), x)) ++ d.map fun x => ((3 : Int), x)) by
      rw [HS.out, restS, if_pos (show tooLong c d by unfold tooLong; rw [HCP.out, HDQ.out]; exact hlong)])
    have hsplit : (400 : Int) < (p : Int) ∨ (¬ (400 : Int) < (p : Int) ∧ (400 : Int) < (q : Int)) := by omega
    clear hlong HS
    have H2 := hid (DAdd_any w _ _ E 2 c w3 hO3.out HC.out hb3 (by have h1 := HEL.out; have h2 := HPQ.out.1; rw [HCP.out]; omega) 0 0 w (Nat.zero_le _) (Aside.none _ _ _))
    have HLD := hid (show (E ++ c.map fun x => ((2 : Int), x)).length + d.length ≤ 4000000 by have h1 := HEL.out; have h2 := HPQ.out; rw [List.length_append, List.length_map, HCP.out, HDQ.out]; omega)
    rcases hsplit with hs1 | ⟨hs1, hs2⟩
    all_goals
      go_wp2_with (first
        | (go_at_call 190; with_reducible refine H2.out.mono ?_; rintro e w5 ⟨l5, rfl, hO5, hb5, hz5, hA5⟩; clear H2)
        | (go_at_call 190; with_reducible refine (DAdd_any w l5 _ _ 3 d _ hO5 HD.out hb5 HLD.out 0 0 w (Nat.zero_le _) (Aside.none _ _ _)).mono ?_; rintro e w6 ⟨l6, rfl, hO6, hb6, hz6, hA6⟩))
      go_ret
      refine ⟨_, rfl, ?_, hb6⟩
      rw [HR.out, ← List.append_assoc]
      exact hO6
  · have HR := hid (show scriptS a b = E ++ goS c d by
      rw [HS.out, restS, if_neg (show ¬ tooLong c d by unfold tooLong; rw [HCP.out, HDQ.out]; exact hlong)])
    have hs1 : ¬ (400 : Int) < (p : Int) := by omega
    have hs2 : ¬ (400 : Int) < (q : Int) := by omega
    have H2 := hid (DWalk_any w _ _ _ E c d w3 hO3.out HC.out HD.out hb3 HEL.out (by rw [HCP.out]; omega) (by rw [HDQ.out]; omega))
    clear hlong HS
    go_wp2_with (go_at_call 191; refine H2.out.mono ?_; rintro e w6 ⟨l6, rfl, hO6, hb6⟩)
    go_ret
    refine ⟨_, rfl, ?_, hb6⟩
    rw [HR.out]
    exact hO6
end
end Go.Proofs.YtbnafihigoekeaaGreatDoor
