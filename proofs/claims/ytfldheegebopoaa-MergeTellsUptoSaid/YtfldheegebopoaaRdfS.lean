/-
  The document's own Script (rickref05), and Distance.
-/
import Derived.Test.YtfldheegebopoaaRdfU
import Derived.Test.YtfldheegebopoaaRdfA
import Derived.Test.YtfldheegebopoaaEdA
import Derived.Deep.DeepCutAuto
import Derived.Deep.CutBlock
namespace Go.Proofs.Ytfldheegebopoaa
open Go.RowKit

theorem scriptS_at {a b : List (List UInt8)} {k : Nat} (h : a.take k = b.take k) : scriptS a b = ((a.take k).map fun x => ((1 : Int), x)) ++ scriptS (a.drop k) (b.drop k) := by
  have := scriptS_prefix (a.take k) (a.drop k) (b.drop k)
  rw [List.take_append_drop, h, List.take_append_drop] at this
  rw [h]
  exact this
theorem keeps_snoc {a : List (List UInt8)} {k : Nat} {x : List UInt8} (h : a[k]? = some x) : ((a.take k).map fun x => ((1 : Int), x)) ++ [((1 : Int), x)] = (a.take (k + 1)).map fun x => ((1 : Int), x) := by
  rw [take_snoc h, List.map_append]
  rfl
theorem drop_cons' {a : List (List UInt8)} {k : Nat} {x : List UInt8} (h : a[k]? = some x) : a.drop k = x :: a.drop (k + 1) := by
  obtain ⟨q, e⟩ := List.getElem?_eq_some_iff.1 h
  rw [List.drop_eq_getElem_cons q, e]

section
set_option maxRecDepth 100000
set_option maxHeartbeats 8000000
theorem RScript_any (va vb : Value) (a b : List (List UInt8)) (w : World) (ha : Sl w va (strCells a)) (hb : Sl w vb (strCells b)) (hal : a.length ≤ 1000000) (hbl : b.length ≤ 1000000) :
    Calls Try.prog 53 #[va, vb] w fun e w' => ∃ l, e = .returned l ∧ OwnE w' w.heap.size l (scriptS a b) ∧ Below w.heap.size w w' := by
  obtain ⟨i0, hi0, hi1, hi2, hi3⟩ := info_parts Try.infoEd
  obtain ⟨aa, ca, rfl⟩ := ha.form
  obtain ⟨ab, cb, rfl⟩ := hb.form
  rw [strCells_length] at ha hb ⊢
  rw [strCells_length]
  go_enter Try.func53, Try.ntmps53
  go_upto_block 0 with fail
  go_cut [5, 6] (fun l n wx => ∃ k : Nat, n = .int .i64 k ∧ k ≤ a.length ∧ k ≤ b.length ∧ Hid (scriptS a b = (a.take k).map (fun x => ((1 : Int), x)) ++ restS (a.drop k) (b.drop k)) ∧ OwnE wx w.heap.size l ((a.take k).map (fun x => ((1 : Int), x))) ∧ Below w.heap.size w wx)
  case first =>
    go_wp2_with fail
    go_loopg [5, 6] a.length (fun g l n wr => ∃ k : Nat, k ≤ a.length ∧ k ≤ b.length ∧ g = a.length - k ∧ n = .int .i64 k ∧ Hid (a.take k = b.take k) ∧ Hid (OwnE wr w.heap.size l ((a.take k).map (fun x => ((1 : Int), x)))) ∧ Below w.heap.size w wr)
    case atStart => exact ⟨0, Nat.zero_le _, Nat.zero_le _, rfl, rfl, hid rfl, hid (OwnE.nil _ _), Below.refl _ _⟩
    case round =>
      obtain ⟨k, hka, hkb, rfl, rfl, HE, HO, hbel⟩ := hrel
      have hz := hbel.size
      have k0 : (0 : Int) ≤ (k : Int) := Int.natCast_nonneg _
      have kw : IntKind.i64.wrap ((k : Int) + 1) = (k : Int) + 1 := IntWalk.i64_in _ (by omega)
      by_cases h1 : k < a.length
      · have h1' : (k : Int) < (a.length : Int) := by omega
        by_cases h2 : k < b.length
        · have h2' : (k : Int) < (b.length : Int) := by omega
          obtain ⟨a1, x, rfl, hcx, hx⟩ := (Sl.old ha hbel).strAt' (i := k) h1
          obtain ⟨a2, y, rfl, hcy, hy⟩ := (Sl.old hb hbel).strAt' (i := k) h2
          by_cases hxy : x = y
          · subst hxy
            have hbe : (x == x) = true := by simp
            have HX := hid hx
            have HY := hid hy
            clear hx hy
            obtain ⟨z, hz5⟩ : ∃ z, u5 = z := ⟨_, rfl⟩
            have hO := HO.out
            go_wp2_with fail
            go_quiet (fail)
            have hO1 := hO.drew nq
            have hlen : ((a.take k).map fun x => ((1 : Int), x)).length ≤ 4000000 := by rw [List.length_map, List.length_take]; omega
            have hcx1 : (wr.drewN nq).cell? (a1.add k) = _ := hcx
            have hbel1 : Below w.heap.size w (wr.drewN nq) := below_step hbel (below_drewN _ _) hz
            generalize wr.drewN nq = wq at hO1 hcx1 hbel1 ⊢
            have hzq := hbel1.size
            clear hO hcx hcy
            go_wp2_with (refine wpList_append_ed rfl 33 39 rfl w.heap.size _ _ 1 x rfl hO1 rfl hlen hzq ?_; intro v5 w5 hown5 hb5)
            have hb6 := hbel1.trans hb5
            have HO' := hid (show OwnE w5 w.heap.size v5 ((a.take (k + 1)).map fun x => ((1 : Int), x)) by
              rw [← keeps_snoc HX.out]
              exact hown5)
            have HE' := hid (show a.take (k + 1) = b.take (k + 1) by rw [take_snoc HX.out, take_snoc HY.out, HE.out])
            clear hown5 hb5
            go_roundg (a.length - (k + 1))
            case measure => omega
            case rel => exact ⟨k + 1, by omega, by omega, rfl, rfl, HE', HO', hb6⟩
          · have hbe : (x == y) = false := by simpa using hxy
            have HS := hid (show scriptS a b = ((a.take k).map fun x => ((1 : Int), x)) ++ restS (a.drop k) (b.drop k) by
              rw [scriptS_at HE.out, drop_cons' hx, drop_cons' hy, scriptS_cons, if_neg hxy])
            clear hx hy
            go_wp2_with fail
            go_quiet (fail)
            go_wp2_with fail
            go_meet
            exact ⟨k, rfl, hka, hkb, HS, HO.out.drew _, below_step hbel (below_drewN _ _) hz⟩
        · have hn2 : ¬ (k : Int) < (b.length : Int) := by omega
          have HS := hid (show scriptS a b = ((a.take k).map fun x => ((1 : Int), x)) ++ restS (a.drop k) (b.drop k) by
            rw [scriptS_at HE.out, List.drop_of_length_le (l := b) (by omega), scriptS_nil_right])
          go_wp2_with fail
          go_quiet (fail)
          go_wp2_with fail
          go_meet
          exact ⟨k, rfl, hka, hkb, HS, HO.out.drew _, below_step hbel (below_drewN _ _) hz⟩
      · have hn1 : ¬ (k : Int) < (a.length : Int) := by omega
        have HS := hid (show scriptS a b = ((a.take k).map fun x => ((1 : Int), x)) ++ restS (a.drop k) (b.drop k) by
          rw [scriptS_at HE.out, List.drop_of_length_le (l := a) (by omega), scriptS_nil_left])
        go_wp2_with fail
        go_quiet (fail)
        go_wp2_with fail
        go_meet
        exact ⟨k, rfl, hka, hkb, HS, HO.out.drew _, below_step hbel (below_drewN _ _) hz⟩
  case rest =>
    obtain ⟨k, rfl, hka, hkb, HS, HO, hbel⟩ := hcut
    have hz := hbel.size
    have k0 : (0 : Int) ≤ (k : Int) := Int.natCast_nonneg _
    have k1 : (k : Int) ≤ (a.length : Int) := by omega
    have k2 : (k : Int) ≤ (b.length : Int) := by omega
    obtain ⟨j0, hj0, hj1, hj2, hj3⟩ := info_parts Try.infoStr
    obtain ⟨va', ra, hA, _, aa', ca', rfl⟩ := run_slice_from 32 9 Try.underlying32 hj0 hj2 ha k (by rw [strCells_length]; exact hka)
    obtain ⟨vb', rb, hB, _, ab', cb', rfl⟩ := run_slice_from 32 9 Try.underlying32 hj0 hj2 hb k (by rw [strCells_length]; exact hkb)
    rw [strCells_length] at ra rb hA hB
    obtain ⟨c, hc⟩ : ∃ c, a.drop k = c := ⟨_, rfl⟩
    obtain ⟨d, hd⟩ : ∃ d, b.drop k = d := ⟨_, rfl⟩
    obtain ⟨E, hE⟩ : ∃ E, (a.take k).map (fun x => ((1 : Int), x)) = E := ⟨_, rfl⟩
    rw [show List.drop k (strCells a) = strCells c by rw [← hc]; simp [strCells]] at hA
    rw [show List.drop k (strCells b) = strCells d by rw [← hd]; simp [strCells]] at hB
    obtain ⟨p, hp⟩ : ∃ p, a.length - k = p := ⟨_, rfl⟩
    obtain ⟨q, hq⟩ : ∃ q, b.length - k = q := ⟨_, rfl⟩
    have hcp : c.length = p := by rw [← hc, List.length_drop]; exact hp
    have hdq : d.length = q := by rw [← hd, List.length_drop]; exact hq
    have hEl : E.length ≤ 1000000 := by rw [← hE, List.length_map, List.length_take]; omega
    rw [hc, hd, hE] at HS
    rw [hE] at HO
    rw [hp] at ra hA
    rw [hq] at rb hB
    have hpl : p ≤ 1000000 := by omega
    have hql : q ≤ 1000000 := by omega
    have HCP := hid hcp
    have HDQ := hid hdq
    have HO' := hid HO
    clear hc hd hE hp hq hcp hdq HO
    by_cases hlong : 400 < p ∨ 400 < q
    · have HR := hid (show scriptS a b = E ++ ((c.map fun x => ((2 : Int), x)) ++ d.map fun y => ((3 : Int), y)) by
        rw [HS.out, restS, if_pos (show tooLong c d by unfold tooLong; rw [HCP.out, HDQ.out]; exact hlong)])
      clear HS
      have hsplit : (400 : Int) < (p : Int) ∨ (¬ (400 : Int) < (p : Int) ∧ (400 : Int) < (q : Int)) := by omega
      clear hlong
      rcases hsplit with hs1 | ⟨hs1, hs2⟩
      all_goals
        go_wp2_with fail
        go_quiet (fail)
        have hO1 := hid (HO'.out.drew nq)
        have hb1 : Below w.heap.size w (wc.drewN nq) := below_step hbel (below_drewN _ _) hz
        clear HO' hbel hz
        generalize wc.drewN nq = w1 at hO1 hb1 ⊢
        go_wp2_with fail
        go_loopg [5, 7] p (fun g l i wr => ∃ I : Nat, I ≤ p ∧ g = p - I ∧ i = .int .i64 I ∧ Hid (OwnE wr w.heap.size l (E ++ (c.take I).map fun x => ((2 : Int), x))) ∧ Below w.heap.size w wr)
        case atStart => exact ⟨0, Nat.zero_le _, rfl, rfl, hid (by simpa using hO1.out), hb1⟩
        case round =>
          obtain ⟨I, hI, rfl, rfl, HL, hbr⟩ := hrel
          have hzr := hbr.size
          have I0 : (0 : Int) ≤ (I : Int) := Int.natCast_nonneg _
          have Iw : IntKind.i64.wrap ((I : Int) + 1) = (I : Int) + 1 := IntWalk.i64_in _ (by omega)
          by_cases h1 : I < p
          · have h1' : (I : Int) < (p : Int) := by omega
            obtain ⟨a1, x, rfl, hcx, hx⟩ := (hA.old hbr).strAt' (i := I) (by rw [HCP.out]; exact h1)
            have hlen : (E ++ (c.take I).map fun x => ((2 : Int), x)).length ≤ 4000000 := by rw [List.length_append, List.length_map, List.length_take]; omega
            have hL := HL.out
            have HX := hid hx
            clear hx
            go_wp2_with (refine wpList_append_ed rfl 63 69 rfl w.heap.size _ _ 2 x rfl hL rfl hlen hzr ?_; intro v5 w5 hown5 hb5)
            have hb6 := hbr.trans hb5
            have HL' := hid (show OwnE w5 w.heap.size v5 (E ++ (c.take (I + 1)).map fun x => ((2 : Int), x)) by
              rw [take_snoc HX.out, List.map_append, ← List.append_assoc]
              exact hown5)
            clear hown5 hb5
            go_roundg (p - (I + 1))
            case measure => omega
            case rel => exact ⟨I + 1, by omega, rfl, rfl, HL', hb6⟩
          · obtain rfl : I = p := by omega
            have hL1 := HL.out
            rw [← HCP.out, List.take_length] at hL1
            have HL1 := hid hL1
            clear HL hL1
            go_wp2_with fail
            go_loopg [5, 8] q (fun g l i wr => ∃ J : Nat, J ≤ q ∧ g = q - J ∧ i = .int .i64 J ∧ Hid (OwnE wr w.heap.size l (E ++ ((c.map fun x => ((2 : Int), x)) ++ (d.take J).map fun y => ((3 : Int), y)))) ∧ Below w.heap.size w wr)
            case atStart => exact ⟨0, Nat.zero_le _, rfl, rfl, hid (by simpa using HL1.out), hbr⟩
            case round =>
              obtain ⟨J, hJ, rfl, rfl, HL, hbr⟩ := hrel
              have hzr := hbr.size
              have J0 : (0 : Int) ≤ (J : Int) := Int.natCast_nonneg _
              have Jw : IntKind.i64.wrap ((J : Int) + 1) = (J : Int) + 1 := IntWalk.i64_in _ (by omega)
              by_cases h1 : J < q
              · have h1' : (J : Int) < (q : Int) := by omega
                obtain ⟨a1, x, rfl, hcx, hx⟩ := (hB.old hbr).strAt' (i := J) (by rw [HDQ.out]; exact h1)
                have hlen : (E ++ ((c.map fun x => ((2 : Int), x)) ++ (d.take J).map fun y => ((3 : Int), y))).length ≤ 4000000 := by
                  rw [List.length_append, List.length_append, List.length_map, List.length_map, List.length_take, HCP.out]; omega
                have hL := HL.out
                have HX := hid hx
                clear hx
                go_wp2_with (refine wpList_append_ed rfl 77 83 rfl w.heap.size _ _ 3 x rfl hL rfl hlen hzr ?_; intro v5 w5 hown5 hb5)
                have hb6 := hbr.trans hb5
                have HL' := hid (show OwnE w5 w.heap.size v5 (E ++ ((c.map fun x => ((2 : Int), x)) ++ (d.take (J + 1)).map fun y => ((3 : Int), y))) by
                  rw [take_snoc HX.out, List.map_append, ← List.append_assoc, ← List.append_assoc]
                  rw [← List.append_assoc] at hown5
                  exact hown5)
                clear hown5 hb5
                go_roundg (q - (J + 1))
                case measure => omega
                case rel => exact ⟨J + 1, by omega, rfl, rfl, HL', hb6⟩
              · obtain rfl : J = q := by omega
                have hL2 := HL.out
                rw [← HDQ.out, List.take_length, ← HR.out] at hL2
                obtain ⟨ao, cap, rfl⟩ := hL2.form
                have HL2 := hid hL2
                clear HL hL2
                go_wp2_with fail
                go_ret
                exact ⟨_, rfl, HL2.out, hbr⟩
    · have HR := hid (show scriptS a b = E ++ goS c d by
        rw [HS.out, restS, if_neg (show ¬ tooLong c d by unfold tooLong; rw [HCP.out, HDQ.out]; exact hlong)])
      clear HS
      have hs1 : ¬ (400 : Int) < (p : Int) := by omega
      have hs2 : ¬ (400 : Int) < (q : Int) := by omega
      clear hlong
      go_wp2_with fail
      go_quiet (fail)
      have hO1 := hid (HO'.out.drew nq)
      have hb1 : Below w.heap.size w (wc.drewN nq) := below_step hbel (below_drewN _ _) hz
      have hlt1 := HO'.out.lt
      have hws : (wc.drewN nq).heap.size = wc.heap.size := rfl
      rw [← hws] at hlt1
      clear HO' hbel hz hws
      generalize wc.drewN nq = w0 at hO1 hb1 hlt1 ⊢
      have hA0 := hA.old hb1
      have hB0 := hB.old hb1
      have hz0 := hb1.size
      go_wp2_with fail
      have hT := Rtable_any _ _ c d w0 hA0 hB0 (by rw [HCP.out]; exact hpl) (by rw [HDQ.out]; exact hql)
      rw [HCP.out, HDQ.out] at hT
      refine hT.mono ?_
      rintro e w1 ⟨t, rfl, ht, hb2⟩
      obtain ⟨B, hBe⟩ : ∃ B, w0.heap.size = B := ⟨_, rfl⟩
      obtain ⟨Z, hZe⟩ : ∃ Z, w1.heap.size = Z := ⟨_, rfl⟩
      have hbw1 : Below w.heap.size w w1 := below_step hb1 hb2 hz0
      have HO1 := hid (show OwnE w1 w.heap.size u5 E from OwnE.old hO1.out hb2)
      rw [hBe] at ht
      obtain ⟨g, hg, rfl, ht⟩ := ht
      have HT := hid (show TabAt w1 B (.slice (some ⟨g, 0, none⟩) (p + 1) (p + 1)) p q (fun i k => lcs (c.drop i) (d.drop k)) from ⟨g, hg, rfl, ht⟩)
      have HA1 := hid (show Aside B Z w1 w1 u5 from ⟨fun j hj => .inl (by rw [← hBe]; exact (hlt1 j hj).2), fun _ _ _ => rfl⟩)
      have hZ1 : Z ≤ w1.heap.size := Nat.le_of_eq hZe.symm
      have HZE := hid hZe
      obtain ⟨p1, hp1⟩ : ∃ n, p + 1 = n := ⟨_, rfl⟩
      obtain ⟨q1, hq1⟩ : ∃ n, q + 1 = n := ⟨_, rfl⟩
      rw [hp1]
      have HP1 := hid hp1
      have HQ1 := hid hq1
      clear ht hT hO1 hlt1 hBe hZe hA0 hB0 hg hb2 hb1 hz0 hp1 hq1
      go_wp2_with fail
      go_loopg [5, 10, 11] (p + q) (fun gg l i j wr => ∃ (I J : Nat) (S : List (Int × List UInt8)), I ≤ p ∧ J ≤ q ∧ gg = (p - I) + (q - J) ∧ i = .int .i64 I ∧ j = .int .i64 J ∧ Hid (goS c d = S ++ goS (c.drop I) (d.drop J)) ∧ Hid (OwnE wr w.heap.size l (E ++ S)) ∧ Hid (S.length ≤ I + J) ∧ Hid (Aside B Z w1 wr l) ∧ Z ≤ wr.heap.size ∧ Below w.heap.size w wr)
      case atStart => exact ⟨0, 0, [], Nat.zero_le _, Nat.zero_le _, by omega, rfl, rfl, hid rfl, hid (by simpa using HO1.out), hid (Nat.zero_le _), HA1, hZ1, hbw1⟩
      case round =>
        clear HO1 HA1 hZ1 hbw1
        obtain ⟨I, J, S, hI, hJ, rfl, rfl, rfl, HG, HL, HN, HA, hZr, hbr⟩ := hrel
        have hzr := hbr.size
        have I0 : (0 : Int) ≤ (I : Int) := Int.natCast_nonneg _
        have J0 : (0 : Int) ≤ (J : Int) := Int.natCast_nonneg _
        have Iw : IntKind.i64.wrap ((I : Int) + 1) = (I : Int) + 1 := IntWalk.i64_in _ (by omega)
        have Jw : IntKind.i64.wrap ((J : Int) + 1) = (J : Int) + 1 := IntWalk.i64_in _ (by omega)
        have hlen : (E ++ S).length ≤ 4000000 := by have := HN.out; rw [List.length_append]; omega
        by_cases hi : I < p
        · have hi' : (I : Int) < (p : Int) := by omega
          obtain ⟨a1, x, rfl, hcx, hx⟩ := (hA.old hbr).strAt' (i := I) (by rw [HCP.out]; exact hi)
          by_cases hj : J < q
          · have hj' : (J : Int) < (q : Int) := by omega
            have hjn : ((J : Int) == (q : Int)) = false := by simp; omega
            obtain ⟨a2, y, rfl, hcy, hy⟩ := (hB.old hbr).strAt' (i := J) (by rw [HDQ.out]; exact hj)
            by_cases hxy : x = y
            · subst hxy
              have hbe : (x == x) = true := by simp
              have HF := hid (show goS (c.drop I) (d.drop J) = ((1 : Int), x) :: goS (c.drop (I + 1)) (d.drop (J + 1)) by
                rw [drop_cons' hx, drop_cons' hy, goS_cons, if_pos rfl])
              clear hx hy
              go_wp2_with fail
              go_quiet (fail)
              have hL' := HL.out.drew nq
              have hA' := HA.out.drew nq
              have hcx' : (wr.drewN nq).cell? (a1.add I) = _ := hcx
              have hb' : Below w.heap.size w (wr.drewN nq) := below_step hbr (below_drewN _ _) hzr
              have hZ' : Z ≤ (wr.drewN nq).heap.size := hZr
              clear hcx hcy hbr hzr hZr HL HA
              generalize wr.drewN nq = wa at hL' hA' hcx' hb' hZ' ⊢
              have hzr := hb'.size
              have hbr := hb'
              have hZr := hZ'
              have hcx := hcx'
              clear hb' hZ' hcx'
              have HL := hid hL'
              have HA := hid hA'
              clear hL' hA'
              have hL := HL.out
              have hAs := HA.out
              go_wp2_with (refine wpList_append_ed2 rfl 131 137 rfl w.heap.size _ _ 1 x rfl hL rfl hlen hzr B Z w1 hZr hAs ?_; intro v5 w5 hown5 hb5 has5)
              have hb6 := hbr.trans hb5
              have HG' := hid (show goS c d = (S ++ [((1 : Int), x)]) ++ goS (c.drop (I + 1)) (d.drop (J + 1)) by rw [HG.out, HF.out, List.append_assoc]; rfl)
              have HL' := hid (show OwnE w5 w.heap.size v5 (E ++ (S ++ [((1 : Int), x)])) by rw [← List.append_assoc]; exact hown5)
              have HN' := hid (show (S ++ [((1 : Int), x)]).length ≤ (I + 1) + (J + 1) by have := HN.out; rw [List.length_append]; simp; omega)
              have HA' := hid has5
              have hZ5 : Z ≤ w5.heap.size := Nat.le_trans hZr hb5.size
              clear hown5 hb5 has5
              go_roundg ((p - (I + 1)) + (q - (J + 1)))
              case measure => omega
              case rel => exact ⟨(I + 1), (J + 1), _, by omega, by omega, rfl, rfl, rfl, HG', HL', HN', HA', hZ5, hb6⟩
            · have hbe : (x == y) = false := by simpa using hxy
              have HT2 := HT.out.old (w' := wr) (fun b h1 h2 => HA.out.kept b h1 (by rw [← HZE.out]; exact h2))
              obtain ⟨g', hg', eg, ht⟩ := HT2
              simp only [Value.slice.injEq, Option.some.injEq, Addr.mk.injEq, and_true] at eg
              obtain rfl := eg
              obtain ⟨r1, hr1, e1, e2⟩ := ht (I + 1) (by omega)
              obtain ⟨r0, hr0, e3, e4⟩ := ht I (by omega)
              have e2 := e2 J (by omega)
              have e4 := e4 (J + 1) (by omega)
              rw [HQ1.out] at e1 e3
              obtain ⟨V, hV⟩ : ∃ V, lcs (c.drop (I + 1)) (d.drop J) = V := ⟨_, rfl⟩
              obtain ⟨U, hU⟩ : ∃ U, lcs (c.drop I) (d.drop (J + 1)) = U := ⟨_, rfl⟩
              have e2 : wr.cell? ⟨r1, J, none⟩ = some (.int .i64 (V : Nat)) := by rw [← hV]; exact e2
              have e4 : wr.cell? ⟨r0, J + 1, none⟩ = some (.int .i64 (U : Nat)) := by rw [← hU]; exact e4
              obtain ⟨I2, hI2⟩ : ∃ n, I + 1 = n := ⟨_, rfl⟩
              obtain ⟨J2, hJ2⟩ : ∃ n, J + 1 = n := ⟨_, rfl⟩
              rw [hI2] at e1
              rw [hJ2] at e4
              have Iw2 : IntKind.i64.wrap ((I : Int) + 1) = (I2 : Int) := Iw.trans (by omega)
              have Jw2 : IntKind.i64.wrap ((J : Int) + 1) = (J2 : Int) := Jw.trans (by omega)
              have I20 : (0 : Int) ≤ (I2 : Int) := Int.natCast_nonneg _
              have J20 : (0 : Int) ≤ (J2 : Int) := Int.natCast_nonneg _
              have g1 : (I : Int) < (p1 : Int) := by have := HP1.out; omega
              have g2 : (I2 : Int) < (p1 : Int) := by have := HP1.out; omega
              have g3 : (J : Int) < (q1 : Int) := by have := HQ1.out; omega
              have g4 : (J2 : Int) < (q1 : Int) := by have := HQ1.out; omega
              have HX := hid hx
              have HY := hid hy
              have HI2 := hid hI2
              have HJ2 := hid hJ2
              clear hx hy hg' hr1 hr0 ht Iw Jw hI2 hJ2
              by_cases hUV : U ≤ V
              · have hUV' : (U : Int) ≤ (V : Int) := by omega
                have HF := hid (show goS (c.drop I) (d.drop J) = ((2 : Int), x) :: goS (c.drop (I + 1)) (d.drop J) by
                  rw [drop_cons' HX.out, drop_cons' HY.out, goS_cons, if_neg hxy, ← drop_cons' HX.out, ← drop_cons' HY.out, if_pos (by rw [hV, hU]; exact hUV)])
                clear hV hU
                go_wp2_with fail
                go_quiet (fail)
                have hL' := HL.out.drew nq
                have hA' := HA.out.drew nq
                have hcx' : (wr.drewN nq).cell? (a1.add I) = _ := hcx
                have hcy' : (wr.drewN nq).cell? (a2.add J) = _ := hcy
                have e1' : (wr.drewN nq).cell? ⟨g, I2, none⟩ = _ := e1
                have e2' : (wr.drewN nq).cell? ⟨r1, J, none⟩ = _ := e2
                have e3' : (wr.drewN nq).cell? ⟨g, I, none⟩ = _ := e3
                have e4' : (wr.drewN nq).cell? ⟨r0, J2, none⟩ = _ := e4
                have hb' : Below w.heap.size w (wr.drewN nq) := below_step hbr (below_drewN _ _) hzr
                have hZ' : Z ≤ (wr.drewN nq).heap.size := hZr
                clear hcx hcy e1 e2 e3 e4 hbr hzr hZr HL HA
                generalize wr.drewN nq = wa at hL' hA' hcx' hcy' e1' e2' e3' e4' hb' hZ' ⊢
                have hzr := hb'.size
                have hbr := hb'
                have hZr := hZ'
                have hcx := hcx'
                have hcy := hcy'
                have e1 := e1'
                have e2 := e2'
                have e3 := e3'
                have e4 := e4'
                clear hb' hZ' hcx' hcy' e1' e2' e3' e4'
                have HL := hid hL'
                have HA := hid hA'
                clear hL' hA'
                go_wp2_with fail
                go_quiet (fail)
                have hL' := HL.out.drew nq
                have hA' := HA.out.drew nq
                have hcx' : (wa.drewN nq).cell? (a1.add I) = _ := hcx
                have hb' : Below w.heap.size w (wa.drewN nq) := below_step hbr (below_drewN _ _) hzr
                have hZ' : Z ≤ (wa.drewN nq).heap.size := hZr
                clear hcx hcy e1 e2 e3 e4 hbr hzr hZr HL HA
                generalize wa.drewN nq = wb at hL' hA' hcx' hb' hZ' ⊢
                have hzr := hb'.size
                have hbr := hb'
                have hZr := hZ'
                have hcx := hcx'
                clear hb' hZ' hcx'
                have HL := hid hL'
                have HA := hid hA'
                clear hL' hA'
                have hL := HL.out
                have hAs := HA.out
                have Iw := Iw2.trans (show (I2 : Int) = (I : Int) + 1 by have := HI2.out; omega)
                clear Iw2 Jw2
                go_wp2_with (refine wpList_append_ed2 rfl 173 179 rfl w.heap.size _ _ 2 x rfl hL rfl hlen hzr B Z w1 hZr hAs ?_; intro v5 w5 hown5 hb5 has5)
                have hb6 := hbr.trans hb5
                have HG' := hid (show goS c d = (S ++ [((2 : Int), x)]) ++ goS (c.drop (I + 1)) (d.drop J) by rw [HG.out, HF.out, List.append_assoc]; rfl)
                have HL' := hid (show OwnE w5 w.heap.size v5 (E ++ (S ++ [((2 : Int), x)])) by rw [← List.append_assoc]; exact hown5)
                have HN' := hid (show (S ++ [((2 : Int), x)]).length ≤ (I + 1) + J by have := HN.out; rw [List.length_append]; simp; omega)
                have HA' := hid has5
                have hZ5 : Z ≤ w5.heap.size := Nat.le_trans hZr hb5.size
                clear hown5 hb5 has5
                go_roundg ((p - (I + 1)) + (q - J))
                case measure => omega
                case rel => exact ⟨(I + 1), J, _, by omega, by omega, rfl, rfl, rfl, HG', HL', HN', HA', hZ5, hb6⟩
              · have hUV' : ¬ (U : Int) ≤ (V : Int) := by omega
                have HF := hid (show goS (c.drop I) (d.drop J) = ((3 : Int), y) :: goS (c.drop I) (d.drop (J + 1)) by
                  rw [drop_cons' HX.out, drop_cons' HY.out, goS_cons, if_neg hxy, ← drop_cons' HX.out, ← drop_cons' HY.out, if_neg (by rw [hV, hU]; exact hUV)])
                clear hV hU
                go_wp2_with fail
                go_quiet (fail)
                have hL' := HL.out.drew nq
                have hA' := HA.out.drew nq
                have hcx' : (wr.drewN nq).cell? (a1.add I) = _ := hcx
                have hcy' : (wr.drewN nq).cell? (a2.add J) = _ := hcy
                have e1' : (wr.drewN nq).cell? ⟨g, I2, none⟩ = _ := e1
                have e2' : (wr.drewN nq).cell? ⟨r1, J, none⟩ = _ := e2
                have e3' : (wr.drewN nq).cell? ⟨g, I, none⟩ = _ := e3
                have e4' : (wr.drewN nq).cell? ⟨r0, J2, none⟩ = _ := e4
                have hb' : Below w.heap.size w (wr.drewN nq) := below_step hbr (below_drewN _ _) hzr
                have hZ' : Z ≤ (wr.drewN nq).heap.size := hZr
                clear hcx hcy e1 e2 e3 e4 hbr hzr hZr HL HA
                generalize wr.drewN nq = wa at hL' hA' hcx' hcy' e1' e2' e3' e4' hb' hZ' ⊢
                have hzr := hb'.size
                have hbr := hb'
                have hZr := hZ'
                have hcx := hcx'
                have hcy := hcy'
                have e1 := e1'
                have e2 := e2'
                have e3 := e3'
                have e4 := e4'
                clear hb' hZ' hcx' hcy' e1' e2' e3' e4'
                have HL := hid hL'
                have HA := hid hA'
                clear hL' hA'
                go_wp2_with fail
                go_quiet (fail)
                have hL' := HL.out.drew nq
                have hA' := HA.out.drew nq
                have hcy' : (wa.drewN nq).cell? (a2.add J) = _ := hcy
                have hb' : Below w.heap.size w (wa.drewN nq) := below_step hbr (below_drewN _ _) hzr
                have hZ' : Z ≤ (wa.drewN nq).heap.size := hZr
                clear hcx hcy e1 e2 e3 e4 hbr hzr hZr HL HA
                generalize wa.drewN nq = wb at hL' hA' hcy' hb' hZ' ⊢
                have hzr := hb'.size
                have hbr := hb'
                have hZr := hZ'
                have hcy := hcy'
                clear hb' hZ' hcy'
                have HL := hid hL'
                have HA := hid hA'
                clear hL' hA'
                have hL := HL.out
                have hAs := HA.out
                have Jw := Jw2.trans (show (J2 : Int) = (J : Int) + 1 by have := HJ2.out; omega)
                clear Iw2 Jw2
                go_wp2_with (refine wpList_append_ed2 rfl 99 105 rfl w.heap.size _ _ 3 y rfl hL rfl hlen hzr B Z w1 hZr hAs ?_; intro v5 w5 hown5 hb5 has5)
                have hb6 := hbr.trans hb5
                have HG' := hid (show goS c d = (S ++ [((3 : Int), y)]) ++ goS (c.drop I) (d.drop (J + 1)) by rw [HG.out, HF.out, List.append_assoc]; rfl)
                have HL' := hid (show OwnE w5 w.heap.size v5 (E ++ (S ++ [((3 : Int), y)])) by rw [← List.append_assoc]; exact hown5)
                have HN' := hid (show (S ++ [((3 : Int), y)]).length ≤ I + (J + 1) by have := HN.out; rw [List.length_append]; simp; omega)
                have HA' := hid has5
                have hZ5 : Z ≤ w5.heap.size := Nat.le_trans hZr hb5.size
                clear hown5 hb5 has5
                go_roundg ((p - I) + (q - (J + 1)))
                case measure => omega
                case rel => exact ⟨I, (J + 1), _, by omega, by omega, rfl, rfl, rfl, HG', HL', HN', HA', hZ5, hb6⟩
          · obtain rfl : J = q := by omega
            have hjq : ¬ (J : Int) < (J : Int) := Int.lt_irrefl _
            have HF := hid (show goS (c.drop I) (d.drop J) = ((2 : Int), x) :: goS (c.drop (I + 1)) (d.drop J) by
              rw [List.drop_of_length_le (l := d) (by rw [HDQ.out]; exact Nat.le_refl _), drop_cons' hx, goS_nil_right])
            clear hx
            go_wp2_with fail
            go_quiet (fail)
            have hL' := HL.out.drew nq
            have hA' := HA.out.drew nq
            have hcx' : (wr.drewN nq).cell? (a1.add I) = _ := hcx
            have hb' : Below w.heap.size w (wr.drewN nq) := below_step hbr (below_drewN _ _) hzr
            have hZ' : Z ≤ (wr.drewN nq).heap.size := hZr
            clear hcx hbr hzr hZr HL HA
            generalize wr.drewN nq = wa at hL' hA' hcx' hb' hZ' ⊢
            have hzr := hb'.size
            have hbr := hb'
            have hZr := hZ'
            have hcx := hcx'
            clear hb' hZ' hcx'
            have HL := hid hL'
            have HA := hid hA'
            clear hL' hA'
            go_wp2_with fail
            go_quiet (fail)
            have hL' := HL.out.drew nq
            have hA' := HA.out.drew nq
            have hcx' : (wa.drewN nq).cell? (a1.add I) = _ := hcx
            have hb' : Below w.heap.size w (wa.drewN nq) := below_step hbr (below_drewN _ _) hzr
            have hZ' : Z ≤ (wa.drewN nq).heap.size := hZr
            clear hcx hbr hzr hZr HL HA
            generalize wa.drewN nq = wb at hL' hA' hcx' hb' hZ' ⊢
            have hzr := hb'.size
            have hbr := hb'
            have hZr := hZ'
            have hcx := hcx'
            clear hb' hZ' hcx'
            have HL := hid hL'
            have HA := hid hA'
            clear hL' hA'
            have hL := HL.out
            have hAs := HA.out
            go_wp2_with (refine wpList_append_ed2 rfl 173 179 rfl w.heap.size _ _ 2 x rfl hL rfl hlen hzr B Z w1 hZr hAs ?_; intro v5 w5 hown5 hb5 has5)
            have hb6 := hbr.trans hb5
            have HG' := hid (show goS c d = (S ++ [((2 : Int), x)]) ++ goS (c.drop (I + 1)) (d.drop J) by rw [HG.out, HF.out, List.append_assoc]; rfl)
            have HL' := hid (show OwnE w5 w.heap.size v5 (E ++ (S ++ [((2 : Int), x)])) by rw [← List.append_assoc]; exact hown5)
            have HN' := hid (show (S ++ [((2 : Int), x)]).length ≤ (I + 1) + J by have := HN.out; rw [List.length_append]; simp; omega)
            have HA' := hid has5
            have hZ5 : Z ≤ w5.heap.size := Nat.le_trans hZr hb5.size
            clear hown5 hb5 has5
            go_roundg ((p - (I + 1)) + (J - J))
            case measure => omega
            case rel => exact ⟨(I + 1), J, _, by omega, by omega, rfl, rfl, rfl, HG', HL', HN', HA', hZ5, hb6⟩
        · obtain rfl : I = p := by omega
          by_cases hj : J < q
          · have hj' : (J : Int) < (q : Int) := by omega
            have hjn : ((J : Int) == (q : Int)) = false := by simp; omega
            obtain ⟨a2, y, rfl, hcy, hy⟩ := (hB.old hbr).strAt' (i := J) (by rw [HDQ.out]; exact hj)
            have HF := hid (show goS (c.drop I) (d.drop J) = ((3 : Int), y) :: goS (c.drop I) (d.drop (J + 1)) by
              rw [List.drop_of_length_le (l := c) (by rw [HCP.out]; exact Nat.le_refl _), drop_cons' hy, goS_nil_left, goS_nil_left]
              rfl)
            clear hy
            go_wp2_with fail
            go_quiet (fail)
            have hL' := HL.out.drew nq
            have hA' := HA.out.drew nq
            have hcy' : (wr.drewN nq).cell? (a2.add J) = _ := hcy
            have hb' : Below w.heap.size w (wr.drewN nq) := below_step hbr (below_drewN _ _) hzr
            have hZ' : Z ≤ (wr.drewN nq).heap.size := hZr
            clear hcy hbr hzr hZr HL HA
            generalize wr.drewN nq = wa at hL' hA' hcy' hb' hZ' ⊢
            have hzr := hb'.size
            have hbr := hb'
            have hZr := hZ'
            have hcy := hcy'
            clear hb' hZ' hcy'
            have HL := hid hL'
            have HA := hid hA'
            clear hL' hA'
            go_wp2_with fail
            go_quiet (fail)
            have hL' := HL.out.drew nq
            have hA' := HA.out.drew nq
            have hcy' : (wa.drewN nq).cell? (a2.add J) = _ := hcy
            have hb' : Below w.heap.size w (wa.drewN nq) := below_step hbr (below_drewN _ _) hzr
            have hZ' : Z ≤ (wa.drewN nq).heap.size := hZr
            clear hcy hbr hzr hZr HL HA
            generalize wa.drewN nq = wb at hL' hA' hcy' hb' hZ' ⊢
            have hzr := hb'.size
            have hbr := hb'
            have hZr := hZ'
            have hcy := hcy'
            clear hb' hZ' hcy'
            have HL := hid hL'
            have HA := hid hA'
            clear hL' hA'
            have hL := HL.out
            have hAs := HA.out
            go_wp2_with (refine wpList_append_ed2 rfl 99 105 rfl w.heap.size _ _ 3 y rfl hL rfl hlen hzr B Z w1 hZr hAs ?_; intro v5 w5 hown5 hb5 has5)
            have hb6 := hbr.trans hb5
            have HG' := hid (show goS c d = (S ++ [((3 : Int), y)]) ++ goS (c.drop I) (d.drop (J + 1)) by rw [HG.out, HF.out, List.append_assoc]; rfl)
            have HL' := hid (show OwnE w5 w.heap.size v5 (E ++ (S ++ [((3 : Int), y)])) by rw [← List.append_assoc]; exact hown5)
            have HN' := hid (show (S ++ [((3 : Int), y)]).length ≤ I + (J + 1) by have := HN.out; rw [List.length_append]; simp; omega)
            have HA' := hid has5
            have hZ5 : Z ≤ w5.heap.size := Nat.le_trans hZr hb5.size
            clear hown5 hb5 has5
            go_roundg ((I - I) + (q - (J + 1)))
            case measure => omega
            case rel => exact ⟨I, (J + 1), _, by omega, by omega, rfl, rfl, rfl, HG', HL', HN', HA', hZ5, hb6⟩
          · obtain rfl : J = q := by omega
            have hL := HL.out
            have hG := HG.out
            rw [List.drop_of_length_le (l := c) (by rw [HCP.out]; exact Nat.le_refl _), List.drop_of_length_le (l := d) (by rw [HDQ.out]; exact Nat.le_refl _), goS_nil_left, List.map_nil, List.append_nil] at hG
            rw [← hG, ← HR.out] at hL
            obtain ⟨ao, cap, rfl⟩ := hL.form
            have HL2 := hid hL
            clear HL hL hG
            go_wp2_with fail
            go_ret
            exact ⟨_, rfl, HL2.out, hbr⟩
end
end Go.Proofs.Ytfldheegebopoaa
