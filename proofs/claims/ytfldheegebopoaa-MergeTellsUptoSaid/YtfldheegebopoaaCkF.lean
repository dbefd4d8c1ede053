/-
  Chunks (the document's own Of).
-/
import Derived.Test.YtfldheegebopoaaCkR
import Derived.Test.YtfldheegebopoaaCkW
import Derived.Test.YtfldheegebopoaaCutS
import Derived.Deep.DeepCutAuto
import Derived.Deep.CutBlock
import Derived.Deep.CutRange
import Derived.StillTailTactics
namespace Go.Proofs.Ytfldheegebopoaa
open Go.RowKit

/-- four stores into one block -/
theorem keep_four (w : World) (g : Nat) (u0 u1 u2 u3 : Value) (b : Nat) (hb : b ≠ g) : ((((w.setCell ⟨g, 0, none⟩ u0).setCell ⟨g, 1, none⟩ u1).setCell ⟨g, 2, none⟩ u2).setCell ⟨g, 3, none⟩ u3).heap[b]? = w.heap[b]? := by
  rw [Below.heap_setCell _ _ _ _ hb, Below.heap_setCell _ _ _ _ hb, Below.heap_setCell _ _ _ _ hb, Below.heap_setCell _ _ _ _ hb]
section
set_option maxRecDepth 100000
set_option maxHeartbeats 8000000
theorem ROf_any (va vb vc : Value) (a b c : List (List UInt8)) (w : World) (ha : Sl w va (strCells a)) (hb : Sl w vb (strCells b)) (hc : Sl w vc (strCells c)) (la : a.length ≤ 1000) (lb : b.length ≤ 1000) (lc : c.length ≤ 1000) :
    Calls Try.prog 20 #[va, vb, vc] w fun e w' => ∃ u, e = .returned u ∧ SlC w' u (chunksS a b c) ∧ Below w.heap.size w w' := by
  obtain ⟨ao, ac, rfl⟩ := ha.form
  obtain ⟨bo, bc, rfl⟩ := hb.form
  obtain ⟨co, cc, rfl⟩ := hc.form
  rw [strCells_length] at ha hb hc ⊢
  rw [strCells_length, strCells_length]
  have HA := hid ha
  have HB := hid hb
  have HC := hid hc
  have HL := hid (And.intro la (And.intro lb lc))
  have H1 := hid (RPlaces_any _ _ a b w ha hb la lb)
  have hXL := placesS_len a b
  have hYL := placesS_len a c
  have hXA := placesS_rise a b
  have hYA := placesS_rise a c
  have hBEG := rest_begin a b c
  obtain ⟨X, hX⟩ : ∃ X, placesS a b = X := ⟨_, rfl⟩
  obtain ⟨Y, hY⟩ : ∃ Y, placesS a c = Y := ⟨_, rfl⟩
  rw [hX] at hXL hXA hBEG H1
  rw [hY] at hYL hYA hBEG
  have HXL := hid hXL
  have HYL := hid hYL
  have HXA := hid hXA
  have HYA := hid hYA
  have HBE := hid hBEG
  have HYE := hid hY
  obtain ⟨R, hR⟩ : ∃ R, chunksS a b c = R := ⟨_, rfl⟩
  rw [hR] at HBE ⊢
  clear ha hb hc la lb lc hXL hYL hXA hYA hBEG hX hY hR
  go_enter Try.func20, Try.ntmps20
  go_wp2_with fail
  refine H1.out.mono ?_
  rintro e w1 ⟨v1, rfl, s1, hb1⟩
  have HA := hid (Sl.old HA.out hb1)
  have HB := hid (Sl.old HB.out hb1)
  have HC := hid (Sl.old HC.out hb1)
  obtain ⟨xo, xc, rfl⟩ := s1.form
  rw [intCells_length, HXL.out] at s1 ⊢
  have HX := hid s1
  have H2 := hid (RPlaces_any _ _ a c w1 HA.out HC.out HL.out.1 HL.out.2.2)
  rw [HYE.out] at H2
  clear s1 H1
  go_wp2_with fail
  refine H2.out.mono ?_
  rintro e w2 ⟨v2, rfl, s2, hb2⟩
  have hB2 := below_step hb1 hb2 hb1.size
  have HA := hid (Sl.old HA.out hb2)
  have HB := hid (Sl.old HB.out hb2)
  have HC := hid (Sl.old HC.out hb2)
  have HX := hid (Sl.old HX.out hb2)
  obtain ⟨yo, yc, rfl⟩ := s2.form
  rw [intCells_length, HYL.out] at s2 ⊢
  have HY := hid s2
  clear s2 H2 hb1 hb2
  have hal := HL.out.1
  go_wp2_with fail
  go_loopg [9, 10, 11, 12, 13] a.length (fun g l vb' vo vt i wx => ∃ (k B O T : Nat) (D : List CkS), k ≤ a.length ∧ a.length - k = g ∧ i = .int .i64 k ∧ vb' = .int .i64 B ∧ vo = .int .i64 O ∧ vt = .int .i64 T ∧ B ≤ k ∧ O ≤ b.length ∧ T ≤ c.length ∧ Hid (OwnCk wx w2.heap.size l D) ∧ Hid (D ++ restAt a b c X Y k B O T = R) ∧ Hid (Asc b.length O (X.drop k)) ∧ Hid (Asc c.length T (Y.drop k)) ∧ D.length ≤ 3 * k ∧ Hid (Below w2.heap.size w2 wx))
  case atStart => exact ⟨0, 0, 0, 0, [], Nat.zero_le _, rfl, rfl, rfl, rfl, rfl, Nat.le_refl _, Nat.zero_le _, Nat.zero_le _, hid (OwnCk.nil _ _), hid (by rw [HBE.out]; rfl), hid (by rw [List.drop_zero]; exact HXA.out), hid (by rw [List.drop_zero]; exact HYA.out), Nat.zero_le _, hid (Below.refl _ _)⟩
  case round =>
    obtain ⟨k, B, O, T, D, hk, rfl, rfl, rfl, rfl, rfl, hBk, hOb, hTc, HO, HR, HAX, HAY, hDl, HBW⟩ := hrel
    have k0 : (0 : Int) ≤ (k : Int) := Int.natCast_nonneg _
    obtain ⟨lo, lcp, rfl⟩ := HO.out.form
    by_cases hlt : k < a.length
    · have k1 : (k : Int) < (a.length : Int) := by omega
      have kw : IntKind.i64.wrap ((k : Int) + 1) = (k : Int) + 1 := IntWalk.i64_in _ (by omega)
      obtain ⟨z, hz⟩ : ∃ z, a[k]? = some z := ⟨_, List.getElem?_eq_getElem hlt⟩
      obtain ⟨ax, p, rfl, hcx, hpx⟩ := (Sl.old HX.out HBW.out).intAt' (i := k) (by rw [HXL.out]; exact hlt)
      obtain ⟨ay, q, rfl, hcy, hpy⟩ := (Sl.old HY.out HBW.out).intAt' (i := k) (by rw [HYL.out]; exact hlt)
      have skip : p < 0 ∨ q < 0 → D ++ restAt a b c X Y (k + 1) B O T = R := fun h => by rw [← rest_skip hBk hz hpx hpy h]; exact HR.out
      have HSK := hid skip
      have HAX2 := hid (asc_skip HAX.out (by rw [HXL.out]; exact hlt))
      have HAY2 := hid (asc_skip HAY.out (by rw [HYL.out]; exact hlt))
      clear skip
      by_cases hp : p < 0
      · have dp : decide (p < 0) = true := decide_eq_true hp
        have HS2 := hid (HSK.out (.inl hp))
        clear HSK hpx hpy hz
        go_wp2_with fail
        go_roundg (a.length - (k + 1))
        case measure => omega
        case rel => exact ⟨k + 1, B, O, T, D, by omega, rfl, by go_num, rfl, rfl, rfl, by omega, hOb, hTc, HO, HS2, HAX2, HAY2, by omega, HBW⟩
      by_cases hq : q < 0
      · have dp : decide (p < 0) = false := decide_eq_false hp
        have dq : decide (q < 0) = true := decide_eq_true hq
        have HS2 := hid (HSK.out (.inr hq))
        clear HSK hpx hpy hz
        go_wp2_with fail
        go_roundg (a.length - (k + 1))
        case measure => omega
        case rel => exact ⟨k + 1, B, O, T, D, by omega, rfl, by go_num, rfl, rfl, rfl, by omega, hOb, hTc, HO, HS2, HAX2, HAY2, by omega, HBW⟩
      have dp : decide (p < 0) = false := decide_eq_false hp
      have dq : decide (q < 0) = false := decide_eq_false hq
      obtain ⟨P, rfl, hOP, hPb, _⟩ := asc_at HAX.out hpx hp
      obtain ⟨Q, rfl, hTQ, hQc, _⟩ := asc_at HAY.out hpy hq
      clear HSK HAX2 HAY2 hz
      have LX := hid (fun (W : World) (h : Below w2.heap.size w2 W) => by
        obtain ⟨ax', p', e, h1, h2⟩ := (Sl.old HX.out h).intAt' (i := k) (by rw [HXL.out]; exact hlt)
        cases e
        rw [hpx] at h2
        cases h2
        exact h1)
      have LY := hid (fun (W : World) (h : Below w2.heap.size w2 W) => by
        obtain ⟨ax', p', e, h1, h2⟩ := (Sl.old HY.out h).intAt' (i := k) (by rw [HYL.out]; exact hlt)
        cases e
        rw [hpy] at h2
        cases h2
        exact h1)
      have hPb' : P ≤ 1000 := by have := HL.out; omega
      have hQc' : Q ≤ 1000 := by have := HL.out; omega
      go_upto_block 2 with fail
      go_cut [14] from 44 to 81 (fun n wx => ∃ N : Nat, n = .int .i64 N ∧ 0 < N ∧ k + N ≤ a.length ∧ Hid (∀ j, j < N → X[k + j]? = some ((P + j : Nat) : Int) ∧ Y[k + j]? = some ((Q + j : Nat) : Int)) ∧ Hid (k + N = a.length ∨ X[k + N]? ≠ some ((P + N : Nat) : Int) ∨ Y[k + N]? ≠ some ((Q + N : Nat) : Int)) ∧ ∃ q, wx = wr.drewN q)
      case first =>
        go_wp2_with fail
        go_loopg [14] (a.length - (k + 1)) (fun g n wx => ∃ N : Nat, n = .int .i64 N ∧ 0 < N ∧ k + N ≤ a.length ∧ a.length - (k + N) = g ∧ Hid (∀ j, j < N → X[k + j]? = some ((P + j : Nat) : Int) ∧ Y[k + j]? = some ((Q + j : Nat) : Int)) ∧ ∃ q, wx = wr.drewN q)
        case atStart => exact ⟨1, rfl, by omega, by omega, rfl, hid (fun j hj => by
          obtain rfl : j = 0 := by omega
          exact ⟨hpx, hpy⟩), 0, rfl⟩
        case round =>
          obtain ⟨N, rfl, hN, hkN, rfl, HJ, q, rfl⟩ := hrel
          have N0 : (0 : Int) ≤ (N : Int) := Int.natCast_nonneg _
          have Nw : IntKind.i64.wrap ((N : Int) + 1) = (N : Int) + 1 := IntWalk.i64_in _ (by omega)
          obtain ⟨m, hm⟩ : ∃ m, k + N = m := ⟨_, rfl⟩
          have mw : IntKind.i64.wrap ((k : Int) + (N : Int)) = (m : Int) := (IntWalk.i64_in _ (by omega)).trans (by omega)
          have m0 : (0 : Int) ≤ (m : Int) := Int.natCast_nonneg _
          by_cases hmt : m < a.length
          · have m1 : (m : Int) < (a.length : Int) := by omega
            have HBQ : Below w2.heap.size w2 (wr.drewN q) := HBW.out.trans ⟨rfl, rfl, rfl, Nat.le_refl _, fun _ _ => rfl⟩
            obtain ⟨ax', p', ex, hcx', hpx'⟩ := (Sl.old HX.out HBW.out).intAt' (i := m) (by rw [HXL.out]; exact hmt)
            obtain ⟨ay', q', ey, hcy', hpy'⟩ := (Sl.old HY.out HBW.out).intAt' (i := m) (by rw [HYL.out]; exact hmt)
            cases ex
            cases ey
            obtain ⟨PN, hPN⟩ : ∃ PN, P + N = PN := ⟨_, rfl⟩
            obtain ⟨QN, hQN⟩ : ∃ QN, Q + N = QN := ⟨_, rfl⟩
            have pw : IntKind.i64.wrap ((P : Int) + (N : Int)) = (PN : Int) := (IntWalk.i64_in _ (by omega)).trans (by omega)
            have qw : IntKind.i64.wrap ((Q : Int) + (N : Int)) = (QN : Int) := (IntWalk.i64_in _ (by omega)).trans (by omega)
            by_cases e1 : p' = (PN : Int)
            · have b1 : (p' == (PN : Int)) = true := by simpa using e1
              by_cases e2 : q' = (QN : Int)
              · have b2 : (q' == (QN : Int)) = true := by simpa using e2
                have HJ2 := hid (show ∀ j, j < N + 1 → X[k + j]? = some ((P + j : Nat) : Int) ∧ Y[k + j]? = some ((Q + j : Nat) : Int) from fun j hj => by
                  rcases (show j < N ∨ j = N by omega) with h | h
                  · exact HJ.out j h
                  · subst h
                    rw [hm, hpx', hpy', hPN, hQN, e1, e2]
                    exact ⟨rfl, rfl⟩)
                have hkN2 : k + (N + 1) ≤ a.length := by omega
                have hms : a.length - (k + (N + 1)) < a.length - (k + N) := by omega
                clear hpx' hpy' e1 e2 hPN hQN hm hpx hpy
                go_wp2_with fail
                go_quiet (fail)
                go_wp2_with fail
                go_roundg (a.length - (k + (N + 1)))
                case measure => exact hms
                case rel => exact ⟨N + 1, by go_num, by omega, hkN2, rfl, HJ2, _, rfl⟩
              · have b2 : (q' == (QN : Int)) = false := by simpa using e2
                have HST := hid (show k + N = a.length ∨ X[k + N]? ≠ some ((P + N : Nat) : Int) ∨ Y[k + N]? ≠ some ((Q + N : Nat) : Int) from .inr (.inr (by
                  rw [hm, hpy', hQN]
                  exact fun h => e2 (Option.some.inj h))))
                clear hpx' hpy' e1 e2 hPN hQN hm hpx hpy
                go_wp2_with fail
                go_quiet (fail)
                go_wp2_with fail
                go_meet
                exact ⟨N, rfl, hN, hkN, HJ, HST, _, drewN_twice _ _ _⟩
            · have b1 : (p' == (PN : Int)) = false := by simpa using e1
              have HST := hid (show k + N = a.length ∨ X[k + N]? ≠ some ((P + N : Nat) : Int) ∨ Y[k + N]? ≠ some ((Q + N : Nat) : Int) from .inr (.inl (by
                rw [hm, hpx', hPN]
                exact fun h => e1 (Option.some.inj h))))
              clear hpx' hpy' e1 hPN hQN hm hpx hpy
              go_wp2_with fail
              go_quiet (fail)
              go_wp2_with fail
              go_meet
              exact ⟨N, rfl, hN, hkN, HJ, HST, _, drewN_twice _ _ _⟩
          · have HST := hid (show k + N = a.length ∨ X[k + N]? ≠ some ((P + N : Nat) : Int) ∨ Y[k + N]? ≠ some ((Q + N : Nat) : Int) from .inl (by omega))
            have m1 : ¬ (m : Int) < (a.length : Int) := by omega
            clear hm hpx hpy
            go_wp2_with fail
            go_quiet (fail)
            go_wp2_with fail
            go_meet
            exact ⟨N, rfl, hN, hkN, HJ, HST, _, drewN_twice _ _ _⟩
      case rest =>
        obtain ⟨N, rfl, hN, hkN, HJ, HST, q, rfl⟩ := hcut
        have HRUN := hid (rest_run (b := B) HXL.out HYL.out hlt hN hkN HAX.out HAY.out HJ.out HST.out)
        obtain ⟨m, hm⟩ : ∃ m, k + N = m := ⟨_, rfl⟩
        obtain ⟨PN, hPN⟩ : ∃ PN, P + N = PN := ⟨_, rfl⟩
        obtain ⟨QN, hQN⟩ : ∃ QN, Q + N = QN := ⟨_, rfl⟩
        have hPNb : PN ≤ b.length := by
          have := asc_bound HXA.out (HJ.out (N - 1) (by omega)).1
          omega
        have hQNb : QN ≤ c.length := by
          have := asc_bound HYA.out (HJ.out (N - 1) (by omega)).2
          omega
        rw [hm, hPN, hQN] at HRUN
        have HBQ := hid (show Below w2.heap.size w2 (wr.drewN q) from HBW.out.trans ⟨rfl, rfl, rfl, Nat.le_refl _, fun _ _ => rfl⟩)
        have HO := hid (HO.out.old (below_drewN wr q))
        generalize wr.drewN q = wq at HBQ HO ⊢
        obtain ⟨s1o, s1c, rs1, hs1⟩ := cutS_mid HA.out B k hBk (by omega)
        obtain ⟨s2o, s2c, rs2, hs2⟩ := cutS_mid HB.out O P hOP (by omega)
        obtain ⟨s3o, s3c, rs3, hs3⟩ := cutS_mid HC.out T Q hTQ (by omega)
        obtain ⟨s4o, s4c, rs4, hs4⟩ := cutS_mid HA.out k m (by omega) (by omega)
        obtain ⟨n1, hn1⟩ : ∃ n, k - B = n := ⟨_, rfl⟩
        obtain ⟨n2, hn2⟩ : ∃ n, P - O = n := ⟨_, rfl⟩
        obtain ⟨n3, hn3⟩ : ∃ n, Q - T = n := ⟨_, rfl⟩
        rw [show m - k = N by omega] at rs4 hs4
        rw [hn1] at rs1 hs1 HRUN
        rw [hn2] at rs2 hs2 HRUN
        rw [hn3] at rs3 hs3 HRUN
        obtain ⟨G1, hG1⟩ : ∃ G, (a.drop B).take n1 = G := ⟨_, rfl⟩
        obtain ⟨G2, hG2⟩ : ∃ G, (b.drop O).take n2 = G := ⟨_, rfl⟩
        obtain ⟨G3, hG3⟩ : ∃ G, (c.drop T).take n3 = G := ⟨_, rfl⟩
        obtain ⟨RUN, hRUN⟩ : ∃ G, (a.drop k).take N = G := ⟨_, rfl⟩
        have lG1 : G1.length ≤ 1000 := by rw [← hG1, List.length_take]; have := HL.out; omega
        have lG2 : G2.length ≤ 1000 := by rw [← hG2, List.length_take]; have := HL.out; omega
        have lG3 : G3.length ≤ 1000 := by rw [← hG3, List.length_take]; have := HL.out; omega
        have lRUN : RUN.length ≤ 1000 := by rw [← hRUN, List.length_take]; have := HL.out; omega
        rw [hG1] at hs1 HRUN
        rw [hG2] at hs2 HRUN
        rw [hG3] at hs3 HRUN
        rw [hRUN] at hs4 HRUN
        have HS1 := hid hs1
        have HS2 := hid hs2
        have HS3 := hid hs3
        have HS4 := hid hs4
        have HLG := hid (And.intro lG1 (And.intro lG2 (And.intro lG3 lRUN)))
        have B0 : (0 : Int) ≤ (B : Int) := Int.natCast_nonneg _
        have O0 : (0 : Int) ≤ (O : Int) := Int.natCast_nonneg _
        have T0 : (0 : Int) ≤ (T : Int) := Int.natCast_nonneg _
        have P0 : (0 : Int) ≤ (P : Int) := Int.natCast_nonneg _
        have Q0 : (0 : Int) ≤ (Q : Int) := Int.natCast_nonneg _
        have HBD := hid (show Below w2.heap.size w2 wq.drew from HBQ.out.trans ⟨rfl, rfl, rfl, Nat.le_refl _, fun _ _ => rfl⟩)
        have HOD := hid (HO.out.old (show Below wq.heap.size wq wq.drew from ⟨rfl, rfl, rfl, Nat.le_refl _, fun _ _ => rfl⟩))
        have k2 : wq.drew.cell? (ax.add k) = some (.int .i64 (P : Int)) := LX.out _ HBD.out
        have k3 : wq.drew.cell? (ay.add k) = some (.int .i64 (Q : Int)) := LY.out _ HBD.out
        have mw : IntKind.i64.wrap ((k : Int) + (N : Int)) = (m : Int) := (IntWalk.i64_in _ (by omega)).trans (by omega)
        have pw : IntKind.i64.wrap ((P : Int) + (N : Int)) = (PN : Int) := (IntWalk.i64_in _ (by omega)).trans (by omega)
        have qw : IntKind.i64.wrap ((Q : Int) + (N : Int)) = (QN : Int) := (IntWalk.i64_in _ (by omega)).trans (by omega)
        obtain ⟨m', hm'⟩ : ∃ m', m = m' + 1 := ⟨m - 1, by omega⟩
        have m1w : IntKind.i64.wrap ((m : Int) - 1) = (m' : Int) := (IntWalk.i64_in _ (by omega)).trans (by omega)
        have m2w : IntKind.i64.wrap ((m' : Int) + 1) = (m : Int) := (IntWalk.i64_in _ (by omega)).trans (by omega)
        have HMN := hid (show k + N = m ∧ 0 < N ∧ P + N = PN ∧ Q + N = QN ∧ B ≤ k ∧ m ≤ a.length ∧ k < a.length from ⟨hm, hN, hPN, hQN, hBk, by omega, hlt⟩)
        have HPB := hid (And.intro hPNb hQNb)
        have HDL := hid hDl
        have k3' : k ≤ m ∧ m ≤ a.length := by omega
        have HWQ := hid (show w2.heap.size ≤ (⟨wq.heap.size, 0, none⟩ : Addr).block from HBQ.out.size)
        obtain ⟨TT, hTT⟩ : ∃ TT, (!decide (G1 = [] ∧ G2 = [] ∧ G3 = [])) = TT := ⟨_, rfl⟩
        have HTT := hid hTT
        have HCALL := hid (fun (W : World) (h : Below w2.heap.size w2 W) => by
          have := RBetween_sl _ _ _ G1 G2 G3 W (Sl.old HS1.out h) (Sl.old HS2.out h) (Sl.old HS3.out h) (by have := HLG.out; omega) (by have := HLG.out; omega) (by have := HLG.out; omega)
          rw [hTT] at this
          exact this)
        have HOQ := hid HO.out
        have HBA := hid (show Below w2.heap.size w2 (wq.alloc (.cells #[.int .i64 0, .slice none 0 0, .slice none 0 0, .slice none 0 0] 34)).drew from (HBQ.out.alloc HBQ.out.size _).trans ⟨rfl, rfl, rfl, Nat.le_refl _, fun _ _ => rfl⟩)
        have HOA := hid (HO.out.old (show Below wq.heap.size wq (wq.alloc (.cells #[.int .i64 0, .slice none 0 0, .slice none 0 0, .slice none 0 0] 34)).drew from ((Below.refl _ wq).alloc (Nat.le_refl _) _).trans ⟨rfl, rfl, rfl, Nat.le_refl _, fun _ _ => rfl⟩))
        have HWD := hid (show Below wq.heap.size wq (wq.alloc (.cells #[.int .i64 0, .slice none 0 0, .slice none 0 0, .slice none 0 0] 34)).drew from ((Below.refl _ wq).alloc (Nat.le_refl _) _).trans ⟨rfl, rfl, rfl, Nat.le_refl _, fun _ _ => rfl⟩)
        have HZB := hid (show (wq.alloc (.cells #[.int .i64 0, .slice none 0 0, .slice none 0 0, .slice none 0 0] 34)).drew.heap[wq.heap.size]? = _ from heap_alloc_new wq (.cells #[.int .i64 0, .slice none 0 0, .slice none 0 0, .slice none 0 0] 34))
        have HZQ := hid (show wq.heap.size < (wq.alloc (.cells #[.int .i64 0, .slice none 0 0, .slice none 0 0, .slice none 0 0] 34)).drew.heap.size from lt_of_block HZB.out)
        clear hTT hs1 hs2 hs3 hs4 hn1 hn2 hn3 hG1 hG2 hG3 hRUN lG1 lG2 lG3 lRUN hPNb hQNb hm hPN hQN hm' hpx hpy HJ HST HBW hDl hPb' hQc' dp dq k3'
        go_upto_region 11 with fail
        go_cut [15, 16] from 82 to 103 (fun v15 v16 wx => ∃ (g : Nat) (kk : Int) (y1 : Option Addr) (z1 : Nat) (y2 : Option Addr) (z2 : Nat) (y3 : Option Addr) (z3 : Nat), v15 = .pointer (some ⟨g, 0, none⟩) ∧ v16 = .bool TT ∧ Hid (¬ (G1 = [] ∧ G2 = [] ∧ G3 = []) → kk = kindOf G1 G2 G3) ∧ Hid (wx.heap[g]? = some (.cells #[.int .i64 kk, .slice y1 G1.length z1, .slice y2 G2.length z2, .slice y3 G3.length z3] 34 (0, 0))) ∧ Hid (NestL wx (.slice lo D.length lcp) (.slice y1 G1.length z1) G1) ∧ Hid (NestL wx (.slice lo D.length lcp) (.slice y2 G2.length z2) G2) ∧ Hid (NestL wx (.slice lo D.length lcp) (.slice y3 G3.length z3) G3) ∧ Hid (OwnCk wx w2.heap.size (.slice lo D.length lcp) D) ∧ Hid (Below w2.heap.size w2 wx))
        case first =>
          go_region_held3 (fun wy => wy.cell? (ax.add k) = some (.int .i64 (P : Int)) ∧ wy.cell? (ay.add k) = some (.int .i64 (Q : Int))) (first | exact ⟨k2, k3⟩ | exact ⟨LX.out _ HBA.out, LY.out _ HBA.out⟩ | exact ⟨LX.out _ (HB6.out.alloc HB6.out.size _), LY.out _ (HB6.out.alloc HB6.out.size _)⟩ | exact ⟨LX.out _ (((((HB6.out.setCell HWQ.out _).setCell HWQ.out _).setCell HWQ.out _).setCell HWQ.out _)), LY.out _ (((((HB6.out.setCell HWQ.out _).setCell HWQ.out _).setCell HWQ.out _).setCell HWQ.out _))⟩) ((go_at_call 41; first
            | (with_reducible refine (HCALL.out wq.drew HBD.out).mono ?_; rintro e w6 ⟨kk, y1, z1, y2, z2, y3, z3, rfl, hkk, t1, t2, t3, hb6⟩; have hB6 := below_step HBD.out hb6 HBD.out.size; have k2 := LX.out w6 hB6; have k3 := LY.out w6 hB6; have HN1 := hid (nestL_own t1 (fun j hj => (HOD.out.lt j hj).2)); have HN2 := hid (nestL_own t2 (fun j hj => (HOD.out.lt j hj).2)); have HN3 := hid (nestL_own t3 (fun j hj => (HOD.out.lt j hj).2)); have HB6 := hid hB6; have HO6 := hid (HOD.out.old hb6); have HKK := hid hkk; clear t1 t2 t3 hb6 hB6 hkk)
            | (with_reducible refine (HCALL.out (wq.alloc (.cells #[.int .i64 0, .slice none 0 0, .slice none 0 0, .slice none 0 0] 34)).drew HBA.out).mono ?_; rintro e w6 ⟨kk, y1, z1, y2, z2, y3, z3, rfl, hkk, t1, t2, t3, hb6⟩; have hB6 := below_step HBA.out hb6 HBA.out.size; have k2 := LX.out w6 hB6; have k3 := LY.out w6 hB6; have HN1 := hid (nestL_own t1 (fun j hj => (HOA.out.lt j hj).2)); have HN2 := hid (nestL_own t2 (fun j hj => (HOA.out.lt j hj).2)); have HN3 := hid (nestL_own t3 (fun j hj => (HOA.out.lt j hj).2)); have HB6 := hid hB6; have HO6 := hid (HOA.out.old hb6); have HKK := hid hkk; have HZW := hid (Nat.lt_of_lt_of_le HZQ.out hb6.size); have g6 : w6.heap[wq.heap.size]? = _ := (hb6.block wq.heap.size HZQ.out).trans HZB.out; have c0 := blk_cell (i := 0) g6 rfl; have f0 := blk_free (i := 0) g6; have g7 := blk_set (i := 0) (u := .int .i64 kk) g6; have c1 := blk_cell (i := 1) g7 (v := .slice none 0 0) rfl; have f1 := blk_free (i := 1) g7; have g8 := blk_set (i := 1) (u := .slice y1 G1.length z1) g7; have c2 := blk_cell (i := 2) g8 (v := .slice none 0 0) rfl; have f2 := blk_free (i := 2) g8; have g9 := blk_set (i := 2) (u := .slice y2 G2.length z2) g8; have c3 := blk_cell (i := 3) g9 (v := .slice none 0 0) rfl; have f3 := blk_free (i := 3) g9; have g10 := blk_set (i := 3) (u := .slice y3 G3.length z3) g9; have HG10 := hid g10; have SET := hid (fun b (hb : b ≠ wq.heap.size) => keep_four w6 wq.heap.size (.int .i64 kk) (.slice y1 G1.length z1) (.slice y2 G2.length z2) (.slice y3 G3.length z3) b hb); have HBQ6 := hid (show Below wq.heap.size wq w6 from (HWD.out).trans (hb6.mono (Nat.le_of_lt HZQ.out))); have HF1 := hid t1; have HF2 := hid t2; have HF3 := hid t3; clear t1 t2 t3 hb6 hB6 hkk)))
          all_goals
            go_wp2_with fail
            go_meet
            first
              | exact ⟨w6.heap.size, kk, y1, z1, y2, z2, y3, z3, rfl, rfl, HKK, hid (heap_alloc_new w6 _), hid (HN1.out.old' ((Below.refl _ w6).alloc (Nat.le_refl _) _)), hid (HN2.out.old' ((Below.refl _ w6).alloc (Nat.le_refl _) _)), hid (HN3.out.old' ((Below.refl _ w6).alloc (Nat.le_refl _) _)), hid (HO6.out.old ((Below.refl _ w6).alloc (Nat.le_refl _) _)), hid (HB6.out.alloc HB6.out.size _)⟩
              | exact ⟨wq.heap.size, kk, y1, z1, y2, z2, y3, z3, rfl, rfl, HKK, HG10, hid (nestL_own (w0 := (wq.alloc (.cells #[.int .i64 0, .slice none 0 0, .slice none 0 0, .slice none 0 0] 34)).drew) (owns_kept HF1.out (fun gg e _ => SET.out gg (by have h1 := (HF1.out.lt gg e).1; have h2 := HZQ.out; omega))) (fun j hj => (HOA.out.lt j hj).2)), hid (nestL_own (w0 := (wq.alloc (.cells #[.int .i64 0, .slice none 0 0, .slice none 0 0, .slice none 0 0] 34)).drew) (owns_kept HF2.out (fun gg e _ => SET.out gg (by have h1 := (HF2.out.lt gg e).1; have h2 := HZQ.out; omega))) (fun j hj => (HOA.out.lt j hj).2)), hid (nestL_own (w0 := (wq.alloc (.cells #[.int .i64 0, .slice none 0 0, .slice none 0 0, .slice none 0 0] 34)).drew) (owns_kept HF3.out (fun gg e _ => SET.out gg (by have h1 := (HF3.out.lt gg e).1; have h2 := HZQ.out; omega))) (fun j hj => (HOA.out.lt j hj).2)), hid (HOQ.out.old ((((HBQ6.out.setCell (Nat.le_refl _) _).setCell (Nat.le_refl _) _).setCell (Nat.le_refl _) _).setCell (Nat.le_refl _) _)), hid (((((HB6.out.setCell HWQ.out _).setCell HWQ.out _).setCell HWQ.out _).setCell HWQ.out _))⟩
        case rest =>
          obtain ⟨g, kk, y1, z1, y2, z2, y3, z3, rfl, rfl, HKK, HG, HN1, HN2, HN3, HO6, HB6⟩ := hcut
          by_cases h0 : G1 = [] ∧ G2 = [] ∧ G3 = []
          · have hT : TT = false := by rw [← HTT.out, decide_eq_true h0]; rfl
            subst hT
            have HG0 := hid (show gapCk G1 G2 G3 = [] by rw [gapCk, if_pos h0])
            have HO7 := HO6
            have HB7 := HB6
            clear h0 HTT HN1 HN2 HN3 HG HCALL
            generalize wc = w7 at HO7 HB7 HO6 HB6 ⊢
            go_wp2_with (first
              | (at_builtin; refine wpList_append_ss rfl (.const (.slice none 0 0)) (.tmp 114) rfl w7.heap.size _ [] RUN rfl (World.ownsRow_nil _ _ _ _) _ rfl (Sl.old HS4.out HB7.out) (by have := HLG.out; simp; omega) (Nat.le_refl _) ?_; intro u8' w8 p8 q8; rw [List.nil_append] at p8; obtain ⟨x8, y8, rfl⟩ := owns_form p8; have HP8 := hid p8; have HB8 := hid q8; clear p8 q8)
              | (at_builtin; refine wpList_append_ss rfl (.const (.slice none 0 0)) (.tmp 118) rfl w8.heap.size _ [] RUN rfl (World.ownsRow_nil _ _ _ _) _ rfl (Sl.ofOwns HP8.out) (by have := HLG.out; simp; omega) (Nat.le_refl _) ?_; intro u9' w9 p9 q9; rw [List.nil_append] at p9; obtain ⟨x9, y9, rfl⟩ := owns_form p9; have HP9 := hid p9; have HB9 := hid q9; clear p9 q9)
              | (at_builtin; refine wpList_append_ss rfl (.const (.slice none 0 0)) (.tmp 120) rfl w9.heap.size _ [] RUN rfl (World.ownsRow_nil _ _ _ _) _ rfl (Sl.old (Sl.ofOwns HP8.out) HB9.out) (by have := HLG.out; simp; omega) (Nat.le_refl _) ?_; intro u10' w10 p10 q10; rw [List.nil_append] at p10; obtain ⟨x10, y10, rfl⟩ := owns_form p10; have HP10 := hid p10; have HB10 := hid q10; clear p10 q10)
              | (at_builtin; refine wpList_append_ckg rfl (.tmp 116) (.tmp 123) rfl w2.heap.size _ (D) 1 RUN RUN RUN _ _ _ rfl (((HO7.out.old HB8.out).old HB9.out).old HB10.out) (((nestL_own HP8.out (fun j hj => (HO7.out.lt j hj).2)).old' HB9.out).old' HB10.out) ((nestL_own HP9.out (fun j hj => Nat.lt_of_lt_of_le (HO7.out.lt j hj).2 HB8.out.size)).old' HB10.out) (nestL_own HP10.out (fun j hj => Nat.lt_of_lt_of_le (Nat.lt_of_lt_of_le (HO7.out.lt j hj).2 HB8.out.size) HB9.out.size)) w10.heap.size rfl rfl rfl rfl rfl (by have := HDL.out; have := HMN.out; simp; omega) (Nat.le_trans HB7.out.size (Nat.le_trans HB8.out.size (Nat.le_trans HB9.out.size HB10.out.size))) ?_; intro v11 w11 hO11 q11; have HO11 := hid hO11; have HB11 := hid ((below_step (below_step (below_step HB7.out HB8.out HB7.out.size) HB9.out (Nat.le_trans HB7.out.size HB8.out.size)) HB10.out (Nat.le_trans HB7.out.size (Nat.le_trans HB8.out.size HB9.out.size))).trans q11); have k2 := LX.out w11 HB11.out; have k3 := LY.out w11 HB11.out; clear hO11 q11))
            have HRR := hid (show ((D) ++ [(1, RUN, RUN, RUN)]) ++ restAt a b c X Y m m PN QN = R by
              rw [← HR.out, HRUN.out.1, HG0.out]
              simp)
            have HDL2 := hid (show ((D) ++ [((1 : Int), RUN, RUN, RUN)]).length ≤ 3 * m by have := HDL.out; have := HMN.out; simp; omega)
            go_wp2_with fail
            go_quiet (fail)
            go_wp2_with fail
            go_roundg (a.length - m)
            case measure => have := HMN.out; omega
            case rel =>
              have hM := HMN.out
              exact ⟨m, m, PN, QN, (D) ++ [(1, RUN, RUN, RUN)], by omega, rfl, rfl, rfl, rfl, rfl, Nat.le_refl _, HPB.out.1, HPB.out.2, hid (HO11.out.old (below_drewN _ _)), HRR, hid HRUN.out.2.1, hid HRUN.out.2.2, HDL2.out, hid (HB11.out.trans ⟨rfl, rfl, rfl, Nat.le_refl _, fun _ _ => rfl⟩)⟩
          · have hT : TT = true := by rw [← HTT.out, decide_eq_false h0]; rfl
            subst hT
            have HG0 := hid (show gapCk G1 G2 G3 = [(kindOf G1 G2 G3, G1, G2, G3)] by rw [gapCk, if_neg h0])
            obtain rfl : kk = kindOf G1 G2 G3 := HKK.out h0
            have l0 := blk_cell (i := 0) HG.out rfl
            have l1 := blk_cell (i := 1) HG.out rfl
            have l2 := blk_cell (i := 2) HG.out rfl
            have l3 := blk_cell (i := 3) HG.out rfl
            clear h0 HTT HKK HCALL
            go_wp2_with (first
              | (at_builtin; refine wpList_append_ckg rfl (.tmp 105) (.tmp 107) rfl w2.heap.size _ D (kindOf G1 G2 G3) G1 G2 G3 _ _ _ rfl HO6.out HN1.out HN2.out HN3.out wc.heap.size rfl rfl rfl rfl rfl (by have := HDL.out; omega) HB6.out.size ?_; intro v7 w7 hO7 q7; have HO7 := hid hO7; have HB7 := hid (HB6.out.trans q7); clear hO7 q7)
              | (at_builtin; refine wpList_append_ss rfl (.const (.slice none 0 0)) (.tmp 114) rfl w7.heap.size _ [] RUN rfl (World.ownsRow_nil _ _ _ _) _ rfl (Sl.old HS4.out HB7.out) (by have := HLG.out; simp; omega) (Nat.le_refl _) ?_; intro u8' w8 p8 q8; rw [List.nil_append] at p8; obtain ⟨x8, y8, rfl⟩ := owns_form p8; have HP8 := hid p8; have HB8 := hid q8; clear p8 q8)
              | (at_builtin; refine wpList_append_ss rfl (.const (.slice none 0 0)) (.tmp 118) rfl w8.heap.size _ [] RUN rfl (World.ownsRow_nil _ _ _ _) _ rfl (Sl.ofOwns HP8.out) (by have := HLG.out; simp; omega) (Nat.le_refl _) ?_; intro u9' w9 p9 q9; rw [List.nil_append] at p9; obtain ⟨x9, y9, rfl⟩ := owns_form p9; have HP9 := hid p9; have HB9 := hid q9; clear p9 q9)
              | (at_builtin; refine wpList_append_ss rfl (.const (.slice none 0 0)) (.tmp 120) rfl w9.heap.size _ [] RUN rfl (World.ownsRow_nil _ _ _ _) _ rfl (Sl.old (Sl.ofOwns HP8.out) HB9.out) (by have := HLG.out; simp; omega) (Nat.le_refl _) ?_; intro u10' w10 p10 q10; rw [List.nil_append] at p10; obtain ⟨x10, y10, rfl⟩ := owns_form p10; have HP10 := hid p10; have HB10 := hid q10; clear p10 q10)
              | (at_builtin; refine wpList_append_ckg rfl (.tmp 116) (.tmp 123) rfl w2.heap.size _ (D ++ [(kindOf G1 G2 G3, G1, G2, G3)]) 1 RUN RUN RUN _ _ _ rfl (((HO7.out.old HB8.out).old HB9.out).old HB10.out) (((nestL_own HP8.out (fun j hj => (HO7.out.lt j hj).2)).old' HB9.out).old' HB10.out) ((nestL_own HP9.out (fun j hj => Nat.lt_of_lt_of_le (HO7.out.lt j hj).2 HB8.out.size)).old' HB10.out) (nestL_own HP10.out (fun j hj => Nat.lt_of_lt_of_le (Nat.lt_of_lt_of_le (HO7.out.lt j hj).2 HB8.out.size) HB9.out.size)) w10.heap.size rfl rfl rfl rfl rfl (by have := HDL.out; have := HMN.out; simp; omega) (Nat.le_trans HB7.out.size (Nat.le_trans HB8.out.size (Nat.le_trans HB9.out.size HB10.out.size))) ?_; intro v11 w11 hO11 q11; have HO11 := hid hO11; have HB11 := hid ((below_step (below_step (below_step HB7.out HB8.out HB7.out.size) HB9.out (Nat.le_trans HB7.out.size HB8.out.size)) HB10.out (Nat.le_trans HB7.out.size (Nat.le_trans HB8.out.size HB9.out.size))).trans q11); have k2 := LX.out w11 HB11.out; have k3 := LY.out w11 HB11.out; clear hO11 q11))
            have HRR := hid (show ((D ++ [(kindOf G1 G2 G3, G1, G2, G3)]) ++ [(1, RUN, RUN, RUN)]) ++ restAt a b c X Y m m PN QN = R by
              rw [← HR.out, HRUN.out.1, HG0.out]
              simp)
            have HDL2 := hid (show ((D ++ [(kindOf G1 G2 G3, G1, G2, G3)]) ++ [((1 : Int), RUN, RUN, RUN)]).length ≤ 3 * m by have := HDL.out; have := HMN.out; simp; omega)
            go_wp2_with fail
            go_quiet (fail)
            go_wp2_with fail
            go_roundg (a.length - m)
            case measure => have := HMN.out; omega
            case rel =>
              have hM := HMN.out
              exact ⟨m, m, PN, QN, (D ++ [(kindOf G1 G2 G3, G1, G2, G3)]) ++ [(1, RUN, RUN, RUN)], by omega, rfl, rfl, rfl, rfl, rfl, Nat.le_refl _, HPB.out.1, HPB.out.2, hid (HO11.out.old (below_drewN _ _)), HRR, hid HRUN.out.2.1, hid HRUN.out.2.2, HDL2.out, hid (HB11.out.trans ⟨rfl, rfl, rfl, Nat.le_refl _, fun _ _ => rfl⟩)⟩
    · obtain rfl : k = a.length := by omega
      have hneg : ¬ (a.length : Int) < (a.length : Int) := by omega
      have HRE := hid (show D ++ gapCk (a.drop B) (b.drop O) (c.drop T) = R by rw [← HR.out, rest_end])
      obtain ⟨s1o, s1c, rs1, hs1⟩ := cutS_from HA.out B hBk
      obtain ⟨s2o, s2c, rs2, hs2⟩ := cutS_from HB.out O hOb
      obtain ⟨s3o, s3c, rs3, hs3⟩ := cutS_from HC.out T hTc
      have lG1 : (a.drop B).length ≤ 1000 := by rw [List.length_drop]; have := HL.out; omega
      have lG2 : (b.drop O).length ≤ 1000 := by rw [List.length_drop]; have := HL.out; omega
      have lG3 : (c.drop T).length ≤ 1000 := by rw [List.length_drop]; have := HL.out; omega
      obtain ⟨G1, hG1⟩ : ∃ G, a.drop B = G := ⟨_, rfl⟩
      obtain ⟨G2, hG2⟩ : ∃ G, b.drop O = G := ⟨_, rfl⟩
      obtain ⟨G3, hG3⟩ : ∃ G, c.drop T = G := ⟨_, rfl⟩
      obtain ⟨n1, hn1⟩ : ∃ n, a.length - B = n := ⟨_, rfl⟩
      obtain ⟨n2, hn2⟩ : ∃ n, b.length - O = n := ⟨_, rfl⟩
      obtain ⟨n3, hn3⟩ : ∃ n, c.length - T = n := ⟨_, rfl⟩
      rw [hG1, hG2, hG3] at HRE
      rw [hG1] at hs1 lG1
      rw [hG2] at hs2 lG2
      rw [hG3] at hs3 lG3
      rw [hn1] at rs1 hs1
      rw [hn2] at rs2 hs2
      rw [hn3] at rs3 hs3
      have HS1 := hid hs1
      have HS2 := hid hs2
      have HS3 := hid hs3
      have HLG := hid (And.intro lG1 (And.intro lG2 lG3))
      have B0 : (0 : Int) ≤ (B : Int) := Int.natCast_nonneg _
      have O0 : (0 : Int) ≤ (O : Int) := Int.natCast_nonneg _
      have T0 : (0 : Int) ≤ (T : Int) := Int.natCast_nonneg _
      have HDL := hid (show D.length ≤ 3 * 1000 by have := HL.out; omega)
      have HOW := hid HO.out
      have HOQ := hid (HO.out.old (show Below wr.heap.size wr wr.drew from ⟨rfl, rfl, rfl, Nat.le_refl _, fun _ _ => rfl⟩))
      have HBD := hid (show Below w2.heap.size w2 wr.drew from HBW.out.trans ⟨rfl, rfl, rfl, Nat.le_refl _, fun _ _ => rfl⟩)
      obtain ⟨TT, hTT⟩ : ∃ TT, (!decide (G1 = [] ∧ G2 = [] ∧ G3 = [])) = TT := ⟨_, rfl⟩
      have HTT := hid hTT
      have HCALL := hid (fun (W : World) (h : Below w2.heap.size w2 W) => by
        have := RBetween_sl _ _ _ G1 G2 G3 W (Sl.old HS1.out h) (Sl.old HS2.out h) (Sl.old HS3.out h) (by have := HLG.out; omega) (by have := HLG.out; omega) (by have := HLG.out; omega)
        rw [hTT] at this
        exact this)
      have HBA := hid (show Below w2.heap.size w2 (wr.alloc (.cells #[.int .i64 0, .slice none 0 0, .slice none 0 0, .slice none 0 0] 34)).drew from (HBW.out.alloc HBW.out.size _).trans ⟨rfl, rfl, rfl, Nat.le_refl _, fun _ _ => rfl⟩)
      have HOA := hid (HO.out.old (show Below wr.heap.size wr (wr.alloc (.cells #[.int .i64 0, .slice none 0 0, .slice none 0 0, .slice none 0 0] 34)).drew from ((Below.refl _ wr).alloc (Nat.le_refl _) _).trans ⟨rfl, rfl, rfl, Nat.le_refl _, fun _ _ => rfl⟩))
      have HWD := hid (show Below wr.heap.size wr (wr.alloc (.cells #[.int .i64 0, .slice none 0 0, .slice none 0 0, .slice none 0 0] 34)).drew from ((Below.refl _ wr).alloc (Nat.le_refl _) _).trans ⟨rfl, rfl, rfl, Nat.le_refl _, fun _ _ => rfl⟩)
      have HZB := hid (show (wr.alloc (.cells #[.int .i64 0, .slice none 0 0, .slice none 0 0, .slice none 0 0] 34)).drew.heap[wr.heap.size]? = _ from heap_alloc_new wr (.cells #[.int .i64 0, .slice none 0 0, .slice none 0 0, .slice none 0 0] 34))
      have HZQ := hid (show wr.heap.size < (wr.alloc (.cells #[.int .i64 0, .slice none 0 0, .slice none 0 0, .slice none 0 0] 34)).drew.heap.size from lt_of_block HZB.out)
      have HWQ := hid (show w2.heap.size ≤ (⟨wr.heap.size, 0, none⟩ : Addr).block from HBW.out.size)
      have HB2 := hid hB2
      clear hTT hs1 hs2 hs3 hn1 hn2 hn3 hG1 hG2 hG3 lG1 lG2 lG3 HR HAX HAY hDl hal hB2 HX HY HXA HYA HXL HYL HBE HYE HA HB HC
      go_upto_region 18 with fail
      go_cut [18, 19] from 145 to 156 (fun v15 v16 wx => ∃ (g : Nat) (kk : Int) (y1 : Option Addr) (z1 : Nat) (y2 : Option Addr) (z2 : Nat) (y3 : Option Addr) (z3 : Nat), v15 = .pointer (some ⟨g, 0, none⟩) ∧ v16 = .bool TT ∧ Hid (¬ (G1 = [] ∧ G2 = [] ∧ G3 = []) → kk = kindOf G1 G2 G3) ∧ Hid (wx.heap[g]? = some (.cells #[.int .i64 kk, .slice y1 G1.length z1, .slice y2 G2.length z2, .slice y3 G3.length z3] 34 (0, 0))) ∧ Hid (NestL wx (.slice lo D.length lcp) (.slice y1 G1.length z1) G1) ∧ Hid (NestL wx (.slice lo D.length lcp) (.slice y2 G2.length z2) G2) ∧ Hid (NestL wx (.slice lo D.length lcp) (.slice y3 G3.length z3) G3) ∧ Hid (OwnCk wx w2.heap.size (.slice lo D.length lcp) D) ∧ Hid (Below w2.heap.size w2 wx))
      case first =>
        go_region_held3 (fun _ => True) (trivial) ((go_at_call 41; first
          | (with_reducible refine (HCALL.out wr.drew HBD.out).mono ?_; rintro e w6 ⟨kk, y1, z1, y2, z2, y3, z3, rfl, hkk, t1, t2, t3, hb6⟩; have hB6 := below_step HBD.out hb6 HBD.out.size; have HN1 := hid (nestL_own t1 (fun j hj => (HOQ.out.lt j hj).2)); have HN2 := hid (nestL_own t2 (fun j hj => (HOQ.out.lt j hj).2)); have HN3 := hid (nestL_own t3 (fun j hj => (HOQ.out.lt j hj).2)); have HB6 := hid hB6; have HO6 := hid (HOQ.out.old hb6); have HKK := hid hkk; clear t1 t2 t3 hb6 hB6 hkk)
          | (with_reducible refine (HCALL.out (wr.alloc (.cells #[.int .i64 0, .slice none 0 0, .slice none 0 0, .slice none 0 0] 34)).drew HBA.out).mono ?_; rintro e w6 ⟨kk, y1, z1, y2, z2, y3, z3, rfl, hkk, t1, t2, t3, hb6⟩; have hB6 := below_step HBA.out hb6 HBA.out.size; have HN1 := hid (nestL_own t1 (fun j hj => (HOA.out.lt j hj).2)); have HN2 := hid (nestL_own t2 (fun j hj => (HOA.out.lt j hj).2)); have HN3 := hid (nestL_own t3 (fun j hj => (HOA.out.lt j hj).2)); have HB6 := hid hB6; have HO6 := hid (HOA.out.old hb6); have HKK := hid hkk; have HZW := hid (Nat.lt_of_lt_of_le HZQ.out hb6.size); have g6 : w6.heap[wr.heap.size]? = _ := (hb6.block wr.heap.size HZQ.out).trans HZB.out; have c0 := blk_cell (i := 0) g6 rfl; have f0 := blk_free (i := 0) g6; have g7 := blk_set (i := 0) (u := .int .i64 kk) g6; have c1 := blk_cell (i := 1) g7 (v := .slice none 0 0) rfl; have f1 := blk_free (i := 1) g7; have g8 := blk_set (i := 1) (u := .slice y1 G1.length z1) g7; have c2 := blk_cell (i := 2) g8 (v := .slice none 0 0) rfl; have f2 := blk_free (i := 2) g8; have g9 := blk_set (i := 2) (u := .slice y2 G2.length z2) g8; have c3 := blk_cell (i := 3) g9 (v := .slice none 0 0) rfl; have f3 := blk_free (i := 3) g9; have g10 := blk_set (i := 3) (u := .slice y3 G3.length z3) g9; have HG10 := hid g10; have SET := hid (fun b (hb : b ≠ wr.heap.size) => keep_four w6 wr.heap.size (.int .i64 kk) (.slice y1 G1.length z1) (.slice y2 G2.length z2) (.slice y3 G3.length z3) b hb); have HBQ6 := hid (show Below wr.heap.size wr w6 from (HWD.out).trans (hb6.mono (Nat.le_of_lt HZQ.out))); have HF1 := hid t1; have HF2 := hid t2; have HF3 := hid t3; clear t1 t2 t3 hb6 hB6 hkk)))
        all_goals
          go_wp2_with fail
          go_meet
          first
            | exact ⟨w6.heap.size, kk, y1, z1, y2, z2, y3, z3, rfl, rfl, HKK, hid (heap_alloc_new w6 _), hid (HN1.out.old' ((Below.refl _ w6).alloc (Nat.le_refl _) _)), hid (HN2.out.old' ((Below.refl _ w6).alloc (Nat.le_refl _) _)), hid (HN3.out.old' ((Below.refl _ w6).alloc (Nat.le_refl _) _)), hid (HO6.out.old ((Below.refl _ w6).alloc (Nat.le_refl _) _)), hid (HB6.out.alloc HB6.out.size _)⟩
            | exact ⟨wr.heap.size, kk, y1, z1, y2, z2, y3, z3, rfl, rfl, HKK, HG10, hid (nestL_own (w0 := (wr.alloc (.cells #[.int .i64 0, .slice none 0 0, .slice none 0 0, .slice none 0 0] 34)).drew) (owns_kept HF1.out (fun gg e _ => SET.out gg (by have h1 := (HF1.out.lt gg e).1; have h2 := HZQ.out; omega))) (fun j hj => (HOA.out.lt j hj).2)), hid (nestL_own (w0 := (wr.alloc (.cells #[.int .i64 0, .slice none 0 0, .slice none 0 0, .slice none 0 0] 34)).drew) (owns_kept HF2.out (fun gg e _ => SET.out gg (by have h1 := (HF2.out.lt gg e).1; have h2 := HZQ.out; omega))) (fun j hj => (HOA.out.lt j hj).2)), hid (nestL_own (w0 := (wr.alloc (.cells #[.int .i64 0, .slice none 0 0, .slice none 0 0, .slice none 0 0] 34)).drew) (owns_kept HF3.out (fun gg e _ => SET.out gg (by have h1 := (HF3.out.lt gg e).1; have h2 := HZQ.out; omega))) (fun j hj => (HOA.out.lt j hj).2)), hid (HOW.out.old ((((HBQ6.out.setCell (Nat.le_refl _) _).setCell (Nat.le_refl _) _).setCell (Nat.le_refl _) _).setCell (Nat.le_refl _) _)), hid (((((HB6.out.setCell HWQ.out _).setCell HWQ.out _).setCell HWQ.out _).setCell HWQ.out _))⟩
      case rest =>
        obtain ⟨g, kk, y1, z1, y2, z2, y3, z3, rfl, rfl, HKK, HG, HN1, HN2, HN3, HO6, HB6⟩ := hcut
        by_cases h0 : G1 = [] ∧ G2 = [] ∧ G3 = []
        · have hT : TT = false := by rw [← HTT.out, decide_eq_true h0]; rfl
          subst hT
          have HRR := hid (show D = R by rw [← HRE.out, gapCk, if_pos h0, List.append_nil])
          clear h0 HTT HN1 HN2 HN3 HG HCALL
          go_wp2_with fail
          go_ret
          rw [← HRR.out]
          exact ⟨_, rfl, HO6.out.slC, below_step HB2.out HB6.out HB2.out.size⟩
        · have hT : TT = true := by rw [← HTT.out, decide_eq_false h0]; rfl
          subst hT
          have HRR := hid (show D ++ [(kindOf G1 G2 G3, G1, G2, G3)] = R by rw [← HRE.out, gapCk, if_neg h0])
          obtain rfl : kk = kindOf G1 G2 G3 := HKK.out h0
          have l0 := blk_cell (i := 0) HG.out rfl
          have l1 := blk_cell (i := 1) HG.out rfl
          have l2 := blk_cell (i := 2) HG.out rfl
          have l3 := blk_cell (i := 3) HG.out rfl
          clear h0 HTT HKK HCALL
          go_wp2_with (at_builtin; refine wpList_append_ckg rfl (.tmp 158) (.tmp 160) rfl w2.heap.size _ D (kindOf G1 G2 G3) G1 G2 G3 _ _ _ rfl HO6.out HN1.out HN2.out HN3.out wc.heap.size rfl rfl rfl rfl rfl (by have := HDL.out; omega) HB6.out.size ?_; intro v7 w7 hO7 q7; have HO7 := hid hO7; have HB7 := hid (HB6.out.trans q7); clear hO7 q7)
          go_ret
          rw [← HRR.out]
          exact ⟨_, rfl, HO7.out.slC, below_step HB2.out HB7.out HB2.out.size⟩
end
end Go.Proofs.Ytfldheegebopoaa
