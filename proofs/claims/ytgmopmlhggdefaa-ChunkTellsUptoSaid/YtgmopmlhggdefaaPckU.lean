/-
  Package chunk: runs.
-/
import Derived.Test.YtgmopmlhggdefaaPckL
import Derived.Test.YtgmopmlhggdefaaEdB
import Derived.Deep.RegionHeld3
import Derived.Deep.QuietTactic
namespace Go.Proofs.Ytgmopmlhggdefaa
open Go.RowKit

theorem runs_at {X Y : List Int} {k : Nat} {p q : Int} (hx : X[k]? = some p) (hy : Y[k]? = some q) (rs : List Rn) : runsUp k rs (X.drop k) (Y.drop k) = runsUp (k + 1) (runStep rs k p q) (X.drop (k + 1)) (Y.drop (k + 1)) := by
  obtain ⟨l1, e1⟩ := List.getElem?_eq_some_iff.1 hx
  obtain ⟨l2, e2⟩ := List.getElem?_eq_some_iff.1 hy
  rw [List.drop_eq_getElem_cons l1, List.drop_eq_getElem_cons l2, e1, e2, runsUp]
theorem runStep_no {p q : Int} (h : p < 0 ∨ q < 0) (rs : List Rn) (k : Nat) : runStep rs k p q = rs := by rw [runStep, if_pos h]
theorem runStep_nil (k P Q : Nat) : runStep [] k (P : Int) (Q : Int) = [((k, P, Q), (k + 1, P + 1, Q + 1))] := by rw [runStep, if_neg (by omega)]; rfl
theorem runStep_on (rs : List Rn) (f : Cor) (k P Q : Nat) : runStep (rs ++ [(f, (k, P, Q))]) k (P : Int) (Q : Int) = rs ++ [(f, (k + 1, P + 1, Q + 1))] := by
  rw [runStep, if_neg (by omega), List.getLast?_concat, List.dropLast_concat]
  simp [nextC]
theorem runStep_new (rs : List Rn) (f : Cor) (t : Cor) (k P Q : Nat) (h : t ≠ (k, P, Q)) : runStep (rs ++ [(f, t)]) k (P : Int) (Q : Int) = rs ++ [(f, t)] ++ [((k, P, Q), (k + 1, P + 1, Q + 1))] := by
  rw [runStep, if_neg (by omega), List.getLast?_concat]
  simp only [Int.toNat_natCast]
  rw [if_neg h]
  rfl
section
variable {w : World} {ops : Array Oper} {rest : List Oper} {o : Oper} {a : Act} {Q : Exit → Act → World → Prop}
theorem wpList_look_no (hg : o.guard = none) (m x : Operand) (hop : o.op = Op.lookup 60 m x true) (b n : Nat) (D : MD) (hm : a.eval m = .map (some b)) (hown : OwnM w b n D) (key : Value) (kl : Lit) (hx : a.eval x = key) (hkey : keyOf Try.prog 65 key = some kl)
    (hh : Maps.has D kl = false) (hK : wpList Try.prog ops Q rest (a.put o.dst (.tuple #[.int .i64 0, .bool false])) w) : wpList Try.prog ops Q (o :: rest) a w := by
  refine wpList_lookup_own_ok_int w hg m x 60 hop 65 3 .i64 Try.spotLaw Try.underlying60 Try.underlying3 (Try.zeroInt _) b n D hm hown key kl hx hkey fun c hat _ => ?_
  rw [Maps.atKey_of_not_has hh] at hat
  cases hat
  rw [hh]
  exact hK
theorem wpList_look_yes (hg : o.guard = none) (m x : Operand) (hop : o.op = Op.lookup 60 m x true) (b n : Nat) (D : MD) (hm : a.eval m = .map (some b)) (hown : OwnM w b n D) (key : Value) (kl : Lit) (hx : a.eval x = key) (hkey : keyOf Try.prog 65 key = some kl)
    (p : Int) (hh : Maps.has D kl = true) (hp : ∀ z, D.atKey kl z = .lit (.int .i64 p)) (hK : wpList Try.prog ops Q rest (a.put o.dst (.tuple #[.int .i64 p, .bool true])) w) : wpList Try.prog ops Q (o :: rest) a w := by
  refine wpList_lookup_own_ok_int w hg m x 60 hop 65 3 .i64 Try.spotLaw Try.underlying60 Try.underlying3 (Try.zeroInt _) b n D hm hown key kl hx hkey fun c hat _ => ?_
  rw [hp] at hat
  cases hat
  rw [hh]
  exact hK
end
section
set_option maxRecDepth 100000
set_option maxHeartbeats 4000000
theorem DNext_any (x y z : Nat) (w : World) (hx : x ≤ 1000000) (hy : y ≤ 1000000) (hz : z ≤ 1000000) :
    Calls Try.prog 35 #[.agg #[.int .i64 x, .int .i64 y, .int .i64 z]] w fun e w' => e = .returned (.agg #[.int .i64 ((x + 1 : Nat) : Int), .int .i64 ((y + 1 : Nat) : Int), .int .i64 ((z + 1 : Nat) : Int)]) ∧ Below w.heap.size w w' := by
  have xw : IntKind.i64.wrap ((x : Int) + 1) = (x : Int) + 1 := IntWalk.i64_in _ (by omega)
  have yw : IntKind.i64.wrap ((y : Int) + 1) = (y : Int) + 1 := IntWalk.i64_in _ (by omega)
  have zw : IntKind.i64.wrap ((z : Int) + 1) = (z : Int) + 1 := IntWalk.i64_in _ (by omega)
  have hb1 : ∀ o, ((w.alloc (.cells #[.int .i64 x, .int .i64 y, .int .i64 z] 44)).alloc o).heap[w.heap.size]? = some (.cells #[.int .i64 x, .int .i64 y, .int .i64 z] 44 (0, 0)) := fun o => (Below.heap_alloc _ _ _ (by simp)).trans (heap_alloc_new w _)
  have hb2 := heap_alloc_new (w.alloc (.cells #[.int .i64 x, .int .i64 y, .int .i64 z] 44)) (.cells #[.int .i64 0, .int .i64 0, .int .i64 0] 44)
  have c0 := blk_cell (i := 0) (hb1 (.cells #[.int .i64 0, .int .i64 0, .int .i64 0] 44)) rfl
  have c1 := blk_cell (i := 1) (hb1 (.cells #[.int .i64 0, .int .i64 0, .int .i64 0] 44)) rfl
  have c2 := blk_cell (i := 2) (hb1 (.cells #[.int .i64 0, .int .i64 0, .int .i64 0] 44)) rfl
  have HB2 := hid hb2
  clear hb1 hb2
  go_enter Try.func35, Try.ntmps35
  go_wp2
  refine bodyPost_ret (results_cell_row rfl _ _ (w.heap.size + 1) 44 #[.int .i64 ((x : Int) + 1), .int .i64 ((y : Int) + 1), .int .i64 ((z : Int) + 1)] (0, 0) _ rfl (by simpa using heap_alloc_new (w.alloc (.cells #[.int .i64 x, .int .i64 y, .int .i64 z] 44)) (.cells #[.int .i64 ((x : Int) + 1), .int .i64 ((y : Int) + 1), .int .i64 ((z : Int) + 1)] 44)) Try.underlying44 rfl Try.sizeCor) rfl ?_
  exact ⟨rfl, ((Below.refl _ w).alloc (Nat.le_refl _) _).alloc (by simp) _⟩
theorem DEnd_any (va vb vc : Value) (a b c : List (List UInt8)) (w : World) (ha : Sl w va (strCells a)) (hb : Sl w vb (strCells b)) (hc : Sl w vc (strCells c)) :
    Calls Try.prog 28 #[.agg #[va, vb, vc]] w fun e w' => e = .returned (.agg #[.int .i64 a.length, .int .i64 b.length, .int .i64 c.length]) ∧ Below w.heap.size w w' := by
  obtain ⟨aa, ca, rfl⟩ := ha.form
  obtain ⟨ab, cb, rfl⟩ := hb.form
  obtain ⟨ac, cc, rfl⟩ := hc.form
  rw [strCells_length, strCells_length, strCells_length]
  clear ha hb hc
  have hb1 : ∀ o, ((w.alloc (.cells #[.slice aa a.length ca, .slice ab b.length cb, .slice ac c.length cc] 42)).alloc o).heap[w.heap.size]? = some (.cells #[.slice aa a.length ca, .slice ab b.length cb, .slice ac c.length cc] 42 (0, 0)) := fun o => (Below.heap_alloc _ _ _ (by simp)).trans (heap_alloc_new w _)
  have c0 := blk_cell (i := 0) (hb1 (.cells #[.int .i64 0, .int .i64 0, .int .i64 0] 44)) rfl
  have c1 := blk_cell (i := 1) (hb1 (.cells #[.int .i64 0, .int .i64 0, .int .i64 0] 44)) rfl
  have c2 := blk_cell (i := 2) (hb1 (.cells #[.int .i64 0, .int .i64 0, .int .i64 0] 44)) rfl
  clear hb1
  go_enter Try.func28, Try.ntmps28
  go_wp2
  refine bodyPost_ret (results_cell_row rfl _ _ (w.heap.size + 1) 44 #[.int .i64 a.length, .int .i64 b.length, .int .i64 c.length] (0, 0) _ rfl (by simpa using heap_alloc_new (w.alloc (.cells #[.slice aa a.length ca, .slice ab b.length cb, .slice ac c.length cc] 42)) (.cells #[.int .i64 a.length, .int .i64 b.length, .int .i64 c.length] 44)) Try.underlying44 rfl Try.sizeCor) rfl ?_
  exact ⟨rfl, ((Below.refl _ w).alloc (Nat.le_refl _) _).alloc (by simp) _⟩
end
section
set_option maxRecDepth 100000
set_option maxHeartbeats 4000000
theorem DRuns_any (va vb vc : Value) (a b c : List (List UInt8)) (w : World) (ha : Sl w va (strCells a)) (hb : Sl w vb (strCells b)) (hc : Sl w vc (strCells c)) (la : a.length ≤ 400) (lb : b.length ≤ 400) (lc : c.length ≤ 400) :
    Calls Try.prog 25 #[.agg #[va, vb, vc]] w fun e w' => ∃ u, e = .returned u ∧ OwnRn w' w.heap.size u (runsUp 0 [] (placesS a b) (placesS a c)) ∧ (runsUp 0 [] (placesS a b) (placesS a c)).length ≤ a.length ∧ Below w.heap.size w w' := by
  have hb0 := heap_alloc_new w (.cells #[va, vb, vc] 42)
  have B0 : Below w.heap.size w (w.alloc (.cells #[va, vb, vc] 42)) := (Below.refl _ w).alloc (Nat.le_refl _) _
  have HKP := hid (DKept_any va vb vc a b c _ (Sl.old ha B0) (Sl.old hb B0) (Sl.old hc B0) la lb lc)
  obtain ⟨aa, ca, rfl⟩ := ha.form
  obtain ⟨ab, cb, rfl⟩ := hb.form
  obtain ⟨ac, cc, rfl⟩ := hc.form
  have HXL := hid (placesS_length la lb)
  have HYL := hid (placesS_length la lc)
  have HXA := hid (placesS_asc la lb)
  have HYA := hid (placesS_asc la lc)
  obtain ⟨X, hX⟩ : ∃ X, placesS a b = X := ⟨_, rfl⟩
  obtain ⟨Y, hY⟩ : ∃ Y, placesS a c = Y := ⟨_, rfl⟩
  rw [hX] at HKP HXL HXA ⊢
  rw [hY] at HKP HYL HYA ⊢
  simp only [strCells_length] at HKP hb0 B0 ⊢
  have HBL := hid hb0
  have HB0 := hid B0
  have HL := hid (And.intro la (And.intro lb lc))
  have c0 := blk_cell (i := 0) hb0 rfl
  clear ha hb hc la lb lc hX hY hb0 B0
  go_enter Try.func25, Try.ntmps25
  go_wp2_with (go_at_call 34; refine HKP.out.mono ?_; rintro e w1 ⟨g, n, D, rfl, hg1, hg2, hm, hsx, hsy, hb1⟩; have d0 := blk_cell (i := 0) ((hb1.block w.heap.size (by simp)).trans HBL.out) rfl)
  have HB1 := hid (below_step HB0.out hb1 HB0.out.size)
  have HM := hid hm
  have HSX := hid hsx
  have HSY := hid hsy
  clear hb1 hm hsx hsy HKP HB0 HBL c0 hg1 hg2
  clear d0
  go_loopg [4, 16] a.length (fun gh l i wx => ∃ (k : Nat) (rs : List Rn), k ≤ a.length ∧ gh = a.length - k ∧ i = .int .i64 k ∧ Hid (rs.length ≤ k) ∧ Hid (runsUp k rs (X.drop k) (Y.drop k) = runsUp 0 [] X Y) ∧ Hid (OwnRn wx w1.heap.size l rs) ∧ Below w1.heap.size w1 wx)
  case atStart => exact ⟨0, [], Nat.zero_le _, rfl, rfl, hid (Nat.le_refl _), hid (by rw [List.drop_zero, List.drop_zero]), hid (OwnRn.nil _ _), Below.refl _ _⟩
  case round =>
    obtain ⟨k, rs, hk, rfl, rfl, HRL, HRU, HO, hbx⟩ := hrel
    have hzx := hbx.size
    obtain ⟨lo, lcap, rfl⟩ := HO.out.form
    have k0 : (0 : Int) ≤ (k : Int) := Int.natCast_nonneg _
    by_cases hlt : k < a.length
    · have k1 : (k : Int) < (a.length : Int) := by omega
      have kw : IntKind.i64.wrap ((k : Int) + 1) = (k : Int) + 1 := IntWalk.i64_in _ (by have := HL.out; omega)
      obtain ⟨p, hp⟩ : ∃ p, X[k]? = some p := ⟨_, List.getElem?_eq_getElem (by have := HXL.out; omega)⟩
      obtain ⟨q, hq⟩ : ∃ q, Y[k]? = some q := ⟨_, List.getElem?_eq_getElem (by have := HYL.out; omega)⟩
      have HST := hid (runs_at hp hq rs)
      have HPX := hid (HSX.out k p hp)
      have HPY := hid (HSY.out k q hq)
      have HK0 := hid (spot_key (i := k) (s := 0) (by have := HL.out; omega) (by omega))
      have HK1 := hid (spot_key (i := k) (s := 1) (by have := HL.out; omega) (by omega))
      have HMX := hid (OwnM.old HM.out hbx)
      have HPB := hid (show p < 1000000 ∧ q < 1000000 by
        have h1 := HXA.out
        have h2 := HYA.out
        have h3 := HL.out
        constructor
        · by_cases h : p < 0
          · omega
          · obtain ⟨P, rfl⟩ := Int.eq_ofNat_of_zero_le (show 0 ≤ p by omega)
            have := asc_bound h1 hp
            omega
        · by_cases h : q < 0
          · omega
          · obtain ⟨P, rfl⟩ := Int.eq_ofNat_of_zero_le (show 0 ≤ q by omega)
            have := asc_bound h2 hq
            omega)
      clear hp hq
      by_cases hpq : p < 0 ∨ q < 0
      · have HN := hid (show runsUp (k + 1) rs (X.drop (k + 1)) (Y.drop (k + 1)) = runsUp 0 [] X Y by rw [← HRU.out, HST.out, runStep_no hpq])
        clear HST HRU
        rcases (show (p < 0 ∧ q < 0) ∨ (p < 0 ∧ ¬ q < 0) ∨ (¬ p < 0 ∧ q < 0) by omega) with ⟨h1, h2⟩ | ⟨h1, h2⟩ | ⟨h1, h2⟩
        · have N0 := hid (HPX.out.1 h1)
          have N1 := hid (HPY.out.1 h2)
          clear hpq h1 h2
          go_wp2_with (first
            | (at_lookup; refine wpList_look_no rfl _ _ rfl g n D rfl HMX.out _ _ rfl HK0.out N0.out ?_)
            | (at_lookup; refine wpList_look_no rfl _ _ rfl g n D rfl HMX.out _ _ rfl HK1.out N1.out ?_))
          go_roundg (a.length - (k + 1))
          case measure => omega
          case rel => exact ⟨k + 1, rs, by omega, rfl, by go_num, hid (by have := HRL.out; omega), HN, HO, hbx⟩
        · have N0 := hid (HPX.out.1 h1)
          have Y1 := hid (HPY.out.2 h2)
          clear hpq h1 h2
          go_wp2_with (first
            | (at_lookup; refine wpList_look_no rfl _ _ rfl g n D rfl HMX.out _ _ rfl HK0.out N0.out ?_)
            | (at_lookup; refine wpList_look_yes rfl _ _ rfl g n D rfl HMX.out _ _ rfl HK1.out q Y1.out.1 Y1.out.2 ?_))
          go_roundg (a.length - (k + 1))
          case measure => omega
          case rel => exact ⟨k + 1, rs, by omega, rfl, by go_num, hid (by have := HRL.out; omega), HN, HO, hbx⟩
        · have Y0 := hid (HPX.out.2 h1)
          have N1 := hid (HPY.out.1 h2)
          clear hpq h1 h2
          go_wp2_with (first
            | (at_lookup; refine wpList_look_yes rfl _ _ rfl g n D rfl HMX.out _ _ rfl HK0.out p Y0.out.1 Y0.out.2 ?_)
            | (at_lookup; refine wpList_look_no rfl _ _ rfl g n D rfl HMX.out _ _ rfl HK1.out N1.out ?_))
          go_roundg (a.length - (k + 1))
          case measure => omega
          case rel => exact ⟨k + 1, rs, by omega, rfl, by go_num, hid (by have := HRL.out; omega), HN, HO, hbx⟩
      · have Y0 := hid (HPX.out.2 (by omega))
        have Y1 := hid (HPY.out.2 (by omega))
        obtain ⟨P, rfl⟩ := Int.eq_ofNat_of_zero_le (show 0 ≤ p by omega)
        obtain ⟨Q, rfl⟩ := Int.eq_ofNat_of_zero_le (show 0 ≤ q by omega)
        have P0 : (0 : Int) ≤ (P : Int) := Int.natCast_nonneg _
        have Q0 : (0 : Int) ≤ (Q : Int) := Int.natCast_nonneg _
        clear hpq
        go_wp2_with (first
            | (at_lookup; refine wpList_look_yes rfl _ _ rfl g n D rfl HMX.out _ _ rfl HK0.out P Y0.out.1 Y0.out.2 ?_)
            | (at_lookup; refine wpList_look_yes rfl _ _ rfl g n D rfl HMX.out _ _ rfl HK1.out Q Y1.out.1 Y1.out.2 ?_))
        have HB2 := hid (hbx.alloc hzx (.cells #[.int .i64 k, .int .i64 P, .int .i64 Q] 44))
        have HG2 := hid (heap_alloc_new wr (.cells #[.int .i64 k, .int .i64 P, .int .i64 Q] 44))
        have HO2 := hid (show OwnRn (wr.alloc (.cells #[.int .i64 k, .int .i64 P, .int .i64 Q] 44)) w1.heap.size (.slice lo rs.length lcap) rs from World.ownsRow.alloc HO.out _)
        have HZ2 := hid (show wr.heap.size < (wr.alloc (.cells #[.int .i64 k, .int .i64 P, .int .i64 Q] 44)).heap.size by simp)
        have HLT := hid (fun j (hj : (Value.slice lo rs.length lcap).ownBlock = some j) => (World.ownsRow.lt HO.out j hj).2)
        generalize wr.alloc (.cells #[.int .i64 k, .int .i64 P, .int .i64 Q] 44) = W2 at HB2 HG2 HO2 HZ2 ⊢
        obtain ⟨gc, hgc⟩ : ∃ z, wr.heap.size = z := ⟨_, rfl⟩
        rw [hgc] at hzx HG2 HZ2 HLT ⊢
        clear hgc HO HMX Y0 Y1 HPX HPY HK0 HK1 hbx
        have hcase : rs = [] ∨ ∃ L f t, rs = L ++ [((f, t) : Rn)] := by
          rcases List.eq_nil_or_concat rs with h | ⟨L, r, h⟩
          · exact .inl h
          · exact .inr ⟨L, r.1, r.2, by rw [h, List.concat_eq_append]⟩
        rcases hcase with rfl | ⟨L, f, t, rfl⟩
        · have HN := hid (show runsUp (k + 1) ([] ++ [((k, P, Q), (k + 1, P + 1, Q + 1))]) (X.drop (k + 1)) (Y.drop (k + 1)) = runsUp 0 [] X Y by rw [← HRU.out, HST.out, runStep_nil]; rfl)
          have HLB := hid (show ([] : List Rn).length ≤ 400 from Nat.zero_le _)
          have HNE := hid (show (Value.slice lo ([] : List Rn).length lcap).ownBlock ≠ some gc from fun e => Nat.lt_irrefl _ (HLT.out gc e))
          clear HST HRU
          go_quiet (fail)
          have HB3 := hid (show Below w1.heap.size w1 (W2.drewN nq) from HB2.out.trans ⟨rfl, rfl, rfl, Nat.le_refl _, fun _ _ => rfl⟩)
          have HG3 := hid (show (W2.drewN nq).heap[gc]? = _ from HG2.out)
          have HO3 := hid (show OwnRn (W2.drewN nq) w1.heap.size _ _ from HO2.out)
          have HZ3 := hid (show gc < (W2.drewN nq).heap.size from HZ2.out)
          clear HO2 HB2 HG2 HZ2
          generalize W2.drewN nq = W3 at HB3 HG3 HO3 HZ3 ⊢
          have f0 := blk_cell (i := 0) HG3.out rfl
          have f1 := blk_cell (i := 1) HG3.out rfl
          have f2 := blk_cell (i := 2) HG3.out rfl
          go_wp2_with (first
            | (refine wpList_append_rn rfl (.tmp 57) (.tmp 60) rfl w1.heap.size _ [] ((k, P, Q), (0, 0, 0)) rfl HO3.out rfl (by have h1 := HL.out; have h2 := HRL.out; omega) (by have := HB3.out.size; omega) ?_; intro v4 W4 hO4 hb4 hK4
               have hG4 := (hK4 gc HZ3.out HNE.out).trans HG3.out
               have hB4 := HB3.out.trans hb4
               clear hb4 hK4
               obtain ⟨g4, cap4, rfl, hg4, hl4⟩ := hO4.last
               obtain ⟨m4, hm4⟩ : ∃ z, ([] : List Rn).length + 1 = z := ⟨_, rfl⟩
               obtain ⟨j4, hj4⟩ : ∃ z, ([] : List Rn).length = z := ⟨_, rfl⟩
               have HJ4 := hid hj4
               have HL4 := hid hg4
               have b0 : (0 : Int) ≤ (j4 : Int) := Int.natCast_nonneg _
               have b1 : (j4 : Int) < (m4 : Int) := by omega
               have b2 : IntKind.i64.wrap ((m4 : Int) - 1) = (j4 : Int) := (IntWalk.i64_in _ (by have h1 := HL.out; have h2 := HRL.out; omega)).trans (by omega)
               rw [hm4] at hO4 ⊢
               have HO4 := hid hO4
               have HB4 := hid hB4
               have HG4 := hid hG4
               have c0 := blk_cell (i := 0) hG4 rfl
               have c1 := blk_cell (i := 1) hG4 rfl
               have c2 := blk_cell (i := 2) hG4 rfl
               have HNX := hid (DNext_any k P Q W4 (by have := HL.out; omega) (by have := HPB.out; omega) (by have := HPB.out; omega))
               clear hm4 hj4 hO4 hB4 hG4 hg4 hl4)
            | (go_at_call 35; with_reducible refine HNX.out.mono ?_; rintro e w5 ⟨rfl, hb5⟩
               have HO5 := hid (OwnRn.old HO4.out hb5)
               have HB5 := hid (below_step HB4.out hb5 HB4.out.size)
               clear hb5)
            | (refine wpList_store_end rfl _ _ rfl w1.heap.size g4 m4 cap4 _ _ (k + 1, P + 1, Q + 1) HO5.out (j4 * 6 + 3) (by rw [HJ4.out]) rfl rfl ?_; intro w6 hO6 hk6
               have HO6 := hid hO6
               have HB6 := hid (HB5.out.trans (hk6.below (by have := HB5.out.size; omega) (fun b hb e => by have := HL4.out; omega)))
               clear hO6 hk6))
          go_roundg (a.length - (k + 1))
          case measure => omega
          case rel => exact ⟨k + 1, _, by omega, rfl, by go_num, hid (by simp), HN, HO6, HB6.out⟩
        · obtain ⟨lo', lcap', hv, hlo, hlz⟩ := HO2.out.last
          obtain ⟨g', r1, r2, r3, r4, r5, r6, hlo', he, -, -, -, e3, e4, e5⟩ := HO2.out.sl.at' (i := L.length) (by simp)
          rw [List.getElem?_concat_length] at he
          cases he
          rw [List.length_append, List.length_singleton] at hv
          cases hv
          cases hlo'
          rw [List.length_append, List.length_singleton] at HO2 HLT HRL ⊢
          obtain ⟨m, hm⟩ : ∃ m, L.length + 1 = m := ⟨_, rfl⟩
          obtain ⟨j, hj⟩ : ∃ j, L.length = j := ⟨_, rfl⟩
          have HJ := hid hj
          have HMJ := hid hm
          rw [hm] at HO2 HLT HRL ⊢
          rw [hj] at e3 e4 e5
          have m0 : (0 : Int) ≤ (m : Int) := Int.natCast_nonneg _
          have j0 : (0 : Int) ≤ (j : Int) := Int.natCast_nonneg _
          have jm : (j : Int) < (m : Int) := by omega
          have mne : ((m : Int) == 0) = false := by simp; omega
          have mw : IntKind.i64.wrap ((m : Int) - 1) = (j : Int) := (IntWalk.i64_in _ (by have h1 := HL.out; have h2 := HRL.out; omega)).trans (by omega)
          clear hm hj
          have f0 := blk_cell (i := 0) HG2.out rfl
          have f1 := blk_cell (i := 1) HG2.out rfl
          have f2 := blk_cell (i := 2) HG2.out rfl
          by_cases ht : (r4, r5, r6) = (k, P, Q)
          · cases ht
            have HN := hid (show runsUp (k + 1) (L ++ [((r1, r2, r3), (k + 1, P + 1, Q + 1))]) (X.drop (k + 1)) (Y.drop (k + 1)) = runsUp 0 [] X Y by rw [← HRU.out, HST.out, runStep_on])
            clear HST HRU
            go_quiet (fail)
            have HB3 := hid (show Below w1.heap.size w1 (W2.drewN nq) from HB2.out.trans ⟨rfl, rfl, rfl, Nat.le_refl _, fun _ _ => rfl⟩)
            have HG3 := hid (show (W2.drewN nq).heap[gc]? = _ from HG2.out)
            have HO3 := hid (show OwnRn (W2.drewN nq) w1.heap.size _ _ from HO2.out)
            have HZ3 := hid (show gc < (W2.drewN nq).heap.size from HZ2.out)
            clear HO2 HB2 HG2 HZ2 e3 e4 e5 f0 f1 f2
            generalize W2.drewN nq = W3 at HB3 HG3 HO3 HZ3 ⊢
            have HJ4 := HJ
            have HL4 := hid hlo
            have HO4 := HO3
            have HB4 := HB3
            have f0 := blk_cell (i := 0) HG3.out rfl
            have f1 := blk_cell (i := 1) HG3.out rfl
            have f2 := blk_cell (i := 2) HG3.out rfl
            have HNX := hid (DNext_any k P Q W3 (by have := HL.out; omega) (by have := HPB.out; omega) (by have := HPB.out; omega))
            go_wp2_with (first
              | (go_at_call 35; with_reducible refine HNX.out.mono ?_; rintro e w5 ⟨rfl, hb5⟩
                 have HO5 := hid (OwnRn.old HO4.out hb5)
                 have HB5 := hid (below_step HB4.out hb5 HB4.out.size)
                 clear hb5)
              | (refine wpList_store_end rfl _ _ rfl w1.heap.size lo' m lcap _ _ (k + 1, P + 1, Q + 1) HO5.out (j * 6 + 3) (by rw [HJ4.out]) rfl rfl ?_; intro w6 hO6 hk6
                 have HO6 := hid hO6
                 have HB6 := hid (HB5.out.trans (hk6.below (by have := HB5.out.size; omega) (fun b hb e => by have := HL4.out; omega)))
                 clear hO6 hk6))
            go_roundg (a.length - (k + 1))
            case measure => omega
            case rel => exact ⟨k + 1, _, by omega, rfl, by go_num, hid (by have h1 := HRL.out; have h2 := HMJ.out; simp; omega), HN, HO6, HB6.out⟩
          · have hnn : r4 ≠ k ∨ (k = r4 ∧ r5 ≠ P) ∨ (k = r4 ∧ P = r5 ∧ r6 ≠ Q) := by
              apply Classical.byContradiction
              intro h
              apply ht
              have : r4 = k ∧ r5 = P ∧ r6 = Q := by omega
              rw [this.1, this.2.1, this.2.2]
            have HT := hid ht
            clear ht
            rcases hnn with h4 | ⟨rfl, h5⟩ | ⟨rfl, rfl, h6⟩
            · have n4 : ((r4 : Int) == (k : Int)) = false := by simp; omega
              have n4' : (r4 == k) = false := by simpa using h4
              have HN := hid (show runsUp (k + 1) (L ++ [((r1, r2, r3), (r4, r5, r6))] ++ [((k, P, Q), (k + 1, P + 1, Q + 1))]) (X.drop (k + 1)) (Y.drop (k + 1)) = runsUp 0 [] X Y by rw [← HRU.out, HST.out, runStep_new _ _ _ _ _ _ HT.out])
              have HLB := hid (show (L ++ [((r1, r2, r3), (r4, r5, r6))]).length ≤ k ∧ k ≤ 400 by have h1 := HRL.out; have h2 := HMJ.out; have h3 := HL.out; simp; omega)
              have HNE := hid (show (Value.slice (some ⟨lo', 0, none⟩) m lcap).ownBlock ≠ some gc from fun e => Nat.lt_irrefl _ (HLT.out gc e))
              clear HST HRU
              go_quiet (fail)
              have HB3 := hid (show Below w1.heap.size w1 (W2.drewN nq) from HB2.out.trans ⟨rfl, rfl, rfl, Nat.le_refl _, fun _ _ => rfl⟩)
              have HG3 := hid (show (W2.drewN nq).heap[gc]? = _ from HG2.out)
              have HO3 := hid (show OwnRn (W2.drewN nq) w1.heap.size _ _ from HO2.out)
              have HZ3 := hid (show gc < (W2.drewN nq).heap.size from HZ2.out)
              clear HO2 HB2 HG2 HZ2 e3 e4 e5 f0 f1 f2
              generalize W2.drewN nq = W3 at HB3 HG3 HO3 HZ3 ⊢
              have f0 := blk_cell (i := 0) HG3.out rfl
              have f1 := blk_cell (i := 1) HG3.out rfl
              have f2 := blk_cell (i := 2) HG3.out rfl
              go_wp2_with (first
                | (refine wpList_append_rn rfl (.tmp 57) (.tmp 60) rfl w1.heap.size _ (L ++ [((r1, r2, r3), (r4, r5, r6))]) ((k, P, Q), (0, 0, 0)) rfl HO3.out rfl (by have h2 := HLB.out; omega) (by have := HB3.out.size; omega) ?_; intro v4 W4 hO4 hb4 hK4
                   have hG4 := (hK4 gc HZ3.out HNE.out).trans HG3.out
                   have hB4 := HB3.out.trans hb4
                   clear hb4 hK4
                   obtain ⟨g4, cap4, rfl, hg4, hl4⟩ := hO4.last
                   obtain ⟨m4, hm4⟩ : ∃ z, (L ++ [((r1, r2, r3), (r4, r5, r6))]).length + 1 = z := ⟨_, rfl⟩
                   obtain ⟨j4, hj4⟩ : ∃ z, (L ++ [((r1, r2, r3), (r4, r5, r6))]).length = z := ⟨_, rfl⟩
                   have HJ4 := hid hj4
                   have HL4 := hid hg4
                   have b0 : (0 : Int) ≤ (j4 : Int) := Int.natCast_nonneg _
                   have b1 : (j4 : Int) < (m4 : Int) := by omega
                   have b2 : IntKind.i64.wrap ((m4 : Int) - 1) = (j4 : Int) := (IntWalk.i64_in _ (by have h1 := HL.out; have h2 := HLB.out; omega)).trans (by omega)
                   rw [hm4] at hO4 ⊢
                   have HO4 := hid hO4
                   have HB4 := hid hB4
                   have HG4 := hid hG4
                   have c0 := blk_cell (i := 0) hG4 rfl
                   have c1 := blk_cell (i := 1) hG4 rfl
                   have c2 := blk_cell (i := 2) hG4 rfl
                   have HNX := hid (DNext_any k P Q W4 (by have := HL.out; omega) (by have := HPB.out; omega) (by have := HPB.out; omega))
                   clear hm4 hj4 hO4 hB4 hG4 hg4 hl4)
                | (go_at_call 35; with_reducible refine HNX.out.mono ?_; rintro e w5 ⟨rfl, hb5⟩
                   have HO5 := hid (OwnRn.old HO4.out hb5)
                   have HB5 := hid (below_step HB4.out hb5 HB4.out.size)
                   clear hb5)
                | (refine wpList_store_end rfl _ _ rfl w1.heap.size g4 m4 cap4 _ _ (k + 1, P + 1, Q + 1) HO5.out (j4 * 6 + 3) (by rw [HJ4.out]) rfl rfl ?_; intro w6 hO6 hk6
                   have HO6 := hid hO6
                   have HB6 := hid (HB5.out.trans (hk6.below (by have := HB5.out.size; omega) (fun b hb e => by have := HL4.out; omega)))
                   clear hO6 hk6))
              go_roundg (a.length - (k + 1))
              case measure => omega
              case rel => exact ⟨k + 1, _, by omega, rfl, by go_num, hid (by have h1 := HLB.out; rw [List.length_append, List.length_singleton]; omega), HN, HO6, HB6.out⟩
            · have n5 : ((r5 : Int) == (P : Int)) = false := by simp; omega
              have n5' : (r5 == P) = false := by simpa using h5
              have HN := hid (show runsUp (k + 1) (L ++ [((r1, r2, r3), (k, r5, r6))] ++ [((k, P, Q), (k + 1, P + 1, Q + 1))]) (X.drop (k + 1)) (Y.drop (k + 1)) = runsUp 0 [] X Y by rw [← HRU.out, HST.out, runStep_new _ _ _ _ _ _ HT.out])
              have HLB := hid (show (L ++ [((r1, r2, r3), (k, r5, r6))]).length ≤ k ∧ k ≤ 400 by have h1 := HRL.out; have h2 := HMJ.out; have h3 := HL.out; simp; omega)
              have HNE := hid (show (Value.slice (some ⟨lo', 0, none⟩) m lcap).ownBlock ≠ some gc from fun e => Nat.lt_irrefl _ (HLT.out gc e))
              clear HST HRU
              go_quiet (fail)
              have HB3 := hid (show Below w1.heap.size w1 (W2.drewN nq) from HB2.out.trans ⟨rfl, rfl, rfl, Nat.le_refl _, fun _ _ => rfl⟩)
              have HG3 := hid (show (W2.drewN nq).heap[gc]? = _ from HG2.out)
              have HO3 := hid (show OwnRn (W2.drewN nq) w1.heap.size _ _ from HO2.out)
              have HZ3 := hid (show gc < (W2.drewN nq).heap.size from HZ2.out)
              clear HO2 HB2 HG2 HZ2 e3 e4 e5 f0 f1 f2
              generalize W2.drewN nq = W3 at HB3 HG3 HO3 HZ3 ⊢
              have f0 := blk_cell (i := 0) HG3.out rfl
              have f1 := blk_cell (i := 1) HG3.out rfl
              have f2 := blk_cell (i := 2) HG3.out rfl
              go_wp2_with (first
                | (refine wpList_append_rn rfl (.tmp 57) (.tmp 60) rfl w1.heap.size _ (L ++ [((r1, r2, r3), (k, r5, r6))]) ((k, P, Q), (0, 0, 0)) rfl HO3.out rfl (by have h2 := HLB.out; omega) (by have := HB3.out.size; omega) ?_; intro v4 W4 hO4 hb4 hK4
                   have hG4 := (hK4 gc HZ3.out HNE.out).trans HG3.out
                   have hB4 := HB3.out.trans hb4
                   clear hb4 hK4
                   obtain ⟨g4, cap4, rfl, hg4, hl4⟩ := hO4.last
                   obtain ⟨m4, hm4⟩ : ∃ z, (L ++ [((r1, r2, r3), (k, r5, r6))]).length + 1 = z := ⟨_, rfl⟩
                   obtain ⟨j4, hj4⟩ : ∃ z, (L ++ [((r1, r2, r3), (k, r5, r6))]).length = z := ⟨_, rfl⟩
                   have HJ4 := hid hj4
                   have HL4 := hid hg4
                   have b0 : (0 : Int) ≤ (j4 : Int) := Int.natCast_nonneg _
                   have b1 : (j4 : Int) < (m4 : Int) := by omega
                   have b2 : IntKind.i64.wrap ((m4 : Int) - 1) = (j4 : Int) := (IntWalk.i64_in _ (by have h1 := HL.out; have h2 := HLB.out; omega)).trans (by omega)
                   rw [hm4] at hO4 ⊢
                   have HO4 := hid hO4
                   have HB4 := hid hB4
                   have HG4 := hid hG4
                   have c0 := blk_cell (i := 0) hG4 rfl
                   have c1 := blk_cell (i := 1) hG4 rfl
                   have c2 := blk_cell (i := 2) hG4 rfl
                   have HNX := hid (DNext_any k P Q W4 (by have := HL.out; omega) (by have := HPB.out; omega) (by have := HPB.out; omega))
                   clear hm4 hj4 hO4 hB4 hG4 hg4 hl4)
                | (go_at_call 35; with_reducible refine HNX.out.mono ?_; rintro e w5 ⟨rfl, hb5⟩
                   have HO5 := hid (OwnRn.old HO4.out hb5)
                   have HB5 := hid (below_step HB4.out hb5 HB4.out.size)
                   clear hb5)
                | (refine wpList_store_end rfl _ _ rfl w1.heap.size g4 m4 cap4 _ _ (k + 1, P + 1, Q + 1) HO5.out (j4 * 6 + 3) (by rw [HJ4.out]) rfl rfl ?_; intro w6 hO6 hk6
                   have HO6 := hid hO6
                   have HB6 := hid (HB5.out.trans (hk6.below (by have := HB5.out.size; omega) (fun b hb e => by have := HL4.out; omega)))
                   clear hO6 hk6))
              go_roundg (a.length - (k + 1))
              case measure => omega
              case rel => exact ⟨k + 1, _, by omega, rfl, by go_num, hid (by have h1 := HLB.out; rw [List.length_append, List.length_singleton]; omega), HN, HO6, HB6.out⟩
            · have n6 : ((r6 : Int) == (Q : Int)) = false := by simp; omega
              have n6' : (r6 == Q) = false := by simpa using h6
              have HN := hid (show runsUp (k + 1) (L ++ [((r1, r2, r3), (k, P, r6))] ++ [((k, P, Q), (k + 1, P + 1, Q + 1))]) (X.drop (k + 1)) (Y.drop (k + 1)) = runsUp 0 [] X Y by rw [← HRU.out, HST.out, runStep_new _ _ _ _ _ _ HT.out])
              have HLB := hid (show (L ++ [((r1, r2, r3), (k, P, r6))]).length ≤ k ∧ k ≤ 400 by have h1 := HRL.out; have h2 := HMJ.out; have h3 := HL.out; simp; omega)
              have HNE := hid (show (Value.slice (some ⟨lo', 0, none⟩) m lcap).ownBlock ≠ some gc from fun e => Nat.lt_irrefl _ (HLT.out gc e))
              clear HST HRU
              go_quiet (fail)
              have HB3 := hid (show Below w1.heap.size w1 (W2.drewN nq) from HB2.out.trans ⟨rfl, rfl, rfl, Nat.le_refl _, fun _ _ => rfl⟩)
              have HG3 := hid (show (W2.drewN nq).heap[gc]? = _ from HG2.out)
              have HO3 := hid (show OwnRn (W2.drewN nq) w1.heap.size _ _ from HO2.out)
              have HZ3 := hid (show gc < (W2.drewN nq).heap.size from HZ2.out)
              clear HO2 HB2 HG2 HZ2 e3 e4 e5 f0 f1 f2
              generalize W2.drewN nq = W3 at HB3 HG3 HO3 HZ3 ⊢
              have f0 := blk_cell (i := 0) HG3.out rfl
              have f1 := blk_cell (i := 1) HG3.out rfl
              have f2 := blk_cell (i := 2) HG3.out rfl
              go_wp2_with (first
                | (refine wpList_append_rn rfl (.tmp 57) (.tmp 60) rfl w1.heap.size _ (L ++ [((r1, r2, r3), (k, P, r6))]) ((k, P, Q), (0, 0, 0)) rfl HO3.out rfl (by have h2 := HLB.out; omega) (by have := HB3.out.size; omega) ?_; intro v4 W4 hO4 hb4 hK4
                   have hG4 := (hK4 gc HZ3.out HNE.out).trans HG3.out
                   have hB4 := HB3.out.trans hb4
                   clear hb4 hK4
                   obtain ⟨g4, cap4, rfl, hg4, hl4⟩ := hO4.last
                   obtain ⟨m4, hm4⟩ : ∃ z, (L ++ [((r1, r2, r3), (k, P, r6))]).length + 1 = z := ⟨_, rfl⟩
                   obtain ⟨j4, hj4⟩ : ∃ z, (L ++ [((r1, r2, r3), (k, P, r6))]).length = z := ⟨_, rfl⟩
                   have HJ4 := hid hj4
                   have HL4 := hid hg4
                   have b0 : (0 : Int) ≤ (j4 : Int) := Int.natCast_nonneg _
                   have b1 : (j4 : Int) < (m4 : Int) := by omega
                   have b2 : IntKind.i64.wrap ((m4 : Int) - 1) = (j4 : Int) := (IntWalk.i64_in _ (by have h1 := HL.out; have h2 := HLB.out; omega)).trans (by omega)
                   rw [hm4] at hO4 ⊢
                   have HO4 := hid hO4
                   have HB4 := hid hB4
                   have HG4 := hid hG4
                   have c0 := blk_cell (i := 0) hG4 rfl
                   have c1 := blk_cell (i := 1) hG4 rfl
                   have c2 := blk_cell (i := 2) hG4 rfl
                   have HNX := hid (DNext_any k P Q W4 (by have := HL.out; omega) (by have := HPB.out; omega) (by have := HPB.out; omega))
                   clear hm4 hj4 hO4 hB4 hG4 hg4 hl4)
                | (go_at_call 35; with_reducible refine HNX.out.mono ?_; rintro e w5 ⟨rfl, hb5⟩
                   have HO5 := hid (OwnRn.old HO4.out hb5)
                   have HB5 := hid (below_step HB4.out hb5 HB4.out.size)
                   clear hb5)
                | (refine wpList_store_end rfl _ _ rfl w1.heap.size g4 m4 cap4 _ _ (k + 1, P + 1, Q + 1) HO5.out (j4 * 6 + 3) (by rw [HJ4.out]) rfl rfl ?_; intro w6 hO6 hk6
                   have HO6 := hid hO6
                   have HB6 := hid (HB5.out.trans (hk6.below (by have := HB5.out.size; omega) (fun b hb e => by have := HL4.out; omega)))
                   clear hO6 hk6))
              go_roundg (a.length - (k + 1))
              case measure => omega
              case rel => exact ⟨k + 1, _, by omega, rfl, by go_num, hid (by have h1 := HLB.out; rw [List.length_append, List.length_singleton]; omega), HN, HO6, HB6.out⟩
    · obtain rfl : k = a.length := by omega
      have hneg : ¬ (a.length : Int) < (a.length : Int) := by omega
      have HX : Hid (rs = runsUp 0 [] X Y) := hid (by
        rw [← HRU.out, List.drop_of_length_le (by have := HXL.out; omega), runsUp]
        simp)
      have HSL := hid (HO.out.low HB1.out.size)
      go_wp2_with fail
      go_ret
      rw [← HX.out]
      exact ⟨_, rfl, HSL.out, HRL.out, below_step HB1.out hbx HB1.out.size⟩
end
end Go.Proofs.Ytgmopmlhggdefaa
