/-
  The tree laws: not too much (few), and what a program that does nothing does not answer (awake).
-/
import Derived.Test.YtndmblelkeepjaaGreatDoorPtrH
import Derived.Test.YtndmblelkeepjaaGreatDoorPtrJ
import Derived.Test.YtndmblelkeepjaaGreatDoorPtrK
namespace Go.Proofs.YtndmblelkeepjaaGreatDoor
open Go.RowKit
open BigFrame

theorem own_n {w : World} {b : Nat} {e : TypeId} {size : Nat} {v : Value} {m : Nat} {xs : List Value} (n : Nat) (h : w.ownsRow b e size v m xs) (hn : m = n) : ∃ xo xc, v = .slice xo n xc := by
  subst hn
  exact owns_form h
def fewF (l : List FileS) : Bool := l.all fun f => decide (f.2.2.length ≤ 3000)
def fewH (c : List ChangeS) : Bool := c.all fun f => decide (f.2.2.2.length ≤ 3000)
def fewS (l : List FileS) (c : List ChangeS) : Bool := fewF l && (fewH c && (decide (l.length ≤ 40) && decide (c.length ≤ 40)))
theorem fewS_len {l : List FileS} {c : List ChangeS} (h : fewS l c = true) : l.length ≤ 40 ∧ c.length ≤ 40 := by
  unfold fewS at h
  simp only [Bool.and_eq_true, decide_eq_true_eq] at h
  exact h.2.2
section
set_option maxRecDepth 100000
set_option maxHeartbeats 4000000
theorem few_any (v v2 : Value) (l : List FileS) (c : List ChangeS) (w : World) (hv : SlF w v l) (hc : SlH w v2 c) (hl : l.length ≤ maxLen) (hcl : c.length ≤ maxLen) :
    Calls Tryz.prog 4 #[v, v2] w fun e w' => e = .returned (.bool (fewS l c)) ∧ w = w' := by
  obtain ⟨ao, cap, rfl⟩ := SlR.form hv
  obtain ⟨bo, cbp, rfl⟩ := SlR.form hc
  have HV := hid hv
  have HC := hid hc
  have HL := hid hl
  have HCL := hid hcl
  clear hv hc hl hcl
  go_enter Tryz.func4, Tryz.ntmps4
  go_wp2_with fail
  go_loopg [5] l.length (fun g i wr => ∃ k : Nat, k ≤ l.length ∧ l.length - k = g ∧ i = .int .i64 k ∧ Hid (fewF l = fewF (l.drop k)) ∧ w = wr)
  case atStart => exact ⟨0, Nat.zero_le _, rfl, rfl, hid rfl, rfl⟩
  case round =>
    obtain ⟨k, hk, rfl, rfl, HF, rfl⟩ := hrel
    have k0 : (0 : Int) ≤ (k : Int) := Int.natCast_nonneg _
    by_cases hlt : k < l.length
    · have k1 : (k : Int) < (l.length : Int) := by omega
      have kw : IntKind.i64.wrap ((k : Int) + 1) = (k : Int) + 1 := IntWalk.i64_in _ (by have := HL.out; unfold maxLen at this; omega)
      obtain ⟨b, o, p, x, t, hao, he, c1, c2, c3⟩ := SlF.at HV.out hlt
      subst hao
      have hd := drop_one he
      have HX := hid (show fewF l = (decide (t.length ≤ 3000) && fewF (l.drop (k + 1))) by rw [HF.out, hd]; rfl)
      clear he hd HF
      by_cases ht : t.length ≤ 3000
      · have t1 : decide (3000 < (t.length : Int)) = false := decide_eq_false (by omega)
        have t2 : decide (3000 < t.length) = false := decide_eq_false (by omega)
        have HQ := hid (show fewF l = fewF (l.drop (k + 1)) by rw [HX.out, decide_eq_true ht, Bool.true_and])
        clear HX ht
        go_wp2_with fail
        go_roundg (l.length - (k + 1))
        case measure => omega
        case rel => exact ⟨k + 1, by omega, rfl, by go_num, HQ, rfl⟩
      · have t1 : decide (3000 < (t.length : Int)) = true := decide_eq_true (by omega)
        have t2 : decide (3000 < t.length) = true := decide_eq_true (by omega)
        have HQ := hid (show fewS l c = false by unfold fewS; rw [HX.out, decide_eq_false ht]; rfl)
        clear HX ht
        go_wp2_with fail
        go_ret
        exact ⟨by rw [HQ.out]; rfl, rfl⟩
    · obtain rfl : k = l.length := by omega
      have hneg : ¬ (l.length : Int) < (l.length : Int) := by omega
      have HFT := hid (show fewF l = true by rw [HF.out, List.drop_length]; rfl)
      clear HF
      go_wp2_with fail
      go_loopg [6] c.length (fun g i wr => ∃ j : Nat, j ≤ c.length ∧ c.length - j = g ∧ i = .int .i64 j ∧ Hid (fewH c = fewH (c.drop j)) ∧ w = wr)
      case atStart => exact ⟨0, Nat.zero_le _, rfl, rfl, hid rfl, rfl⟩
      case round =>
        obtain ⟨j, hj, rfl, rfl, HF, rfl⟩ := hrel
        have j0 : (0 : Int) ≤ (j : Int) := Int.natCast_nonneg _
        by_cases hlj : j < c.length
        · have j1 : (j : Int) < (c.length : Int) := by omega
          have jw : IntKind.i64.wrap ((j : Int) + 1) = (j : Int) + 1 := IntWalk.i64_in _ (by have := HCL.out; unfold maxLen at this; omega)
          obtain ⟨b, o, p, d, x, t, hao, he, c1, c2, c3, c4⟩ := SlH.at HC.out hlj
          subst hao
          have hd := drop_one he
          have HX := hid (show fewH c = (decide (t.length ≤ 3000) && fewH (c.drop (j + 1))) by rw [HF.out, hd]; rfl)
          clear he hd HF
          by_cases ht : t.length ≤ 3000
          · have t1 : decide (3000 < (t.length : Int)) = false := decide_eq_false (by omega)
            have t2 : decide (3000 < t.length) = false := decide_eq_false (by omega)
            have HQ := hid (show fewH c = fewH (c.drop (j + 1)) by rw [HX.out, decide_eq_true ht, Bool.true_and])
            clear HX ht
            go_wp2_with fail
            go_roundg (c.length - (j + 1))
            case measure => omega
            case rel => exact ⟨j + 1, by omega, rfl, by go_num, HQ, rfl⟩
          · have t1 : decide (3000 < (t.length : Int)) = true := decide_eq_true (by omega)
            have t2 : decide (3000 < t.length) = true := decide_eq_true (by omega)
            have HQ := hid (show fewS l c = false by unfold fewS; rw [HFT.out, HX.out, decide_eq_false ht]; rfl)
            clear HX ht
            go_wp2_with fail
            go_ret
            exact ⟨by rw [HQ.out]; rfl, rfl⟩
        · obtain rfl : j = c.length := by omega
          have hneg2 : ¬ (c.length : Int) < (c.length : Int) := by omega
          have HQ := hid (show fewS l c = (decide (l.length ≤ 40) && decide (c.length ≤ 40)) by
            unfold fewS
            rw [HFT.out, show fewH c = true by rw [HF.out, List.drop_length]; rfl]
            rfl)
          clear HF
          by_cases h40 : l.length ≤ 40
          · have z1 : decide ((l.length : Int) ≤ 40) = true := decide_eq_true (by omega)
            have z2 : decide (l.length ≤ 40) = true := decide_eq_true h40
            rw [z2, Bool.true_and] at HQ
            by_cases hc40 : c.length ≤ 40
            · have z3 : decide ((c.length : Int) ≤ 40) = true := decide_eq_true (by omega)
              have z4 : decide (c.length ≤ 40) = true := decide_eq_true hc40
              rw [z4] at HQ
              clear h40 hc40
              go_wp2_with fail
              go_ret
              exact ⟨by rw [HQ.out]; rfl, rfl⟩
            · have z3 : decide ((c.length : Int) ≤ 40) = false := decide_eq_false (by omega)
              have z4 : decide (c.length ≤ 40) = false := decide_eq_false hc40
              rw [z4] at HQ
              clear h40 hc40
              go_wp2_with fail
              go_ret
              exact ⟨by rw [HQ.out]; rfl, rfl⟩
          · have z1 : decide ((l.length : Int) ≤ 40) = false := decide_eq_false (by omega)
            have z2 : decide (l.length ≤ 40) = false := decide_eq_false h40
            rw [z2, Bool.false_and] at HQ
            clear h40
            go_wp2_with fail
            go_ret
            exact ⟨by rw [HQ.out]; rfl, rfl⟩
theorem awake_any (w : World) : Calls Tryz.prog 5 #[] w fun e w' => e = .returned (.bool true) ∧ Below w.heap.size w w' := by
  have HP := hid (show Calls Tryz.prog 16 #[.slice none 0 0, .agg #[.string ⟨#[97]⟩, .bool false, .string ⟨#[120]⟩]] w _ from DPut_any _ [] ([97], false, [120]) w (SlR.nil w))
  rw [show putS [] ([97], false, [120]) = ([([97], false, [120])], 0) from by decide +kernel] at HP
  have HR := hid (fun (v : Value) (wy : World) (h : SlF wy v [([97], false, [120])]) => DRightT_any v _ wy h)
  rw [show rightT [([97], false, [120])] = true from by decide +kernel] at HR
  have HS := hid (fun (v : Value) (wy : World) (h : SlF wy v [([97], false, [120])]) => DSame_any v v _ _ wy h h (by simp))
  rw [show (([([97], false, [120])] : List FileS) == [([97], false, [120])]) = true from by decide +kernel] at HS
  have HC := hid (fun (v : Value) (wy : World) (h : SlF wy v [([97], false, [120])]) => DChanges_any v (.slice none 0 0) _ [] wy h (SlR.nil wy) (by simp) (by simp) (by simp [maxLen]) (by simp))
  rw [show changesS [([97], false, [120])] [] = [([97], true, false, [])] from by decide +kernel] at HC
  go_enter Tryz.func5, Tryz.ntmps5
  go_wp2_with (first
    | (go_at_call 16; with_reducible refine HP.out.mono ?_; rintro e w1 ⟨u1, rfl, ho1, hb1⟩; have HO1 := hid ho1.sl; obtain ⟨xo, xc, rfl⟩ := own_n 1 ho1 (by simp); have HB1 := hid hb1; clear ho1 hb1)
    | (go_at_call 17; with_reducible refine (HR.out _ _ HO1.out).mono ?_; rintro e w2 ⟨rfl, hb2⟩; have HO2 := hid (SlR.old HO1.out hb2); have HB2 := hid (below_step HB1.out hb2 HB1.out.size); clear hb2)
    | (go_at_call 18; with_reducible refine (HS.out _ _ HO2.out).mono ?_; rintro e w3 ⟨rfl, hb3⟩; have HO3 := hid (SlR.old HO2.out hb3); have HB3 := hid (below_step HB2.out hb3 HB2.out.size); clear hb3)
    | (go_at_call 11; with_reducible refine (HC.out _ _ HO3.out).mono ?_; rintro e w4 ⟨u4, rfl, ho4, hb4⟩; obtain ⟨yo, yc, rfl⟩ := own_n 1 ho4 (by simp); have HB4 := hid (below_step HB3.out hb4 HB3.out.size); clear ho4 hb4))
  go_ret
  exact ⟨rfl, HB4.out⟩
end
end Go.Proofs.YtndmblelkeepjaaGreatDoor
