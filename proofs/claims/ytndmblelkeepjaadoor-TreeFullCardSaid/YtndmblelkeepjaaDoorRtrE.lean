/-
  Trees (the document's own): In, Only, First, and a tree of raw files, each by a contract.
-/
import Derived.Test.YtndmblelkeepjaaDoorRtrD
import Derived.Test.YtndmblelkeepjaaDoorHelpS
namespace Go.Proofs.YtndmblelkeepjaaDoor
open Go.RowKit
open BigFrame

def inS (ps : List (List UInt8)) (p : List UInt8) : Bool := ps.any fun q => q == p
def onlyS (c : List ChangeS) (ps : List (List UInt8)) : List ChangeS := c.filter fun x => inS ps x.1
def passS (n : Nat) (c : List ChangeS) : List ChangeS := c.filter fun x => x.2.1 == (n == 0)
def restS (n : Nat) (c : List ChangeS) : List ChangeS := if n = 0 then passS 0 c ++ passS 1 c else if n = 1 then passS 1 c else []
def firstS (c : List ChangeS) : List ChangeS := passS 0 c ++ passS 1 c
def treeOne (X : List FileS) (f : FileS) : List FileS := if 2000 < f.2.2.length then X else if (putS X f).2 = 0 then (putS X f).1 else X
def treeS (l : List FileS) : List FileS := (l.take 30).foldl treeOne []
theorem owns_below {w w' : World} {b : Nat} {e : TypeId} {size : Nat} {v : Value} {n : Nat} {xs : List Value} (h : w.ownsRow b e size v n xs) (hb : Below w.heap.size w w') : w'.ownsRow b e size v n xs := by
  refine ⟨h.1, ?_⟩
  rcases h.2 with hn | ⟨g, cap, cur, rfl, hbg, hg, rest⟩
  · exact .inl hn
  · exact .inr ⟨g, cap, cur, rfl, hbg, by rw [hb.block g (Array.getElem?_eq_some_iff.1 hg).1]; exact hg, rest⟩
section
set_option maxRecDepth 100000
set_option maxHeartbeats 4000000
theorem RFirst_any (v : Value) (c : List ChangeS) (w : World) (hv : SlH w v c) (hl : c.length ≤ 100000) :
    Calls Tryd.prog 25 #[v] w fun e w' => ∃ u, e = .returned u ∧ OwnH w' w.heap.size u (firstS c) ∧ Below w.heap.size w w' := by
  obtain ⟨ao, cap, rfl⟩ := hv.form
  have HV := hid hv
  have HL := hid hl
  clear hv hl
  go_enter Tryd.func25, Tryd.ntmps25
  go_wp2_with fail
  go_loopg [3, 4, 5] 2 (fun g r n i wr => ∃ (m : Nat) (X : List ChangeS), m ≤ 2 ∧ 2 - m = g ∧ n = .int .i64 m ∧ Hid (X ++ restS m c = firstS c) ∧ Hid (OwnH wr w.heap.size r X) ∧ X.length ≤ m * c.length ∧ Below w.heap.size w wr)
  case atStart => exact ⟨0, [], Nat.zero_le _, rfl, rfl, hid rfl, hid (World.ownsRow_nil _ _ _ _), Nat.zero_le _, Below.refl _ _⟩
  case round =>
    obtain ⟨m, X, hm, rfl, rfl, HX, HN, hXl, hbel⟩ := hrel
    rcases (show m = 0 ∨ m = 1 ∨ m = 2 by omega) with rfl | rfl | rfl
    · skip
      go_wp2_with fail
      go_loopg [3, 5] c.length (fun g r i wy => ∃ (k : Nat) (Y : List ChangeS), k ≤ c.length ∧ c.length - k = g ∧ i = .int .i64 k ∧ Hid (Y ++ passS 0 (c.drop k) ++ restS 1 c = firstS c) ∧ Hid (OwnH wy w.heap.size r Y) ∧ Y.length ≤ 0 * c.length + k ∧ Below w.heap.size w wy)
      case atStart => exact ⟨0, X, Nat.zero_le _, rfl, rfl, hid (by rw [← HX.out]; simp [restS]), HN, by omega, hbel⟩
      case round =>
        obtain ⟨k, Y, hk, rfl, rfl, HY, HM, hYl, hbey⟩ := hrel
        clear HX HN
        have hz := hbey.size
        have k0 : (0 : Int) ≤ (k : Int) := Int.natCast_nonneg _
        have hll := HL.out
        by_cases hlt : k < c.length
        · have k1 : (k : Int) < (c.length : Int) := by omega
          have kw : IntKind.i64.wrap ((k : Int) + 1) = (k : Int) + 1 := IntWalk.i64_in _ (by omega)
          obtain ⟨b, o, p, d, x, t, rfl, he, c0, c1, c2, c3⟩ := SlH.at (HV.out.old hbey) hlt
          have hd := drop_one he
          clear he
          cases d with
          | false =>
            have HX2 := hid (show Y ++ passS 0 (c.drop (k + 1)) ++ restS 1 c = firstS c by rw [← HY.out, hd]; simp [passS])
            clear hd HY
            go_wp2_with fail
            go_roundg (c.length - (k + 1))
            case measure => omega
            case rel => exact ⟨k + 1, Y, by omega, rfl, by go_num, HX2, HM, by omega, hbey⟩
          | true =>
            have HX2 := hid (show Y ++ [(p, true, x, t)] ++ passS 0 (c.drop (k + 1)) ++ restS 1 c = firstS c by rw [← HY.out, hd]; simp [passS])
            clear hd HY
            go_wp2_with (at_builtin; refine wpList_append_h1 rfl (.tmp 24) (.tmp 29) rfl w.heap.size _ Y (p, true, x, t) rfl HM.out _ rfl rfl (by omega) hz ?_; intro v5 w5 hO5 hb5; have HO5 := hid hO5; have hb6 := hbey.trans hb5; clear hO5 hb5)
            go_roundg (c.length - (k + 1))
            case measure => omega
            case rel => exact ⟨k + 1, Y ++ [(p, true, x, t)], by omega, rfl, by go_num, HX2, HO5, by simp; omega, hb6⟩
        · obtain rfl : k = c.length := by omega
          have hneg : ¬ (c.length : Int) < (c.length : Int) := by omega
          have HX2 := hid (show Y ++ restS 1 c = firstS c by rw [← HY.out, List.drop_length]; simp [passS])
          clear HY
          go_wp2_with fail
          go_roundg 1
          case measure => omega
          case rel => exact ⟨1, Y, by omega, rfl, rfl, HX2, HM, by omega, hbey⟩
    · skip
      go_wp2_with fail
      go_loopg [3, 5] c.length (fun g r i wy => ∃ (k : Nat) (Y : List ChangeS), k ≤ c.length ∧ c.length - k = g ∧ i = .int .i64 k ∧ Hid (Y ++ passS 1 (c.drop k) ++ restS 2 c = firstS c) ∧ Hid (OwnH wy w.heap.size r Y) ∧ Y.length ≤ 1 * c.length + k ∧ Below w.heap.size w wy)
      case atStart => exact ⟨0, X, Nat.zero_le _, rfl, rfl, hid (by rw [← HX.out]; simp [restS]), HN, by omega, hbel⟩
      case round =>
        obtain ⟨k, Y, hk, rfl, rfl, HY, HM, hYl, hbey⟩ := hrel
        clear HX HN
        have hz := hbey.size
        have k0 : (0 : Int) ≤ (k : Int) := Int.natCast_nonneg _
        have hll := HL.out
        by_cases hlt : k < c.length
        · have k1 : (k : Int) < (c.length : Int) := by omega
          have kw : IntKind.i64.wrap ((k : Int) + 1) = (k : Int) + 1 := IntWalk.i64_in _ (by omega)
          obtain ⟨b, o, p, d, x, t, rfl, he, c0, c1, c2, c3⟩ := SlH.at (HV.out.old hbey) hlt
          have hd := drop_one he
          clear he
          cases d with
          | false =>
            have HX2 := hid (show Y ++ [(p, false, x, t)] ++ passS 1 (c.drop (k + 1)) ++ restS 2 c = firstS c by rw [← HY.out, hd]; simp [passS])
            clear hd HY
            go_wp2_with (at_builtin; refine wpList_append_h1 rfl (.tmp 24) (.tmp 29) rfl w.heap.size _ Y (p, false, x, t) rfl HM.out _ rfl rfl (by omega) hz ?_; intro v5 w5 hO5 hb5; have HO5 := hid hO5; have hb6 := hbey.trans hb5; clear hO5 hb5)
            go_roundg (c.length - (k + 1))
            case measure => omega
            case rel => exact ⟨k + 1, Y ++ [(p, false, x, t)], by omega, rfl, by go_num, HX2, HO5, by simp; omega, hb6⟩
          | true =>
            have HX2 := hid (show Y ++ passS 1 (c.drop (k + 1)) ++ restS 2 c = firstS c by rw [← HY.out, hd]; simp [passS])
            clear hd HY
            go_wp2_with fail
            go_roundg (c.length - (k + 1))
            case measure => omega
            case rel => exact ⟨k + 1, Y, by omega, rfl, by go_num, HX2, HM, by omega, hbey⟩
        · obtain rfl : k = c.length := by omega
          have hneg : ¬ (c.length : Int) < (c.length : Int) := by omega
          have HX2 := hid (show Y ++ restS 2 c = firstS c by rw [← HY.out, List.drop_length]; simp [passS])
          clear HY
          go_wp2_with fail
          go_roundg 0
          case measure => omega
          case rel => exact ⟨2, Y, by omega, rfl, rfl, HX2, HM, by omega, hbey⟩
    · have HX2 := hid (show X = firstS c by rw [← HX.out]; simp [restS])
      clear HX
      go_wp2_with fail
      go_ret
      rw [← HX2.out]
      exact ⟨_, rfl, HN.out, hbel⟩
theorem PTree_any (v : Value) (l : List FileS) (w : World) (hv : SlF w v l)  :
    Calls Tryd.prog 22 #[v] w fun e w' => ∃ u, e = .returned u ∧ OwnF w' w.heap.size u (treeS l) ∧ Below w.heap.size w w' := by
  obtain ⟨ao, cap, rfl⟩ := hv.form
  have HV := hid hv
  clear hv
  go_enter Tryd.func22, Tryd.ntmps22
  go_wp2_with fail
  go_loopg [3, 4, 5, 6] l.length (fun g r i n e wr => ∃ (k : Nat) (X : List FileS), k ≤ l.length ∧ k ≤ 30 ∧ l.length - k = g ∧ i = .int .i64 k ∧ Hid (X = (l.take k).foldl treeOne []) ∧ Hid (OwnF wr w.heap.size r X) ∧ Below w.heap.size w wr)
  case atStart => exact ⟨0, [], Nat.zero_le _, Nat.zero_le _, rfl, rfl, hid rfl, hid (World.ownsRow_nil _ _ _ _), Below.refl _ _⟩
  case round =>
    obtain ⟨k, X, hk, hk30, rfl, rfl, HX, HN, hbel⟩ := hrel
    have hz := hbel.size
    have k0 : (0 : Int) ≤ (k : Int) := Int.natCast_nonneg _
    by_cases hlt : k < l.length
    · have k1 : (k : Int) < (l.length : Int) := by omega
      have kd : decide ((k : Int) < (l.length : Int)) = true := decide_eq_true k1
      by_cases h30 : k < 30
      · have k2 : (k : Int) < 30 := by omega
        have kd2 : decide ((k : Int) < 30) = true := decide_eq_true k2
        have kw : IntKind.i64.wrap ((k : Int) + 1) = (k : Int) + 1 := IntWalk.i64_in _ (by omega)
        obtain ⟨b, o, p, x, t, rfl, he, c1, c2, c3⟩ := SlF.at (HV.out.old hbel) hlt
        have ht : (l.take (k + 1)).foldl treeOne [] = treeOne X (p, x, t) := by rw [List.take_add_one, he, HX.out]; simp
        clear he HX
        by_cases htl : t.length ≤ 2000
        · have t1 : decide (2000 < (t.length : Int)) = false := decide_eq_false (by omega)
          have t2 : decide (2000 < t.length) = false := decide_eq_false (by omega)
          obtain ⟨⟨Y, en⟩, hY⟩ : ∃ y, putS X (p, x, t) = y := ⟨_, rfl⟩
          have HT := hid (show (l.take (k + 1)).foldl treeOne [] = if en = 0 then Y else X by rw [ht, treeOne, if_neg (by simp; omega), hY])
          have HP := hid (RPut_any _ X p t x wr HN.out.sl)
          rw [hY] at HP
          unfold strV at HP
          clear ht htl hY
          by_cases hen : en = 0
          · subst hen
            have HT2 := hid (show Y = (l.take (k + 1)).foldl treeOne [] by rw [HT.out, if_pos rfl])
            clear HT
            go_wp2_with (go_at_call 14; refine HP.out.mono ?_; rintro e w2 ⟨u2, rfl, ho2, hb2⟩; have HO2 := hid (owns_lower ho2 hz); have HB2 := hid (below_step hbel hb2 hz); clear ho2 hb2)
            go_roundg (l.length - (k + 1))
            case measure => omega
            case rel => exact ⟨k + 1, Y, by omega, by omega, rfl, by go_num, HT2, HO2, HB2.out⟩
          · have HT2 := hid (show X = (l.take (k + 1)).foldl treeOne [] by rw [HT.out, if_neg hen])
            have e1 : ((en : Int) == 0) = false := beq_false_of_ne (by omega)
            have e2 : (en == 0) = false := beq_false_of_ne hen
            have e3 : decide ((en : Int) = 0) = false := decide_eq_false (by omega)
            clear HT
            go_wp2_with (go_at_call 14; refine HP.out.mono ?_; rintro e w2 ⟨u2, rfl, ho2, hb2⟩; have HO2 := hid (owns_below HN.out hb2); have HB2 := hid (below_step hbel hb2 hz); clear ho2 hb2)
            go_roundg (l.length - (k + 1))
            case measure => omega
            case rel => exact ⟨k + 1, X, by omega, by omega, rfl, by go_num, HT2, HO2, HB2.out⟩
        · have t1 : decide (2000 < (t.length : Int)) = true := decide_eq_true (by omega)
          have t2 : decide (2000 < t.length) = true := decide_eq_true (by omega)
          have HT2 := hid (show X = (l.take (k + 1)).foldl treeOne [] by rw [ht, treeOne, if_pos (by simp; omega)])
          clear ht htl
          go_wp2_with fail
          go_roundg (l.length - (k + 1))
          case measure => omega
          case rel => exact ⟨k + 1, X, by omega, by omega, rfl, by go_num, HT2, HN, hbel⟩
      · have k2 : ¬ (k : Int) < 30 := by omega
        have kd2 : decide ((k : Int) < 30) = false := decide_eq_false k2
        have kd3 : decide (k < 30) = false := decide_eq_false h30
        have HT2 := hid (show X = treeS l by rw [HX.out, treeS, show k = 30 by omega])
        go_wp2_with fail
        go_ret
        rw [← HT2.out]
        exact ⟨_, rfl, HN.out, hbel⟩
    · obtain rfl : k = l.length := by omega
      have hneg : ¬ (l.length : Int) < (l.length : Int) := by omega
      have kd : decide ((l.length : Int) < (l.length : Int)) = false := decide_eq_false (by omega)
      have HT2 := hid (show X = treeS l by rw [HX.out, treeS, List.take_length, List.take_of_length_le hk30])
      go_wp2_with fail
      go_ret
      rw [← HT2.out]
      exact ⟨_, rfl, HN.out, hbel⟩
end
end Go.Proofs.YtndmblelkeepjaaDoor
