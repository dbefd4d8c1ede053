/-
  Trees (the document's own): In, Only, First, and a tree of raw files, each by a contract.
-/
import Derived.Test.YtnpgfbgnbonhfaaRtrD
import Derived.Test.YtnpgfbgnbonhfaaHelpS
namespace Go.Proofs.Ytnpgfbgnbonhfaa
open Go.RowKit
open BigFrame

def inS (ps : List (List UInt8)) (p : List UInt8) : Bool := ps.any fun q => q == p
def onlyS (c : List ChangeS) (ps : List (List UInt8)) : List ChangeS := c.filter fun x => inS ps x.1
def passS (n : Nat) (c : List ChangeS) : List ChangeS := c.filter fun x => x.2.1 == (n == 0)
def restP (n : Nat) (c : List ChangeS) : List ChangeS := if n = 0 then passS 0 c ++ passS 1 c else if n = 1 then passS 1 c else []
def firstS (c : List ChangeS) : List ChangeS := passS 0 c ++ passS 1 c
def treeOne (X : List FileS) (f : FileS) : List FileS := if 2000 < f.2.2.length then X else if (putS X f).2 = 0 then (putS X f).1 else X
def treeS (l : List FileS) : List FileS := (l.take 30).foldl treeOne []
theorem owns_below {w w' : World} {b : Nat} {e : TypeId} {size : Nat} {v : Value} {n : Nat} {xs : List Value} (h : w.ownsRow b e size v n xs) (hb : Below w.heap.size w w') : w'.ownsRow b e size v n xs := by
  refine ⟨h.1, ?_⟩
  rcases h.2 with hn | ⟨g, cap, cur, rfl, hbg, hg, rest⟩
  · exact .inl hn
  · exact .inr ⟨g, cap, cur, rfl, hbg, by rw [hb.block g (Array.getElem?_eq_some_iff.1 hg).1]; exact hg, rest⟩
section
set_option maxRecDepth 100000
set_option maxHeartbeats 4000000
theorem PTree_any (v : Value) (l : List FileS) (w : World) (hv : SlF w v l)  :
    Calls Try.prog 10 #[v] w fun e w' => ∃ u, e = .returned u ∧ OwnF w' w.heap.size u (treeS l) ∧ Below w.heap.size w w' := by
  obtain ⟨ao, cap, rfl⟩ := hv.form
  have HV := hid hv
  clear hv
  go_enter Try.func10, Try.ntmps10
  go_wp2_with fail
  go_loopg [3, 4, 5, 6] l.length (fun g r i n e wr => ∃ (k : Nat) (X : List FileS), k ≤ l.length ∧ k ≤ 30 ∧ l.length - k = g ∧ i = .int .i64 k ∧ Hid (X = (l.take k).foldl treeOne []) ∧ Hid (OwnF wr w.heap.size r X) ∧ Below w.heap.size w wr)
  case atStart => exact ⟨0, [], Nat.zero_le _, Nat.zero_le _, rfl, rfl, hid rfl, hid (World.ownsRow_nil _ _ _ _), Below.refl _ _⟩
  case round =>
    obtain ⟨k, X, hk, hk30, rfl, rfl, HX, HN, hbel⟩ := hrel
    have hz := hbel.size
    have k0 : (0 : Int) ≤ (k : Int) := Int.natCast_nonneg _
    by_cases hlt : k < l.length
    · have k1 : (k : Int) < (l.length : Int) := by omega
      have kd : decide ((k : Int) < (l.length : Int)) = true := decide_eq_true k1
      by_cases h30 : k < 30
      · have k2 : (k : Int) < 30 := by omega
        have kd2 : decide ((k : Int) < 30) = true := decide_eq_true k2
        have kw : IntKind.i64.wrap ((k : Int) + 1) = (k : Int) + 1 := IntWalk.i64_in _ (by omega)
        obtain ⟨b, o, p, x, t, rfl, he, c1, c2, c3⟩ := SlF.at (HV.out.old hbel) hlt
        have ht : (l.take (k + 1)).foldl treeOne [] = treeOne X (p, x, t) := by rw [List.take_add_one, he, HX.out]; simp
        clear he HX
        by_cases htl : t.length ≤ 2000
        · have t1 : decide (2000 < (t.length : Int)) = false := decide_eq_false (by omega)
          have t2 : decide (2000 < t.length) = false := decide_eq_false (by omega)
          obtain ⟨⟨Y, en⟩, hY⟩ : ∃ y, putS X (p, x, t) = y := ⟨_, rfl⟩
          have HT := hid (show (l.take (k + 1)).foldl treeOne [] = if en = 0 then Y else X by rw [ht, treeOne, if_neg (by simp; omega), hY])
          have HP := hid (RPut_any _ X p t x wr HN.out.sl)
          rw [hY] at HP
          unfold strV at HP
          clear ht htl hY
          by_cases hen : en = 0
          · subst hen
            have HT2 := hid (show Y = (l.take (k + 1)).foldl treeOne [] by rw [HT.out, if_pos rfl])
            clear HT
            go_wp2_with (go_at_call 15; refine HP.out.mono ?_; rintro e w2 ⟨u2, rfl, ho2, hb2⟩; have HO2 := hid (owns_lower ho2 hz); have HB2 := hid (below_step hbel hb2 hz); clear ho2 hb2)
            go_roundg (l.length - (k + 1))
            case measure => omega
            case rel => exact ⟨k + 1, Y, by omega, by omega, rfl, by go_num, HT2, HO2, HB2.out⟩
          · have HT2 := hid (show X = (l.take (k + 1)).foldl treeOne [] by rw [HT.out, if_neg hen])
            have e1 : ((en : Int) == 0) = false := beq_false_of_ne (by omega)
            have e2 : (en == 0) = false := beq_false_of_ne hen
            have e3 : decide ((en : Int) = 0) = false := decide_eq_false (by omega)
            clear HT
            go_wp2_with (go_at_call 15; refine HP.out.mono ?_; rintro e w2 ⟨u2, rfl, ho2, hb2⟩; have HO2 := hid (owns_below HN.out hb2); have HB2 := hid (below_step hbel hb2 hz); clear ho2 hb2)
            go_roundg (l.length - (k + 1))
            case measure => omega
            case rel => exact ⟨k + 1, X, by omega, by omega, rfl, by go_num, HT2, HO2, HB2.out⟩
        · have t1 : decide (2000 < (t.length : Int)) = true := decide_eq_true (by omega)
          have t2 : decide (2000 < t.length) = true := decide_eq_true (by omega)
          have HT2 := hid (show X = (l.take (k + 1)).foldl treeOne [] by rw [ht, treeOne, if_pos (by simp; omega)])
          clear ht htl
          go_wp2_with fail
          go_roundg (l.length - (k + 1))
          case measure => omega
          case rel => exact ⟨k + 1, X, by omega, by omega, rfl, by go_num, HT2, HN, hbel⟩
      · have k2 : ¬ (k : Int) < 30 := by omega
        have kd2 : decide ((k : Int) < 30) = false := decide_eq_false k2
        have kd3 : decide (k < 30) = false := decide_eq_false h30
        have HT2 := hid (show X = treeS l by rw [HX.out, treeS, show k = 30 by omega])
        go_wp2_with fail
        go_ret
        rw [← HT2.out]
        exact ⟨_, rfl, HN.out, hbel⟩
    · obtain rfl : k = l.length := by omega
      have hneg : ¬ (l.length : Int) < (l.length : Int) := by omega
      have kd : decide ((l.length : Int) < (l.length : Int)) = false := decide_eq_false (by omega)
      have HT2 := hid (show X = treeS l by rw [HX.out, treeS, List.take_length, List.take_of_length_le hk30])
      go_wp2_with fail
      go_ret
      rw [← HT2.out]
      exact ⟨_, rfl, HN.out, hbel⟩
end
end Go.Proofs.Ytnpgfbgnbonhfaa
