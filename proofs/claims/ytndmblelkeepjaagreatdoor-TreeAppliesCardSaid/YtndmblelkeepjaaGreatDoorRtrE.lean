/-
  Trees (the document's own): In, Only, First, and a tree of raw files, each by a contract.
-/
import Derived.Test.YtndmblelkeepjaaGreatDoorRtrD
import Derived.Test.YtndmblelkeepjaaGreatDoorHelpS
namespace Go.Proofs.YtndmblelkeepjaaGreatDoor
open Go.RowKit
open BigFrame

def inS (ps : List (List UInt8)) (p : List UInt8) : Bool := ps.any fun q => q == p
def onlyS (c : List ChangeS) (ps : List (List UInt8)) : List ChangeS := c.filter fun x => inS ps x.1
def passS (n : Nat) (c : List ChangeS) : List ChangeS := c.filter fun x => x.2.1 == (n == 0)
def restS (n : Nat) (c : List ChangeS) : List ChangeS := if n = 0 then passS 0 c ++ passS 1 c else if n = 1 then passS 1 c else []
def firstS (c : List ChangeS) : List ChangeS := passS 0 c ++ passS 1 c
def treeOne (X : List FileS) (f : FileS) : List FileS := if 2000 < f.2.2.length then X else if (putS X f).2 = 0 then (putS X f).1 else X
def treeS (l : List FileS) : List FileS := (l.take 30).foldl treeOne []
theorem owns_below {w w' : World} {b : Nat} {e : TypeId} {size : Nat} {v : Value} {n : Nat} {xs : List Value} (h : w.ownsRow b e size v n xs) (hb : Below w.heap.size w w') : w'.ownsRow b e size v n xs := by
  refine ⟨h.1, ?_⟩
  rcases h.2 with hn | ⟨g, cap, cur, rfl, hbg, hg, rest⟩
  · exact .inl hn
  · exact .inr ⟨g, cap, cur, rfl, hbg, by rw [hb.block g (Array.getElem?_eq_some_iff.1 hg).1]; exact hg, rest⟩
section
set_option maxRecDepth 100000
set_option maxHeartbeats 4000000
theorem RIn_any (v : Value) (l : List (List UInt8)) (p : List UInt8) (w : World) (hv : Sl w v (strCells l)) (hl : l.length ≤ 4611686018427387904) :
    Calls Tryz.prog 32 #[v, strV p] w fun e w' => e = .returned (.bool (inS l p)) ∧ w = w' := by
  obtain ⟨ao, cap, rfl⟩ := hv.form
  rw [strCells_length] at *
  have HV := hid hv
  have HL := hid hl
  clear hv hl
  unfold strV
  go_enter Tryz.func32, Tryz.ntmps32
  go_wp2_with fail
  go_loopg [5] l.length (fun g i wr => ∃ k : Nat, k ≤ l.length ∧ l.length - k = g ∧ i = .int .i64 k ∧ Hid (inS l p = inS (l.drop k) p) ∧ wr = w)
  case atStart => exact ⟨0, Nat.zero_le _, rfl, rfl, hid rfl, rfl⟩
  case round =>
    obtain ⟨k, hk, rfl, rfl, HF, rfl⟩ := hrel
    have k0 : (0 : Int) ≤ (k : Int) := Int.natCast_nonneg _
    by_cases hlt : k < l.length
    · have k1 : (k : Int) < (l.length : Int) := by omega
      have kw : IntKind.i64.wrap ((k : Int) + 1) = (k : Int) + 1 := IntWalk.i64_in _ (by have := HL.out; omega)
      obtain ⟨a, q, rfl, c1, he⟩ := Sl.strAt' HV.out hlt
      have hd := drop_one he
      have HX := hid (show inS l p = (q == p || inS (l.drop (k + 1)) p) by rw [HF.out, hd]; rfl)
      clear he hd HF
      by_cases hq : q = p
      · subst hq
        have hpb : (q == q) = true := by simp
        have HX2 := hid (show inS l q = true by rw [HX.out, hpb]; rfl)
        clear HX
        go_wp2_with fail
        go_ret
        exact ⟨by rw [HX2.out]; rfl, rfl⟩
      · have hpb : (q == p) = false := by simpa using hq
        have HX2 := hid (show inS l p = inS (l.drop (k + 1)) p by rw [HX.out, hpb]; rfl)
        clear HX
        go_wp2_with fail
        go_roundg (l.length - (k + 1))
        case measure => omega
        case rel => exact ⟨k + 1, by omega, rfl, by go_num, HX2, rfl⟩
    · obtain rfl : k = l.length := by omega
      have hneg : ¬ (l.length : Int) < (l.length : Int) := by omega
      have HR := hid (show inS l p = false by rw [HF.out, List.drop_length]; rfl)
      go_wp2_with fail
      go_ret
      exact ⟨by rw [HR.out]; rfl, rfl⟩
theorem ROnly_any (v v2 : Value) (c : List ChangeS) (ps : List (List UInt8)) (w : World) (hv : SlH w v c) (hp : Sl w v2 (strCells ps)) (hl : c.length ≤ 100000) (hpl : ps.length ≤ 4611686018427387904) :
    Calls Tryz.prog 14 #[v, v2] w fun e w' => ∃ u, e = .returned u ∧ OwnH w' w.heap.size u (onlyS c ps) ∧ Below w.heap.size w w' := by
  obtain ⟨ao, cap, rfl⟩ := hv.form
  have HV := hid hv
  have HL := hid hl
  have HI := hid (fun (p : List UInt8) (wy : World) (h : Below w.heap.size w wy) => RIn_any v2 ps p wy (Sl.old hp h) hpl)
  unfold strV at HI
  clear hv hl hp hpl
  go_enter Tryz.func14, Tryz.ntmps14
  go_wp2_with fail
  go_loopg [5, 6] c.length (fun g r i wr => ∃ (k : Nat) (X : List ChangeS), k ≤ c.length ∧ c.length - k = g ∧ i = .int .i64 k ∧ Hid (X = onlyS (c.take k) ps) ∧ Hid (OwnH wr w.heap.size r X) ∧ X.length ≤ k ∧ Below w.heap.size w wr)
  case atStart => exact ⟨0, [], Nat.zero_le _, rfl, rfl, hid rfl, hid (World.ownsRow_nil _ _ _ _), Nat.zero_le _, Below.refl _ _⟩
  case round =>
    obtain ⟨k, X, hk, rfl, rfl, HX, HN, hXl, hbel⟩ := hrel
    have hz := hbel.size
    have k0 : (0 : Int) ≤ (k : Int) := Int.natCast_nonneg _
    have hll := HL.out
    by_cases hlt : k < c.length
    · have k1 : (k : Int) < (c.length : Int) := by omega
      have kw : IntKind.i64.wrap ((k : Int) + 1) = (k : Int) + 1 := IntWalk.i64_in _ (by omega)
      obtain ⟨b, o, p, d, x, t, rfl, he, c0, c1, c2, c3⟩ := SlH.at (HV.out.old hbel) hlt
      have ht : c.take (k + 1) = c.take k ++ [(p, d, x, t)] := by rw [List.take_add_one, he]; rfl
      have HIn := hid (HI.out p wr hbel)
      obtain ⟨y, hy⟩ : ∃ y, inS ps p = y := ⟨_, rfl⟩
      rw [hy] at HIn
      clear he
      cases y with
      | false =>
        have HX2 := hid (show X = onlyS (c.take (k + 1)) ps by rw [HX.out, ht]; simp [onlyS, hy])
        clear ht HX hy
        go_wp2_with (go_at_call 32; refine HIn.out.mono ?_; rintro e _ ⟨rfl, rfl⟩)
        go_roundg (c.length - (k + 1))
        case measure => omega
        case rel => exact ⟨k + 1, X, by omega, rfl, by go_num, HX2, HN, by omega, hbel⟩
      | true =>
        have HX2 := hid (show X ++ [(p, d, x, t)] = onlyS (c.take (k + 1)) ps by rw [HX.out, ht]; simp [onlyS, hy])
        clear ht HX hy
        go_wp2_with (first
          | (go_at_call 32; refine HIn.out.mono ?_; rintro e _ ⟨rfl, rfl⟩)
          | (at_builtin; refine wpList_append_h1 rfl (.tmp 20) (.tmp 25) rfl w.heap.size _ X (p, d, x, t) rfl HN.out _ rfl rfl (by omega) hz ?_; intro v5 w5 hO5 hb5; have HO5 := hid hO5; have hb6 := hbel.trans hb5; clear hO5 hb5))
        go_roundg (c.length - (k + 1))
        case measure => omega
        case rel => exact ⟨k + 1, X ++ [(p, d, x, t)], by omega, rfl, by go_num, HX2, HO5, by simp; omega, hb6⟩
    · obtain rfl : k = c.length := by omega
      have hneg : ¬ (c.length : Int) < (c.length : Int) := by omega
      have HX2 := hid (show X = onlyS c ps by rw [HX.out, List.take_length])
      go_wp2_with fail
      go_ret
      rw [← HX2.out]
      exact ⟨_, rfl, HN.out, hbel⟩
end
end Go.Proofs.YtndmblelkeepjaaGreatDoor
