/-
  How many lines two lists begin and end with (alike, alikeAtEnd); edits for each of some lines (add).
-/
import Derived.Test.YtgmopmlhggdefaaEdA
import Derived.Test.YtgmopmlhggdefaaStr
import Derived.Test.YtgmopmlhggdefaaRdfA
import Derived.Test.YtgmopmlhggdefaaDifL
import Derived.Deep.LoopGhost
namespace Go.Proofs.Ytgmopmlhggdefaa
open Go.RowKit

section
set_option maxRecDepth 100000
set_option maxHeartbeats 4000000
theorem DAlike_any (va vb : Value) (a b : List (List UInt8)) (w : World) (ha : Sl w va (strCells a)) (hb : Sl w vb (strCells b)) (hal : a.length ≤ 1000000) :
    Calls Try.prog 41 #[va, vb] w fun e w' => ∃ k : Nat, e = .returned (.int .i64 k) ∧ (k ≤ a.length ∧ k ≤ b.length ∧ a.take k = b.take k ∧ ∀ x y, a[k]? = some x → b[k]? = some y → x ≠ y) ∧ Below w.heap.size w w' := by
  obtain ⟨aa, ca, rfl⟩ := ha.form
  obtain ⟨ab, cb, rfl⟩ := hb.form
  rw [strCells_length] at ha hb ⊢
  rw [strCells_length]
  go_enter Try.func41, Try.ntmps41
  go_wp2_with fail
  go_loopg [5] a.length (fun g n wr => ∃ k : Nat, k ≤ a.length ∧ k ≤ b.length ∧ g = a.length - k ∧ n = .int .i64 k ∧ Hid (a.take k = b.take k) ∧ Below w.heap.size w wr)
  case atStart => exact ⟨0, Nat.zero_le _, Nat.zero_le _, rfl, rfl, hid rfl, Below.refl _ _⟩
  case round =>
    obtain ⟨k, hka, hkb, rfl, rfl, HE, hbel⟩ := hrel
    have hz := hbel.size
    have k0 : (0 : Int) ≤ (k : Int) := Int.natCast_nonneg _
    have kw : IntKind.i64.wrap ((k : Int) + 1) = (k : Int) + 1 := IntWalk.i64_in _ (by omega)
    by_cases h1 : k < a.length
    · have h1' : (k : Int) < (a.length : Int) := by omega
      by_cases h2 : k < b.length
      · have h2' : (k : Int) < (b.length : Int) := by omega
        obtain ⟨a1, x, rfl, hcx, hx⟩ := (Sl.old ha hbel).strAt' (i := k) h1
        obtain ⟨a2, y, rfl, hcy, hy⟩ := (Sl.old hb hbel).strAt' (i := k) h2
        by_cases hxy : x = y
        · subst hxy
          have hbe : (x == x) = true := by simp
          have HE' := hid (take_one_more HE.out hx hy)
          clear hx hy
          go_wp2_with fail
          go_quiet (fail)
          go_wp2_with fail
          go_roundg (a.length - (k + 1))
          case measure => omega
          case rel => exact ⟨k + 1, by omega, by omega, rfl, rfl, HE', below_step hbel (below_drewN _ _) hz⟩
        · have hbe : (x == y) = false := by simpa using hxy
          have HM := hid (show ∀ x y, a[k]? = some x → b[k]? = some y → x ≠ y from fun x' y' q1 q2 => by
            rw [hx] at q1
            rw [hy] at q2
            cases q1
            cases q2
            exact hxy)
          clear hx hy
          go_wp2_with fail
          go_quiet (fail)
          go_wp2_with fail
          go_ret
          exact ⟨k, rfl, ⟨hka, hkb, HE.out, HM.out⟩, below_step hbel (below_drewN _ _) hz⟩
      · have hn2 : ¬ (k : Int) < (b.length : Int) := by omega
        go_wp2_with fail
        go_quiet (fail)
        go_wp2_with fail
        go_ret
        exact ⟨k, rfl, ⟨hka, hkb, HE.out, fun x y _ q => absurd (List.getElem?_eq_some_iff.1 q).1 h2⟩, below_step hbel (below_drewN _ _) hz⟩
    · have hn1 : ¬ (k : Int) < (a.length : Int) := by omega
      go_wp2_with fail
      go_quiet (fail)
      go_wp2_with fail
      go_ret
      exact ⟨k, rfl, ⟨hka, hkb, HE.out, fun x y q _ => absurd (List.getElem?_eq_some_iff.1 q).1 h1⟩, below_step hbel (below_drewN _ _) hz⟩

/-- l, which the call may write, with an edit of that kind for each of xs behind it -/
theorem DAdd_any (w0 : World) (l vs : Value) (es : List (Int × List UInt8)) (kind : Int) (xs : List (List UInt8)) (w : World) (hO : OwnE w w0.heap.size l es) (hs : Sl w0 vs (strCells xs)) (hb : Below w0.heap.size w0 w) (hlen : es.length + xs.length ≤ 4000000)
    (B Z : Nat) (wA : World) (hZ : Z ≤ w.heap.size) (hA : Aside B Z wA w l) :
    Calls Try.prog 42 #[l, .int .i64 kind, vs] w fun e w' => ∃ l', e = .returned l' ∧ OwnE w' w0.heap.size l' (es ++ xs.map fun x => (kind, x)) ∧ Below w0.heap.size w0 w' ∧ w.heap.size ≤ w'.heap.size ∧ Aside B Z wA w' l' := by
  obtain ⟨ao, cap, rfl⟩ := hs.form
  rw [strCells_length] at hs ⊢
  have hw := hb.size
  go_enter Try.func42, Try.ntmps42
  go_wp2_with fail
  go_loopg [0, 11] xs.length (fun g l i wr => ∃ k : Nat, k ≤ xs.length ∧ g = xs.length - k ∧ i = .int .i64 k ∧ Hid (OwnE wr w0.heap.size l (es ++ (xs.take k).map fun x => (kind, x))) ∧ Below w0.heap.size w0 wr ∧ w.heap.size ≤ wr.heap.size ∧ Hid (Aside B Z wA wr l))
  case atStart => exact ⟨0, Nat.zero_le _, rfl, rfl, hid (by simpa using hO), hb, Nat.le_refl _, hid hA⟩
  case round =>
    obtain ⟨k, hk, rfl, rfl, HO, hbel, hz, HA⟩ := hrel
    have k0 : (0 : Int) ≤ (k : Int) := Int.natCast_nonneg _
    by_cases hlt : k < xs.length
    · have k1 : (k : Int) < (xs.length : Int) := by omega
      have kw : IntKind.i64.wrap ((k : Int) + 1) = (k : Int) + 1 := IntWalk.i64_in _ (by omega)
      obtain ⟨a1, x, rfl, hcx, hx⟩ := (Sl.old hs hbel).strAt' (i := k) hlt
      have HS := hid (show (es ++ (xs.take k).map fun x => (kind, x)) ++ [(kind, x)] = es ++ (xs.take (k + 1)).map fun x => (kind, x) by
        rw [take_snoc hx, List.map_append, List.append_assoc]
        rfl)
      have hl4 : (es ++ (xs.take k).map fun x => (kind, x)).length ≤ 4000000 := by rw [List.length_append, List.length_map, List.length_take]; omega
      obtain ⟨E, hE⟩ : ∃ E, (es ++ (xs.take k).map fun x => (kind, x)) = E := ⟨_, rfl⟩
      rw [hE] at HO HS hl4
      have HL4 := hid hl4
      have hbase : w0.heap.size ≤ wr.heap.size := hbel.size
      clear hx hE hl4
      go_wp2_with (refine wpList_append_ed2 rfl 15 19 rfl w0.heap.size _ _ kind x rfl HO.out rfl HL4.out hbase B Z wA (by omega) HA.out ?_; intro v5 w5 hown5 hb5 hA5)
      have HO' := hid (show OwnE w5 w0.heap.size v5 (es ++ (xs.take (k + 1)).map fun x => (kind, x)) by
        rw [← HS.out]
        exact hown5)
      have HA' := hid hA5
      have hb6 := hbel.trans hb5
      have hs6 := hb5.size
      clear hown5 hA5 hb5
      go_roundg (xs.length - (k + 1))
      case measure => omega
      case rel => exact ⟨k + 1, by omega, rfl, rfl, HO', hb6, by omega, HA'⟩
    · obtain rfl : k = xs.length := by omega
      have hneg : ¬ (xs.length : Int) < (xs.length : Int) := by omega
      go_wp2_with fail
      go_ret
      have := HO.out
      rw [List.take_length] at this
      exact ⟨_, rfl, this, hbel, hz, HA.out⟩
end
end Go.Proofs.Ytgmopmlhggdefaa
