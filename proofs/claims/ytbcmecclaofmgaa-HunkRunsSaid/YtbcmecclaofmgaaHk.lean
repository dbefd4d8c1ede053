/-
  Lists of hunks in memory; two of them held against each other; whether they are right (the document's own).
-/
import Derived.Test.YtbcmecclaofmgaaHelpS
import Derived.Test.YtbcmecclaofmgaaHkM
import Derived.Test.YtbcmecclaofmgaaQuiet
import Derived.Deep.LoopGhost
namespace Go.Proofs.Ytbcmecclaofmgaa
open Go.RowKit

abbrev HkS := Hk (List UInt8)
/-- A list of hunks is shown. -/
def SlH (w : World) (v : Value) (hs : List HkS) : Prop :=
  ∃ ao cap, v = .slice ao hs.length cap ∧ (ao = none → hs = []) ∧ hs.length ≤ cap ∧ ∀ a, ao = some a → ∀ i h, hs[i]? = some h → ∃ vo vn, w.cell? (a.add (i * 3)) = some (.int .i64 h.1) ∧ w.cell? (a.add (i * 3 + 1)) = some vo ∧ w.cell? (a.add (i * 3 + 2)) = some vn ∧ Sl w vo (strCells h.2.1) ∧ Sl w vn (strCells h.2.2)
theorem SlH.nil (w : World) : SlH w (.slice none 0 0) [] := ⟨none, 0, rfl, fun _ => rfl, Nat.le_refl _, fun a h => by cases h⟩
theorem SlH.form {w : World} {v : Value} {hs : List HkS} (h : SlH w v hs) : ∃ ao cap, v = .slice ao hs.length cap := by
  obtain ⟨ao, cap, rfl, _⟩ := h
  exact ⟨ao, cap, rfl⟩
theorem SlH.old {w w' : World} {v : Value} {hs : List HkS} (h : SlH w v hs) (hk : Below w.heap.size w w') : SlH w' v hs := by
  obtain ⟨ao, cap, rfl, hn, hcap, hc⟩ := h
  refine ⟨ao, cap, rfl, hn, hcap, fun a ha i h hi => ?_⟩
  obtain ⟨vo, vn, h1, h2, h3, h4, h5⟩ := hc a ha i h hi
  have k : ∀ {p : Addr} {u : Value}, w.cell? p = some u → w'.cell? p = some u := fun {p u} hp => (World.cell?_of_block (w := w) (hk.block _ (World.block_lt_of_cell? w _ hp))).trans hp
  exact ⟨vo, vn, k h1, k h2, k h3, h4.old hk, h5.old hk⟩
theorem SlH.at' {w : World} {ao : Option Addr} {n cap : Nat} {hs : List HkS} (h : SlH w (.slice ao n cap) hs) {i : Nat} (hi : i < hs.length) :
    ∃ b o k old new vo vn, ao = some ⟨b, o, none⟩ ∧ w.cell? ⟨b, o + i * 3, none⟩ = some (.int .i64 k) ∧ w.cell? ⟨b, o + i * 3 + 1, none⟩ = some vo ∧ w.cell? ⟨b, o + i * 3 + 2, none⟩ = some vn ∧ Sl w vo (strCells old) ∧ Sl w vn (strCells new) ∧ hs[i]? = some (k, old, new) := by
  obtain ⟨ao', cap', hv, hn, _, hc⟩ := h
  obtain ⟨rfl, _, _⟩ := Value.slice.inj hv
  cases ao with
  | none => rw [hn rfl] at hi; cases hi
  | some a =>
    obtain ⟨b, o, sp⟩ := a
    obtain ⟨vo, vn, h1, h2, h3, h4, h5⟩ := hc _ rfl i _ (List.getElem?_eq_getElem hi)
    obtain ⟨vo0, vn0, h0, _⟩ := hc _ rfl 0 _ (List.getElem?_eq_getElem (by omega))
    rw [Nat.zero_mul, show (⟨b, o, sp⟩ : Addr).add 0 = ⟨b, o, sp⟩ from rfl] at h0
    have hsp : sp = none := World.cell?_spot h0
    subst hsp
    have hadd : ∀ j, (⟨b, o, none⟩ : Addr).add j = ⟨b, o + j, none⟩ := fun j => Addr.add_lit ..
    rw [hadd] at h1 h2 h3
    rw [← Nat.add_assoc] at h2 h3
    exact ⟨b, o, _, _, _, vo, vn, rfl, h1, h2, h3, h4, h5, List.getElem?_eq_getElem hi⟩
/-- none of them has too many lines -/
def hkFew (hs : List HkS) : Prop := ∀ h ∈ hs, h.2.1.length ≤ 1000000 ∧ h.2.2.length ≤ 1000000
theorem hkFew.at {hs : List HkS} (h : hkFew hs) {i : Nat} {k : Int} {old new : List (List UInt8)} (hi : hs[i]? = some (k, old, new)) : old.length ≤ 1000000 ∧ new.length ≤ 1000000 := h _ (List.mem_of_getElem? hi)

section
set_option maxRecDepth 100000
set_option maxHeartbeats 4000000
theorem RRight_any (v : Value) (hs : List HkS) (w : World) (hv : SlH w v hs) (hf : hkFew hs) (hl : hs.length ≤ 1000000) :
    Calls Try.prog 19 #[v] w fun e w' => e = .returned (.bool (rightS hs)) ∧ Below w.heap.size w w' := by
  obtain ⟨ao, cap, rfl⟩ := hv.form
  have HV := hid hv
  have HF := hid hf
  clear hv hf
  go_enter Try.func19, Try.ntmps19
  go_wp2_with fail
  go_loopg [3] hs.length (fun g i wr => ∃ k : Nat, k ≤ hs.length ∧ g = hs.length - k ∧ i = .int .i64 k ∧ Hid (rightS hs = rightFrom (loAt hs k) (hs.drop k)) ∧ Hid (∀ p, 0 < k → hs[k - 1]? = some p → 0 ≤ p.1 ∧ p.1 ≤ 2147483647) ∧ Below w.heap.size w wr)
  case atStart => exact ⟨0, Nat.zero_le _, rfl, rfl, hid (by rw [loAt_zero, List.drop_zero]; rfl), hid (fun p h => absurd h (Nat.lt_irrefl 0)), Below.refl _ _⟩
  case round =>
    obtain ⟨k, hk, rfl, rfl, HR, HP, hbel⟩ := hrel
    have hz := hbel.size
    have k0 : (0 : Int) ≤ (k : Int) := Int.natCast_nonneg _
    by_cases hlt : k < hs.length
    · have k1 : (k : Int) < (hs.length : Int) := by omega
      have kw : IntKind.i64.wrap ((k : Int) + 1) = (k : Int) + 1 := IntWalk.i64_in _ (by omega)
      obtain ⟨b, o, z, old, new, vo, vn, rfl, c1, c2, c3, s1, s2, he⟩ := (HV.out.old hbel).at' (i := k) hlt
      obtain ⟨oo, oc, rfl⟩ := s1.form
      obtain ⟨no, nc, rfl⟩ := s2.form
      rw [strCells_length] at c2 c3
      obtain ⟨l1, l2⟩ := HF.out.at he
      have HST := hid (right_step he (loAt hs k))
      have HLO := hid (loAt_succ he)
      have sw : IntKind.i64.wrap ((old.length : Int) + (new.length : Int)) = (old.length : Int) + (new.length : Int) := IntWalk.i64_in _ (by omega)
      have hno : okOne (z, old, new) = false → rightS hs = false := fun h => by rw [HR.out, HST.out, h]; rfl
      have HNO := hid hno
      have HE := hid he
      clear he hno s1 s2
      rcases (show z < 0 ∨ (¬ z < 0 ∧ 2147483647 < z) ∨ (¬ z < 0 ∧ ¬ 2147483647 < z ∧ (old.length : Int) + (new.length : Int) = 0) ∨ (¬ z < 0 ∧ ¬ 2147483647 < z ∧ ¬ (old.length : Int) + (new.length : Int) = 0) by omega) with h1 | ⟨h1, h2⟩ | ⟨h1, h2, h3⟩ | ⟨h1, h2, h3⟩
      · have HN := hid (HNO.out (by rw [Bool.eq_false_iff]; intro h; exact absurd (okOne_iff.1 h).1 (by show ¬ 0 ≤ z; omega)))
        go_wp2_with fail
        go_quiet (fail)
        go_wp2_with fail
        go_ret
        exact ⟨by rw [HN.out]; rfl, below_step hbel (below_drewN _ _) hz⟩
      · have d1 : decide (z < 0) = false := decide_eq_false h1
        have d2 : decide (2147483647 < z) = true := decide_eq_true h2
        have HN := hid (HNO.out (by rw [Bool.eq_false_iff]; intro h; exact absurd (okOne_iff.1 h).2.1 (by show ¬ z ≤ 2147483647; omega)))
        go_wp2_with fail
        go_quiet (fail)
        go_wp2_with fail
        go_ret
        exact ⟨by rw [HN.out]; rfl, below_step hbel (below_drewN _ _) hz⟩
      · have d1 : decide (z < 0) = false := decide_eq_false h1
        have d2 : decide (2147483647 < z) = false := decide_eq_false h2
        have HN := hid (HNO.out (by rw [Bool.eq_false_iff]; intro h; exact absurd (okOne_iff.1 h).2.2 (by show ¬ 0 < old.length + new.length; omega)))
        have h3b : ((old.length : Int) + (new.length : Int) == 0) = true := by simpa using h3
        go_wp2_with fail
        go_quiet (fail)
        go_wp2_with fail
        go_ret
        exact ⟨by rw [HN.out]; rfl, below_step hbel (below_drewN _ _) hz⟩
      · have d1 : decide (z < 0) = false := decide_eq_false h1
        have d2 : decide (2147483647 < z) = false := decide_eq_false h2
        have HOK := hid (show okOne (z, old, new) = true from okOne_iff.2 ⟨by show 0 ≤ z; omega, by show z ≤ 2147483647; omega, by show 0 < old.length + new.length; omega⟩)
        have h3b : ((old.length : Int) + (new.length : Int) == 0) = false := by simpa using h3
        have HNEXT := hid (show ∀ p, 0 < k + 1 → hs[k + 1 - 1]? = some p → 0 ≤ p.1 ∧ p.1 ≤ 2147483647 from fun p _ hp => by
          rw [Nat.add_sub_cancel, HE.out] at hp
          cases hp
          exact ⟨by show 0 ≤ z; omega, by show z ≤ 2147483647; omega⟩)
        go_wp2_with fail
        go_quiet (fail)
        have c1' : (wr.drewN nq).cell? ⟨b, o + k * 3, none⟩ = _ := c1
        have hb2 : Below w.heap.size w (wr.drewN nq) := below_step hbel (below_drewN _ _) hz
        clear c1 c2 c3 hbel hz h3 h3b h1 h2 sw d1 d2
        generalize wr.drewN nq = wa at c1' hb2 ⊢
        by_cases hk0 : k = 0
        · subst hk0
          have HT := hid (show rightS hs = rightFrom (loAt hs (0 + 1)) (hs.drop (0 + 1)) by
            rw [HR.out, HST.out, HOK.out, HLO.out, loAt_zero, decide_eq_true (show (0 : Int) ≤ (z, old, new).1 from (okOne_iff.1 HOK.out).1)]
            rfl)
          have g0 : ¬ (0 : Int) < ((0 : Nat) : Int) := by omega
          go_wp2_with fail
          go_quiet (fail)
          go_wp2_with fail
          go_roundg (hs.length - (0 + 1))
          case measure => omega
          case rel => exact ⟨0 + 1, by omega, rfl, rfl, HT, HNEXT, below_step hb2 (below_drewN _ _) hb2.size⟩
        · obtain ⟨j, rfl⟩ : ∃ j, k = j + 1 := ⟨k - 1, by omega⟩
          have g0 : (0 : Int) < ((j + 1 : Nat) : Int) := by omega
          obtain ⟨b', o', y, pold, pnew, pvo, pvn, eb, d1, d2, d3, t1, t2, he2⟩ := (HV.out.old hb2).at' (i := j) (by omega)
          cases eb
          obtain ⟨po, pc, rfl⟩ := t1.form
          rw [strCells_length] at d2
          obtain ⟨m1, m2⟩ := HF.out.at he2
          obtain ⟨y0, y1⟩ := HP.out _ (by omega) he2
          have HL2 := hid (loAt_succ he2)
          have jw : IntKind.i64.wrap (((j + 1 : Nat) : Int) - 1) = (j : Int) := (IntWalk.i64_in _ (by omega)).trans (by omega)
          have j0 : (0 : Int) ≤ (j : Int) := Int.natCast_nonneg _
          have j1 : (j : Int) < (hs.length : Int) := by omega
          have y0 : 0 ≤ y := y0
          have y1 : y ≤ 2147483647 := y1
          have yw : IntKind.i64.wrap (y + (pold.length : Int)) = y + (pold.length : Int) := IntWalk.i64_in _ (by omega)
          clear d3 t1 t2 he2 HP
          by_cases hlo : z < y + (pold.length : Int)
          · have HN := hid (show rightS hs = false by
              rw [HR.out, HST.out, HL2.out, HOK.out, decide_eq_false (show ¬ (y, pold, pnew).1 + ((y, pold, pnew).2.1.length : Int) ≤ (z, old, new).1 from by show ¬ y + (pold.length : Int) ≤ z; omega)]
              rfl)
            go_wp2_with fail
            go_quiet (fail)
            go_wp2_with fail
            go_ret
            exact ⟨by rw [HN.out]; rfl, below_step hb2 (below_drewN _ _) hb2.size⟩
          · have HT := hid (show rightS hs = rightFrom (loAt hs (j + 1 + 1)) (hs.drop (j + 1 + 1)) by
              rw [HR.out, HST.out, HOK.out, HLO.out, HL2.out, decide_eq_true (show (y, pold, pnew).1 + ((y, pold, pnew).2.1.length : Int) ≤ (z, old, new).1 from by show y + (pold.length : Int) ≤ z; omega)]
              rfl)
            go_wp2_with fail
            go_quiet (fail)
            go_wp2_with fail
            go_roundg (hs.length - (j + 1 + 1))
            case measure => omega
            case rel => exact ⟨j + 1 + 1, by omega, rfl, rfl, HT, HNEXT, below_step hb2 (below_drewN _ _) hb2.size⟩
    · obtain rfl : k = hs.length := by omega
      have hneg : ¬ (hs.length : Int) < (hs.length : Int) := by omega
      have HN := hid (show rightS hs = true by rw [HR.out, List.drop_length]; rfl)
      go_wp2_with fail
      go_ret
      exact ⟨by rw [HN.out]; rfl, hbel⟩
end
end Go.Proofs.Ytbcmecclaofmgaa
