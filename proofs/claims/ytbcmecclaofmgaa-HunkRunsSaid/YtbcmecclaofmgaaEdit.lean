/-
  Lists of edits: what a slice of them shows; two of them held against each other (rickhelp).
-/
import Derived.Test.YtbcmecclaofmgaaHelpS
import Derived.Test.YtbcmecclaofmgaaDifM
import Derived.Test.YtbcmecclaofmgaaOpen2
import Derived.Test.YtbcmecclaofmgaaQuiet
namespace Go.Proofs.Ytbcmecclaofmgaa
open Go.RowKit

/-- An edit's two cells. -/
def edCells (e : Int × List UInt8) : List Value := [.int .i64 e.1, strV e.2]
def edFlat (es : List (Int × List UInt8)) : List Value := es.flatMap edCells
theorem edFlat_length (es : List (Int × List UInt8)) : (edFlat es).length = es.length * 2 := by
  induction es with
  | nil => rfl
  | cons e es ih => rw [edFlat, List.flatMap_cons, List.length_append, ← edFlat, ih, List.length_cons]; simp [edCells]; omega
theorem edFlat_append (a b : List (Int × List UInt8)) : edFlat (a ++ b) = edFlat a ++ edFlat b := by simp [edFlat]
theorem edFlat_at (es : List (Int × List UInt8)) (i : Nat) (e : Int × List UInt8) (h : es[i]? = some e) : (edFlat es)[i * 2]? = some (.int .i64 e.1) ∧ (edFlat es)[i * 2 + 1]? = some (strV e.2) := by
  induction es generalizing i with
  | nil => simp at h
  | cons x es ih =>
    cases i with
    | zero =>
      simp at h
      subst h
      simp [edFlat, edCells]
    | succ i =>
      have := ih i (by simpa using h)
      rw [edFlat, List.flatMap_cons, ← edFlat, show (i + 1) * 2 = i * 2 + 2 by omega, show i * 2 + 2 + 1 = (i * 2 + 1) + 2 by omega]
      simpa [edCells] using this

/-- What a slice of edits shows. -/
def SlE (w : World) (v : Value) (es : List (Int × List UInt8)) : Prop :=
  ∃ ao cap, v = .slice ao es.length cap ∧ (ao = none → es = []) ∧ es.length ≤ cap ∧ ∀ a, ao = some a → ∀ i e, es[i]? = some e → w.cell? (a.add (i * 2)) = some (.int .i64 e.1) ∧ w.cell? (a.add (i * 2 + 1)) = some (strV e.2)
theorem SlE.nil (w : World) : SlE w (.slice none 0 0) [] := ⟨none, 0, rfl, fun _ => rfl, Nat.le_refl _, fun a h => by cases h⟩
theorem SlE.form {w : World} {v : Value} {es : List (Int × List UInt8)} (h : SlE w v es) : ∃ ao cap, v = .slice ao es.length cap := by
  obtain ⟨ao, cap, rfl, _⟩ := h
  exact ⟨ao, cap, rfl⟩
theorem SlE.old {w w' : World} {v : Value} {es : List (Int × List UInt8)} (h : SlE w v es) (hk : Below w.heap.size w w') : SlE w' v es := by
  obtain ⟨ao, cap, rfl, hn, hcap, hc⟩ := h
  refine ⟨ao, cap, rfl, hn, hcap, fun a ha i e he => ?_⟩
  obtain ⟨h1, h2⟩ := hc a ha i e he
  exact ⟨(World.cell?_of_block (w := w) (hk.block _ (World.block_lt_of_cell? w _ h1))).trans h1, (World.cell?_of_block (w := w) (hk.block _ (World.block_lt_of_cell? w _ h2))).trans h2⟩
theorem SlE.ofOwns {w : World} {base : Nat} {e : TypeId} {v : Value} {es : List (Int × List UInt8)} (h : w.ownsRow base e 2 v es.length (edFlat es)) : SlE w v es := by
  rcases h.2 with ⟨rfl, h0⟩ | ⟨g, cap, cur, rfl, r⟩
  · have : es = [] := List.eq_nil_of_length_eq_zero h0
    subst this
    exact SlE.nil w
  · refine ⟨some ⟨g, 0, none⟩, cap, rfl, (fun h => by cases h), r.2.2.1, fun a ha i x hx => ?_⟩
    cases ha
    obtain ⟨h1, h2⟩ := edFlat_at es i x hx
    exact ⟨h.cells rfl _ _ h1, h.cells rfl _ _ h2⟩
theorem range2 {w : World} {b o : Nat} {u v : Value} (h1 : w.cell? ⟨b, o, none⟩ = some u) (h2 : w.cell? ⟨b, o + 1, none⟩ = some v) : w.rangeAt b o [u, v] := by
  intro j x hx
  match j, hx with
  | 0, hx => cases hx; exact h1
  | 1, hx => cases hx; exact h2
theorem SlE.at {w : World} {ao : Option Addr} {n cap : Nat} {es : List (Int × List UInt8)} (h : SlE w (.slice ao n cap) es) {i : Nat} (hi : i < es.length) :
    ∃ a k x, ao = some a ∧ w.cell? (a.add (i * 2)) = some (.int .i64 k) ∧ w.cell? (a.add (i * 2 + 1)) = some (.string ⟨List.toArray x⟩) ∧ es[i]? = some (k, x) := by
  obtain ⟨ao', cap', hv, hn, _, hc⟩ := h
  obtain ⟨rfl, _, _⟩ := Value.slice.inj hv
  cases ao with
  | none => rw [hn rfl] at hi; simp at hi
  | some a =>
    obtain ⟨h1, h2⟩ := hc a rfl i _ (List.getElem?_eq_getElem hi)
    exact ⟨a, es[i].1, es[i].2, rfl, h1, h2, List.getElem?_eq_getElem hi⟩

/-- .. the address written out. -/
theorem SlE.at' {w : World} {ao : Option Addr} {n cap : Nat} {es : List (Int × List UInt8)} (h : SlE w (.slice ao n cap) es) {i : Nat} (hi : i < es.length) :
    ∃ b o k x, ao = some ⟨b, o, none⟩ ∧ w.cell? ⟨b, o + i * 2, none⟩ = some (.int .i64 k) ∧ w.cell? ⟨b, o + i * 2 + 1, none⟩ = some (.string ⟨List.toArray x⟩) ∧ es[i]? = some (k, x) := by
  obtain ⟨a, k, x, rfl, h1, h2, h3⟩ := h.at hi
  obtain ⟨b, o, sp⟩ := a
  obtain ⟨a', k', x', e', h1', _, _⟩ := h.at (i := 0) (by omega)
  cases e'
  rw [Nat.zero_mul, show (⟨b, o, sp⟩ : Addr).add 0 = ⟨b, o, sp⟩ from rfl] at h1'
  have hsp : sp = none := World.cell?_spot h1'
  subst hsp
  rw [Addr.add_lit] at h1 h2
  exact ⟨b, o, k, x, rfl, h1, by rw [Nat.add_assoc]; exact h2, h3⟩

theorem Try.infoEd : (Try.prog.info? 30).map (fun i => (i.zero, i.size, i.bytes)) = some (some (.agg #[.int .i64 0, strV []]), 2, 24) := by kernel_rfl

section
set_option maxHeartbeats 1000000
set_option maxRecDepth 100000
theorem edEq1_any (k j : Int) (x y : List UInt8) (w : World) :
    Calls Try.prog 39 #[.agg #[.int .i64 k, .string ⟨x.toArray⟩], .agg #[.int .i64 j, .string ⟨y.toArray⟩]] w fun e w' => e = .returned (.bool (((k, x) : Int × List UInt8) == (j, y))) ∧ Below w.heap.size w w' := by
  go_enter Try.func39, Try.ntmps39
  go_wp2
  all_goals go_ret
  all_goals refine ⟨ret_bool (by simp_all), ((Below.refl _ _).alloc (Nat.le_refl _) _).alloc (by simp) _⟩

theorem ESame_at (a b : Value) (x y : List (Int × List UInt8)) (w : World) (ha : SlE w a x) (hb : SlE w b y) (hx : x.length ≤ maxLen) :
    Calls Try.prog 38 #[a, b, .func (Fn.func 39) #[] #[]] w fun e w' => e = .returned (.bool (x == y)) ∧ Below w.heap.size w w' := by
  obtain ⟨aa, ca, rfl⟩ := ha.form
  obtain ⟨ab, cb, rfl⟩ := hb.form
  unfold maxLen at hx
  by_cases hl : x.length = y.length
  · have hne : (x.length != y.length) = false := by simp [hl]
    have hne' : ((x.length : Int) != (y.length : Int)) = false := by simp [hl]
    have HL := hid hl
    clear hl
    go_enter Try.func38, Try.ntmps38
    go_wp2
    go_loopw [7] (fun i wr => ∃ k : Nat, k ≤ x.length ∧ i = .int .i64 k ∧ x.take k = y.take k ∧ Below w.heap.size w wr) (fun i _ => x.length - (intOf i).toNat)
    case atStart => exact ⟨0, Nat.zero_le _, rfl, rfl, Below.refl _ _⟩
    case round =>
      obtain ⟨k, hk, rfl, heq, hbel⟩ := hrel
      by_cases hlt : k < x.length
      · obtain ⟨b1, o1, k1, s1, rfl, hc1, hd1, hb1⟩ := (ha.old hbel).at' (i := k) hlt
        obtain ⟨b2, o2, k2, s2, rfl, hc2, hd2, hb2⟩ := (hb.old hbel).at' (i := k) (by rw [← HL.out]; exact hlt)
        have hlt2 : k < y.length := by rw [← HL.out]; exact hlt
        have i0 : (0 : Int) ≤ (k : Int) := Int.natCast_nonneg _
        have i1 : (k : Int) < (x.length : Int) := by omega
        have i2 : (k : Int) < (y.length : Int) := by omega
        obtain ⟨C, hC⟩ : ∃ C : World → Prop, C = fun wy => Below wr.heap.size wr wy := ⟨_, rfl⟩
        have ra : ∀ wy, C wy → wy.rangeAt b1 (o1 + k * 2) [.int .i64 k1, .string ⟨s1.toArray⟩] := by
          rw [hC]
          exact fun wy h => range2 ((World.cell?_of_block (w := wr) (h.block _ (World.block_lt_of_cell? wr _ hc1))).trans hc1) ((World.cell?_of_block (w := wr) (h.block _ (World.block_lt_of_cell? wr _ hd1))).trans hd1)
        have rb : ∀ wy, C wy → wy.rangeAt b2 (o2 + k * 2) [.int .i64 k2, .string ⟨s2.toArray⟩] := by
          rw [hC]
          exact fun wy h => range2 ((World.cell?_of_block (w := wr) (h.block _ (World.block_lt_of_cell? wr _ hc2))).trans hc2) ((World.cell?_of_block (w := wr) (h.block _ (World.block_lt_of_cell? wr _ hd2))).trans hd2)
        obtain ⟨tt, htt⟩ : ∃ tt, (((k1, s1) : Int × List UInt8) == (k2, s2)) = tt := ⟨_, rfl⟩
        have HEQ := hid (show ∀ wy, C wy → Calls Try.prog 39 #[.agg #[.int .i64 k1, .string ⟨s1.toArray⟩], .agg #[.int .i64 k2, .string ⟨s2.toArray⟩]] wy fun e w' => e = .returned (.bool tt) ∧ C w' from fun wy hy => by
          rw [← htt]
          refine (edEq1_any k1 k2 s1 s2 wy).mono fun e w' h => ⟨h.1, ?_⟩
          rw [hC] at hy ⊢
          exact below_step hy h.2 hy.size)
        have hCd : C wr.drew := by rw [hC]; exact ⟨rfl, rfl, rfl, Nat.le_refl _, fun _ _ => rfl⟩
        have HCW := hid (show ∀ wy, C wy → Below w.heap.size w wy from fun wy h => by rw [hC] at h; exact below_step hbel h hbel.size)
        have HRA := hid ra
        have HRB := hid rb
        have hse : (Try.prog.info? 30).map (·.size) = some 2 := by kernel_rfl
        have HIA := hid hse
        have HT := hid htt
        have HE := hid heq
        have HB1 := hid hb1
        have HB2 := hid hb2
        have HCD := hid hCd
        clear hC hc1 hd1 hc2 hd2 ra rb hCd hse htt heq hb1 hb2 ha hb hbel
        go_wp2_with fail
        refine quiet_region C (by kernel_rfl) (by kernel_rfl) HCD.out ?_
        repeat (first
          | go_big_quiet_skip
          | (go_big_quiet_want; first
            | (refine quiet_load 30 _ rfl b1 (o1 + k * 2) rfl _ _ HRA.out Try.underlying30 rfl HIA.out ?_; simp only [Act.put, List.setIfInBounds_toArray, List.set_cons_zero, List.set_cons_succ]; go_big_quiet_on)
            | (refine quiet_load 30 _ rfl b2 (o2 + k * 2) rfl _ _ HRB.out Try.underlying30 rfl HIA.out ?_; simp only [Act.put, List.setIfInBounds_toArray, List.set_cons_zero, List.set_cons_succ]; go_big_quiet_on)
            | (go_big_quiet_op; first
              | go_big_quiet_on
              | (apply Exists.intro; with_reducible refine ⟨fun _ _ => rfl, ?_⟩; go_big_quiet_on)
              | (apply Exists.intro
                 refine ⟨fun wy hy => ?_, ?_⟩
                 · with_reducible exact HEQ.out wy hy
                 go_big_quiet_on))))
        refine wpQuiet_nil ?_
        intro w5 hC5
        have hbw := HCW.out w5 hC5
        clear hC5
        cases tt with
        | true =>
          have h12 : (k1, s1) = (k2, s2) := by simpa using HT.out
          have R := hid (show x.take (k + 1) = y.take (k + 1) by rw [take_snoc HB1.out, take_snoc HB2.out, HE.out, h12])
          clear h12
          go_wp2
          go_roundw
          case rel => exact ⟨k + 1, by omega, by go_num, R.out, hbw⟩
          case measure => simp [intOf]; omega
        | false =>
          have hxy := hid (show (x == y) = false by
            have h12 : (k1, s1) ≠ (k2, s2) := by
              intro e
              have := HT.out
              rw [e] at this
              simp at this
            rw [beq_eq_false_iff_ne]
            intro e
            subst e
            have := HB1.out.symm.trans HB2.out
            exact h12 (Option.some.inj this))
          go_wp2
          go_ret
          rw [hxy.out]
          exact ⟨rfl, hbw⟩
      · obtain rfl : k = x.length := by omega
        have hxy := hid (show (x == y) = true by
          rw [List.take_length, HL.out, List.take_length] at heq
          simpa using heq)
        clear heq
        go_wp2
        go_ret
        rw [hxy.out]
        exact ⟨rfl, hbel⟩
  · have hne : (x.length != y.length) = true := by simpa using hl
    have hne' : ((x.length : Int) != (y.length : Int)) = true := by simp; omega
    have hxy := hid (show (x == y) = false by
      rw [beq_eq_false_iff_ne]
      intro e
      subst e
      exact hl rfl)
    clear hl
    go_enter Try.func38, Try.ntmps38
    go_wp2
    go_ret
    rw [hxy.out]
    exact ⟨rfl, Below.refl _ _⟩

theorem EPlain_any (a b : Value) (x y : List (Int × List UInt8)) (w : World) (ha : SlE w a x) (hb : SlE w b y) (hx : x.length ≤ maxLen) :
    Calls Try.prog 34 #[a, b] w fun e w' => e = .returned (.bool (x == y)) ∧ Below w.heap.size w w' := by
  go_enter Try.func34, Try.ntmps34
  go_wp2_with fail
  refine (ESame_at a b x y w ha hb hx).mono ?_
  rintro e w' ⟨rfl, hb⟩
  go_wp2
  go_ret
  exact ⟨rfl, hb⟩
end
end Go.Proofs.Ytbcmecclaofmgaa
