/-
  TmDe, part 27.
-/
import Derived.Test.YtbnafihigoekeaaGreatDoorZe26
import Derived.Test.YtbnafihigoekeaaGreatDoorZe3
import Derived.Test.YtbnafihigoekeaaGreatDoorZe1
import Derived.Test.YtbnafihigoekeaaGreatDoorZe23
import Derived.Deep.LoopGhost
import Derived.Deep.QuietTactic
import Derived.Test.YtbnafihigoekeaaGreatDoorCards
import Derived.Test.YtbnafihigoekeaaGreatDoorTie
import Derived.ProofKit
import Derived.OpenShut
import Derived.Deep.DeepHandedRow
import Derived.Lib.LaidTab
namespace Go.Proofs.YtbnafihigoekeaaGreatDoor
open Go.RowKit
section
set_option maxRecDepth 100000
set_option maxHeartbeats 4000000
theorem eq1F_any (f g : FileS) (w : World) :
    Calls Tryz.prog 37 #[.agg (encF.enc f).toArray, .agg (encF.enc g).toArray] w fun e w' => e = .returned (.bool (f == g)) ∧ Below w.heap.size w w' := by
  obtain ⟨p1, x1, t1⟩ := f
  obtain ⟨p2, x2, t2⟩ := g
  have he := file_eql p1 t1 p2 t2 x1 x2
  obtain ⟨tt, htt⟩ : ∃ tt, (((p1, x1, t1) : FileS) == (p2, x2, t2)) = tt := ⟨_, rfl⟩
  rw [htt] at he ⊢
  clear htt
  show Calls Tryz.prog 37 #[.agg #[.string ⟨p1.toArray⟩, .bool x1, .string ⟨t1.toArray⟩], .agg #[.string ⟨p2.toArray⟩, .bool x2, .string ⟨t2.toArray⟩]] w _
  go_enter Tryz.func37, Tryz.ntmps37
  go_wp2
  all_goals go_ret
  all_goals refine ⟨rfl, ((Below.refl _ _).alloc (Nat.le_refl _) _).alloc (by simp) _⟩
theorem SameF_at (a b : Value) (x y : List FileS) (w : World) (ha : SlF w a x) (hb : SlF w b y) (hx : x.length ≤ 1000000) :
    Calls Tryz.prog 36 #[a, b, .func (Fn.func 37) #[] #[]] w fun e w' => e = .returned (.bool (x == y)) ∧ Below w.heap.size w w' := by
  obtain ⟨aa, ca, rfl⟩ := SlR.form ha
  obtain ⟨ab, cb, rfl⟩ := SlR.form hb
  by_cases hl : x.length = y.length
  · have hne : (x.length != y.length) = false := by simp [hl]
    have hne' : ((x.length : Int) != (y.length : Int)) = false := by simp [hl]
    have HL := hid hl
    clear hl
    go_enter Tryz.func36, Tryz.ntmps36
    go_wp2
    go_loopw [7] (fun i wr => ∃ k : Nat, k ≤ x.length ∧ i = .int .i64 k ∧ x.take k = y.take k ∧ Below w.heap.size w wr) (fun i _ => x.length - (intOf i).toNat)
    case atStart => exact ⟨0, Nat.zero_le _, rfl, rfl, Below.refl _ _⟩
    case round =>
      obtain ⟨k, hk, rfl, heq, hbel⟩ := hrel
      by_cases hlt : k < x.length
      · obtain ⟨b1, o1, ⟨p1, x1, t1⟩, rfl, hb1, hc1⟩ := SlR.at' (E := encF) (SlR.old ha hbel) (i := k) hlt
        obtain ⟨b2, o2, ⟨p2, x2, t2⟩, rfl, hb2, hc2⟩ := SlR.at' (E := encF) (SlR.old hb hbel) (i := k) (by rw [← HL.out]; exact hlt)
        have hlt2 : k < y.length := by rw [← HL.out]; exact hlt
        have i0 : (0 : Int) ≤ (k : Int) := Int.natCast_nonneg _
        have i1 : (k : Int) < (x.length : Int) := by omega
        have i2 : (k : Int) < (y.length : Int) := by omega
        obtain ⟨C, hC⟩ : ∃ C : World → Prop, C = fun wy => Below wr.heap.size wr wy := ⟨_, rfl⟩
        have ra : ∀ wy, C wy → wy.rangeAt b1 (o1 + k * 3) [.string ⟨p1.toArray⟩, .bool x1, .string ⟨t1.toArray⟩] := by
          rw [hC]
          exact fun wy h j u hu => (World.cell?_of_block (w := wr) (h.block _ (World.block_lt_of_cell? wr _ (hc1 j u hu)))).trans (hc1 j u hu)
        have rb : ∀ wy, C wy → wy.rangeAt b2 (o2 + k * 3) [.string ⟨p2.toArray⟩, .bool x2, .string ⟨t2.toArray⟩] := by
          rw [hC]
          exact fun wy h j u hu => (World.cell?_of_block (w := wr) (h.block _ (World.block_lt_of_cell? wr _ (hc2 j u hu)))).trans (hc2 j u hu)
        obtain ⟨tt, htt⟩ : ∃ tt, (((p1, x1, t1) : FileS) == (p2, x2, t2)) = tt := ⟨_, rfl⟩
        have HEQ := hid (show ∀ wy, C wy → Calls Tryz.prog 37 #[.agg #[.string ⟨p1.toArray⟩, .bool x1, .string ⟨t1.toArray⟩], .agg #[.string ⟨p2.toArray⟩, .bool x2, .string ⟨t2.toArray⟩]] wy fun e w' => e = .returned (.bool tt) ∧ C w' from fun wy hy => by
          rw [← htt]
          refine (eq1F_any (p1, x1, t1) (p2, x2, t2) wy).mono fun e w' h => ⟨h.1, ?_⟩
          rw [hC] at hy ⊢
          exact below_step hy h.2 hy.size)
        have hCd : C wr.drew := by rw [hC]; exact ⟨rfl, rfl, rfl, Nat.le_refl _, fun _ _ => rfl⟩
        have HCW := hid (show ∀ wy, C wy → Below w.heap.size w wy from fun wy h => by rw [hC] at h; exact below_step hbel h hbel.size)
        have HRA := hid ra
        have HRB := hid rb
        have hse : (Tryz.prog.info? 28).map (·.size) = some 3 := by kernel_rfl
        have HIA := hid hse
        have HT := hid htt
        have HE := hid heq
        have HB1 := hid hb1
        have HB2 := hid hb2
        have HCD := hid hCd
        clear hC hc1 hc2 ra rb hCd hse htt heq hb1 hb2 ha hb hbel
        go_wp2_with fail
        refine quiet_region C (by kernel_rfl) (by kernel_rfl) HCD.out ?_
        repeat (first
          | go_big_quiet_skip
          | (go_big_quiet_want; first
            | (refine quiet_load 28 _ rfl b1 (o1 + k * 3) rfl _ _ HRA.out Tryz.underlying28 rfl HIA.out ?_; simp only [Act.put, List.setIfInBounds_toArray, List.set_cons_zero, List.set_cons_succ]; go_big_quiet_on)
            | (refine quiet_load 28 _ rfl b2 (o2 + k * 3) rfl _ _ HRB.out Tryz.underlying28 rfl HIA.out ?_; simp only [Act.put, List.setIfInBounds_toArray, List.set_cons_zero, List.set_cons_succ]; go_big_quiet_on)
            | (go_big_quiet_op; first
              | go_big_quiet_on
              | (apply Exists.intro; with_reducible refine ⟨fun _ _ => rfl, ?_⟩; go_big_quiet_on)
              | (apply Exists.intro
                 refine ⟨fun wy hy => ?_, ?_⟩
                 · with_reducible exact HEQ.out wy hy
                 go_big_quiet_on))))
        refine wpQuiet_nil ?_
        intro w5 hC5
        have hbw := HCW.out w5 hC5
        clear hC5
        cases tt with
        | true =>
          have h12 : ((p1, x1, t1) : FileS) = (p2, x2, t2) := by have := HT.out; rwa [beq_iff_eq] at this
          have R := hid (show x.take (k + 1) = y.take (k + 1) by rw [take_snoc HB1.out, take_snoc HB2.out, HE.out, h12])
          clear h12
          go_wp2
          go_roundw
          case rel => exact ⟨k + 1, by omega, by go_num, R.out, hbw⟩
          case measure => simp [intOf]; omega
        | false =>
          have hxy := hid (show (x == y) = false by
            have h12 : ((p1, x1, t1) : FileS) ≠ (p2, x2, t2) := by have := HT.out; rwa [beq_eq_false_iff_ne] at this
            rw [beq_eq_false_iff_ne]
            intro e
            subst e
            have := HB1.out.symm.trans HB2.out
            exact h12 (Option.some.inj this))
          go_wp2
          go_ret
          rw [hxy.out]
          exact ⟨rfl, hbw⟩
      · obtain rfl : k = x.length := by omega
        have hxy := hid (show (x == y) = true by
          rw [List.take_length, HL.out, List.take_length] at heq
          rw [beq_iff_eq]
          exact heq)
        clear heq
        go_wp2
        go_ret
        rw [hxy.out]
        exact ⟨rfl, hbel⟩
  · have hne : (x.length != y.length) = true := by simpa using hl
    have hne' : ((x.length : Int) != (y.length : Int)) = true := by simp; omega
    have hxy := hid (show (x == y) = false by
      rw [beq_eq_false_iff_ne]
      intro e
      subst e
      exact hl rfl)
    clear hl
    go_enter Tryz.func36, Tryz.ntmps36
    go_wp2
    go_ret
    rw [hxy.out]
    exact ⟨rfl, Below.refl _ _⟩
theorem PlainF_any (a b : Value) (x y : List FileS) (w : World) (ha : SlF w a x) (hb : SlF w b y) (hx : x.length ≤ 1000000) :
    Calls Tryz.prog 16 #[a, b] w fun e w' => e = .returned (.bool (x == y)) ∧ Below w.heap.size w w' := by
  go_enter Tryz.func16, Tryz.ntmps16
  go_wp2_with fail
  refine (SameF_at a b x y w ha hb hx).mono ?_
  rintro e w' ⟨rfl, hb⟩
  go_wp2
  go_ret
  exact ⟨rfl, hb⟩
structure OwnCopyF (w : World) (g : Nat) (es : List FileS) (f : FileS) : Prop where
  block : w.heap[g]? = some (.cells (flatR encF (es ++ [f, f, f])).toArray 28 (0, 0))
theorem OwnCopyF.sl {w : World} {g : Nat} {es : List FileS} {f : FileS} (h : OwnCopyF w g es f) : SlF w (.slice (some ⟨g, 0, none⟩) es.length (es.length + 3)) es := by
  refine ⟨some ⟨g, 0, none⟩, es.length + 3, rfl, (fun h => by cases h), by omega, fun a ha i x hx j u hu => ?_⟩
  cases ha
  have hj : j < encF.k := by have := (List.getElem?_eq_some_iff.1 hu).1; rwa [encF.len] at this
  have h1 := flatR_at encF (xs := es ++ [f, f, f]) (by rw [List.getElem?_append_left (List.getElem?_eq_some_iff.1 hx).1]; exact hx) hj
  rw [Addr.add_lit, Nat.zero_add]
  exact blk_cell h.block (by rw [List.getElem?_toArray, h1]; exact hu)
theorem OwnCopyF.spare {w : World} {g : Nat} {es : List FileS} {f : FileS} (h : OwnCopyF w g es f) (j : Nat) (h1 : es.length ≤ j) (h2 : j < es.length + 3) (i : Nat) (u : Value) (hu : (encF.enc f)[i]? = some u) : w.cell? ⟨g, j * 3 + i, none⟩ = some u := by
  have hf : (es ++ [f, f, f])[j]? = some f := by
    rw [List.getElem?_append_right h1]
    rcases (show j - es.length = 0 ∨ j - es.length = 1 ∨ j - es.length = 2 by omega) with h | h | h <;> rw [h] <;> rfl
  have hj : i < encF.k := by have := (List.getElem?_eq_some_iff.1 hu).1; rwa [encF.len] at this
  have h1 := flatR_at encF hf hj
  exact blk_cell h.block (by rw [List.getElem?_toArray]; exact h1.trans hu)
theorem OwnCopyF.old {w w' : World} {g : Nat} {es : List FileS} {f : FileS} (h : OwnCopyF w g es f) (hk : Below w.heap.size w w') : OwnCopyF w' g es f := ⟨(hk.block g (lt_of_block h.block)).trans h.block⟩
end
end Go.Proofs.YtbnafihigoekeaaGreatDoor
namespace Go.Proofs.YtbnafihigoekeaaGreatDoor
open Go.ChangeShapes Go.WideShapes Go.ChangeAt Go.RowKit
def layU8 (l : List Nat) (o : Obj) : Obj :=
  match o with
  | .cells _ t frozen => .cells (l.map fun c : Nat => Value.int .u8 (c : Int)).toArray t frozen
  | o => o
noncomputable def laidWorld (os : Os) : World :=
  let w := World.holding Tryz.prog os ⟨#[], #[], []⟩
  { w with heap := (w.heap.modify 1 (layU8 Go.Pinned.utf8FirstZ)).modify 2 (layU8 ([128, 191, 160, 191, 128, 159, 144, 191, 128, 143] ++ List.replicate 22 0)) }
end Go.Proofs.YtbnafihigoekeaaGreatDoor
