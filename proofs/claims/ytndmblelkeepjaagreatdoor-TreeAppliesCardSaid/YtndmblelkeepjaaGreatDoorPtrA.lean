/-
  Package tree (landed), what it calls of the library: strings.Compare, slices.BinarySearchFunc, IndexFunc, ContainsFunc, Equal, Clone, Grow, Concat, at files.
-/
import Derived.Test.YtndmblelkeepjaaGreatDoorTrM
import Derived.Test.YtndmblelkeepjaaGreatDoorPpthD
import Derived.Lib.Bytealg
import Derived.Lib.AppendZerosOnto
import Derived.Deep.LoopGhost
import Derived.Deep.RegionHeld3
import Derived.Deep.RegionLaw
import Derived.Deep.DeepCutAuto
import Derived.Deep.CutBlock
import Derived.Deep.CutRange
namespace Go.Proofs.YtndmblelkeepjaaGreatDoor
open Go.RowKit

theorem cmp_neg : ∀ x y : List UInt8, decide (Lib.compareBytes x y < 0) = ltS x y
  | [], [] => rfl
  | [], _ :: _ => rfl
  | _ :: _, [] => rfl
  | a :: x, b :: y => by
    have ih := cmp_neg x y
    rw [Lib.compareBytes]
    cases e : ltS (a :: x) (b :: y) with
    | true =>
      rcases (lt_cons a b x y).1 e with h | ⟨rfl, h⟩
      · rw [if_pos h]; rfl
      · rw [if_neg (by rw [UInt8.lt_iff_toNat_lt]; omega), if_neg (by rw [UInt8.lt_iff_toNat_lt]; omega), ih, h]
    | false =>
      have h1 : ¬ (a < b ∨ (a = b ∧ ltS x y = true)) := fun h => by rw [(lt_cons a b x y).2 h] at e; cases e
      rw [not_or] at h1
      rw [if_neg h1.1]
      split
      · rfl
      · rename_i h2
        have e1 : a = b := by
          apply UInt8.toNat_inj.1
          have := h1.1
          rw [UInt8.lt_iff_toNat_lt] at this h2
          omega
        rw [ih]
        cases e2 : ltS x y with
        | false => rfl
        | true => exact absurd ⟨e1, e2⟩ h1.2
theorem cmp_zero : ∀ x y : List UInt8, (Lib.compareBytes x y == 0) = (x == y)
  | [], [] => rfl
  | [], _ :: _ => rfl
  | _ :: _, [] => rfl
  | a :: x, b :: y => by
    have ih := cmp_zero x y
    rw [Lib.compareBytes]
    by_cases h1 : a < b
    · have : ¬ a = b := fun e => by rw [e, UInt8.lt_iff_toNat_lt] at h1; omega
      rw [if_pos h1]
      simp [this]
    · rw [if_neg h1]
      by_cases h2 : b < a
      · have : ¬ a = b := fun e => by rw [e, UInt8.lt_iff_toNat_lt] at h2; omega
        rw [if_pos h2]
        simp [this]
      · have e : a = b := by
          apply UInt8.toNat_inj.1
          rw [UInt8.lt_iff_toNat_lt] at h1 h2
          omega
        rw [if_neg h2, ih, e]
        simp
section
set_option maxRecDepth 100000
set_option maxHeartbeats 4000000
theorem PCmpS_any (x y : List UInt8) (w : World) :
    Calls Tryz.prog 80 #[strV x, strV y] w fun e w' => e = .returned (.int .i64 (Lib.compareBytes x y)) ∧ w = w' := by
  have hr := fun w => Lib.run_compareString (P := Tryz.prog) ⟨x.toArray⟩ ⟨y.toArray⟩ w
  unfold strV
  go_enter Tryz.func80, Tryz.ntmps80
  go_wp2
  rw [run_callFunc_extern Tryz.func85 (by kernel_rfl) (by kernel_rfl) (by kernel_rfl) (e := Extern.BytealgCompare.compare) (by kernel_rfl), hr]
  simp only [Result.andThen]
  rw [Oper.upon_value]
  go_wp2
  go_ret
  exact ⟨rfl, rfl⟩
theorem PCmp_any (x y : List UInt8) (w : World) :
    Calls Tryz.prog 66 #[strV x, strV y] w fun e w' => e = .returned (.int .i64 (Lib.compareBytes x y)) ∧ w = w' := by
  have HC := hid (PCmpS_any x y w)
  unfold strV at HC ⊢
  go_enter Tryz.func66, Tryz.ntmps66
  go_wp2_with (go_at_call 80; refine HC.out.mono ?_; rintro e w1 ⟨rfl, rfl⟩)
  go_ret
  exact ⟨rfl, rfl⟩
theorem PCmpF_any (f : FileS) (p : List UInt8) (w : World) :
    Calls Tryz.prog 65 #[fileV f, strV p] w fun e w' => e = .returned (.int .i64 (Lib.compareBytes f.1 p)) ∧ Below w.heap.size w w' := by
  obtain ⟨q, x, t⟩ := f
  have HC := hid (fun wy => PCmp_any q p wy)
  have HB := hid ((Below.refl _ w).alloc (Nat.le_refl w.heap.size) (.cells #[.string ⟨q.toArray⟩, .bool x, .string ⟨t.toArray⟩] 35))
  unfold strV at HC
  unfold fileV strV
  go_enter Tryz.func65, Tryz.ntmps65
  go_wp2_with (go_at_call 66; refine (HC.out _).mono ?_; rintro e _ ⟨rfl, rfl⟩)
  go_ret
  exact ⟨rfl, HB.out⟩
theorem ahead_at {l : List FileS} {p : Txt} (hr : Rise l) {h : Nat} {f : FileS} (he : l[h]? = some f) : ltS f.1 p = decide (h < aheadS l p) := by
  obtain ⟨q, e⟩ := List.getElem?_eq_some_iff.1 he
  by_cases hlt : h < aheadS l p
  · rw [decide_eq_true hlt]
    exact ahead_take l p f (List.mem_iff_getElem?.2 ⟨h, by rw [List.getElem?_take_of_lt hlt]; exact he⟩)
  · rw [decide_eq_false hlt]
    exact ahead_drop l p hr f (List.mem_iff_getElem?.2 ⟨h - aheadS l p, by rw [List.getElem?_drop, show aheadS l p + (h - aheadS l p) = h by omega]; exact he⟩)
theorem PSearch_any (v : Value) (l : List FileS) (p : Txt) (w : World) (hv : SlF w v l) (hr : Rise l) (hl : l.length ≤ 100000) :
    Calls Tryz.prog 64 #[v, strV p, .func (Fn.func 65) #[] #[]] w fun e w' => e = .returned (.tuple #[.int .i64 (aheadS l p), .bool (findS l p).isSome]) ∧ Below w.heap.size w w' := by
  obtain ⟨ao, cap, rfl⟩ := hv.form
  have HV := hid hv
  have HL := hid hl
  have HR := hid hr
  have HA := hid (aheadS_le l p)
  clear hv hl hr
  have HCF := hid (fun f wy => PCmpF_any f p wy)
  unfold strV at HCF ⊢
  obtain ⟨n, hn⟩ : ∃ n, aheadS l p = n := ⟨_, rfl⟩
  have HN := hid hn
  rw [hn] at HA
  rw [hn]
  clear hn
  go_enter Tryz.func64, Tryz.ntmps64
  go_wp2_with fail
  go_loopg [9, 10, 11] l.length (fun g si sj _ wr => ∃ i j : Nat, i ≤ n ∧ n ≤ j ∧ j ≤ l.length ∧ j - i ≤ g ∧ si = .int .i64 i ∧ sj = .int .i64 j ∧ Hid (Below w.heap.size w wr))
  case atStart => exact ⟨0, l.length, Nat.zero_le _, HA.out, Nat.le_refl _, Nat.le_refl _, rfl, rfl, hid (Below.refl _ _)⟩
  case round =>
    obtain ⟨i, j, h1, h2, h3, h4, rfl, rfl, HB⟩ := hrel
    by_cases hij : i < j
    · have k1 : (i : Int) < (j : Int) := by omega
      obtain ⟨h, hh⟩ : ∃ h, (i + j) / 2 = h := ⟨_, rfl⟩
      have g1 : i ≤ h := by omega
      have g2 : h < j := by omega
      have g3 : h < l.length := by omega
      have g0 : (0 : Int) ≤ (h : Int) := Int.natCast_nonneg _
      have g4 : (h : Int) < (l.length : Int) := by omega
      have hw : wrap64 (IntKind.u64.wrap (wrap64 ((i : Int) + j)) / 2) = (h : Int) := by
        have hl := HL.out
        rw [show wrap64 ((i : Int) + j) = (i : Int) + j by unfold wrap64; omega, show IntKind.u64.wrap ((i : Int) + j) = (i : Int) + j by simp [IntKind.wrap, IntKind.bits, IntKind.signed]; omega]
        unfold wrap64
        omega
      have hw2 : IntKind.i64.wrap ((h : Int) + 1) = (h : Int) + 1 := IntWalk.i64_in _ (by have := HL.out; omega)
      obtain ⟨b, o, p2, x2, t2, rfl, he, c1, c2, c3⟩ := SlF.at (HV.out.old HB.out) g3
      have hlt := ahead_at HR.out (p := p) he
      rw [HN.out] at hlt
      have HC := hid (HCF.out (p2, x2, t2) wr)
      unfold fileV strV at HC
      have hneg := cmp_neg p2 p
      rw [hlt] at hneg
      clear he hlt hh
      by_cases hn : h < n
      · have hd : decide (Lib.compareBytes p2 p < 0) = true := by rw [hneg]; exact decide_eq_true hn
        clear hneg
        obtain ⟨z, hz⟩ : ∃ z, Lib.compareBytes p2 p = z := ⟨_, rfl⟩
        rw [hz] at hd HC
        have hz0 : z < 0 := of_decide_eq_true hd
        clear hz
        go_wp2_with fail
        refine HC.out.mono ?_
        rintro e w1 ⟨rfl, hb1⟩
        have HB1 := hid (below_step HB.out hb1 HB.out.size)
        clear hb1
        go_wp2_with fail
        go_roundg (j - (h + 1))
        case measure => omega
        case rel => exact ⟨h + 1, j, by omega, h2, h3, by omega, by go_num, rfl, HB1⟩
      · have hd : decide (Lib.compareBytes p2 p < 0) = false := by rw [hneg]; exact decide_eq_false hn
        clear hneg
        obtain ⟨z, hz⟩ : ∃ z, Lib.compareBytes p2 p = z := ⟨_, rfl⟩
        rw [hz] at hd HC
        have hz0 : ¬ z < 0 := of_decide_eq_false hd
        clear hz
        go_wp2_with fail
        refine HC.out.mono ?_
        rintro e w1 ⟨rfl, hb1⟩
        have HB1 := hid (below_step HB.out hb1 HB.out.size)
        clear hb1
        go_wp2_with fail
        go_roundg (h - i)
        case measure => omega
        case rel => exact ⟨i, h, h1, by omega, by omega, by omega, rfl, rfl, HB1⟩
    · have e1 : i = n := by omega
      have e2 : j = n := by omega
      subst e1
      subst e2
      have hneg : ¬ (j : Int) < (j : Int) := by omega
      by_cases hjl : j < l.length
      · have j1 : (j : Int) < (l.length : Int) := by omega
        have j0 : (0 : Int) ≤ (j : Int) := Int.natCast_nonneg _
        have d1 : decide ((j : Int) < (l.length : Int)) = true := decide_eq_true j1
        have d2 : decide (j < l.length) = true := decide_eq_true hjl
        obtain ⟨b, o, p2, x2, t2, rfl, he, c1, c2, c3⟩ := SlF.at (HV.out.old HB.out) hjl
        have HC := hid (HCF.out (p2, x2, t2) wr)
        unfold fileV strV at HC
        have hz := cmp_zero p2 p
        have HZ := hid (show (findS l p).isSome = (p2 == p) by
          by_cases e : p2 = p
          · rw [beq_iff_eq.2 e, ← e, HR.out.find (f := (p2, x2, t2)) (List.mem_iff_getElem?.2 ⟨_, he⟩)]; rfl
          · rw [beq_false_of_ne e]
            cases hf : findS l p with
            | none => rfl
            | some g =>
              obtain ⟨m1, m2⟩ := find_some hf
              obtain ⟨q, hq⟩ := List.mem_iff_getElem?.1 m1
              have a1 := ahead_at HR.out (p := p) hq
              rw [m2, lt_irr, HN.out] at a1
              have a1' : ¬ q < j := of_decide_eq_false a1.symm
              have a2 := ahead_at HR.out (p := g.1) he
              by_cases hqj : q = j
              · rw [hqj, he] at hq
                cases hq
                exact absurd m2 e
              · have := (List.pairwise_iff_getElem.1 HR.out) j q hjl (List.getElem?_eq_some_iff.1 hq).1 (by omega)
                rw [(List.getElem?_eq_some_iff.1 hq).2, (List.getElem?_eq_some_iff.1 he).2, m2] at this
                have a3 := ahead_at HR.out (p := p) he
                rw [HN.out] at a3
                rw [this, decide_eq_false (by omega)] at a3
                cases a3)
        obtain ⟨z, hz2⟩ : ∃ z, Lib.compareBytes p2 p = z := ⟨_, rfl⟩
        obtain ⟨y, hy⟩ : ∃ y, (p2 == p) = y := ⟨_, rfl⟩
        rw [hz2, hy] at hz
        rw [hy] at HZ
        rw [hz2] at HC
        clear hz2 hy he
        go_wp2_with fail
        refine HC.out.mono ?_
        rintro e w1 ⟨rfl, hb1⟩
        have HB1 := hid (below_step HB.out hb1 HB.out.size)
        clear hb1
        go_wp2_with fail
        refine bodyPost_ret (results_tmp2 rfl _ _ _) rfl ?_
        exact ⟨by rw [HZ.out]; rfl, HB1.out⟩
      · have d1 : decide ((j : Int) < (l.length : Int)) = false := decide_eq_false (by omega)
        have d2 : decide (j < l.length) = false := decide_eq_false hjl
        have hjl2 : ¬ (j : Int) < (l.length : Int) := by omega
        have HZ := hid (show (findS l p).isSome = false by
          have : findS l p = none := find_none.2 fun f hf e => by
            obtain ⟨q, hq⟩ := List.mem_iff_getElem?.1 hf
            have a1 := ahead_at HR.out (p := p) hq
            rw [e, lt_irr, HN.out] at a1
            have := of_decide_eq_false a1.symm
            have := (List.getElem?_eq_some_iff.1 hq).1
            omega
          rw [this]; rfl)
        go_wp2_with fail
        refine bodyPost_ret (results_tmp2 rfl _ _ _) rfl ?_
        exact ⟨by rw [HZ.out]; rfl, HB.out⟩
theorem DSearch_any (v : Value) (l : List FileS) (p : Txt) (w : World) (hv : SlF w v l) (hr : Rise l) (hl : l.length ≤ 100000) :
    Calls Tryz.prog 46 #[v, strV p] w fun e w' => e = .returned (.tuple #[.int .i64 (aheadS l p), .bool (findS l p).isSome]) ∧ Below w.heap.size w w' := by
  have HC := hid (PSearch_any v l p w hv hr hl)
  unfold strV at HC ⊢
  go_enter Tryz.func46, Tryz.ntmps46
  go_wp2_with (go_at_call 64; refine HC.out.mono ?_; rintro e w1 ⟨rfl, hb1⟩; have HB1 := hid hb1; clear hb1)
  refine bodyPost_ret (results_tmp2 rfl _ _ _) rfl ?_
  exact ⟨rfl, HB1.out⟩
end
end Go.Proofs.YtndmblelkeepjaaGreatDoor
