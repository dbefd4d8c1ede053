/-
  Package tree (landed): clashes (slices.ContainsFunc over a closure), wrong, Same (slices.Equal), at files.
-/
import Derived.Test.YtndmblelkeepjaaGreatDoorPtrA
namespace Go.Proofs.YtndmblelkeepjaaGreatDoor
open Go.RowKit

section
set_option maxRecDepth 100000
set_option maxHeartbeats 4000000
def anyClash (l : List FileS) (p : Txt) : Bool := l.any fun f => clashS f.1 p
theorem PClashF_any (f : FileS) (p : Txt) (g : Nat) (w : World) (hg : w.cell? ⟨g, 0, none⟩ = some (strV p)) (hf : f.1.length ≤ 1000000) (hp : p.length ≤ 1000000) :
    Calls Tryz.prog 69 #[fileV f, .pointer (some ⟨g, 0, none⟩)] w fun e w' => e = .returned (.bool (clashS f.1 p)) ∧ Below w.heap.size w w' := by
  obtain ⟨q, x, t⟩ := f
  have HC := hid (fun wy => DClash_any q p wy hf hp)
  have HB := hid ((Below.refl _ w).alloc (Nat.le_refl w.heap.size) (.cells #[.string ⟨q.toArray⟩, .bool x, .string ⟨t.toArray⟩] 35))
  have hg2 := below_cell HB.out hg
  clear hf hp
  unfold strV at HC hg hg2
  unfold fileV strV
  go_enter Tryz.func69, Tryz.ntmps69
  go_wp2_with (go_at_call 70; refine (HC.out _).mono ?_; rintro e w1 ⟨rfl, hb1⟩; have HB1 := hid (below_step HB.out hb1 HB.out.size); clear hb1)
  go_ret
  exact ⟨rfl, HB1.out⟩
theorem PIndexF_any (v : Value) (l : List FileS) (p : Txt) (g : Nat) (w : World) (hv : SlF w v l) (hl : l.length ≤ 100000) (hg : w.cell? ⟨g, 0, none⟩ = some (strV p)) (hf : ∀ f ∈ l, f.1.length ≤ 1000000) (hp : p.length ≤ 1000000) :
    Calls Tryz.prog 81 #[v, .func (Fn.func 69) #[] #[.pointer (some ⟨g, 0, none⟩)]] w fun e w' => ∃ z : Int, e = .returned (.int .i64 z) ∧ decide (0 ≤ z) = anyClash l p ∧ Below w.heap.size w w' := by
  obtain ⟨ao, cap, rfl⟩ := hv.form
  have HV := hid hv
  have HL := hid hl
  have HG := hid hg
  have HF := hid hf
  have HP := hid hp
  clear hv hl hg hf hp
  go_enter Tryz.func81, Tryz.ntmps81
  go_wp2_with fail
  go_loopg [5, 8] l.length (fun gk _ i wr => ∃ k : Nat, k ≤ l.length ∧ l.length - k = gk ∧ i = .int .i64 k ∧ Hid (anyClash l p = anyClash (l.drop k) p) ∧ Hid (Below w.heap.size w wr))
  case atStart => exact ⟨0, Nat.zero_le _, rfl, rfl, hid rfl, hid (Below.refl _ _)⟩
  case round =>
    obtain ⟨k, hk, rfl, rfl, HA, HB⟩ := hrel
    have k0 : (0 : Int) ≤ (k : Int) := Int.natCast_nonneg _
    by_cases hlt : k < l.length
    · have k1 : (k : Int) < (l.length : Int) := by omega
      have kw : IntKind.i64.wrap ((k : Int) + 1) = (k : Int) + 1 := IntWalk.i64_in _ (by have := HL.out; omega)
      obtain ⟨b, o, p2, x2, t2, rfl, he, c1, c2, c3⟩ := SlF.at (HV.out.old HB.out) hlt
      have hd := drop_one he
      have HX := hid (show anyClash l p = (clashS p2 p || anyClash (l.drop (k + 1)) p) by rw [HA.out, hd]; rfl)
      have HC := hid (PClashF_any (p2, x2, t2) p g wr (below_cell HB.out HG.out) (HF.out _ (List.mem_iff_getElem?.2 ⟨k, he⟩)) HP.out)
      unfold fileV strV at HC
      dsimp only at HC
      obtain ⟨y, hy⟩ : ∃ y, clashS p2 p = y := ⟨_, rfl⟩
      rw [hy] at HX HC
      clear he hd hy HA
      cases y with
      | true =>
        have HQ := hid (show anyClash l p = true by rw [HX.out]; rfl)
        clear HX
        go_wp2_with fail
        refine HC.out.mono ?_
        rintro e w1 ⟨rfl, hb1⟩
        have HB1 := hid (below_step HB.out hb1 HB.out.size)
        clear hb1
        go_wp2_with fail
        go_ret
        exact ⟨(k : Int), rfl, by rw [HQ.out]; exact decide_eq_true k0, HB1.out⟩
      | false =>
        have HQ := hid (show anyClash l p = anyClash (l.drop (k + 1)) p by rw [HX.out]; rfl)
        clear HX
        go_wp2_with fail
        refine HC.out.mono ?_
        rintro e w1 ⟨rfl, hb1⟩
        have HB1 := hid (below_step HB.out hb1 HB.out.size)
        clear hb1
        go_wp2_with fail
        go_roundg (l.length - (k + 1))
        case measure => omega
        case rel => exact ⟨k + 1, by omega, rfl, by go_num, HQ, HB1⟩
    · obtain rfl : k = l.length := by omega
      have hneg : ¬ (l.length : Int) < (l.length : Int) := by omega
      have HQ := hid (show anyClash l p = false by rw [HA.out, List.drop_length]; rfl)
      go_wp2_with fail
      go_ret
      exact ⟨-1, rfl, by rw [HQ.out]; rfl, HB.out⟩
theorem PContF_any (v : Value) (l : List FileS) (p : Txt) (g : Nat) (w : World) (hv : SlF w v l) (hl : l.length ≤ 100000) (hg : w.cell? ⟨g, 0, none⟩ = some (strV p)) (hf : ∀ f ∈ l, f.1.length ≤ 1000000) (hp : p.length ≤ 1000000) :
    Calls Tryz.prog 68 #[v, .func (Fn.func 69) #[] #[.pointer (some ⟨g, 0, none⟩)]] w fun e w' => e = .returned (.bool (anyClash l p)) ∧ Below w.heap.size w w' := by
  have HC := hid (PIndexF_any v l p g w hv hl hg hf hp)
  clear hv hl hg hf hp
  obtain ⟨r, hr⟩ : ∃ r, anyClash l p = r := ⟨_, rfl⟩
  rw [hr] at HC ⊢
  clear hr
  go_enter Tryz.func68, Tryz.ntmps68
  go_wp2_with (go_at_call 81; refine HC.out.mono ?_; rintro e w1 ⟨z, rfl, hz, hb1⟩; have HB1 := hid hb1; have HZ := hid hz; clear hb1 hz)
  go_ret
  exact ⟨by rw [← HZ.out]; rfl, HB1.out⟩
theorem DClashes_any (v : Value) (l : List FileS) (p : Txt) (w : World) (hv : SlF w v l) (hl : l.length ≤ 100000) (hf : ∀ f ∈ l, f.1.length ≤ 1000000) (hp : p.length ≤ 1000000) :
    Calls Tryz.prog 48 #[v, strV p] w fun e w' => e = .returned (.bool (anyClash l p)) ∧ Below w.heap.size w w' := by
  have HB := hid ((Below.refl _ w).alloc (Nat.le_refl w.heap.size) (.cells #[strV p] 9))
  have HC := hid (PContF_any v l p w.heap.size (w.alloc (.cells #[strV p] 9)) (hv.old HB.out) hl (blk_cell (i := 0) (heap_alloc_new w _) rfl) hf hp)
  clear hv hl hf hp
  unfold strV at HB HC ⊢
  go_enter Tryz.func48, Tryz.ntmps48
  go_wp2_with (go_at_call 68; refine HC.out.mono ?_; rintro e w1 ⟨rfl, hb1⟩; have HB1 := hid (below_step HB.out hb1 HB.out.size); clear hb1)
  go_ret
  exact ⟨rfl, HB1.out⟩
/-- why a file can be in no tree -/
def wrongS (f : FileS) : Nat := if rightS f.1 = true then (if f.2.2.length ≤ 20000 then 0 else 6) else 11
theorem wrong_zero (f : FileS) : (wrongS f = 0) ↔ okOne f = true := by
  unfold wrongS okOne
  rw [Bool.and_eq_true, decide_eq_true_eq]
  split
  · rename_i h
    split <;> simp_all
  · simp_all
theorem DRightQ_any (p : Txt) (w : World) :
    Calls Tryz.prog 49 #[strV p] w fun e w' => e = .returned (.bool (rightS p)) ∧ Below w.heap.size w w' := by
  by_cases hn : p.length ≤ 100
  · exact DRightP_any p w (by omega)
  · have p2 : decide (100 < (p.length : Int)) = true := decide_eq_true (by omega)
    have p4 : decide (100 < p.length) = true := decide_eq_true (by omega)
    have HY := hid (show rightS p = false by unfold rightS; rw [decide_eq_false (fun h => hn h.2)]; rfl)
    clear hn
    unfold strV
    go_enter Tryz.func49, Tryz.ntmps49
    go_wp2_with fail
    go_ret
    exact ⟨by rw [HY.out]; rfl, Below.refl _ _⟩
theorem DWrong_any (f : FileS) (w : World) :
    Calls Tryz.prog 35 #[fileV f] w fun e w' => e = .returned (.int .i64 (wrongS f)) ∧ Below w.heap.size w w' := by
  obtain ⟨q, x, t⟩ := f
  have HB := hid ((Below.refl _ w).alloc (Nat.le_refl w.heap.size) (.cells #[.string ⟨q.toArray⟩, .bool x, .string ⟨t.toArray⟩] 35))
  have HC := hid (fun wy => DRightQ_any q wy)
  have HG := hid (fun (wy : World) (h : Below (w.alloc (.cells #[.string ⟨q.toArray⟩, .bool x, .string ⟨t.toArray⟩] 35)).heap.size (w.alloc (.cells #[.string ⟨q.toArray⟩, .bool x, .string ⟨t.toArray⟩] 35)) wy) => below_cell h (blk_cell (i := 2) (heap_alloc_new w _) rfl))
  obtain ⟨r, hr⟩ : ∃ r, rightS q = r := ⟨_, rfl⟩
  rw [hr] at HC
  unfold strV at HC
  unfold fileV strV
  cases r with
  | false =>
    have HD := hid (show wrongS (q, x, t) = 11 by unfold wrongS; rw [hr]; rfl)
    clear hr
    go_enter Tryz.func35, Tryz.ntmps35
    go_wp2_with (go_at_call 49; refine (HC.out _).mono ?_; rintro e w1 ⟨rfl, hb1⟩; have HB1 := hid (below_step HB.out hb1 HB.out.size); clear hb1)
    go_ret
    exact ⟨by rw [HD.out]; rfl, HB1.out⟩
  | true =>
    by_cases ht : t.length ≤ 20000
    · have t1 : decide (20000 < (t.length : Int)) = false := decide_eq_false (by omega)
      have t2 : decide (20000 < t.length) = false := decide_eq_false (by omega)
      have HD := hid (show wrongS (q, x, t) = 0 by unfold wrongS; rw [hr, if_pos rfl, if_pos ht])
      clear hr ht
      go_enter Tryz.func35, Tryz.ntmps35
      go_wp2_with (go_at_call 49; refine (HC.out _).mono ?_; rintro e w1 ⟨rfl, hb1⟩; have c2 := HG.out _ hb1; have HB1 := hid (below_step HB.out hb1 HB.out.size); clear hb1)
      go_ret
      exact ⟨by rw [HD.out]; rfl, HB1.out⟩
    · have t1 : decide (20000 < (t.length : Int)) = true := decide_eq_true (by omega)
      have t2 : decide (20000 < t.length) = true := decide_eq_true (by omega)
      have HD := hid (show wrongS (q, x, t) = 6 by unfold wrongS; rw [hr, if_pos rfl, if_neg ht])
      clear hr ht
      go_enter Tryz.func35, Tryz.ntmps35
      go_wp2_with (go_at_call 49; refine (HC.out _).mono ?_; rintro e w1 ⟨rfl, hb1⟩; have c2 := HG.out _ hb1; have HB1 := hid (below_step HB.out hb1 HB.out.size); clear hb1)
      go_ret
      exact ⟨by rw [HD.out]; rfl, HB1.out⟩
end
end Go.Proofs.YtndmblelkeepjaaGreatDoor
