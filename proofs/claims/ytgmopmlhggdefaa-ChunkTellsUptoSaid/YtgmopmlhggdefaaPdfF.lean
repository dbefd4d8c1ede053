/-
  Rows of numbers that are filled from behind (fill).
-/
import Derived.Test.YtgmopmlhggdefaaRdfT
namespace Go.Proofs.Ytgmopmlhggdefaa
open Go.RowKit

/-- All that a step turns is what one block holds. -/
structure Only (br : Nat) (w w' : World) : Prop where
  os : w'.os = w.os
  tape : w'.tape = w.tape
  output : w'.output = w.output
  size : w'.heap.size = w.heap.size
  block : ∀ k, k ≠ br → w'.heap[k]? = w.heap[k]?
theorem Only.refl (br : Nat) (w : World) : Only br w w := ⟨rfl, rfl, rfl, rfl, fun _ _ => rfl⟩
theorem Only.drewN {br : Nat} {w wr : World} (h : Only br w wr) (q : Nat) : Only br w (wr.drewN q) := ⟨h.os, h.tape, h.output, h.size, h.block⟩
theorem Only.setCell {br : Nat} {w wr : World} (h : Only br w wr) (i : Nat) (u : Value) : Only br w (wr.setCell ⟨br, i, none⟩ u) :=
  ⟨h.os, h.tape, h.output, by simpa [World.setCell] using h.size, fun k hk => (Below.heap_setCell _ _ _ _ hk).trans (h.block k hk)⟩
theorem Only.below {br n₀ : Nat} {w w' : World} (h : Only br w w') (hn : n₀ ≤ br) : Below n₀ w w' := ⟨h.os, h.tape, h.output, Nat.le_of_eq h.size.symm, fun k hk => h.block k (by omega)⟩

def mixL (f z : Nat → Value) (N K : Nat) : List Value := (List.range N).map fun k => if K ≤ k then f k else z k
theorem mixL_length (f z : Nat → Value) (N K : Nat) : (mixL f z N K).length = N := by simp [mixL]
theorem mixL_at {f z : Nat → Value} {N K k : Nat} (h : k < N) (hK : K ≤ k) : (mixL f z N K)[k]? = some (f k) := by simp [mixL, h, hK]
theorem mixL_lo {f z : Nat → Value} {N K k : Nat} (h : k < N) (hK : k < K) : (mixL f z N K)[k]? = some (z k) := by
  simp [mixL, h]
  omega
theorem mixL_set (f z : Nat → Value) (N K : Nat) (h : K < N) : (mixL f z N (K + 1)).set K (f K) = mixL f z N K := by
  apply List.ext_getElem
  · simp [mixL]
  · intro i h1 h2
    have hi : i < N := by simpa [mixL] using h2
    by_cases e : i = K
    · subst e
      simp [mixL]
    · rw [List.getElem_set_ne (fun h => e h.symm)]
      simp only [mixL, List.getElem_map, List.getElem_range]
      by_cases h3 : K ≤ i
      · rw [if_pos h3, if_pos (by omega)]
      · rw [if_neg h3, if_neg (by omega)]
theorem mixL_last (f z : Nat → Value) (N : Nat) (h : f N = z N) : (List.range (N + 1)).map z = mixL f z (N + 1) N := by
  apply List.ext_getElem
  · simp [mixL]
  · intro i h1 h2
    have hi : i < N + 1 := by simpa [mixL] using h2
    simp only [mixL, List.getElem_map, List.getElem_range]
    by_cases h3 : N ≤ i
    · rw [if_pos h3, show i = N by omega, h]
    · rw [if_neg h3]
theorem mixL_all (f z : Nat → Value) (N : Nat) : mixL f z N 0 = (List.range N).map f := by simp [mixL]

/-- a row of numbers -/
def rowL (q : IntKind) (g : Nat → Nat) (N : Nat) : List Value := (List.range N).map fun k => .int q (g k : Nat)
theorem rowL_at {q : IntKind} {g : Nat → Nat} {N k : Nat} (h : k < N) : (rowL q g N)[k]? = some (.int q (g k : Nat)) := by simp [rowL, h]
theorem rowL_zero (q : IntKind) (N : Nat) : List.replicate N (Value.int q 0) = rowL q (fun _ => 0) N := by
  apply List.ext_getElem
  · simp [rowL]
  · intro i h1 h2
    simp [rowL]
/-- what a line and all behind it have in common with the rests of another list, out of what all behind it has -/
structure Steps (x : List UInt8) (b : List (List UInt8)) (g h : Nat → Nat) : Prop where
  last : g b.length = 0
  same : ∀ k, b[k]? = some x → g k = h (k + 1) + 1
  other : ∀ k y, b[k]? = some y → x ≠ y → g k = max (h k) (g (k + 1))
theorem steps_lcs (x : List UInt8) (a b : List (List UInt8)) : Steps x b (fun k => lcs (x :: a) (b.drop k)) (fun k => lcs a (b.drop k)) := by
  refine ⟨by simp [lcs_nil_right], fun k hk => ?_, fun k y hk hne => ?_⟩
  · obtain ⟨q2, e2⟩ := List.getElem?_eq_some_iff.1 hk
    show lcs (x :: a) (b.drop k) = lcs a (b.drop (k + 1)) + 1
    rw [List.drop_eq_getElem_cons q2, e2, lcs_cons_eq]
  · obtain ⟨q2, e2⟩ := List.getElem?_eq_some_iff.1 hk
    show lcs (x :: a) (b.drop k) = max (lcs a (b.drop k)) (lcs (x :: a) (b.drop (k + 1)))
    rw [List.drop_eq_getElem_cons q2, e2, lcs_cons_ne hne]

section
set_option maxRecDepth 100000
set_option maxHeartbeats 4000000
structure FillUp16 (br m : Nat) (g z : Nat → Nat) (K : Nat) (w wr : World) : Prop where
  only : Only br w wr
  cur : wr.heap[br]? = some (.cells (mixL (fun k => .int .u16 (g k : Nat)) (fun k => .int .u16 (z k : Nat)) (m + 1) K).toArray 76 (0, 0))
theorem FillUp16.put {br m : Nat} {g z : Nat → Nat} {K : Nat} {w wr w1 : World} (h : FillUp16 br m g z (K + 1) w wr) (hK : K < m + 1) (hd : ∃ q, w1 = wr.drewN q) (u : Value) (hu : u = .int .u16 (g K : Nat)) : FillUp16 br m g z K w (w1.setCell ⟨br, K, none⟩ u) := by
  subst hu
  obtain ⟨q, rfl⟩ := hd
  refine ⟨(h.only.drewN q).setCell _ _, ?_⟩
  have := blk_set (i := K) (u := .int .u16 (g K : Nat)) (show (wr.drewN q).heap[_]? = _ from h.cur)
  rw [List.setIfInBounds_toArray, mixL_set (fun k => .int .u16 (g k : Nat)) _ _ _ hK] at this
  exact this
theorem fill16_any (w0 : World) (br bb m : Nat) (x : List UInt8) (vb : Value) (b : List (List UInt8)) (g h z : Nat → Nat) (w : World) (hm : b.length = m) (hbl : m ≤ 1000000) (hb : Sl w0 vb (strCells b)) (hbel : Below w0.heap.size w0 w) (hlo : w0.heap.size ≤ br) (hne : bb ≠ br)
    (hrow : w.heap[br]? = some (.cells (rowL .u16 z (m + 1)).toArray 76 (0, 0))) (hz : z m = 0) (hbeh : w.heap[bb]? = some (.cells (rowL .u16 h (m + 1)).toArray 76 (0, 0)))
    (hst : Steps x b g h) (hh : ∀ k, h k ≤ 65000) (hg : ∀ k, g k ≤ 65000) :
    Calls Try.prog 46 #[.slice (some ⟨br, 0, none⟩) (m + 1) (m + 1), .slice (some ⟨bb, 0, none⟩) (m + 1) (m + 1), .string ⟨x.toArray⟩, vb] w fun e w' => (∃ v, e = .returned v) ∧ Only br w w' ∧ w'.heap[br]? = some (.cells (rowL .u16 g (m + 1)).toArray 76 (0, 0)) := by
  obtain ⟨ab, cb, rfl⟩ := hb.form
  rw [strCells_length, hm] at hb ⊢
  obtain ⟨m1, hm1⟩ : ∃ m1, m + 1 = m1 := ⟨_, rfl⟩
  have h0 : FillUp16 br m g z m w w := by
    refine ⟨Only.refl _ _, ?_⟩
    rw [← mixL_last _ _ _ (show Value.int .u16 (g m : Nat) = .int .u16 (z m : Nat) by rw [hz, ← hm, hst.last])]
    exact hrow
  have HF0 := hid h0
  have HST := hid hst
  have HH := hid hh
  have HG := hid hg
  have HML := hid hm
  have HM1 := hid hm1
  have HB := hid hbeh
  have m0 : (0 : Int) ≤ (m : Int) := Int.natCast_nonneg _
  have mw : IntKind.i64.wrap ((m : Int) - 1) = (m : Int) - 1 := IntWalk.i64_in _ (by omega)
  rw [hm1]
  clear h0 hst hh hg hm hm1 hrow hbeh hz
  go_enter Try.func46, Try.ntmps46
  go_wp2_with fail
  go_loopg [8] m (fun g' k wr => ∃ K : Nat, K ≤ m ∧ K = g' ∧ k = .int .i64 ((K : Int) - 1) ∧ Hid (FillUp16 br m g z K w wr))
  case atStart => exact ⟨m, Nat.le_refl _, rfl, rfl, HF0⟩
  case round =>
    obtain ⟨K, hK, rfl, rfl, HU⟩ := hrel
    by_cases hK0 : K = 0
    · subst hK0
      have hneg : ¬ (0 : Int) ≤ ((0 : Nat) : Int) - 1 := by omega
      go_wp2
      go_end0
      refine ⟨⟨_, rfl⟩, HU.out.only, ?_⟩
      have := HU.out.cur
      rw [mixL_all, HM1.out] at this
      exact this
    · obtain ⟨k, rfl⟩ : ∃ k, K = k + 1 := ⟨K - 1, by omega⟩
      rw [show ((k + 1 : Nat) : Int) - 1 = (k : Int) by omega]
      have k0 : (0 : Int) ≤ (k : Int) := Int.natCast_nonneg _
      have kw : IntKind.i64.wrap ((k : Int) - 1) = (k : Int) - 1 := IntWalk.i64_in _ (by omega)
      have hkm : k < m := by omega
      obtain ⟨a2, y, rfl, hcy, hy⟩ := (Sl.old hb (hbel.trans (HU.out.only.below hlo))).strAt' (i := k) (by rw [HML.out]; exact hkm)
      have km1 : (k : Int) < (m : Int) := by omega
      obtain ⟨k2, hk2'⟩ : ∃ k2, k + 1 = k2 := ⟨_, rfl⟩
      have kw2 : IntKind.i64.wrap ((k : Int) + 1) = (k2 : Int) := (IntWalk.i64_in _ (by omega)).trans (by omega)
      have hrow := (HU.out.only.block bb hne).trans HB.out
      have hcur := HU.out.cur
      have cr0 := blk_cell (i := k) hrow (by rw [List.getElem?_toArray]; exact rowL_at (by omega))
      have cr1 := blk_cell (i := k2) hrow (by rw [List.getElem?_toArray]; exact rowL_at (by omega))
      have cc1 := blk_cell (i := k2) hcur (by rw [List.getElem?_toArray]; exact mixL_at (by omega) (by omega))
      have cc0 := blk_cell (i := k) hcur (by rw [List.getElem?_toArray]; exact mixL_lo (by omega) (by omega))
      have zc0 := blk_free (i := k) hcur
      have hm1 : (k2 : Int) < (m1 : Int) := by have := HM1.out; omega
      have hm2 : (k : Int) < (m1 : Int) := by have := HM1.out; omega
      have k20 : (0 : Int) ≤ (k2 : Int) := Int.natCast_nonneg _
      by_cases hxy : x = y
      · subst hxy
        have hbe : (x == x) = true := by simp
        have hfe := HST.out.same k hy
        have hfm := HH.out (k + 1)
        rw [hk2'] at hfe hfm
        obtain ⟨V, hV⟩ : ∃ V, h k2 = V := ⟨_, rfl⟩
        rw [hV] at hfe hfm cr1
        have HFE2 := hid hfe
        have HK2 := hid hk2'
        have vw : IntKind.u16.wrap ((V : Int) + 1) = (V : Int) + 1 := IntWalk.u16_in _ (by omega)
        clear hfe hV hrow hcur hk2' hy cr0 cc1
        go_wp2_with fail
        have R := HU.out.put (by omega) ⟨0, rfl⟩ (.int .u16 ((V : Int) + 1)) (by rw [HFE2.out]; rfl)
        go_roundg k
        case measure => omega
        case rel => exact ⟨k, by omega, rfl, rfl, hid R⟩
      · have hbe : (x == y) = false := by simpa using hxy
        have hfe := HST.out.other k y hy hxy
        have hfm0 := HH.out k
        have hfm1 := HG.out (k + 1)
        rw [hk2'] at hfe hfm1
        obtain ⟨V0, hV0⟩ : ∃ V, h k = V := ⟨_, rfl⟩
        obtain ⟨V1, hV1⟩ : ∃ V, g k2 = V := ⟨_, rfl⟩
        rw [hV0, hV1] at hfe
        rw [hV0] at hfm0 cr0
        rw [hV1] at hfm1 cc1
        have HFE2 := hid hfe
        clear hfe hV0 hV1 hrow hcur hk2' hy cr1 hxy
        go_wp2_with fail
        refine wp_region_still_tail 13 (by kernel_rfl) (by kernel_rfl) ?_
        simp only [List.take_succ_cons, List.take_zero, List.drop_succ_cons, List.drop_zero]
        have e2 : (wr).drew.cell? ⟨bb, k, none⟩ = _ := cr0
        have e5 : (wr).drew.cell? ⟨br, k2, none⟩ = _ := cc1
        have e3 : (wr).drew.cell? ⟨br, k, none⟩ = _ := cc0
        have e4 : (wr).drew.frozen? ⟨br, k, none⟩ = false := zc0
        have HQ := hid (show ∃ q, (wr).drew = wr.drewN q from ⟨1, rfl⟩)
        change wpStill _ _ (World.drew wr) (fun a' => wpList _ _ _ _ a' (World.drew wr)) _ _
        clear cr0 cc0 cc1 zc0 hcy
        generalize (wr).drew = w5 at e2 e3 e4 e5 HQ ⊢
        repeat still_step
        try refine wpStill_nil ?_
        go_wp2_with fail
        · rename_i hmx
          have R := HU.out.put (by omega) HQ.out (.int .u16 (V1 : Int)) (by rw [HFE2.out, Nat.max_eq_right (by omega)])
          go_roundg k
          case measure => omega
          case rel => exact ⟨k, by omega, rfl, rfl, hid R⟩
        · rename_i hmx
          have R := HU.out.put (by omega) HQ.out (.int .u16 (V0 : Int)) (by rw [HFE2.out, Nat.max_eq_left (by omega)])
          go_roundg k
          case measure => omega
          case rel => exact ⟨k, by omega, rfl, rfl, hid R⟩
end

end Go.Proofs.Ytgmopmlhggdefaa
