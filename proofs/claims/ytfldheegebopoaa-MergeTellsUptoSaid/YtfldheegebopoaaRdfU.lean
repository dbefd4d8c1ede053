/-
  The document's own table (rickref05), walked; Common.
-/
import Derived.Test.YtfldheegebopoaaRdfT
namespace Go.Proofs.Ytfldheegebopoaa
open Go.RowKit

section
set_option maxRecDepth 100000
set_option maxHeartbeats 4000000
theorem Rtable_any (va vb : Value) (a b : List (List UInt8)) (w : World) (ha : Sl w va (strCells a)) (hb : Sl w vb (strCells b)) (hal : a.length ≤ 1000000) (hbl : b.length ≤ 1000000) :
    Calls Try.prog 63 #[va, vb] w fun e w' => ∃ t, e = .returned t ∧ TabAt w' w.heap.size t a.length b.length (fun i k => lcs (a.drop i) (b.drop k)) ∧ Below w.heap.size w w' := by
  obtain ⟨i0, hi0, hi1, hi2, hi3⟩ := info_parts Try.infoI
  obtain ⟨i9, hj0, hj1, hj2, hj3⟩ := info_parts Try.infoSlI
  obtain ⟨aa, ca, rfl⟩ := ha.form
  obtain ⟨ab, cb, rfl⟩ := hb.form
  rw [strCells_length] at ha hb ⊢
  rw [strCells_length]
  obtain ⟨n, hn⟩ : ∃ n, a.length = n := ⟨_, rfl⟩
  obtain ⟨m, hm⟩ : ∃ m, b.length = m := ⟨_, rfl⟩
  rw [hn] at ha hal ⊢
  rw [hm] at hb hbl ⊢
  obtain ⟨n1, hn1⟩ : ∃ n1, n + 1 = n1 := ⟨_, rfl⟩
  obtain ⟨m1, hm1⟩ : ∃ m1, m + 1 = m1 := ⟨_, rfl⟩
  have nw : IntKind.i64.wrap ((n : Int) + 1) = (n1 : Int) := (IntWalk.i64_in _ (by omega)).trans (by omega)
  have mw : IntKind.i64.wrap ((m : Int) + 1) = (m1 : Int) := (IntWalk.i64_in _ (by omega)).trans (by omega)
  have mk1 := fun wx : World => run_make1 (P := Try.prog) wx 105 44 i9 (.slice none 0 0) Try.underlying105 hj0 hj1 hj2 rfl n1 (by rw [hj3]; omega) (by omega)
  have mk2 := fun wx : World => run_make1 (P := Try.prog) wx 44 3 i0 (.int .i64 0) Try.underlying44 hi0 hi1 hi2 rfl m1 (by rw [hi3]; omega) (by omega)
  obtain ⟨f, hf⟩ : ∃ f : Nat → Nat → Nat, f = fun i k => lcs (a.drop i) (b.drop k) := ⟨_, rfl⟩
  rw [← hf]
  have f0 : ∀ k, f n k = 0 := fun k => by rw [hf]; show lcs (a.drop n) _ = 0; rw [List.drop_of_length_le (l := a) (by omega), lcs_nil_left]
  have f1 : ∀ i, f i m = 0 := fun i => by rw [hf]; show lcs _ (b.drop m) = 0; rw [List.drop_of_length_le (l := b) (by omega), lcs_nil_right]
  have fe : ∀ i k x, a[i]? = some x → b[k]? = some x → f i k = f (i + 1) (k + 1) + 1 := fun i k x h1 h2 => by
    obtain ⟨q1, e1⟩ := List.getElem?_eq_some_iff.1 h1
    obtain ⟨q2, e2⟩ := List.getElem?_eq_some_iff.1 h2
    rw [hf]
    show lcs (a.drop i) (b.drop k) = _
    rw [List.drop_eq_getElem_cons q1, List.drop_eq_getElem_cons q2, e1, e2, lcs_cons_eq]
  have fn : ∀ i k x y, a[i]? = some x → b[k]? = some y → x ≠ y → f i k = max (f (i + 1) k) (f i (k + 1)) := fun i k x y h1 h2 hne => by
    obtain ⟨q1, e1⟩ := List.getElem?_eq_some_iff.1 h1
    obtain ⟨q2, e2⟩ := List.getElem?_eq_some_iff.1 h2
    rw [hf]
    show lcs (a.drop i) (b.drop k) = max (lcs (a.drop (i + 1)) (b.drop k)) (lcs (a.drop i) (b.drop (k + 1)))
    rw [List.drop_eq_getElem_cons q1, List.drop_eq_getElem_cons q2, e1, e2, lcs_cons_ne hne, ← e1, ← e2, ← List.drop_eq_getElem_cons q1, ← List.drop_eq_getElem_cons q2]
  have hfm : ∀ i k, f i k ≤ n := fun i k => by
    rw [hf]
    have := (lcs_le (a.drop i) (b.drop k)).1
    rw [List.length_drop] at this
    show lcs (a.drop i) (b.drop k) ≤ n
    omega
  obtain ⟨Z1, hZ1⟩ : ∃ Z, (List.replicate n1 (Value.slice none 0 0)).toArray = Z := ⟨_, rfl⟩
  obtain ⟨Z2, hZ2⟩ : ∃ Z, (List.replicate m1 (Value.int .i64 0)).toArray = Z := ⟨_, rfl⟩
  rw [hZ1] at mk1
  rw [hZ2] at mk2
  have hg0 : ((w.alloc (.cells Z1 44)).alloc (.cells Z2 3)).heap[w.heap.size]? = some (.cells Z1 44 (0, 0)) := heap_alloc2_old w _ _
  have hg1 : ((w.alloc (.cells Z1 44)).alloc (.cells Z2 3)).heap[w.heap.size + 1]? = some (.cells Z2 3 (0, 0)) := heap_alloc2_new w _ _
  have c0 := blk_cell (i := n) (v := .slice none 0 0) hg0 (by rw [← hZ1, List.getElem?_toArray, List.getElem?_replicate, if_pos (by omega)])
  have z0 := blk_free (i := n) hg0
  have hn2 : (n : Int) < (n1 : Int) := by omega
  have nn0 : (0 : Int) ≤ (n : Int) := Int.natCast_nonneg _
  have hT0 : TabUp w ((w.alloc (.cells (Z1.setIfInBounds n (.slice (some ⟨w.heap.size + 1, 0, none⟩) m1 m1)) 44)).alloc (.cells Z2 3)) n m f n := by
    have e := fillL_set (fun j => Value.slice (some ⟨w.heap.size + 1 + (n - j), 0, none⟩) (m + 1) (m + 1)) (.slice none 0 0) (n + 1) n (by omega)
    simp only [Nat.sub_self, Nat.add_zero, hm1] at e
    have e3 : Z1.setIfInBounds n (.slice (some ⟨w.heap.size + 1, 0, none⟩) m1 m1) = (fillL (fun j => Value.slice (some ⟨w.heap.size + 1 + (n - j), 0, none⟩) m1 m1) (.slice none 0 0) (n + 1) n).toArray := by
      rw [← hZ1, List.setIfInBounds_toArray, ← hn1, ← fillL_zero (fun j => Value.slice (some ⟨w.heap.size + 1 + (n - j), 0, none⟩) m1 m1), e]
    refine ⟨by simp, ?_, fun j h1 h2 => ?_, ?_⟩
    · rw [e3, hm1]
      exact heap_alloc2_old w _ _
    · obtain rfl : j = n := by omega
      rw [Nat.sub_self, Nat.add_zero]
      refine (heap_alloc2_new w _ _).trans ?_
      rw [← hZ2]
      congr 3
      rw [← hm1]
      apply List.ext_getElem
      · simp [fillL]
      · intro q q1 q2
        simp [fillL, f0]
    · exact ((Below.refl _ _).alloc (Nat.le_refl _) _).alloc (by simp) _
  have HT0 := hid hT0
  have HZ2 := hid hZ2
  have HF0 := hid f0
  have HF1 := hid f1
  have HFE := hid fe
  have HFN := hid fn
  have HFM := hid hfm
  have HN1 := hid hn1
  have HM1 := hid hm1
  have HNL := hid hn
  have HML := hid hm
  clear hf f0 f1 fe fn hfm hn hm hT0 hn1 hm1 hg0 hg1 hZ1 hZ2
  go_enter Try.func63, Try.ntmps63
  go_wp2_with fail
  generalize (w.alloc (.cells (Z1.setIfInBounds n (.slice (some ⟨w.heap.size + 1, 0, none⟩) m1 m1)) 44)).alloc (.cells Z2 3) = w2 at HT0 ⊢
  clear c0 z0
  go_loopg [6] n (fun g i wr => ∃ I : Nat, I ≤ n ∧ I = g ∧ i = .int .i64 ((I : Int) - 1) ∧ Hid (TabUp w wr n m f I))
  case atStart => exact ⟨n, Nat.le_refl _, rfl, rfl, HT0⟩
  case round =>
    obtain ⟨I, hI, rfl, rfl, HT⟩ := hrel
    by_cases hI0 : I = 0
    · subst hI0
      have hneg : ¬ (0 : Int) ≤ ((0 : Nat) : Int) - 1 := by omega
      go_wp2
      go_ret
      refine ⟨_, rfl, ?_, HT.out.below⟩
      have := HT.out.tab
      rw [HN1.out] at this
      exact this
    · obtain ⟨i, rfl⟩ : ∃ i, I = i + 1 := ⟨I - 1, by omega⟩
      rw [show ((i + 1 : Nat) : Int) - 1 = (i : Int) by omega]
      have i0 : (0 : Int) ≤ (i : Int) := Int.natCast_nonneg _
      have i1 : (i : Int) < (n1 : Int) := by omega
      have iw : IntKind.i64.wrap ((i : Int) - 1) = (i : Int) - 1 := IntWalk.i64_in _ (by omega)
      have hin : i < n := by omega
      have hz := HT.out.size
      have h0 : (wr.alloc (.cells Z2 3)).heap[w.heap.size]? = _ := (Below.heap_alloc wr _ _ (by omega)).trans HT.out.top
      have c1 := blk_cell (i := i) (v := .slice none 0 0) h0 (by rw [List.getElem?_toArray, fillL_lo (by omega) (by omega)])
      have z1 := blk_free (i := i) h0
      have hR := HT.out.row hin (HF1.out i) rfl
      rw [HM1.out, HZ2.out] at hR
      have HR := hid hR
      clear h0 hR hz
      go_wp2_with fail
      generalize (wr.alloc (.cells Z2 3)).setCell ⟨w.heap.size, i, none⟩ (.slice (some ⟨wr.heap.size, 0, none⟩) m1 m1) = w3 at HR ⊢
      clear c1 z1
      go_loopg [7] m (fun g k wr => ∃ K : Nat, K ≤ m ∧ K = g ∧ k = .int .i64 ((K : Int) - 1) ∧ Hid (RowUp w wr n m f i K))
      case atStart => exact ⟨m, Nat.le_refl _, rfl, rfl, HR⟩
      case round =>
        obtain ⟨K, hK, rfl, rfl, HU⟩ := hrel
        by_cases hK0 : K = 0
        · subst hK0
          have hneg : ¬ (0 : Int) ≤ ((0 : Nat) : Int) - 1 := by omega
          have HD := hid HU.out.done
          go_wp2
          go_roundg i
          case measure => omega
          case rel => exact ⟨i, by omega, rfl, rfl, HD⟩
        · obtain ⟨k, rfl⟩ : ∃ k, K = k + 1 := ⟨K - 1, by omega⟩
          rw [show ((k + 1 : Nat) : Int) - 1 = (k : Int) by omega]
          have k0 : (0 : Int) ≤ (k : Int) := Int.natCast_nonneg _
          have kw : IntKind.i64.wrap ((k : Int) - 1) = (k : Int) - 1 := IntWalk.i64_in _ (by omega)
          have hkm : k < m := by omega
          have hbel := HU.out.below
          obtain ⟨a1, x, rfl, hcx, hx⟩ := (Sl.old ha hbel).strAt' (i := i) (by rw [HNL.out]; exact hin)
          obtain ⟨a2, y, rfl, hcy, hy⟩ := (Sl.old hb hbel).strAt' (i := k) (by rw [HML.out]; exact hkm)
          have in1 : (i : Int) < (n : Int) := by omega
          have km1 : (k : Int) < (m : Int) := by omega
          obtain ⟨R0, hR0⟩ : ∃ R0, w.heap.size + 1 + (n - i) = R0 := ⟨_, rfl⟩
          obtain ⟨R1, hR1⟩ : ∃ R1, w.heap.size + 1 + (n - (i + 1)) = R1 := ⟨_, rfl⟩
          obtain ⟨i2, hi2'⟩ : ∃ i2, i + 1 = i2 := ⟨_, rfl⟩
          obtain ⟨k2, hk2'⟩ : ∃ k2, k + 1 = k2 := ⟨_, rfl⟩
          have iw2 : IntKind.i64.wrap ((i : Int) + 1) = (i2 : Int) := (IntWalk.i64_in _ (by omega)).trans (by omega)
          have kw2 : IntKind.i64.wrap ((k : Int) + 1) = (k2 : Int) := (IntWalk.i64_in _ (by omega)).trans (by omega)
          have ct0 := blk_cell (i := i) HU.out.top (by rw [List.getElem?_toArray]; exact fillL_at (by omega) (Nat.le_refl _))
          have ct1 := blk_cell (i := i2) HU.out.top (by rw [List.getElem?_toArray]; exact fillL_at (by omega) (by omega))
          rw [hR0, HM1.out] at ct0
          rw [← hi2', hR1, hi2', HM1.out] at ct1
          have hrow := HU.out.rows (i + 1) (Nat.le_refl _) (by omega)
          have hcur := HU.out.cur
          rw [hR1] at hrow
          rw [hR0] at hcur
          have cr0 := blk_cell (i := k) hrow (by rw [List.getElem?_toArray]; exact fillL_at (by omega) (Nat.zero_le _))
          have cr1 := blk_cell (i := k2) hrow (by rw [List.getElem?_toArray]; exact fillL_at (by omega) (Nat.zero_le _))
          have cc1 := blk_cell (i := k2) hcur (by rw [List.getElem?_toArray]; exact fillL_at (by omega) (by omega))
          have cc0 := blk_cell (i := k) hcur (by rw [List.getElem?_toArray]; exact fillL_lo (by omega) (by omega))
          have zc0 := blk_free (i := k) hcur
          have hm1 : (k2 : Int) < (m1 : Int) := by have := HM1.out; omega
          have hm2 : (k : Int) < (m1 : Int) := by have := HM1.out; omega
          have hi3' : (i2 : Int) < (n1 : Int) := by have := HN1.out; omega
          have k20 : (0 : Int) ≤ (k2 : Int) := Int.natCast_nonneg _
          have i20 : (0 : Int) ≤ (i2 : Int) := Int.natCast_nonneg _
          by_cases hxy : x = y
          · subst hxy
            have hbe : (x == x) = true := by simp
            have hfe := HFE.out i k x hx hy
            have hfm := HFM.out (i + 1) (k + 1)
            rw [hi2', hk2'] at hfe hfm
            obtain ⟨V, hV⟩ : ∃ V, f i2 k2 = V := ⟨_, rfl⟩
            rw [hV] at hfe hfm
            rw [hi2', hV] at cr1
            have HFE2 := hid hfe
            have HR0 := hid hR0
            have vw : IntKind.i64.wrap ((V : Int) + 1) = (V : Int) + 1 := IntWalk.i64_in _ (by omega)
            clear hfe hV hrow hcur hR0 hR1 hi2' hk2' hx hy hbel cr0 cc1
            go_wp2_with fail
            go_quiet (fail)
            go_wp2_with fail
            refine wp_region_still_tail 16 (by kernel_rfl) (by kernel_rfl) ?_
            simp only [List.take_succ_cons, List.take_zero, List.drop_succ_cons, List.drop_zero]
            have e0 : (wr.drewN nq).drew.cell? ⟨w.heap.size, i, none⟩ = _ := ct0
            have e1 : (wr.drewN nq).drew.cell? ⟨w.heap.size, i2, none⟩ = _ := ct1
            have e2 : (wr.drewN nq).drew.cell? ⟨R1, k2, none⟩ = _ := cr1
            have e3 : (wr.drewN nq).drew.cell? ⟨R0, k, none⟩ = _ := cc0
            have e4 : (wr.drewN nq).drew.frozen? ⟨R0, k, none⟩ = false := zc0
            have HQ := hid (show ∃ q, (wr.drewN nq).drew = wr.drewN q from ⟨nq + 1, rfl⟩)
            change wpStill _ _ (World.drew (wr.drewN nq)) (fun a' => wpList _ _ _ _ a' (World.drew (wr.drewN nq))) _ _
            clear ct0 ct1 cr1 cc0 zc0 hcx hcy
            generalize (wr.drewN nq).drew = w5 at e0 e1 e2 e3 e4 HQ ⊢
            repeat still_step
            try refine wpStill_nil ?_
            go_wp2_with fail
            have R := HU.out.put (by omega) (by omega) HQ.out (.int .i64 ((V : Int) + 1)) (by rw [HFE2.out]; rfl)
            rw [HR0.out] at R
            go_roundg k
            case measure => omega
            case rel => exact ⟨k, by omega, rfl, rfl, hid R⟩
          · have hbe : (x == y) = false := by simpa using hxy
            have hfe := HFN.out i k x y hx hy hxy
            have hfm0 := HFM.out (i + 1) k
            have hfm1 := HFM.out i (k + 1)
            rw [hi2', hk2'] at hfe
            rw [hi2'] at hfm0 cr0
            rw [hk2'] at hfm1
            obtain ⟨V0, hV0⟩ : ∃ V, f i2 k = V := ⟨_, rfl⟩
            obtain ⟨V1, hV1⟩ : ∃ V, f i k2 = V := ⟨_, rfl⟩
            rw [hV0, hV1] at hfe
            rw [hV0] at hfm0 cr0
            rw [hV1] at hfm1 cc1
            have HFE2 := hid hfe
            have HR0 := hid hR0
            clear hfe hV0 hV1 hrow hcur hR0 hR1 hi2' hk2' hx hy hbel cr1 hxy
            go_wp2_with fail
            go_quiet (fail)
            go_wp2_with fail
            refine wp_region_still_tail 23 (by kernel_rfl) (by kernel_rfl) ?_
            simp only [List.take_succ_cons, List.take_zero, List.drop_succ_cons, List.drop_zero]
            have e0 : (wr.drewN nq).drew.cell? ⟨w.heap.size, i, none⟩ = _ := ct0
            have e1 : (wr.drewN nq).drew.cell? ⟨w.heap.size, i2, none⟩ = _ := ct1
            have e2 : (wr.drewN nq).drew.cell? ⟨R1, k, none⟩ = _ := cr0
            have e5 : (wr.drewN nq).drew.cell? ⟨R0, k2, none⟩ = _ := cc1
            have e3 : (wr.drewN nq).drew.cell? ⟨R0, k, none⟩ = _ := cc0
            have e4 : (wr.drewN nq).drew.frozen? ⟨R0, k, none⟩ = false := zc0
            have HQ := hid (show ∃ q, (wr.drewN nq).drew = wr.drewN q from ⟨nq + 1, rfl⟩)
            change wpStill _ _ (World.drew (wr.drewN nq)) (fun a' => wpList _ _ _ _ a' (World.drew (wr.drewN nq))) _ _
            clear ct0 ct1 cr0 cc0 cc1 zc0 hcx hcy
            generalize (wr.drewN nq).drew = w5 at e0 e1 e2 e3 e4 e5 HQ ⊢
            repeat still_step
            try refine wpStill_nil ?_
            go_wp2_with fail
            · rename_i hmx
              have R := HU.out.put (by omega) (by omega) HQ.out (.int .i64 (V1 : Int)) (by rw [HFE2.out, Nat.max_eq_right (by omega)])
              rw [HR0.out] at R
              go_roundg k
              case measure => omega
              case rel => exact ⟨k, by omega, rfl, rfl, hid R⟩
            · rename_i hmx
              have R := HU.out.put (by omega) (by omega) HQ.out (.int .i64 (V0 : Int)) (by rw [HFE2.out, Nat.max_eq_left (by omega)])
              rw [HR0.out] at R
              go_roundg k
              case measure => omega
              case rel => exact ⟨k, by omega, rfl, rfl, hid R⟩

end
end Go.Proofs.Ytfldheegebopoaa
