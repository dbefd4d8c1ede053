/-
  Package disk: Fork.
-/
import Derived.Test.YtblhabiginckbaaDskG
namespace Go.Proofs.Ytblhabiginckbaa
open Go.RowKit

/-- A row of its own, above all that was there. -/
structure Over (w0 w : World) (v : Value) (l : List UInt8) : Prop where
  own : w.ownsRow 0 5 1 v l.length (Lib.byteCells l)
  above : ∀ k, v.ownBlock = some k → w0.heap.size < k
theorem Over.put {w0 w : World} {v : Value} {l : List UInt8} (h : Over w0 w v l) (i : Nat) (u : Value) : Over w0 (w.setCell ⟨w0.heap.size, i, none⟩ u) v l :=
  ⟨ownsRow_setCell_other h.own (a := ⟨w0.heap.size, i, none⟩) (fun e => Nat.lt_irrefl _ (h.above _ e)) _, h.above⟩
theorem Over.below {w0 w w' : World} {v : Value} {l : List UInt8} (h : Over w0 w v l) (hb : Below w.heap.size w w') : Over w0 w' v l :=
  ⟨(Keep.ofBelow (S := fun _ => False) hb).owns h.own fun _ _ h => h, h.above⟩

set_option maxHeartbeats 1000000 in
theorem Fork_any {dp : Nat} {v0 v1 : Value} {D : Dk} (w : World) (h : DiskIn w dp v0 v1 D) (hw : D.Wf) :
    Calls Try.prog 20 #[.pointer (some ⟨dp, 0, none⟩)] w fun e w' => e = .returned (.pointer (some ⟨w.heap.size, 0, none⟩)) ∧ ∃ x0 x1, DiskIn w' w.heap.size x0 x1 D ∧ (∀ k, feet w.heap.size x0 x1 k → w.heap.size ≤ k) ∧ Below w.heap.size w w' := by
  have hr := hw.room
  have hm := hw.most
  have hdp := lt_of_block h.block
  obtain ⟨a0, p0, hv0⟩ := owns_form h.own0
  obtain ⟨a1, p1, hv1⟩ := owns_form h.own1
  subst hv0 hv1
  have e0 := h.c0
  have e1 := h.c1
  have e2 := h.c2
  have e3 := h.c3
  have e4 := h.c4
  have e5 := h.c5
  have e6 := h.c6
  have e7 := h.c7
  have e8 := h.c8
  obtain ⟨hx0, hx1⟩ := index_files (.slice a0 D.f0.b.length p0) (.slice a1 D.f1.b.length p1) (.int .i64 (D.f0.s : Int)) (.int .i64 (D.f1.s : Int))
  have HX0 := hid hx0
  have HX1 := hid hx1
  clear hx0 hx1
  go_enter Try.func20, Try.ntmps20
  go_wp2
  clear e0 e1 e2 e3 e4 e5 e6 e7 e8
  go_loopw [15] (fun i wr => ∃ k : Nat, k ≤ 2 ∧ i = .int .i64 (k : Int) ∧ Below w.heap.size w wr ∧ ∃ y0 y1, wr.heap[w.heap.size]? = some (.cells (dkCells D y0 y1) 61 (0, 0)) ∧ (k ≠ 0 → Over w wr y0 D.f0.b) ∧ (k = 2 → Over w wr y1 D.f1.b ∧ ∀ j, y0.ownBlock = some j → y1.ownBlock ≠ some j)) (fun i _ => 2 - (intOf i).toNat)
  case atStart =>
    refine ⟨0, by omega, rfl, (Below.refl _ _).alloc (Nat.le_refl _) _, _, _, heap_alloc_new w _, fun h => absurd rfl h, fun h => by omega⟩
  case round =>
    obtain ⟨k, hk, rfl, hbel, y0, y1, hbl, hy0, hy1⟩ := hrel
    have h3 : k = 0 ∨ k = 1 ∨ k = 2 := by omega
    clear hk
    rcases h3 with rfl | rfl | rfl
    · rw [show ((0 : Nat) : Int) = 0 from rfl]
      have hxx := HX0.out
      have hzr := hbel.size
      have hLt := lt_of_block hbl
      obtain ⟨W, hW⟩ : ∃ W, W = wr.alloc (.cells #[(Value.slice a0 D.f0.b.length p0), .int .i64 (D.f0.s : Int)] 57) := ⟨_, rfl⟩
      have hbW : Below wr.heap.size wr W := by rw [hW]; exact (Below.refl _ _).alloc (Nat.le_refl _) _
      have hzW : W.heap.size = wr.heap.size + 1 := by rw [hW]; simp
      have hin : W.heap[wr.heap.size]? = some (.cells #[(Value.slice a0 D.f0.b.length p0), .int .i64 (D.f0.s : Int)] 57 (0, 0)) := by rw [hW]; exact heap_alloc_new wr _
      have hbwW : Below w.heap.size w W := below_step hbel hbW hzr
      have hDW := h.below hbwW
      have hblW := (hbW.block _ hLt).trans hbl
      have HC := hid (copied_any _ D.f0.b (D.f0.s : Int) (by omega) W (Sl.ofOwns hDW.own0))
      have HW := hid hW
      have HIN := hid hin
      have HZW := hid hzW
      have HBW := hid hbwW
      have HBL := hid hblW
      skip
      clear hW hbW hzW hin hDW hbwW hblW hbl hy0 hy1 hbel
      go_wp2_with fail
      clear hxx
      rw [← HW.out]
      refine HC.out.mono ?_
      rintro e w' ⟨v', rfl, hown, hb⟩
      have hb' := (hb.block w.heap.size (by rw [HZW.out]; omega)).trans HBL.out
      have HO := hid hown
      have HB := hid hb
      obtain ⟨a', c', hv'⟩ := owns_form hown
      subst hv'
      have r0 := blk_cell (i := 1) hb' rfl
      have r1 := blk_cell (i := 2) hb' rfl
      have g0 := blk_free (i := 1) hb'
      have g1 := blk_free (i := 2) hb'
      have hB9 : ((w'.setCell ⟨w.heap.size, 1, none⟩ (Value.slice a' D.f0.b.length c')).setCell ⟨w.heap.size, 2, none⟩ (.int .i64 (D.f0.s : Int))).heap[w.heap.size]? = some (.cells (dkCells D (Value.slice a' D.f0.b.length c') y1) 61 (0, 0)) := by
        rw [blk_set (blk_set hb')]
        rfl
      have hov : Over w w' (Value.slice a' D.f0.b.length c') D.f0.b := ⟨hown.below_base 0 (Nat.zero_le _), fun j e => by have h1 := (hown.lt j e).1; rw [HZW.out] at h1; omega⟩
      have hov9 := (hov.put 1 (Value.slice a' D.f0.b.length c')).put 2 (.int .i64 (D.f0.s : Int))
      have hbw9 := ((below_step HBW.out hb HBW.out.size).setCell (p := ⟨w.heap.size, 1, none⟩) (Nat.le_refl _) (Value.slice a' D.f0.b.length c')).setCell (p := ⟨w.heap.size, 2, none⟩) (Nat.le_refl _) (.int .i64 (D.f0.s : Int))
      have HB9 := hid hB9
      have HOV := hid hov9
      have HBW9 := hid hbw9
      clear hown hb hb' hB9 hov hov9 hbw9
      go_wp2
      go_roundw
      case rel => exact ⟨1, by omega, rfl, HBW9.out, _, _, HB9.out, fun _ => HOV.out, fun h => by omega⟩
      case measure => simp [intOf]
    · rw [show ((1 : Nat) : Int) = 1 from rfl]
      have hxx := HX1.out
      have hzr := hbel.size
      have hLt := lt_of_block hbl
      obtain ⟨W, hW⟩ : ∃ W, W = wr.alloc (.cells #[(Value.slice a1 D.f1.b.length p1), .int .i64 (D.f1.s : Int)] 57) := ⟨_, rfl⟩
      have hbW : Below wr.heap.size wr W := by rw [hW]; exact (Below.refl _ _).alloc (Nat.le_refl _) _
      have hzW : W.heap.size = wr.heap.size + 1 := by rw [hW]; simp
      have hin : W.heap[wr.heap.size]? = some (.cells #[(Value.slice a1 D.f1.b.length p1), .int .i64 (D.f1.s : Int)] 57 (0, 0)) := by rw [hW]; exact heap_alloc_new wr _
      have hbwW : Below w.heap.size w W := below_step hbel hbW hzr
      have hDW := h.below hbwW
      have hblW := (hbW.block _ hLt).trans hbl
      have HC := hid (copied_any _ D.f1.b (D.f1.s : Int) (by omega) W (Sl.ofOwns hDW.own1))
      have HW := hid hW
      have HIN := hid hin
      have HZW := hid hzW
      have HBW := hid hbwW
      have HBL := hid hblW
      have HY0 := hid ((hy0 (by omega)).below hbW)
      clear hW hbW hzW hin hDW hbwW hblW hbl hy0 hy1 hbel
      go_wp2_with fail
      clear hxx
      rw [← HW.out]
      refine HC.out.mono ?_
      rintro e w' ⟨v', rfl, hown, hb⟩
      have hb' := (hb.block w.heap.size (by rw [HZW.out]; omega)).trans HBL.out
      have HO := hid hown
      have HB := hid hb
      obtain ⟨a', c', hv'⟩ := owns_form hown
      subst hv'
      have r0 := blk_cell (i := 3) hb' rfl
      have r1 := blk_cell (i := 4) hb' rfl
      have g0 := blk_free (i := 3) hb'
      have g1 := blk_free (i := 4) hb'
      have hB9 : ((w'.setCell ⟨w.heap.size, 3, none⟩ (Value.slice a' D.f1.b.length c')).setCell ⟨w.heap.size, 4, none⟩ (.int .i64 (D.f1.s : Int))).heap[w.heap.size]? = some (.cells (dkCells D y0 (Value.slice a' D.f1.b.length c')) 61 (0, 0)) := by
        rw [blk_set (blk_set hb')]
        rfl
      have hov : Over w w' (Value.slice a' D.f1.b.length c') D.f1.b := ⟨hown.below_base 0 (Nat.zero_le _), fun j e => by have h1 := (hown.lt j e).1; rw [HZW.out] at h1; omega⟩
      have hov9 := (hov.put 3 (Value.slice a' D.f1.b.length c')).put 4 (.int .i64 (D.f1.s : Int))
      have hbw9 := ((below_step HBW.out hb HBW.out.size).setCell (p := ⟨w.heap.size, 3, none⟩) (Nat.le_refl _) (Value.slice a' D.f1.b.length c')).setCell (p := ⟨w.heap.size, 4, none⟩) (Nat.le_refl _) (.int .i64 (D.f1.s : Int))
      have HB9 := hid hB9
      have HOV := hid hov9
      have HBW9 := hid hbw9
      clear hown hb hb' hB9 hov hov9 hbw9
      go_wp2
      go_roundw
      case rel =>
        refine ⟨2, by omega, rfl, HBW9.out, _, _, HB9.out, fun _ => ((HY0.out.below HB.out).put 3 _).put 4 _, fun _ => ⟨HOV.out, fun j e e' => ?_⟩⟩
        have h1 := own_lt HY0.out.own e
        have h2 := (HO.out.lt j e').1
        omega
      case measure => simp [intOf]
    · have h0 := hy0 (by omega)
      obtain ⟨h1, hap⟩ := hy1 rfl
      have hR : DiskIn wr w.heap.size y0 y1 D := ⟨hbl, h0.own, h1.own, fun e => Nat.lt_irrefl _ (h0.above _ e), fun e => Nat.lt_irrefl _ (h1.above _ e), hap⟩
      have hx : ∀ j, feet w.heap.size y0 y1 j → w.heap.size ≤ j := by
        rintro j (e | e | e)
        · exact Nat.le_of_eq e.symm
        · exact Nat.le_of_lt (h0.above _ e)
        · exact Nat.le_of_lt (h1.above _ e)
      have HR := hid hR
      have HX := hid hx
      clear hy0 hy1 h0 h1 hap hbl hR hx
      rw [show ((2 : Nat) : Int) = 2 from rfl]
      go_wp2
      go_ret
      exact ⟨rfl, _, _, HR.out, HX.out, hbel⟩
end Go.Proofs.Ytblhabiginckbaa
