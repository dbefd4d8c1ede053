/-
  Package disk: Restart, Fork.
-/
import Derived.Test.YtblhabiginckbaaDskF
namespace Go.Proofs.Ytblhabiginckbaa
open Go.RowKit

/-- What a crash leaves of a file. -/
def Fl.crash (f : Fl) (k : Int) : Fl := ⟨f.b.take ((f.s : Int) + heldI k ((f.b.length : Int) - (f.s : Int))).toNat, ((f.s : Int) + heldI k ((f.b.length : Int) - (f.s : Int))).toNat⟩
def Dk.restart (D : Dk) : Dk := ⟨D.room, D.f0.crash D.k0, D.f1.crash D.k1, false, 0, 0, 0⟩
theorem Restart_nil (w : World) : Calls Try.prog 18 #[.pointer none] w fun e w' => e = .returned (.pointer none) ∧ w = w' := by
  go_enter Try.func18, Try.ntmps18
  go_wp2
  go_ret
  exact ⟨rfl, rfl⟩
theorem Fork_nil (w : World) : Calls Try.prog 20 #[.pointer none] w fun e w' => e = .returned (.pointer none) ∧ w = w' := by
  go_enter Try.func20, Try.ntmps20
  go_wp2
  go_ret
  exact ⟨rfl, rfl⟩
theorem below_undrew {w w' : World} (h : Below w.drew.heap.size w.drew w') : Below w.heap.size w w' := ⟨h.os, h.tape, h.output, h.size, h.block⟩
theorem heldI_room {r : Nat} (h : r ≤ 1000000) : heldI (r : Int) 1000000 = (r : Int) := by unfold heldI; omega

theorem DiskIn.cellx {w : World} {dp : Nat} {v0 v1 : Value} {D : Dk} (h : DiskIn w dp v0 v1 D) : (∀ i, w.frozen? ⟨dp, i, none⟩ = false) := fun i => h.free i

/-- File 0 of a disk is given other bytes. -/
theorem DiskIn.give0 {w : World} {dp : Nat} {v0 v1 v' : Value} {D : Dk} {f : Fl} (h : DiskIn w dp v0 v1 D) (ho : w.ownsRow 0 5 1 v' f.b.length (Lib.byteCells f.b)) (hne : v'.ownBlock ≠ some dp) (hap : ∀ k, v'.ownBlock = some k → v1.ownBlock ≠ some k) :
    DiskIn ((w.setCell ⟨dp, 1, none⟩ v').setCell ⟨dp, 2, none⟩ (.int .i64 (f.s : Int))) dp v' v1 { D with f0 := f } :=
  ⟨by rw [blk_set (blk_set h.block)]; rfl, ownsRow_setCell_other (ownsRow_setCell_other ho (a := ⟨dp, 1, none⟩) hne _) (a := ⟨dp, 2, none⟩) hne _, ownsRow_setCell_other (ownsRow_setCell_other h.own1 (a := ⟨dp, 1, none⟩) h.ne1 _) (a := ⟨dp, 2, none⟩) h.ne1 _, hne, h.ne1, hap⟩
theorem DiskIn.give1 {w : World} {dp : Nat} {v0 v1 v' : Value} {D : Dk} {f : Fl} (h : DiskIn w dp v0 v1 D) (ho : w.ownsRow 0 5 1 v' f.b.length (Lib.byteCells f.b)) (hne : v'.ownBlock ≠ some dp) (hap : ∀ k, v'.ownBlock = some k → v0.ownBlock ≠ some k) :
    DiskIn ((w.setCell ⟨dp, 3, none⟩ v').setCell ⟨dp, 4, none⟩ (.int .i64 (f.s : Int))) dp v0 v' { D with f1 := f } :=
  ⟨by rw [blk_set (blk_set h.block)]; rfl, ownsRow_setCell_other (ownsRow_setCell_other h.own0 (a := ⟨dp, 3, none⟩) h.ne0 _) (a := ⟨dp, 4, none⟩) h.ne0 _, ownsRow_setCell_other (ownsRow_setCell_other ho (a := ⟨dp, 3, none⟩) hne _) (a := ⟨dp, 4, none⟩) hne _, h.ne0, hne, fun k e e' => hap k e' e⟩

set_option maxHeartbeats 1000000 in
theorem Restart_any {dp : Nat} {v0 v1 : Value} {D : Dk} (w : World) (h : DiskIn w dp v0 v1 D) (hw : D.Wf) :
    Calls Try.prog 18 #[.pointer (some ⟨dp, 0, none⟩)] w fun e w' => e = .returned (.pointer (some ⟨w.heap.size, 0, none⟩)) ∧ ∃ x0 x1, DiskIn w' w.heap.size x0 x1 D.restart ∧ (∀ k, feet w.heap.size x0 x1 k → w.heap.size ≤ k) ∧ Below w.heap.size w w' := by
  have hs0 := hw.s0
  have hs1 := hw.s1
  have hr := hw.room
  have hm := hw.most
  have hdp := lt_of_block h.block
  obtain ⟨a0, p0, hv0⟩ := owns_form h.own0
  obtain ⟨a1, p1, hv1⟩ := owns_form h.own1
  subst hv0 hv1
  have HN := hid (New_any (D.room : Int) w)
  have hroom : Dk.new (D.room : Int) = ⟨D.room, ⟨[], 0⟩, ⟨[], 0⟩, false, 0, 0, 0⟩ := by unfold Dk.new; rw [heldI_room hm]; rfl
  have HROOM := hid hroom
  clear hroom
  have e0 := h.c0
  go_enter Try.func18, Try.ntmps18
  go_wp2_with fail
  refine HN.out.mono ?_
  rw [HROOM.out]
  rintro e w1 ⟨rfl, hR, hb⟩
  have h1 := h.below hb
  clear e0
  have e1 := h1.c1
  have e2 := h1.c2
  have e3 := h1.c3
  have e4 := h1.c4
  go_wp2
  obtain ⟨hx0, hx1⟩ := index_files (.slice a0 D.f0.b.length p0) (.slice a1 D.f1.b.length p1) (.int .i64 (D.f0.s : Int)) (.int .i64 (D.f1.s : Int))
  have HX0 := hid hx0
  have HX1 := hid hx1
  clear hx0 hx1 e1 e2 e3 e4
  go_loopw [17] (fun i wr => ∃ k : Nat, k ≤ 2 ∧ i = .int .i64 (k : Int) ∧ DiskIn wr dp (.slice a0 D.f0.b.length p0) (.slice a1 D.f1.b.length p1) D ∧ Below w.heap.size w wr ∧ ∃ x0 x1, DiskIn wr w.heap.size x0 x1 ⟨D.room, if k = 0 then ⟨[], 0⟩ else D.f0.crash D.k0, if k = 2 then D.f1.crash D.k1 else ⟨[], 0⟩, false, 0, 0, 0⟩ ∧ (∀ j, feet w.heap.size x0 x1 j → w.heap.size ≤ j)) (fun i _ => 2 - (intOf i).toNat)
  case atStart => exact ⟨0, by omega, rfl, h1, hb, _, _, hR, by rintro j (e | e | e); exact Nat.le_of_eq e.symm; cases e; cases e⟩
  case round =>
    clear hR hb h1
    obtain ⟨k, hk, rfl, h1, hbel, x0, x1, hR, hx⟩ := hrel
    have h3 : k = 0 ∨ k = 1 ∨ k = 2 := by omega
    clear hk
    rcases h3 with rfl | rfl | rfl
    · rw [if_pos rfl, if_neg (by omega)] at hR
      rw [show ((0 : Nat) : Int) = 0 from rfl]
      have hxx := HX0.out
      have hzr := hbel.size
      have hLt := lt_of_block hR.block
      obtain ⟨W, hW⟩ : ∃ W, W = wr.alloc (.cells #[(Value.slice a0 D.f0.b.length p0), .int .i64 (D.f0.s : Int)] 57) := ⟨_, rfl⟩
      have hbW : Below wr.heap.size wr W := by rw [hW]; exact (Below.refl _ _).alloc (Nat.le_refl _) _
      have hzW : W.heap.size = wr.heap.size + 1 := by rw [hW]; simp
      have hin : W.heap[wr.heap.size]? = some (.cells #[(Value.slice a0 D.f0.b.length p0), .int .i64 (D.f0.s : Int)] 57 (0, 0)) := by rw [hW]; exact heap_alloc_new wr _
      have hDW := h1.below hbW
      have hRW := hR.below hbW
      obtain ⟨n, hn⟩ : ∃ n : Nat, (n : Int) = (D.f0.s : Int) + heldI D.k0 ((D.f0.b.length : Int) - (D.f0.s : Int)) := ⟨((D.f0.s : Int) + heldI D.k0 ((D.f0.b.length : Int) - (D.f0.s : Int))).toNat, by unfold heldI; omega⟩
      have hcr : D.f0.crash D.k0 = ⟨D.f0.b.take n, n⟩ := by unfold Fl.crash; rw [← hn]; rfl
      have hnl : (D.f0.b.take n).length = n := by
        rw [List.length_take]
        have : (n : Int) ≤ D.f0.b.length := by rw [hn]; unfold heldI; omega
        omega
      have HC := hid (crashed_any _ D.f0.b D.f0.s hs0 (by omega) D.k0 W.drew (show Sl W.drew _ _ from Sl.ofOwns hDW.own0) n hn)
      have HW := hid hW
      have HDW := hid hDW
      have HRW := hid hRW
      have HBW := hid hbW
      have HIN := hid hin
      have HCR := hid hcr
      have HNL := hid hnl
      have HZW := hid hzW
      have HX := hid hx
      have HREL := hid hbel
      clear hW hbW hzW hin hDW hRW hn hcr hnl hR h1 hx hbel
      go_wp2
      clear hxx
      rw [← HW.out]
      have c0 : W.cell? ⟨wr.heap.size, 0, none⟩ = some (Value.slice a0 D.f0.b.length p0) := blk_cell HIN.out rfl
      have c1 : W.cell? ⟨wr.heap.size, 1, none⟩ = some (.int .i64 (D.f0.s : Int)) := blk_cell HIN.out rfl
      have c7 := HDW.out.c7
      have n1 : ¬ w.heap.size = wr.heap.size := by have := lt_of_block HRW.out.block; have := hLt; omega
      have n2 : ¬ w.heap.size = dp := by omega
      clear hLt
      go_region_held3 (fun wy => wy.cell? ⟨wr.heap.size, 0, none⟩ = some (Value.slice a0 D.f0.b.length p0) ∧ wy.cell? ⟨wr.heap.size, 1, none⟩ = some (.int .i64 (D.f0.s : Int)) ∧ wy.cell? ⟨dp, 7, none⟩ = some (.int .i64 D.k0)) (go_keep) ((go_at_call 39; refine HC.out.mono ?_; rintro e w' ⟨v', rfl, hown, hb⟩; have HO := hid hown; have HB := hid hb; have hi' := (hb.block wr.heap.size (by show wr.heap.size < W.heap.size; rw [HZW.out]; omega)).trans HIN.out; have q0 := blk_cell (i := 0) hi' rfl; have q1 := blk_cell (i := 1) hi' rfl; have hbu := below_undrew hb; have hD' := HDW.out.below hbu; have hR' := HRW.out.below hbu; have q7 := hD'.c7; have r0 := hR'.c1; have r1 := hR'.c2; have g0 := hR'.free 1; have g1 := hR'.free 2; have HD' := hid hD'; have HR' := hid hR'; obtain ⟨a', c', hv'⟩ := owns_form hown; subst hv'; obtain ⟨b0, bp0, hxv⟩ := owns_form hR'.own0; rw [hxv] at r0; clear hown hb hi' hD' hR' hxv hbu))
      have hnew : ∀ j, (Value.slice a' n c').ownBlock = some j → wr.heap.size < j := fun j e => by
        have h1 := (HO.out.lt j e).1
        have h2 := HZW.out
        change W.heap.size ≤ j at h1
        omega
      have hown0 := HO.out.below_base 0 (Nat.zero_le _)
      have hR9 : DiskIn ((w'.setCell ⟨w.heap.size, 1, none⟩ (Value.slice a' n c')).setCell ⟨w.heap.size, 2, none⟩ (.int .i64 (n : Int))) w.heap.size (Value.slice a' n c') x1 ⟨D.room, if 1 = 0 then ⟨[], 0⟩ else D.f0.crash D.k0, if 1 = 2 then D.f1.crash D.k1 else ⟨[], 0⟩, false, 0, 0, 0⟩ := by
        rw [if_neg (by omega), if_neg (by omega), HCR.out]
        exact HR'.out.give0 (f := ⟨D.f0.b.take n, n⟩) (v' := Value.slice a' n c') (by rw [HNL.out]; exact hown0) (fun e => by have := hnew _ e; omega) (fun j e e' => by have := hnew _ e; have := own_lt HRW.out.own1 e'; have := HZW.out; omega)
      have hbw' : Below w.heap.size w w' := below_step (below_step HREL.out HBW.out hzr) (below_undrew HB.out) (by have := HBW.out.size; omega)
      have hb9 : Below w.heap.size w ((w'.setCell ⟨w.heap.size, 1, none⟩ (Value.slice a' n c')).setCell ⟨w.heap.size, 2, none⟩ (.int .i64 (n : Int))) := (hbw'.setCell (p := ⟨w.heap.size, 1, none⟩) (Nat.le_refl _) _).setCell (p := ⟨w.heap.size, 2, none⟩) (Nat.le_refl _) _
      have hD9 : DiskIn ((w'.setCell ⟨w.heap.size, 1, none⟩ (Value.slice a' n c')).setCell ⟨w.heap.size, 2, none⟩ (.int .i64 (n : Int))) dp (.slice a0 D.f0.b.length p0) (.slice a1 D.f1.b.length p1) D := h.below hb9
      have hx9 : ∀ j, feet w.heap.size (Value.slice a' n c') x1 j → w.heap.size ≤ j := by
        have hx := HX.out
        rintro j (e | e | e)
        · exact Nat.le_of_eq e.symm
        · exact Nat.le_trans hzr (Nat.le_of_lt (hnew j e))
        · exact hx j (.inr (.inr e))
      have HR9 := hid hR9
      have HD9 := hid hD9
      have HB9 := hid hb9
      have HX9 := hid hx9
      clear hR9 hD9 hb9 hx9 hbw' hown0 hnew
      go_wp2
      go_roundw
      case rel => exact ⟨1, by omega, rfl, HD9.out, HB9.out, _, _, HR9.out, HX9.out⟩
      case measure => simp [intOf]
    · rw [if_neg (by omega), if_neg (by omega)] at hR
      rw [show ((1 : Nat) : Int) = 1 from rfl]
      have hxx := HX1.out
      have hzr := hbel.size
      have hLt := lt_of_block hR.block
      obtain ⟨W, hW⟩ : ∃ W, W = wr.alloc (.cells #[(Value.slice a1 D.f1.b.length p1), .int .i64 (D.f1.s : Int)] 57) := ⟨_, rfl⟩
      have hbW : Below wr.heap.size wr W := by rw [hW]; exact (Below.refl _ _).alloc (Nat.le_refl _) _
      have hzW : W.heap.size = wr.heap.size + 1 := by rw [hW]; simp
      have hin : W.heap[wr.heap.size]? = some (.cells #[(Value.slice a1 D.f1.b.length p1), .int .i64 (D.f1.s : Int)] 57 (0, 0)) := by rw [hW]; exact heap_alloc_new wr _
      have hDW := h1.below hbW
      have hRW := hR.below hbW
      obtain ⟨n, hn⟩ : ∃ n : Nat, (n : Int) = (D.f1.s : Int) + heldI D.k1 ((D.f1.b.length : Int) - (D.f1.s : Int)) := ⟨((D.f1.s : Int) + heldI D.k1 ((D.f1.b.length : Int) - (D.f1.s : Int))).toNat, by unfold heldI; omega⟩
      have hcr : D.f1.crash D.k1 = ⟨D.f1.b.take n, n⟩ := by unfold Fl.crash; rw [← hn]; rfl
      have hnl : (D.f1.b.take n).length = n := by
        rw [List.length_take]
        have : (n : Int) ≤ D.f1.b.length := by rw [hn]; unfold heldI; omega
        omega
      have HC := hid (crashed_any _ D.f1.b D.f1.s hs1 (by omega) D.k1 W.drew (show Sl W.drew _ _ from Sl.ofOwns hDW.own1) n hn)
      have HW := hid hW
      have HDW := hid hDW
      have HRW := hid hRW
      have HBW := hid hbW
      have HIN := hid hin
      have HCR := hid hcr
      have HNL := hid hnl
      have HZW := hid hzW
      have HX := hid hx
      have HREL := hid hbel
      clear hW hbW hzW hin hDW hRW hn hcr hnl hR h1 hx hbel
      go_wp2
      clear hxx
      rw [← HW.out]
      have c0 : W.cell? ⟨wr.heap.size, 0, none⟩ = some (Value.slice a1 D.f1.b.length p1) := blk_cell HIN.out rfl
      have c1 : W.cell? ⟨wr.heap.size, 1, none⟩ = some (.int .i64 (D.f1.s : Int)) := blk_cell HIN.out rfl
      have c7 := HDW.out.c8
      have n1 : ¬ w.heap.size = wr.heap.size := by have := hLt; omega
      have n2 : ¬ w.heap.size = dp := by omega
      clear hLt
      go_region_held3 (fun wy => wy.cell? ⟨wr.heap.size, 0, none⟩ = some (Value.slice a1 D.f1.b.length p1) ∧ wy.cell? ⟨wr.heap.size, 1, none⟩ = some (.int .i64 (D.f1.s : Int)) ∧ wy.cell? ⟨dp, 8, none⟩ = some (.int .i64 D.k1)) (go_keep) ((go_at_call 39; refine HC.out.mono ?_; rintro e w' ⟨v', rfl, hown, hb⟩; have HO := hid hown; have HB := hid hb; have hi' := (hb.block wr.heap.size (by show wr.heap.size < W.heap.size; rw [HZW.out]; omega)).trans HIN.out; have q0 := blk_cell (i := 0) hi' rfl; have q1 := blk_cell (i := 1) hi' rfl; have hbu := below_undrew hb; have hD' := HDW.out.below hbu; have hR' := HRW.out.below hbu; have q7 := hD'.c8; have r0 := hR'.c3; have r1 := hR'.c4; have g0 := hR'.free 3; have g1 := hR'.free 4; have HD' := hid hD'; have HR' := hid hR'; obtain ⟨a', c', hv'⟩ := owns_form hown; subst hv'; obtain ⟨b0, bp0, hxv⟩ := owns_form hR'.own1; rw [hxv] at r0; clear hown hb hi' hD' hR' hxv hbu))
      have hnew : ∀ j, (Value.slice a' n c').ownBlock = some j → wr.heap.size < j := fun j e => by
        have h1 := (HO.out.lt j e).1
        have h2 := HZW.out
        change W.heap.size ≤ j at h1
        omega
      have hown0 := HO.out.below_base 0 (Nat.zero_le _)
      have hR9 : DiskIn ((w'.setCell ⟨w.heap.size, 3, none⟩ (Value.slice a' n c')).setCell ⟨w.heap.size, 4, none⟩ (.int .i64 (n : Int))) w.heap.size x0 (Value.slice a' n c') ⟨D.room, if 2 = 0 then ⟨[], 0⟩ else D.f0.crash D.k0, if 2 = 2 then D.f1.crash D.k1 else ⟨[], 0⟩, false, 0, 0, 0⟩ := by
        rw [if_neg (by omega), if_pos rfl, HCR.out]
        exact HR'.out.give1 (f := ⟨D.f1.b.take n, n⟩) (v' := Value.slice a' n c') (by rw [HNL.out]; exact hown0) (fun e => by have := hnew _ e; omega) (fun j e e' => by have := hnew _ e; have := own_lt HRW.out.own0 e'; have := HZW.out; omega)
      have hbw' : Below w.heap.size w w' := below_step (below_step HREL.out HBW.out hzr) (below_undrew HB.out) (by have := HBW.out.size; omega)
      have hb9 : Below w.heap.size w ((w'.setCell ⟨w.heap.size, 3, none⟩ (Value.slice a' n c')).setCell ⟨w.heap.size, 4, none⟩ (.int .i64 (n : Int))) := (hbw'.setCell (p := ⟨w.heap.size, 3, none⟩) (Nat.le_refl _) _).setCell (p := ⟨w.heap.size, 4, none⟩) (Nat.le_refl _) _
      have hD9 : DiskIn ((w'.setCell ⟨w.heap.size, 3, none⟩ (Value.slice a' n c')).setCell ⟨w.heap.size, 4, none⟩ (.int .i64 (n : Int))) dp (.slice a0 D.f0.b.length p0) (.slice a1 D.f1.b.length p1) D := h.below hb9
      have hx9 : ∀ j, feet w.heap.size x0 (Value.slice a' n c') j → w.heap.size ≤ j := by
        have hx := HX.out
        rintro j (e | e | e)
        · exact Nat.le_of_eq e.symm
        · exact hx j (.inr (.inl e))
        · exact Nat.le_trans hzr (Nat.le_of_lt (hnew j e))
      have HR9 := hid hR9
      have HD9 := hid hD9
      have HB9 := hid hb9
      have HX9 := hid hx9
      clear hR9 hD9 hb9 hx9 hbw' hown0 hnew
      go_wp2
      go_roundw
      case rel => exact ⟨2, by omega, rfl, HD9.out, HB9.out, _, _, HR9.out, HX9.out⟩
      case measure => simp [intOf]
    · rw [if_neg (by omega), if_pos rfl] at hR
      rw [show ((2 : Nat) : Int) = 2 from rfl]
      go_wp2
      go_ret
      exact ⟨rfl, _, _, hR, hx, hbel⟩
end Go.Proofs.Ytblhabiginckbaa
