/-
  ChunkWhole: chunks, one behind the other, are the three texts; each is of the kind that it should be; no two Stable ones stand side by side.
-/
import Derived.Test.YtgmopmlhggdefaaCkAw
import Derived.Test.YtgmopmlhggdefaaRow3
import Derived.Test.YtgmopmlhggdefaaOpenS
import Derived.Deep.QuietTactic
import Derived.BigQuiet
import Derived.Deep.DeepCutAuto
import Derived.Deep.CutRange
import Derived.ProofKit
import Derived.OpenShut
namespace Go.Proofs.Ytgmopmlhggdefaa.chunkWhole
open Go.ChangeShapes Go.WideShapes Go.ChangeAt Go.RowKit

theorem flat_snoc {α β : Type} {f : α → List β} {l : List α} {k : Nat} {c : α} (h : l[k]? = some c) : (l.take (k + 1)).flatMap f = (l.take k).flatMap f ++ f c := by
  rw [take_snoc h, List.flatMap_append]
  simp
theorem flat_take {α β : Type} {f : α → List β} {l : List α} (k : Nat) : ((l.take k).flatMap f).length ≤ (l.flatMap f).length := by
  conv => rhs; rw [← List.take_append_drop k l]
  rw [List.flatMap_append, List.length_append]
  omega
section
set_option maxRecDepth 100000
set_option maxHeartbeats 8000000
theorem walk (va : Value) (a : List (List UInt8)) (vb : Value) (b : List (List UInt8)) (vc : Value) (c : List (List UInt8)) (w : World) (ha : FactStrs w va a) (hb : FactStrs w vb b) (hc : FactStrs w vc c) :
    Calls Try.prog 4 #[va, vb, vc] w fun e w' => e = .returned (.bool true) ∧ Below w.heap.size w w' := by
  have HA := hid ha.1
  have HB := hid hb.1
  have HC := hid hc.1
  clear ha hb hc
  obtain ⟨ao, ac, rfl⟩ := HA.out.form
  obtain ⟨bo, bc, rfl⟩ := HB.out.form
  obtain ⟨co, cc, rfl⟩ := HC.out.form
  have hFEW := cfew_any _ _ _ a b c w HA.out HB.out HC.out
  rw [strCells_length] at HA HB HC hFEW ⊢
  rw [strCells_length, strCells_length] at hFEW ⊢
  by_cases hf : a.length ≤ 60 ∧ b.length ≤ 60 ∧ c.length ≤ 60
  · rw [decide_eq_true hf] at hFEW
    have HFEW := hid hFEW
    have HN := hid hf
    have HW := hid (chunks_whole (a := a) (b := b) (c := c) (by omega) (by omega) (by omega))
    have HF := hid (chunks_few (a := a) (b := b) (c := c) (by omega) (by omega) (by omega))
    clear hf hFEW
    go_enter Try.func4, Try.ntmps4
    go_wp2_with fail
    refine HFEW.out.mono ?_
    rintro e w1 ⟨rfl, rfl⟩
    clear HFEW
    go_wp2_with fail
    refine (DOf_any _ _ _ a b c w HA.out HB.out HC.out (by have := HN.out.1; omega) (by have := HN.out.2.1; omega) (by have := HN.out.2.2; omega)).mono ?_
    rintro e x1 ⟨v1, rfl, s1, hb⟩
    have hB1 := hb
    have HA := hid (Sl.old HA.out hb)
    have HB := hid (Sl.old HB.out hb)
    have HC := hid (Sl.old HC.out hb)
    obtain ⟨o1, c1, rfl⟩ := s1.form
    have X := hid s1
    clear hb s1 
    have hM3 : (chunksS a b c).length ≤ 180 := by have hM := HF.out.2.2; have hM2 := HN.out; omega
    go_wp2_with fail
    go_loopg [8, 9, 10, 11] (chunksS a b c).length (fun g v1 v2 v3 i wx => ∃ k : Nat, k ≤ (chunksS a b c).length ∧ (chunksS a b c).length - k = g ∧ i = .int .i64 k ∧ Hid (Rows3 wx x1.heap.size v1 v2 v3 (((chunksS a b c).take k).flatMap (·.2.1)) (((chunksS a b c).take k).flatMap (·.2.2.1)) (((chunksS a b c).take k).flatMap (·.2.2.2))) ∧ Hid (Below x1.heap.size x1 wx))
    case atStart => exact ⟨0, Nat.zero_le _, rfl, rfl, hid (Rows3.nil _ _), hid (Below.refl _ _)⟩
    case round =>
      obtain ⟨k, hk, rfl, rfl, HRW, HBX⟩ := hrel
      have k0 : (0 : Int) ≤ (k : Int) := Int.natCast_nonneg _
      by_cases hlt : k < (chunksS a b c).length
      · have k1 : (k : Int) < ((chunksS a b c).length : Int) := by omega
        have kw : IntKind.i64.wrap ((k : Int) + 1) = (k : Int) + 1 := IntWalk.i64_in _ (by omega)
        obtain ⟨bx, ox, z, xb, xo, xt, ub, uo, ut, rfl, c1, c2, c3, c4, s1, s2, s3, he⟩ := X.out.at' (i := k) hlt
        have lift : ∀ {p : Addr} {u : Value}, x1.cell? p = some u → wr.cell? p = some u := fun {p u} hp => (World.cell?_of_block (w := x1) (HBX.out.block _ (World.block_lt_of_cell? x1 _ hp))).trans hp
        obtain ⟨bo', bc', rfl⟩ := s1.form
        obtain ⟨oo', oc', rfl⟩ := s2.form
        obtain ⟨to', tc', rfl⟩ := s3.form
        rw [strCells_length] at c2 c3 c4 s1 s2 s3
        have SB := hid s1
        have SO := hid s2
        have ST := hid s3
        have c1 := lift c1
        have c2 := lift c2
        have c3 := lift c3
        have c4 := lift c4
        have hfl := HF.out.1.at he
        obtain ⟨hkind, hpos⟩ := HW.out.2.2.2.2.1 _ (List.mem_of_getElem? he)
        simp only at hkind hpos
        have HKI := hid hkind
        clear hkind
        have HPREV := hid (fun j (p : CkS) (hj : k = j + 1) (hp : (chunksS a b c)[j]? = some p) (h1 : z = 1) (h2 : p.1 = 1) => HW.out.2.2.2.1.at hp (by rw [← hj]; exact he) ⟨h2, h1⟩)
        have f1 := flat_snoc (f := fun k : CkS => k.2.1) he
        have f2 := flat_snoc (f := fun k : CkS => k.2.2.1) he
        have f3 := flat_snoc (f := fun k : CkS => k.2.2.2) he
        have g1 := flat_take (f := fun k : CkS => k.2.1) (l := chunksS a b c) k
        have g2 := flat_take (f := fun k : CkS => k.2.2.1) (l := chunksS a b c) k
        have g3 := flat_take (f := fun k : CkS => k.2.2.2) (l := chunksS a b c) k
        rw [HW.out.1] at g1
        rw [HW.out.2.1] at g2
        rw [HW.out.2.2.1] at g3
        obtain ⟨X0, hX0⟩ : ∃ X0, ((chunksS a b c).take k).flatMap (fun k : CkS => k.2.1) = X0 := ⟨_, rfl⟩
        obtain ⟨Y0, hY0⟩ : ∃ X0, ((chunksS a b c).take k).flatMap (fun k : CkS => k.2.2.1) = X0 := ⟨_, rfl⟩
        obtain ⟨Z0, hZ0⟩ : ∃ X0, ((chunksS a b c).take k).flatMap (fun k : CkS => k.2.2.2) = X0 := ⟨_, rfl⟩
        rw [hX0] at f1 g1
        rw [hY0] at f2 g2
        rw [hZ0] at f3 g3
        have HRX := hid (show Rows3 wr x1.heap.size u8 u9 u10 X0 Y0 Z0 by rw [← hX0, ← hY0, ← hZ0]; exact HRW.out)
        have HF1 := hid f1
        have HF2 := hid f2
        have HF3 := hid f3
        have HLN := hid (show X0.length + xb.length ≤ 4000000000 ∧ Y0.length + xo.length ≤ 4000000000 ∧ Z0.length + xt.length ≤ 4000000000 by have := HN.out; omega)
        have HLS := hid hfl
        have HBA : Below wr.heap.size wr (wr.alloc (.cells #[.int .i64 z, .slice bo' xb.length bc', .slice oo' xo.length oc', .slice to' xt.length tc'] 29)) := (Below.refl _ wr).alloc (Nat.le_refl _) _
        have gl : ∀ {v : Value} {n : Nat} {cs : List Value}, wr.ownsRow x1.heap.size 9 1 v n cs → v.ownBlock ≠ some wr.heap.size := fun h e => Nat.lt_irrefl _ (h.lt _ e).2
        have HR := hid (show R3 (wr.alloc (.cells #[.int .i64 z, .slice bo' xb.length bc', .slice oo' xo.length oc', .slice to' xt.length tc'] 29)).drew x1.heap.size wr.heap.size (.cells #[.int .i64 z, .slice bo' xb.length bc', .slice oo' xo.length oc', .slice to' xt.length tc'] 29) u8 u9 u10 X0 Y0 Z0 from ⟨(HRX.out.old HBA).old ⟨rfl, rfl, rfl, Nat.le_refl _, fun _ _ => rfl⟩, heap_alloc_new wr _, gl HRX.out.o1, gl HRX.out.o2, gl HRX.out.o3⟩)
        have HBY := hid (show Below x1.heap.size x1 (wr.alloc (.cells #[.int .i64 z, .slice bo' xb.length bc', .slice oo' xo.length oc', .slice to' xt.length tc'] 29)).drew from (below_step HBX.out HBA HBX.out.size).trans ⟨rfl, rfl, rfl, Nat.le_refl _, fun _ _ => rfl⟩)
        have sw1 : IntKind.i64.wrap ((xb.length : Int) + (xo.length : Int)) = (xb.length : Int) + (xo.length : Int) := IntWalk.i64_in _ (by omega)
        have sw2 : IntKind.i64.wrap ((xb.length : Int) + (xo.length : Int) + (xt.length : Int)) = (xb.length : Int) + (xo.length : Int) + (xt.length : Int) := IntWalk.i64_in _ (by omega)
        have d0 : ((xb.length : Int) + (xo.length : Int) + (xt.length : Int) == 0) = false := by
          rw [beq_eq_false_iff_ne]
          omega
        clear lift s1 s2 s3 he f1 f2 f3 g1 g2 g3 hX0 hY0 hZ0 hfl hpos gl HBA HRW
        go_upto_region 9 with fail
        go_cut [8, 9, 10] from 37 to 48 (fun v8 v9 v10 wx => Hid (R3 wx x1.heap.size wr.heap.size (.cells #[.int .i64 z, .slice bo' xb.length bc', .slice oo' xo.length oc', .slice to' xt.length tc'] 29) v8 v9 v10 (X0 ++ xb) (Y0 ++ xo) (Z0 ++ xt)) ∧ Hid (Below x1.heap.size x1 wx))
        case first =>
          have k1 := blk_cell (i := 1) HR.out.blk rfl
          have k2 := blk_cell (i := 2) HR.out.blk rfl
          have k3 := blk_cell (i := 3) HR.out.blk rfl
          go_region_law
            (first
              | (refine step_append_r3 (by rfl) (.tmp 37) (.tmp 39) (by rfl) x1.heap.size wr.heap.size (.cells #[.int .i64 z, .slice bo' xb.length bc', .slice oo' xo.length oc', .slice to' xt.length tc'] 29) _ _ _ _ _ _ _ (by rfl) HR.out _ (by rfl) (Sl.old SB.out HBY.out) (by have := HLN.out; omega) HBY.out.size ?_; intro v' w' hR hb; have HR := hid (hR); have HBY := hid (HBY.out.trans hb); have k1 := blk_cell (i := 1) HR.out.blk rfl; have k2 := blk_cell (i := 2) HR.out.blk rfl; have k3 := blk_cell (i := 3) HR.out.blk rfl; clear hR hb)
              | (refine step_append_r3 (by rfl) (.tmp 41) (.tmp 43) (by rfl) x1.heap.size wr.heap.size (.cells #[.int .i64 z, .slice bo' xb.length bc', .slice oo' xo.length oc', .slice to' xt.length tc'] 29) _ _ _ _ _ _ _ (by rfl) HR.out.turn _ (by rfl) (Sl.old SO.out HBY.out) (by have := HLN.out; omega) HBY.out.size ?_; intro v' w' hR hb; have HR := hid (hR.turn.turn); have HBY := hid (HBY.out.trans hb); have k1 := blk_cell (i := 1) HR.out.blk rfl; have k2 := blk_cell (i := 2) HR.out.blk rfl; have k3 := blk_cell (i := 3) HR.out.blk rfl; clear hR hb)
              | (refine step_append_r3 (by rfl) (.tmp 45) (.tmp 47) (by rfl) x1.heap.size wr.heap.size (.cells #[.int .i64 z, .slice bo' xb.length bc', .slice oo' xo.length oc', .slice to' xt.length tc'] 29) _ _ _ _ _ _ _ (by rfl) HR.out.turn.turn _ (by rfl) (Sl.old ST.out HBY.out) (by have := HLN.out; omega) HBY.out.size ?_; intro v' w' hR hb; have HR := hid (hR.turn); have HBY := hid (HBY.out.trans hb); have k1 := blk_cell (i := 1) HR.out.blk rfl; have k2 := blk_cell (i := 2) HR.out.blk rfl; have k3 := blk_cell (i := 3) HR.out.blk rfl; clear hR hb))
          all_goals
            go_wp2_with fail
            go_meet
            exact ⟨HR, HBY⟩
        case rest =>
          obtain ⟨HR, HBC⟩ := hcut
          have q0 := blk_cell (i := 0) HR.out.blk rfl
          have q1 := blk_cell (i := 1) HR.out.blk rfl
          have q2 := blk_cell (i := 2) HR.out.blk rfl
          have q3 := blk_cell (i := 3) HR.out.blk rfl
          have BQ : ∀ q, Below x1.heap.size x1 (wc.drewN q) := fun q => HBC.out.trans ⟨rfl, rfl, rfl, Nat.le_refl _, fun _ _ => rfl⟩
          have HBQ := hid BQ
          clear BQ HBY HRX
          by_cases e1 : xo = xb
          · by_cases e2 : xt = xb
            · have e3 : xo = xt := by rw [e1, e2]
              have hz : z = 1 := by rw [HKI.out, kindF, if_pos ⟨e1, e2⟩]
              subst hz
              have P1 := hid (fun q => by
                have := SPlain_any _ _ xo xb (wc.drewN q) (Sl.old SO.out (HBQ.out q)) (Sl.old SB.out (HBQ.out q)) (by have := HLS.out.2.1; unfold maxLen; omega)
                rw [show (xo == xb) = true by simpa using e1] at this
                exact this)
              have P2 := hid (fun q => by
                have := SPlain_any _ _ xt xb (wc.drewN q) (Sl.old ST.out (HBQ.out q)) (Sl.old SB.out (HBQ.out q)) (by have := HLS.out.2.2; unfold maxLen; omega)
                rw [show (xt == xb) = true by simpa using e2] at this
                exact this)
              have P3 := hid (fun q => by
                have := SPlain_any _ _ xo xt (wc.drewN q) (Sl.old SO.out (HBQ.out q)) (Sl.old ST.out (HBQ.out q)) (by have := HLS.out.2.1; unfold maxLen; omega)
                rw [show (xo == xt) = true by simpa using e3] at this
                exact this)
              clear e1 e2 e3
              by_cases hk0 : 0 < k
              · have dk : decide ((0 : Int) < (k : Int)) = true := decide_eq_true (by omega)
                have dk' : decide (0 < k) = true := decide_eq_true hk0
                obtain ⟨j, hj⟩ : ∃ j, k = j + 1 := ⟨k - 1, by omega⟩
                have jw : IntKind.i64.wrap ((k : Int) - 1) = (j : Int) := (IntWalk.i64_in _ (by omega)).trans (by omega)
                have j0 : (0 : Int) ≤ (j : Int) := Int.natCast_nonneg _
                have j1 : (j : Int) < ((chunksS a b c).length : Int) := by omega
                obtain ⟨bx', ox', zp, _, _, _, _, _, _, eb, cp, -, -, -, -, -, -, hep⟩ := X.out.at' (i := j) (by omega)
                cases eb
                have cp : wc.cell? ⟨bx, ox + j * 4, none⟩ = _ := (World.cell?_of_block (w := x1) (HBC.out.block _ (World.block_lt_of_cell? x1 _ cp))).trans cp
                have zp1 : (zp == 1) = false := by
                  rw [beq_eq_false_iff_ne]
                  exact fun h => HPREV.out j _ hj hep rfl h
                clear hep hj hk0
                go_wp2_with fail
                go_quiet ((first
                  | (go_at_call 18; with_reducible exact Calls.quiet_of (P1.out _))
                  | (go_at_call 18; with_reducible exact Calls.quiet_of (P2.out _))
                  | (go_at_call 18; with_reducible exact Calls.quiet_of (P3.out _))))
                go_wp2_with fail
                go_roundg ((chunksS a b c).length - (k + 1))
                case measure => omega
                case rel =>
                  refine ⟨k + 1, by omega, rfl, rfl, hid ?_, hid (HBQ.out _)⟩
                  rw [HF1.out, HF2.out, HF3.out]
                  exact HR.out.rows.old (below_drewN _ _)
              · have dk : decide ((0 : Int) < (k : Int)) = false := decide_eq_false (by omega)
                have dk' : decide (0 < k) = false := decide_eq_false hk0
                go_wp2_with fail
                go_quiet ((first
                  | (go_at_call 18; with_reducible exact Calls.quiet_of (P1.out _))
                  | (go_at_call 18; with_reducible exact Calls.quiet_of (P2.out _))
                  | (go_at_call 18; with_reducible exact Calls.quiet_of (P3.out _))))
                go_wp2_with fail
                go_roundg ((chunksS a b c).length - (k + 1))
                case measure => omega
                case rel =>
                  refine ⟨k + 1, by omega, rfl, rfl, hid ?_, hid (HBQ.out _)⟩
                  rw [HF1.out, HF2.out, HF3.out]
                  exact HR.out.rows.old (below_drewN _ _)
            · have e3 : ¬ xo = xt := fun h => e2 (by rw [← h, e1])
              have hz : z = 3 := by rw [HKI.out, kindF, if_neg (fun h => e2 h.2), kindOf, if_pos e1]
              subst hz
              have P1 := hid (fun q => by
                have := SPlain_any _ _ xo xb (wc.drewN q) (Sl.old SO.out (HBQ.out q)) (Sl.old SB.out (HBQ.out q)) (by have := HLS.out.2.1; unfold maxLen; omega)
                rw [show (xo == xb) = true by simpa using e1] at this
                exact this)
              have P2 := hid (fun q => by
                have := SPlain_any _ _ xt xb (wc.drewN q) (Sl.old ST.out (HBQ.out q)) (Sl.old SB.out (HBQ.out q)) (by have := HLS.out.2.2; unfold maxLen; omega)
                rw [show (xt == xb) = false by simpa using e2] at this
                exact this)
              have P3 := hid (fun q => by
                have := SPlain_any _ _ xo xt (wc.drewN q) (Sl.old SO.out (HBQ.out q)) (Sl.old ST.out (HBQ.out q)) (by have := HLS.out.2.1; unfold maxLen; omega)
                rw [show (xo == xt) = false by simpa using e3] at this
                exact this)
              clear e1 e2 e3
              by_cases hk0 : 0 < k
              · have dk : decide ((0 : Int) < (k : Int)) = true := decide_eq_true (by omega)
                have dk' : decide (0 < k) = true := decide_eq_true hk0
                go_wp2_with fail
                go_quiet ((first
                  | (go_at_call 18; with_reducible exact Calls.quiet_of (P1.out _))
                  | (go_at_call 18; with_reducible exact Calls.quiet_of (P2.out _))
                  | (go_at_call 18; with_reducible exact Calls.quiet_of (P3.out _))))
                go_wp2_with fail
                go_roundg ((chunksS a b c).length - (k + 1))
                case measure => omega
                case rel =>
                  refine ⟨k + 1, by omega, rfl, rfl, hid ?_, hid (HBQ.out _)⟩
                  rw [HF1.out, HF2.out, HF3.out]
                  exact HR.out.rows.old (below_drewN _ _)
              · have dk : decide ((0 : Int) < (k : Int)) = false := decide_eq_false (by omega)
                have dk' : decide (0 < k) = false := decide_eq_false hk0
                go_wp2_with fail
                go_quiet ((first
                  | (go_at_call 18; with_reducible exact Calls.quiet_of (P1.out _))
                  | (go_at_call 18; with_reducible exact Calls.quiet_of (P2.out _))
                  | (go_at_call 18; with_reducible exact Calls.quiet_of (P3.out _))))
                go_wp2_with fail
                go_roundg ((chunksS a b c).length - (k + 1))
                case measure => omega
                case rel =>
                  refine ⟨k + 1, by omega, rfl, rfl, hid ?_, hid (HBQ.out _)⟩
                  rw [HF1.out, HF2.out, HF3.out]
                  exact HR.out.rows.old (below_drewN _ _)
          · by_cases e2 : xt = xb
            · have e3 : ¬ xo = xt := fun h => e1 (by rw [h, e2])
              have hz : z = 2 := by rw [HKI.out, kindF, if_neg (fun h => e1 h.1), kindOf, if_neg e1, if_pos e2]
              subst hz
              have P1 := hid (fun q => by
                have := SPlain_any _ _ xo xb (wc.drewN q) (Sl.old SO.out (HBQ.out q)) (Sl.old SB.out (HBQ.out q)) (by have := HLS.out.2.1; unfold maxLen; omega)
                rw [show (xo == xb) = false by simpa using e1] at this
                exact this)
              have P2 := hid (fun q => by
                have := SPlain_any _ _ xt xb (wc.drewN q) (Sl.old ST.out (HBQ.out q)) (Sl.old SB.out (HBQ.out q)) (by have := HLS.out.2.2; unfold maxLen; omega)
                rw [show (xt == xb) = true by simpa using e2] at this
                exact this)
              have P3 := hid (fun q => by
                have := SPlain_any _ _ xo xt (wc.drewN q) (Sl.old SO.out (HBQ.out q)) (Sl.old ST.out (HBQ.out q)) (by have := HLS.out.2.1; unfold maxLen; omega)
                rw [show (xo == xt) = false by simpa using e3] at this
                exact this)
              clear e1 e2 e3
              by_cases hk0 : 0 < k
              · have dk : decide ((0 : Int) < (k : Int)) = true := decide_eq_true (by omega)
                have dk' : decide (0 < k) = true := decide_eq_true hk0
                go_wp2_with fail
                go_quiet ((first
                  | (go_at_call 18; with_reducible exact Calls.quiet_of (P1.out _))
                  | (go_at_call 18; with_reducible exact Calls.quiet_of (P2.out _))
                  | (go_at_call 18; with_reducible exact Calls.quiet_of (P3.out _))))
                go_wp2_with fail
                go_roundg ((chunksS a b c).length - (k + 1))
                case measure => omega
                case rel =>
                  refine ⟨k + 1, by omega, rfl, rfl, hid ?_, hid (HBQ.out _)⟩
                  rw [HF1.out, HF2.out, HF3.out]
                  exact HR.out.rows.old (below_drewN _ _)
              · have dk : decide ((0 : Int) < (k : Int)) = false := decide_eq_false (by omega)
                have dk' : decide (0 < k) = false := decide_eq_false hk0
                go_wp2_with fail
                go_quiet ((first
                  | (go_at_call 18; with_reducible exact Calls.quiet_of (P1.out _))
                  | (go_at_call 18; with_reducible exact Calls.quiet_of (P2.out _))
                  | (go_at_call 18; with_reducible exact Calls.quiet_of (P3.out _))))
                go_wp2_with fail
                go_roundg ((chunksS a b c).length - (k + 1))
                case measure => omega
                case rel =>
                  refine ⟨k + 1, by omega, rfl, rfl, hid ?_, hid (HBQ.out _)⟩
                  rw [HF1.out, HF2.out, HF3.out]
                  exact HR.out.rows.old (below_drewN _ _)
            · by_cases e3 : xo = xt
              · skip
                have hz : z = 4 := by rw [HKI.out, kindF, if_neg (fun h => e1 h.1), kindOf, if_neg e1, if_neg e2, if_pos e3]
                subst hz
                have P1 := hid (fun q => by
                  have := SPlain_any _ _ xo xb (wc.drewN q) (Sl.old SO.out (HBQ.out q)) (Sl.old SB.out (HBQ.out q)) (by have := HLS.out.2.1; unfold maxLen; omega)
                  rw [show (xo == xb) = false by simpa using e1] at this
                  exact this)
                have P2 := hid (fun q => by
                  have := SPlain_any _ _ xt xb (wc.drewN q) (Sl.old ST.out (HBQ.out q)) (Sl.old SB.out (HBQ.out q)) (by have := HLS.out.2.2; unfold maxLen; omega)
                  rw [show (xt == xb) = false by simpa using e2] at this
                  exact this)
                have P3 := hid (fun q => by
                  have := SPlain_any _ _ xo xt (wc.drewN q) (Sl.old SO.out (HBQ.out q)) (Sl.old ST.out (HBQ.out q)) (by have := HLS.out.2.1; unfold maxLen; omega)
                  rw [show (xo == xt) = true by simpa using e3] at this
                  exact this)
                clear e1 e2 e3
                by_cases hk0 : 0 < k
                · have dk : decide ((0 : Int) < (k : Int)) = true := decide_eq_true (by omega)
                  have dk' : decide (0 < k) = true := decide_eq_true hk0
                  go_wp2_with fail
                  go_quiet ((first
                    | (go_at_call 18; with_reducible exact Calls.quiet_of (P1.out _))
                    | (go_at_call 18; with_reducible exact Calls.quiet_of (P2.out _))
                    | (go_at_call 18; with_reducible exact Calls.quiet_of (P3.out _))))
                  go_wp2_with fail
                  go_roundg ((chunksS a b c).length - (k + 1))
                  case measure => omega
                  case rel =>
                    refine ⟨k + 1, by omega, rfl, rfl, hid ?_, hid (HBQ.out _)⟩
                    rw [HF1.out, HF2.out, HF3.out]
                    exact HR.out.rows.old (below_drewN _ _)
                · have dk : decide ((0 : Int) < (k : Int)) = false := decide_eq_false (by omega)
                  have dk' : decide (0 < k) = false := decide_eq_false hk0
                  go_wp2_with fail
                  go_quiet ((first
                    | (go_at_call 18; with_reducible exact Calls.quiet_of (P1.out _))
                    | (go_at_call 18; with_reducible exact Calls.quiet_of (P2.out _))
                    | (go_at_call 18; with_reducible exact Calls.quiet_of (P3.out _))))
                  go_wp2_with fail
                  go_roundg ((chunksS a b c).length - (k + 1))
                  case measure => omega
                  case rel =>
                    refine ⟨k + 1, by omega, rfl, rfl, hid ?_, hid (HBQ.out _)⟩
                    rw [HF1.out, HF2.out, HF3.out]
                    exact HR.out.rows.old (below_drewN _ _)
              · skip
                have hz : z = 5 := by rw [HKI.out, kindF, if_neg (fun h => e1 h.1), kindOf, if_neg e1, if_neg e2, if_neg e3]
                subst hz
                have P1 := hid (fun q => by
                  have := SPlain_any _ _ xo xb (wc.drewN q) (Sl.old SO.out (HBQ.out q)) (Sl.old SB.out (HBQ.out q)) (by have := HLS.out.2.1; unfold maxLen; omega)
                  rw [show (xo == xb) = false by simpa using e1] at this
                  exact this)
                have P2 := hid (fun q => by
                  have := SPlain_any _ _ xt xb (wc.drewN q) (Sl.old ST.out (HBQ.out q)) (Sl.old SB.out (HBQ.out q)) (by have := HLS.out.2.2; unfold maxLen; omega)
                  rw [show (xt == xb) = false by simpa using e2] at this
                  exact this)
                have P3 := hid (fun q => by
                  have := SPlain_any _ _ xo xt (wc.drewN q) (Sl.old SO.out (HBQ.out q)) (Sl.old ST.out (HBQ.out q)) (by have := HLS.out.2.1; unfold maxLen; omega)
                  rw [show (xo == xt) = false by simpa using e3] at this
                  exact this)
                clear e1 e2 e3
                by_cases hk0 : 0 < k
                · have dk : decide ((0 : Int) < (k : Int)) = true := decide_eq_true (by omega)
                  have dk' : decide (0 < k) = true := decide_eq_true hk0
                  go_wp2_with fail
                  go_quiet ((first
                    | (go_at_call 18; with_reducible exact Calls.quiet_of (P1.out _))
                    | (go_at_call 18; with_reducible exact Calls.quiet_of (P2.out _))
                    | (go_at_call 18; with_reducible exact Calls.quiet_of (P3.out _))))
                  go_wp2_with fail
                  go_roundg ((chunksS a b c).length - (k + 1))
                  case measure => omega
                  case rel =>
                    refine ⟨k + 1, by omega, rfl, rfl, hid ?_, hid (HBQ.out _)⟩
                    rw [HF1.out, HF2.out, HF3.out]
                    exact HR.out.rows.old (below_drewN _ _)
                · have dk : decide ((0 : Int) < (k : Int)) = false := decide_eq_false (by omega)
                  have dk' : decide (0 < k) = false := decide_eq_false hk0
                  go_wp2_with fail
                  go_quiet ((first
                    | (go_at_call 18; with_reducible exact Calls.quiet_of (P1.out _))
                    | (go_at_call 18; with_reducible exact Calls.quiet_of (P2.out _))
                    | (go_at_call 18; with_reducible exact Calls.quiet_of (P3.out _))))
                  go_wp2_with fail
                  go_roundg ((chunksS a b c).length - (k + 1))
                  case measure => omega
                  case rel =>
                    refine ⟨k + 1, by omega, rfl, rfl, hid ?_, hid (HBQ.out _)⟩
                    rw [HF1.out, HF2.out, HF3.out]
                    exact HR.out.rows.old (below_drewN _ _)
      · obtain rfl : k = (chunksS a b c).length := by omega
        have hneg : ¬ ((chunksS a b c).length : Int) < ((chunksS a b c).length : Int) := by omega
        have HRR := hid (show Rows3 wr x1.heap.size u8 u9 u10 a b c by
          have := HRW.out
          rw [List.take_length, HW.out.1, HW.out.2.1, HW.out.2.2.1] at this
          exact this)
        have HA := hid (Sl.old HA.out HBX.out)
        have HB := hid (Sl.old HB.out HBX.out)
        have HC := hid (Sl.old HC.out HBX.out)
        have hBR := below_step hB1 HBX.out hB1.size
        clear HRW X hneg
        go_wp2_with fail
        have hT := awake_any wr
        refine hT.mono ?_
        rintro e y21 ⟨rfl, hb⟩
        have hB21 := below_step hBR hb hBR.size
        have HA := hid (Sl.old HA.out hb)
        have HB := hid (Sl.old HB.out hb)
        have HC := hid (Sl.old HC.out hb)
        have HRR := hid (HRR.out.old hb)
        clear hb hT hBR
        go_wp2_with fail
        have hT := SPlain_any _ _ a a y21 (Sl.ofOwns HRR.out.o1) HA.out (by have := HN.out.1; unfold maxLen; omega)
        rw [beq_self_eq_true] at hT
        refine hT.mono ?_
        rintro e _ ⟨rfl, q22, rfl⟩
        have hb : Below y21.heap.size y21 (y21.drewN q22) := below_drewN _ _
        have hB22 := below_step hB21 hb hB21.size
        have HA := hid (Sl.old HA.out hb)
        have HB := hid (Sl.old HB.out hb)
        have HC := hid (Sl.old HC.out hb)
        have HRR := hid (HRR.out.old hb)
        clear hb hT hB21
        generalize y21.drewN q22 = y22 at hB22 HA HB HC HRR ⊢
        go_wp2_with fail
        have hT := SPlain_any _ _ b b y22 (Sl.ofOwns HRR.out.o2) HB.out (by have := HN.out.2.1; unfold maxLen; omega)
        rw [beq_self_eq_true] at hT
        refine hT.mono ?_
        rintro e _ ⟨rfl, q23, rfl⟩
        have hb : Below y22.heap.size y22 (y22.drewN q23) := below_drewN _ _
        have hB23 := below_step hB22 hb hB22.size
        have HA := hid (Sl.old HA.out hb)
        have HB := hid (Sl.old HB.out hb)
        have HC := hid (Sl.old HC.out hb)
        have HRR := hid (HRR.out.old hb)
        clear hb hT hB22
        generalize y22.drewN q23 = y23 at hB23 HA HB HC HRR ⊢
        go_wp2_with fail
        have hT := SPlain_any _ _ c c y23 (Sl.ofOwns HRR.out.o3) HC.out (by have := HN.out.2.2; unfold maxLen; omega)
        rw [beq_self_eq_true] at hT
        refine hT.mono ?_
        rintro e _ ⟨rfl, q24, rfl⟩
        have hb : Below y23.heap.size y23 (y23.drewN q24) := below_drewN _ _
        have hB24 := below_step hB23 hb hB23.size
        have HA := hid (Sl.old HA.out hb)
        have HB := hid (Sl.old HB.out hb)
        have HC := hid (Sl.old HC.out hb)
        have HRR := hid (HRR.out.old hb)
        clear hb hT hB23
        generalize y23.drewN q24 = y24 at hB24 HA HB HC HRR ⊢
        go_wp2_with fail
        go_ret
        exact ⟨by simp, hB24⟩
  · rw [decide_eq_false hf] at hFEW
    have HFEW := hid hFEW
    clear hf hFEW
    go_enter Try.func4, Try.ntmps4
    go_wp2_with fail
    refine HFEW.out.mono ?_
    rintro e w1 ⟨rfl, rfl⟩
    go_wp2_with fail
    refine (awake_any w).mono ?_
    rintro e w2 ⟨rfl, hb⟩
    go_wp2_with fail
    go_ret
    exact ⟨rfl, hb⟩
end

theorem own : ownKnob Try.prog.godebug = none := by kernel_rfl
theorem laidOut : laidOutB Try.prog = true := by kernel_rfl

theorem contract (H : Type) (enc : TypeId × Value → H) (W : World) (base : Nat) (args : Array Value) (ds gs : List (DataW H)) (before : List MemPlace)
    (hval : ∀ (j : Nat) t v, Try.f4.params[j]? = some t → args[j]? = some v → Value.okWide Try.prog W .any base t v)
    (hW : DataW.Whole enc Try.prog Try.f4.params.toList Rows.chunkWholeSpec.vars false W args.toList ds gs before) :
    Calls Try.prog 4 args W fun e W' => ∃ v, e = .returned v ∧ Rows.chunkWholeSpec.post enc Try.prog Try.f4 false true false false W args v W' := by
  have hW' := hW
  obtain ⟨p, q, hA0, hV, rfl, hfz, hnd⟩ := hW
  have hA : DataW.TrodAll enc Try.prog W 0 (fun _ => true) true Try.f4.params.toList args.toList ds p := hA0
  rw [Try.params4] at hA hval
  obtain ⟨v0, vs0, d0, ds0, p0, q0, hargs, rfl, rfl, h0, r0⟩ := trodAll_cons hA
  obtain ⟨v1, vs1, d1, ds1, p1, q1, rfl, rfl, rfl, h1, r1⟩ := trodAll_cons r0
  obtain ⟨v2, vs2, d2, ds2, p2, q2, rfl, rfl, rfl, h2, r2⟩ := trodAll_cons r1
  obtain ⟨rfl, rfl, rfl⟩ := trodAll_nil r2
  obtain rfl : args = #[v0, v1, v2] := by cases args; simp_all
  obtain ⟨rfl, rfl⟩ := trodVars_none hV
  have k0 := h0
  have lt0 : ∀ x ∈ p0, x.block < W.heap.size := by obtain ⟨m, hm⟩ := k0; exact DataW.trod_lt m _ _ _ hm
  obtain ⟨x0, l0, c0, rfl⟩ := okWide_slice Try.underlying22 (hval 0 22 v0 rfl rfl)
  obtain ⟨a0, w0, e0⟩ : ∃ a, FactStrs W (.slice x0 l0 c0) a ∧ ((d0 = .nil ∧ a = []) ∨ ∃ rest, d0 = .slice (dataStrs a) rest) := by
    obtain ⟨fuel, hf⟩ := h0
    obtain ⟨v', a, hcs, hs, hx⟩ := open_strL Try.underlying22 Try.underlying9 (by kernel_rfl) hf
    obtain rfl : v' = .slice x0 l0 c0 := by simpa [Value.cells] using hcs.symm
    exact ⟨a, hs, hx⟩
  clear e0
  have k1 := h1
  have lt1 : ∀ x ∈ p1, x.block < W.heap.size := by obtain ⟨m, hm⟩ := k1; exact DataW.trod_lt m _ _ _ hm
  obtain ⟨x1, l1, c1, rfl⟩ := okWide_slice Try.underlying22 (hval 1 22 v1 rfl rfl)
  obtain ⟨a1, w1, e1⟩ : ∃ a, FactStrs W (.slice x1 l1 c1) a ∧ ((d1 = .nil ∧ a = []) ∨ ∃ rest, d1 = .slice (dataStrs a) rest) := by
    obtain ⟨fuel, hf⟩ := h1
    obtain ⟨v', a, hcs, hs, hx⟩ := open_strL Try.underlying22 Try.underlying9 (by kernel_rfl) hf
    obtain rfl : v' = .slice x1 l1 c1 := by simpa [Value.cells] using hcs.symm
    exact ⟨a, hs, hx⟩
  clear e1
  have k2 := h2
  have lt2 : ∀ x ∈ p2, x.block < W.heap.size := by obtain ⟨m, hm⟩ := k2; exact DataW.trod_lt m _ _ _ hm
  obtain ⟨x2, l2, c2, rfl⟩ := okWide_slice Try.underlying22 (hval 2 22 v2 rfl rfl)
  obtain ⟨a2, w2, e2⟩ : ∃ a, FactStrs W (.slice x2 l2 c2) a ∧ ((d2 = .nil ∧ a = []) ∨ ∃ rest, d2 = .slice (dataStrs a) rest) := by
    obtain ⟨fuel, hf⟩ := h2
    obtain ⟨v', a, hcs, hs, hx⟩ := open_strL Try.underlying22 Try.underlying9 (by kernel_rfl) hf
    obtain rfl : v' = .slice x2 l2 c2 := by simpa [Value.cells] using hcs.symm
    exact ⟨a, hs, hx⟩
  clear e2
  clear hA0
  refine (walk (.slice x0 l0 c0) a0 (.slice x1 l1 c1) a1 (.slice x2 l2 c2) a2 W w0 w1 w2).mono fun e W' ⟨he, bel⟩ => ?_
  subst he
  exact ⟨_, rfl, _, _, _, [], _, [], hW', trodAll_mk1 (shut_bool Try.underlying4 _), (trodAll_cons_mk (Below.trod laidOut (by kernel_rfl) (of_decide_eq_true (by kernel_rfl)) k0 bel lt0) (trodAll_cons_mk (Below.trod laidOut (by kernel_rfl) (of_decide_eq_true (by kernel_rfl)) k1 bel lt1) (trodAll_cons_mk (Below.trod laidOut (by kernel_rfl) (of_decide_eq_true (by kernel_rfl)) k2 bel lt2) trodAll_mk0))), rfl, bel.frame _, fun h => by cases h⟩

set_option maxRecDepth 100000 in
theorem lifted (os : Os) (started : os.Started) (H : Type) (enc : TypeId × Value → H) :
    ReturnsInHanded {} Try.checked os 4 .any (Rows.chunkWholeSpec.pre6 enc Try.prog Try.f4 Rows.chunkWholeRow.domain false) (Rows.chunkWholeSpec.post enc Try.prog Try.f4 false true false false) := by
  refine returnsInHanded_of_change (C := Try.checked) own started (by kernel_rfl) Try.func4
    (ChangeSpec.witness6 (enc := enc) (C := Try.checked) false ⟨#[], #[.slice none 0 0, .slice none 0 0, .slice none 0 0], []⟩ 8 (by kernel_rfl) (by kernel_rfl) (by kernel_rfl) (by kernel_rfl)) ?_
  intro W base args ds gs before hval hW _ _
  exact contract H enc W base args ds gs before hval hW

theorem over : Rows.chunkWholeRow.holds Try.pinned (OpenSpec.ofChange Rows.chunkWholeSpec) :=
  OpenClaim.holds_of_wide 4 Try.f4 rfl rfl rfl rfl rfl rfl rfl ⟨rfl, rfl, rfl, rfl, rfl⟩ rfl rfl rfl rfl rfl (by kernel_rfl) Try.func4 (by kernel_rfl)
    (of_decide_eq_true (by kernel_rfl)) (by unfold Func.isWrapper; first | (rw [if_pos (by decide +kernel)]; kernel_rfl) | (rw [if_neg (by decide +kernel)]; exact ⟨rfl, rfl⟩))
    (fun os started H enc _ => lifted os started H enc)

/-- The statement. -/
theorem proved : Rows.ChunkWholeSaid :=
  over
#print axioms proved
