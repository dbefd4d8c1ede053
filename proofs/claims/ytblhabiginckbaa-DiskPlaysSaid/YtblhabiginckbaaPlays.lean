/-
  DiskPlays: for every room and whatever is appended, synced, cut, armed, started anew and forked: each answer, and all that is there, is the document's; what is handed in stays. No condition.
-/
import Derived.Test.YtblhabiginckbaaPlayA
import Derived.Test.YtblhabiginckbaaRdsE
namespace Go.Proofs.Ytblhabiginckbaa.diskPlays
open Go.ChangeShapes Go.WideShapes Go.ChangeAt Go.RowKit

set_option maxRecDepth 1000000 in
set_option maxHeartbeats 8000000 in
theorem walk (a0 : Int) (vo : Value) (l : List Opx) (w : World) (_w0 : (Lit.int .i64 a0).wf = true) (fo : FactOps w vo l) :
    Calls Try.prog 3 #[.int .i64 a0, vo] w fun e w' => e = .returned (.bool true) ∧ Below w.heap.size w w' := by
  obtain ⟨sl, ll, lo⟩ := fo
  unfold maxLen at ll
  obtain ⟨oo, co, rfl⟩ := sl.form
  rw [List.length_map] at sl ⊢
  have HSL := hid sl
  have HLO := hid lo
  clear sl lo
  go_enter Try.func3, Try.ntmps3
  go_wp2_with fail
  refine (New_ok a0 w w (Below.refl _ _)).mono ?_
  rintro e w1 ⟨rfl, v0, v1, h1, _⟩
  go_wp2_with fail
  refine (RNew_any a0 w1).mono ?_
  rintro e w2 ⟨rfl, h2, hb2⟩
  have hT2 := Two.fresh h1 hb2 h1.size h2
  clear h1 h2 hb2
  go_wp2_with fail
  refine (awake_any w2).mono ?_
  rintro e w3 ⟨rfl, hb3⟩
  have hT3 := hT2.on hb3
  clear hT2 hb3
  go_wp2
  go_loopw [7, 5, 6] (fun i dv rv wr => ∃ k : Nat, k ≤ l.length ∧ k ≤ 60 ∧ i = .int .i64 (k : Int) ∧ ∃ dp rp v0 v1 u0 u1 kv D, dv = .pointer (some ⟨dp, 0, none⟩) ∧ rv = .pointer (some ⟨rp, 0, none⟩) ∧ Two w wr dp v0 v1 D rp u0 u1 kv D) (fun i _ _ _ => 60 - (intOf i).toNat)
  case atStart => exact ⟨0, by omega, by omega, rfl, _, _, _, _, _, _, _, _, rfl, rfl, hT3⟩
  case round =>
    clear hT3
    obtain ⟨k, hkl, hk60, rfl, dp, rp, v0, v1, u0, u1, kv, D, rfl, rfl, hT⟩ := hrel
    have i0 : (0 : Int) ≤ (k : Int) := Int.natCast_nonneg _
    have hbel := hT.disk.below
    by_cases hk1 : k < l.length
    · by_cases hk2 : k < 60
      · obtain ⟨x, hx⟩ : ∃ x, l[k]? = some x := ⟨_, List.getElem?_eq_getElem hk1⟩
        have hxo := HLO.out x (List.mem_of_getElem? hx)
        obtain ⟨gb, go, rfl, hgb, hc⟩ := (HSL.out.old hbel).at' (i := k) (cs := x.cells) (by rw [List.getElem?_map, hx]; rfl) (by simp [Opx.cells])
        obtain ⟨xk, xf, xn, bv, bb, zv, zs⟩ := x
        have hsb := hxo.b
        have hsz := hxo.z
        have hbl := hxo.bl
        have hzl := hxo.zl
        have hnw := hxo.n
        unfold maxLen at hbl hzl
        change Sl w bv (Lib.byteCells bb) at hsb
        change Sl w zv (zs.map (Value.int .i64)) at hsz
        change bb.length ≤ _ at hbl
        change zs.length ≤ _ at hzl
        obtain ⟨ob, cb, rfl⟩ := hsb.form
        obtain ⟨oz, cz, rfl⟩ := hsz.form
        rw [Lib.byteCells_length] at hsb hc
        rw [List.length_map] at hsz hc
        have c0 : wr.cell? ⟨gb, go + k * 5, none⟩ = some (.int .i64 xk) := hc 0 _ rfl
        have c1 := hc 1 _ rfl
        have c2 := hc 2 _ rfl
        have c3 := hc 3 _ rfl
        have c4 := hc 4 _ rfl
        have j1 : (k : Int) < (l.length : Int) := by omega
        have j2 : (k : Int) < 60 := by omega
        have HSB := hid hsb
        have HSZ := hid hsz
        have hnb : xn ≤ 9223372036854775807 := (bounds_i64 hnw).2
        have HNB := hid hnb
        clear hx hc hxo hsb hsz hnw hnb
        by_cases hb3 : 300 < bb.length
        · have j3 : (300 : Int) < (bb.length : Int) := by omega
          have hbel' := hbel.alloc hbel.size (.cells #[.int .i64 xk, .int .i64 xf, .int .i64 xn, .slice ob bb.length cb, .slice oz zs.length cz] 31)
          have HB := hid hbel'
          clear hbel' hbel hb3 hT
          go_wp2
          go_ret
          exact ⟨rfl, HB.out⟩
        · have j3 : (bb.length : Int) ≤ 300 := by omega
          by_cases hz3 : 10 < zs.length
          · have j4 : (10 : Int) < (zs.length : Int) := by omega
            have hbel' := hbel.alloc hbel.size (.cells #[.int .i64 xk, .int .i64 xf, .int .i64 xn, .slice ob bb.length cb, .slice oz zs.length cz] 31)
            have HB := hid hbel'
            clear hbel' hbel hb3 hz3 hT
            go_wp2
            go_ret
            exact ⟨rfl, HB.out⟩
          · have j4 : (zs.length : Int) ≤ 10 := by omega
            have HZL := hid (show zs.length ≤ 10 by omega)
            have HBL := hid (show bb.length ≤ 300 by omega)
            obtain ⟨W, hW⟩ : ∃ W, W = wr.alloc (.cells #[.int .i64 xk, .int .i64 xf, .int .i64 xn, .slice ob bb.length cb, .slice oz zs.length cz] 31) := ⟨_, rfl⟩
            have HBW := hid (show Below wr.heap.size wr W by rw [hW]; exact (Below.refl _ _).alloc (Nat.le_refl _) _)
            have HWB := hid (show W.heap[wr.heap.size]? = some (.cells #[.int .i64 xk, .int .i64 xf, .int .i64 xn, .slice ob bb.length cb, .slice oz zs.length cz] 31 (0, 0)) by rw [hW]; exact heap_alloc_new wr _)
            have HWL := hid (lt_of_block HWB.out)
            have HT0 := hid (hT.tri HBW.out)
            have HW := hid hW
            have HNE := hid (show 0 < (zs.map (Value.int .i64)).length → ∀ a n c, Value.slice oz zs.length cz = .slice (some a) n c → a.block ≠ dp by
              intro h a n c e
              obtain ⟨az, z, h1, h2, h3⟩ := HSZ.out.elemAt' (f := Value.int .i64) (i := 0) (by simpa using h)
              have h4 := World.block_lt_of_cell? w _ h2
              rw [addr_add_block] at h4
              obtain ⟨e1, _, _⟩ := Value.slice.inj e
              rw [h1] at e1
              obtain rfl : az = a := by simpa using e1
              have := hT.disk.foot dp (.inl rfl)
              omega)
            clear hW hb3 hz3 hbl hzl hbel
            by_cases k1 : xk = 1
            · subst k1
              go_wp2
              rw [← HW.out]
              have T1 := HT0.out.on (bel_drew W)
              have d1 : W.cell? ⟨wr.heap.size, 1, none⟩ = some (.int .i64 xf) := blk_cell HWB.out rfl
              have hle := T1.two.disk.ok.left
              have HLE := hid hle
              clear hle
              go_region_held3 (fun wy => wy.cell? ⟨wr.heap.size, 1, none⟩ = some (.int .i64 xf)) (go_keep) ((first
                | (go_at_call 12; refine (Sync_ok xf T1.two.disk).mono ?_; rintro e w4 ⟨rfl, x0, x1, h4, k4⟩; have T4 := T1.dcall h4 k4; have q4 := T4.cell (Nat.le_refl _) d1)
                | (go_at_call 13; refine (RSync_any xf w4 T4.two.ref HLE.out).mono ?_; rintro e w5 ⟨rfl, h5, k5⟩; have T5 := T4.rcall h5 k5; have q5 := T5.cell (Nat.le_refl _) d1)))
              have hT5 := T5.two
              clear T1 T4 T5 h4 k4 h5 k5 q4 q5 d1
              go_wp2_with fail
              refine (alike_any w5 hT5.disk.at_ hT5.ref hT5.disk.ok.wf).mono ?_
              rintro e w9 ⟨rfl, hb9⟩
              have hT9 := hT5.on hb9
              clear hb9 hT5
              go_wp2
              go_roundw
              case rel => exact ⟨k + 1, by omega, by omega, by go_num, dp, rp, _, _, _, _, _, _, rfl, rfl, hT9⟩
              case measure => simp [intOf]; omega
            · by_cases k2 : xk = 2
              · subst k2
                clear k1
                go_wp2
                rw [← HW.out]
                have T1 := HT0.out.on (bel_drew W)
                have d1 : W.cell? ⟨wr.heap.size, 1, none⟩ = some (.int .i64 xf) := blk_cell HWB.out rfl
                have d2 : W.cell? ⟨wr.heap.size, 2, none⟩ = some (.int .i64 xn) := blk_cell HWB.out rfl
                have hle := T1.two.disk.ok.left
                have HLE := hid hle
                clear hle
                go_region_held3 (fun wy => wy.cell? ⟨wr.heap.size, 1, none⟩ = some (.int .i64 xf) ∧ wy.cell? ⟨wr.heap.size, 2, none⟩ = some (.int .i64 xn)) (go_keep) ((first
                  | (go_at_call 14; refine (Cut_ok xf xn T1.two.disk).mono ?_; rintro e w4 ⟨rfl, x0, x1, h4, k4⟩; have T4 := T1.dcall h4 k4; have q4 := T4.cell (Nat.le_refl _) d1; have r4 := T4.cell (Nat.le_refl _) d2)
                  | (go_at_call 15; refine (RCut_any xf xn w4 T4.two.ref T1.two.disk.ok.wf HLE.out).mono ?_; rintro e w5 ⟨rfl, y0, y1, yk, h5, k5⟩; have T5 := T4.rcall h5 k5; have q5 := T5.cell (Nat.le_refl _) d1; have r5 := T5.cell (Nat.le_refl _) d2)))
                have hT5 := T5.two
                clear T1 T4 T5 h4 k4 h5 k5 q4 q5 r4 r5 d1 d2
                go_wp2_with fail
                refine (alike_any w5 hT5.disk.at_ hT5.ref hT5.disk.ok.wf).mono ?_
                rintro e w9 ⟨rfl, hb9⟩
                have hT9 := hT5.on hb9
                clear hb9 hT5
                go_wp2
                go_roundw
                case rel => exact ⟨k + 1, by omega, by omega, by go_num, dp, rp, _, _, _, _, _, _, rfl, rfl, hT9⟩
                case measure => simp [intOf]; omega
              · by_cases k3 : xk = 3
                · subst k3
                  clear k1 k2
                  go_wp2_with fail
                  rw [← HW.out]
                  have T1 := HT0.out
                  refine (Arm_ok xn zs T1.two.disk HNB.out (HSZ.out.old' T1.below) HNE.out).mono ?_
                  rintro e w4 ⟨rfl, h4, k4⟩
                  have T4 := T1.dcall h4 k4
                  have d2 : W.cell? ⟨wr.heap.size, 2, none⟩ = some (.int .i64 xn) := blk_cell HWB.out rfl
                  have d4 : W.cell? ⟨wr.heap.size, 4, none⟩ = some (.slice oz zs.length cz) := blk_cell HWB.out rfl
                  have q2 := T4.cell (Nat.le_refl _) d2
                  have q4 := T4.cell (Nat.le_refl _) d4
                  clear d2 d4
                  go_wp2_with fail
                  refine (RArm_any xn zs w4 T4.two.ref (HSZ.out.old' T4.below) HZL.out).mono ?_
                  rintro e w5 ⟨rfl, yk, h5, k5⟩
                  have T5 := T4.rcall h5 k5
                  have hT5 := T5.two
                  clear T1 T4 T5 h4 k4 h5 k5 q2 q4
                  go_wp2_with fail
                  refine (alike_any w5 hT5.disk.at_ hT5.ref hT5.disk.ok.wf).mono ?_
                  rintro e w9 ⟨rfl, hb9⟩
                  have hT9 := hT5.on hb9
                  clear hb9 hT5
                  go_wp2
                  go_roundw
                  case rel => exact ⟨k + 1, by omega, by omega, by go_num, dp, rp, _, _, _, _, _, _, rfl, rfl, hT9⟩
                  case measure => simp [intOf]; omega
                · by_cases k4 : xk = 4
                  · subst k4
                    clear k1 k2 k3
                    go_wp2_with fail
                    rw [← HW.out]
                    have T1 := HT0.out.two
                    refine (Restart_ok T1.disk).mono ?_
                    rintro e w4 ⟨rfl, x0, x1, h4, _, hb4⟩
                    have hr4 := T1.ref.below hb4
                    have hwf := T1.disk.ok.wf
                    go_wp2_with fail
                    refine (RRestart_any w4 hr4 hwf).mono ?_
                    rintro e w5 ⟨rfl, y0, y1, yk, h5, hb5⟩
                    have hT5 := Two.fresh h4 hb5 h4.size h5
                    clear T1 h4 hb4 hr4 hwf h5 hb5
                    go_wp2_with fail
                    refine (alike_any w5 hT5.disk.at_ hT5.ref hT5.disk.ok.wf).mono ?_
                    rintro e w9 ⟨rfl, hb9⟩
                    have hT9 := hT5.on hb9
                    clear hb9 hT5
                    go_wp2
                    go_roundw
                    case rel => exact ⟨k + 1, by omega, by omega, by go_num, _, _, _, _, _, _, _, _, rfl, rfl, hT9⟩
                    case measure => simp [intOf]; omega
                  · by_cases k5 : xk = 5
                    · subst k5
                      clear k1 k2 k3 k4
                      go_wp2_with fail
                      rw [← HW.out]
                      have T1 := HT0.out.two
                      refine (Fork_ok T1.disk).mono ?_
                      rintro e w4 ⟨rfl, x0, x1, h4, hf4, hb4⟩
                      have T4 := T1.on hb4
                      have hlt4 : ∀ j, feet dp v0 v1 j → j < W.heap.size := fun j e => T1.disk.at_.foot_lt e
                      have hlt5 : ∀ j, rfeet rp u0 u1 kv j → j < W.heap.size := fun j e => (T1.ref.foot_lt e).2
                      go_wp2_with fail
                      have hal : Below w4.heap.size w4 (w4.alloc (.cells #[.int .u8 7] 5)) := (Below.refl _ _).alloc (Nat.le_refl _) _
                      have hs7 : Sl (w4.alloc (.cells #[.int .u8 7] 5)) (.slice (some ⟨w4.heap.size, 0, none⟩) 1 1) (Lib.byteCells [7]) := Sl.ofBlock (heap_alloc_new w4 _)
                      refine (Append_ok 0 [7] (T4.on hal).disk hs7).mono ?_
                      rintro e w5 ⟨rfl, z0, z1, h5, k5⟩
                      have T5 := (T4.on hal).dcall h5 k5
                      have hf5 := (h4.on hal).beside k5 (fun j e e' => by have := hf4 j e; have := hlt4 j e'; omega) (T4.on hal).disk.foot
                      have hT5 : Two w w5 W.heap.size x0 x1 D rp u0 u1 kv D := ⟨hf5, T5.ref, fun j e e' => by have := hf4 j e; have := hlt5 j e'; omega⟩
                      clear T1 T4 T5 h4 hf4 hb4 hlt4 hlt5 hal hs7 h5 k5 hf5
                      go_wp2_with fail
                      refine (alike_any w5 hT5.disk.at_ hT5.ref hT5.disk.ok.wf).mono ?_
                      rintro e w9 ⟨rfl, hb9⟩
                      have hT9 := hT5.on hb9
                      clear hb9 hT5
                      go_wp2
                      go_roundw
                      case rel => exact ⟨k + 1, by omega, by omega, by go_num, _, _, _, _, _, _, _, _, rfl, rfl, hT9⟩
                      case measure => simp [intOf]; omega
                    · have e1 : (xk == 1) = false := beq_eq_false_iff_ne.2 k1
                      have e2 : (xk == 2) = false := beq_eq_false_iff_ne.2 k2
                      have e3 : (xk == 3) = false := beq_eq_false_iff_ne.2 k3
                      have e4 : (xk == 4) = false := beq_eq_false_iff_ne.2 k4
                      have e5 : (xk == 5) = false := beq_eq_false_iff_ne.2 k5
                      clear k1 k2 k3 k4 k5
                      go_wp2_with fail
                      rw [← HW.out]
                      refine (Own_any (.slice ob bb.length cb) bb 71 W (HSB.out.old' HT0.out.below) (by have := HBL.out; omega)).mono ?_
                      rintro e w3 ⟨rfl, hown, hb3⟩
                      have hbw3 := below_step HBW.out hb3 HBW.out.size
                      have T0 := hT.tri hbw3
                      have hwb3 := (hb3.block wr.heap.size HWL.out).trans HWB.out
                      have T1 := T0.on (bel_drew w3)
                      have d1 : w3.cell? ⟨wr.heap.size, 1, none⟩ = some (.int .i64 xf) := blk_cell hwb3 rfl
                      have d3 : w3.cell? ⟨wr.heap.size, 3, none⟩ = some (.slice ob bb.length cb) := blk_cell hwb3 rfl
                      have HOWN := hid hown
                      have hgl : wr.heap.size ≤ W.heap.size := HBW.out.size
                      have HGL := hid hgl
                      have hle := T1.two.disk.ok.left
                      have HLE := hid hle
                      clear hle hgl hown hb3 hbw3 T0 hwb3
                      go_wp2
                      go_region_held3 (fun wy => wy.cell? ⟨wr.heap.size, 1, none⟩ = some (.int .i64 xf) ∧ wy.cell? ⟨wr.heap.size, 3, none⟩ = some (.slice ob bb.length cb)) (go_keep) ((first
                        | (go_at_call 21; refine (Append_ok xf bb T1.two.disk (T1.copy HGL.out HOWN.out).sl).mono ?_; rintro e w4 ⟨rfl, x0, x1, h4, k4⟩; have T4 := T1.dcall h4 k4; have q4 := T4.cell (Nat.le_refl _) d1; have r4 := T4.cell (Nat.le_refl _) d3)
                        | (go_at_call 23; refine (RAppend_any xf bb w4 T4.two.ref T1.two.disk.ok.wf HLE.out (HSB.out.old' T4.below)).mono ?_; rintro e w5 ⟨rfl, y0, y1, yk, h5, k5⟩; have T5 := T4.rcall h5 k5; have q5 := T5.cell (Nat.le_refl _) d1; have r5 := T5.cell (Nat.le_refl _) d3)
                        | (go_at_call 24; refine (Kept_any W.heap.size _ bb 71 w5 (T5.copy HGL.out HOWN.out) (HSB.out.old' T5.below) (by have := HBL.out; omega)).mono ?_; rintro e w6 ⟨rfl, kq, rfl⟩)))
                      have hT5 := (T5.on (below_drewN (Below.refl w5.heap.size w5) kq)).two
                      clear T1 T4 T5 h4 k4 h5 k5 q4 q5 r4 r5 d1 d3
                      go_wp2_with fail
                      refine (alike_any (w5.drewN kq) hT5.disk.at_ hT5.ref hT5.disk.ok.wf).mono ?_
                      rintro e w9 ⟨rfl, hb9⟩
                      have hT9 := hT5.on hb9
                      clear hb9 hT5
                      go_wp2
                      go_roundw
                      case rel => exact ⟨k + 1, by omega, by omega, by go_num, dp, rp, _, _, _, _, _, _, rfl, rfl, hT9⟩
                      case measure => simp [intOf]; omega
      · have j1 : (k : Int) < (l.length : Int) := by omega
        obtain rfl : k = 60 := by omega
        rw [show ((60 : Nat) : Int) = 60 from rfl] at *
        clear hT
        go_wp2
        go_ret
        exact ⟨rfl, hbel⟩
    · have j1 : (l.length : Int) ≤ (k : Int) := by omega
      clear hT
      go_wp2
      go_ret
      exact ⟨rfl, hbel⟩

theorem own : ownKnob Try.prog.godebug = none := by kernel_rfl
theorem laidOut : laidOutB Try.prog = true := by kernel_rfl

set_option maxRecDepth 100000 in
theorem lifted (os : Os) (started : os.Started) (H : Type) (enc : TypeId × Value → H) :
    ReturnsInHanded {} Try.checked os 3 .any (Rows.diskPlaysSpec.pre6 enc Try.prog Try.f3 Rows.diskPlaysRow.domain false) (Rows.diskPlaysSpec.post enc Try.prog Try.f3 false true false false) := by
  refine returnsInHanded_of_change (C := Try.checked) own started (by kernel_rfl) Try.func3
    (ChangeSpec.witness6 (enc := enc) (C := Try.checked) false ⟨#[], #[.int .i64 0, .slice none 0 0], []⟩ 8 (by kernel_rfl) (by kernel_rfl) (by kernel_rfl) (by kernel_rfl)) ?_
  intro W base args ds gs before hval0 hW hcnd _
  have hval : ∀ (j : Nat) t v, Try.f3.params[j]? = some t → args[j]? = some v → Value.okWide Try.prog W .any base t v := hval0
  have hW' := hW
  obtain ⟨p, q, hA0, hV, rfl, hfz, hnd⟩ := hW
  have hA : DataW.TrodAll enc Try.prog W 0 (fun _ => true) true Try.f3.params.toList args.toList ds p := hA0
  rw [Try.params3] at hA hval
  obtain ⟨v0, vs0, d0, ds0, p0, q0, hargs, rfl, rfl, h0, r0⟩ := trodAll_cons hA
  obtain ⟨v1, vs1, d1, ds1, p1, q1, rfl, rfl, rfl, h1, r1⟩ := trodAll_cons r0
  obtain ⟨rfl, rfl, rfl⟩ := trodAll_nil r1
  obtain rfl : args = #[v0, v1] := by cases args; simp_all
  obtain ⟨rfl, rfl⟩ := trodVars_none hV
  have k0 := h0
  have lt0 : ∀ x ∈ p0, x.block < W.heap.size := by obtain ⟨m, hm⟩ := k0; exact DataW.trod_lt m _ _ _ hm
  obtain ⟨a0, rfl, _, _, w0⟩ := open_int Try.underlying3 (hval 0 3 v0 rfl rfl) h0
  have k1 := h1
  have lt1 : ∀ x ∈ p1, x.block < W.heap.size := by obtain ⟨m, hm⟩ := k1; exact DataW.trod_lt m _ _ _ hm
  obtain ⟨x1, l1, c1, rfl⟩ := okWide_slice Try.underlying22 (hval 1 22 v1 rfl rfl)
  obtain ⟨a1, w1⟩ : ∃ a, FactOps W (.slice x1 l1 c1) a := by
    obtain ⟨fuel, hf⟩ := h1
    obtain ⟨v', a, hcs, hs⟩ := open_ops hf
    obtain rfl : v' = .slice x1 l1 c1 := by simpa [Value.cells] using hcs.symm
    exact ⟨a, hs⟩
  clear hA0 hval0
  refine (walk a0 (.slice x1 l1 c1) a1 W w0 w1).mono fun e W' ⟨he, bel⟩ => ?_
  subst he
  exact ⟨_, rfl, _, _, _, [], _, [], hW', trodAll_mk1 (shut_bool Try.underlying4 _), (trodAll_cons_mk (Below.trod laidOut (by kernel_rfl) (of_decide_eq_true (by kernel_rfl)) k0 bel lt0) (trodAll_cons_mk (Below.trod laidOut (by kernel_rfl) (of_decide_eq_true (by kernel_rfl)) k1 bel lt1) trodAll_mk0)), rfl, bel.frame _, fun h => by cases h⟩

theorem over : Rows.diskPlaysRow.holds Try.pinned (OpenSpec.ofChange Rows.diskPlaysSpec) :=
  OpenClaim.holds_of_wide 3 Try.f3 rfl rfl rfl rfl rfl rfl rfl ⟨rfl, rfl, rfl, rfl, rfl⟩ rfl rfl rfl rfl rfl (by kernel_rfl) Try.func3 (by kernel_rfl)
    (of_decide_eq_true (by kernel_rfl)) (by unfold Func.isWrapper; first | (rw [if_pos (by decide +kernel)]; kernel_rfl) | (rw [if_neg (by decide +kernel)]; exact ⟨rfl, rfl⟩))
    (fun os started H enc _ => lifted os started H enc)

/-- The statement. -/
theorem proved : Rows.DiskPlaysSaid :=
  over
#print axioms proved
