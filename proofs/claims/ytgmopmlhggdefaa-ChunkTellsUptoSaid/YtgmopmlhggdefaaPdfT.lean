/-
  rests, walked.
-/
import Derived.Test.YtgmopmlhggdefaaPdfR
namespace Go.Proofs.Ytgmopmlhggdefaa
open Go.RowKit

attribute [local go_sem] Oper.semAt_some

section
set_option maxRecDepth 100000
set_option maxHeartbeats 4000000
theorem Try.infoU16 : (Try.prog.info? 76).map (fun i => (i.zero, i.size, i.bytes)) = some (some (.int .u16 0), 1, 2) := by kernel_rfl
theorem Try.infoSlU : (Try.prog.info? 77).map (fun i => (i.zero, i.size, i.bytes)) = some (some (.slice none 0 0), 1, 24) := by kernel_rfl

theorem DRests_any (va vb : Value) (a b : List (List UInt8)) (w : World) (ha : Sl w va (strCells a)) (hb : Sl w vb (strCells b)) (hal : a.length ≤ 60000) (hbl : b.length ≤ 60000) :
    Calls Try.prog 44 #[va, vb] w fun e w' => ∃ t, e = .returned t ∧ TabQ .u16 w' w.heap.size t a.length b.length (fun i k => lcs (a.drop i) (b.drop k)) ∧ Below w.heap.size w w' := by
  obtain ⟨i0, hi0, hi1, hi2, hi3⟩ := info_parts Try.infoU16
  obtain ⟨i9, hj0, hj1, hj2, hj3⟩ := info_parts Try.infoSlU
  obtain ⟨aa, ca, rfl⟩ := ha.form
  obtain ⟨ab, cb, rfl⟩ := hb.form
  rw [strCells_length] at ha hb ⊢
  rw [strCells_length]
  obtain ⟨n, hn⟩ : ∃ n, a.length = n := ⟨_, rfl⟩
  obtain ⟨m, hm⟩ : ∃ m, b.length = m := ⟨_, rfl⟩
  rw [hn] at ha hal ⊢
  rw [hm] at hb hbl ⊢
  obtain ⟨n1, hn1⟩ : ∃ n1, n + 1 = n1 := ⟨_, rfl⟩
  obtain ⟨m1, hm1⟩ : ∃ m1, m + 1 = m1 := ⟨_, rfl⟩
  have nw : IntKind.i64.wrap ((n : Int) + 1) = (n1 : Int) := (IntWalk.i64_in _ (by omega)).trans (by omega)
  have mw : IntKind.i64.wrap ((m : Int) + 1) = (m1 : Int) := (IntWalk.i64_in _ (by omega)).trans (by omega)
  have mk1 := fun wx : World => run_make1 (P := Try.prog) wx 74 77 i9 (.slice none 0 0) Try.underlying74 hj0 hj1 hj2 rfl n1 (by rw [hj3]; omega) (by omega)
  have mk2 := fun wx : World => run_make1 (P := Try.prog) wx 77 76 i0 (.int .u16 0) Try.underlying77 hi0 hi1 hi2 rfl m1 (by rw [hi3]; omega) (by omega)
  obtain ⟨f, hf⟩ : ∃ f : Nat → Nat → Nat, f = fun i k => lcs (a.drop i) (b.drop k) := ⟨_, rfl⟩
  rw [← hf]
  have f0 : ∀ k, f n k = 0 := fun k => by rw [hf]; show lcs (a.drop n) _ = 0; rw [List.drop_of_length_le (l := a) (by omega), lcs_nil_left]
  have fs : ∀ i x, a[i]? = some x → Steps x b (f i) (f (i + 1)) := fun i x hx => by
    obtain ⟨q1, e1⟩ := List.getElem?_eq_some_iff.1 hx
    have := steps_lcs x (a.drop (i + 1)) b
    rw [← e1, ← List.drop_eq_getElem_cons q1] at this
    rw [hf, ← e1]
    exact this
  have fm : ∀ i k, f i k ≤ 65000 := fun i k => by
    rw [hf]
    have := (lcs_le (a.drop i) (b.drop k)).1
    rw [List.length_drop] at this
    show lcs _ _ ≤ 65000
    omega
  obtain ⟨Z1, hZ1⟩ : ∃ Z, (List.replicate n1 (Value.slice none 0 0)).toArray = Z := ⟨_, rfl⟩
  obtain ⟨Z2, hZ2⟩ : ∃ Z, (List.replicate m1 (Value.int .u16 0)).toArray = Z := ⟨_, rfl⟩
  rw [hZ1] at mk1
  rw [hZ2] at mk2
  have n0 : (0 : Int) ≤ (n : Int) := Int.natCast_nonneg _
  have nlt : (n : Int) < (n1 : Int) := by omega
  have HA := hid ha
  have HB := hid hb
  have HF := hid (And.intro f0 (And.intro fs fm))
  have HN := hid (And.intro hn hn1)
  have HM := hid (And.intro hm hm1)
  have HZ := hid (And.intro hZ1 hZ2)
  have HL := hid (And.intro hal hbl)
  clear hi0 hi1 hi2 hi3 hj0 hj1 hj2 hj3 ha hb hf f0 fs fm hn hm hal hbl
  refine (callsIn_wide (n := 3)).1 ?_
  refine callsIn_of_wp_marks Try.func44 rfl trivial ?_ rfl
  simp only [Try.ntmps44, List.size_toArray, List.length_cons, List.length_nil, Nat.reduceAdd, Nat.reduceSub, Array.replicate_succ, Array.replicate_zero, List.push_toArray, List.append_toArray, List.nil_append, List.cons_append]
  refine wpIn_wide.2 ?_
  go_upto_region 2 with fail
  have hT0 := tab_start (w := w) (vB := .slice ab m cb) (m := m) (R := fun _ => 0) (f := f) HN.out.2 HZ.out.1
  generalize ((w.alloc (.cells #[.slice ab m cb] 22)).alloc (.cells Z1 77)).alloc (.cells #[.slice (some ⟨w.heap.size + 1, 0, none⟩) n1 n1] 74) = w2 at hT0 ⊢
  have HT0 := hid hT0
  rw [HN.out.2] at hT0
  have ckb := blk_cell (i := 0) hT0.box rfl
  have ckp := blk_cell (i := 0) HT0.out.bp rfl
  rw [HN.out.2] at ckp
  have lt2 := lt_of_block hT0.top
  have h0 : (w2.alloc (.cells Z2 76)).heap[w.heap.size + 1]? = _ := (Below.heap_alloc w2 _ _ lt2).trans hT0.top
  have ckt := blk_cell (i := n) (v := .slice none 0 0) h0 (by rw [List.getElem?_toArray]; exact mixL_lo (by have := HN.out.2; omega) (by have := HN.out.2; omega))
  have zkt := blk_free (i := n) h0
  clear hT0 h0
  go_cut [5] from 8 to 19 (fun v5 wx => v5 = .pointer (some ⟨w.heap.size + 1 + 1, 0, none⟩) ∧ Hid (wx = ((w2.setCell ⟨w.heap.size + 1, n, none⟩ (.slice (some ⟨w2.heap.size, 0, none⟩) m1 m1)).alloc (.cells Z2 76)).drew))
  case first =>
    go_region_held3 (fun wy => wy.cell? ⟨w.heap.size + 1 + 1, 0, none⟩ = some (.slice (some ⟨w.heap.size + 1, 0, none⟩) n1 n1) ∧ wy.cell? ⟨w.heap.size, 0, none⟩ = some (.slice ab m cb)) (simp (maxDischargeDepth := 12) [*, World.cell?_alloc_some, World.cell?_setCell_far]) (fail)
    go_wp2_with fail
    go_meet
    exact ⟨rfl, hid rfl⟩
  case rest =>
    obtain ⟨rfl, HW⟩ := hcut
    have lt1 : w.heap.size + 1 + 1 < w2.heap.size := lt_of_block HT0.out.bp
    obtain ⟨hT1, hrow0⟩ := HT0.out.row2 (W1 := wc) (Nat.le_refl _) HM.out.2 HZ.out.2 HW.out
    have hf0 : f n = fun _ => 0 := funext HF.out.1
    rw [← hf0] at hrow0
    have HT2 := hid (hT1.fill (r := w2.heap.size) (if_pos rfl) (fun j h4 h5 => by omega) lt1 (Only.refl _ _) hrow0)
    clear hT1 hrow0 hf0 HT0 HW ckb ckp ckt zkt
    go_wp2_with (go_at_call 45; refine (Back_any _ _ _ _).mono ?_; rintro e w5 ⟨rfl, rfl⟩)
    obtain ⟨w9, hw9⟩ : ∃ w9, wc.alloc (.cells #[.slice aa n ca] 22) = w9 := ⟨_, rfl⟩
    have HT9 := hid (HT2.out.alloc (.cells #[.slice aa n ca] 22))
    rw [hw9] at HT9
    have hz9 : w9.heap.size = wc.heap.size + 1 := by
      rw [← hw9]
      simp
    have hc9 : w9.cell? ⟨wc.heap.size, 0, none⟩ = some (.slice aa n ca) := by
      rw [← hw9]
      exact blk_cell (i := 0) (World.alloc_heap_new wc _) rfl
    have ltp := lt_of_block HT2.out.bp
    obtain ⟨g, hg⟩ : ∃ g, w.heap.size + 1 = g := ⟨_, rfl⟩
    obtain ⟨p, hp⟩ : ∃ p, g + 1 = p := ⟨_, rfl⟩
    have hwz := HT2.out.below.size
    rw [hg, hp] at HT9 ltp
    rw [hw9, hg, hp]
    clear HT2 hw9 lt1
    refine (wpIn_wide (n := 3)).1 ?_
    refine' wpIn_rounds (gf := 47) (lb := #[.pointer (some ⟨wc.heap.size, 0, none⟩)]) (N := a.length) (enc := backEnc a) (Kp := KpB w.heap.size wc.heap.size) (w0 := w9) rfl (enters_of Try.func47 (by kernel_rfl) rfl) ?seq (Below.refl _ _) (fun _ => rfl) KpB.trans ?kb
      (fun k W => ∃ R, Hid (TabR w W (.slice ab m cb) n m g p (n - k) (n - k) R f) ∧ w9.heap.size ≤ W.heap.size) (tab_own HT9.out.below.size) ?start _ ?assign ?body ?done
    case seq => exact back_rounds w w9 wc.heap.size _ a HA.out HT9.out.below hc9 (by have h1 := HN.out.1; have h2 := HL.out.1; omega)
    case kb => exact fun W l o h1 h2 => KpB.put W o (by omega) (by omega) h2
    case start => exact ⟨_, HT9, Nat.le_refl _⟩
    case assign =>
      intro l k W K hK
      dsimp only [backEnc]
      gi_wp2
      exact hK
    case body =>
      rintro l k W hk ⟨R, HT, hWz⟩
      rw [HN.out.1] at hk
      obtain ⟨i, hi⟩ : ∃ i, n - 1 - k = i := ⟨_, rfl⟩
      have hki : n - k = i + 1 := by omega
      rw [hki] at HT
      obtain ⟨x, hx⟩ : ∃ x, a[i]? = some x := ⟨_, List.getElem?_eq_getElem (by rw [HN.out.1]; omega)⟩
      rw [HN.out.1, hi, hx, Option.getD_some]
      have HX := hid hx
      have hin : i < n := by omega
      have HIK := hid (show n - (k + 1) = i by omega)
      have i0 : (0 : Int) ≤ (i : Int) := Int.natCast_nonneg _
      have i1 : (i : Int) < (n1 : Int) := by have := HN.out.2; omega
      have hT := HT.out
      have ckb := blk_cell (i := 0) hT.box rfl
      have ckp := blk_cell (i := 0) hT.bp rfl
      rw [HN.out.2] at ckp
      have ltg := lt_of_block hT.top
      have h0 : (W.alloc (.cells Z2 76)).heap[g]? = _ := (Below.heap_alloc W _ _ ltg).trans hT.top
      have ckt := blk_cell (i := i) (v := .slice none 0 0) h0 (by rw [List.getElem?_toArray]; exact mixL_lo (by omega) (by omega))
      have zkt := blk_free (i := i) h0
      clear hT h0 hx hi hki hk
      gi_wp2
      refine region_round (fun wy => wy.cell? ⟨p, 0, none⟩ = some (.slice (some ⟨g, 0, none⟩) n1 n1) ∧ wy.cell? ⟨w.heap.size, 0, none⟩ = some (.slice ab m cb)) (by kernel_rfl) (by kernel_rfl) ?_
      have hS : (fun wy => wy.cell? ⟨p, 0, none⟩ = some (.slice (some ⟨g, 0, none⟩) n1 n1) ∧ wy.cell? ⟨w.heap.size, 0, none⟩ = some (.slice ab m cb)) W.drew := ⟨ckp, ckb⟩
      refine wpAnyH_take (i := 0) (v := .slice (some ⟨g, 0, none⟩) n1 n1) rfl (by kernel_rfl) (by kernel_rfl) (by kernel_rfl) (fun _ _ _ h => h) (Or.inl ⟨by rfl, fun wz hz => ?_⟩) hS ?_
      · obtain ⟨z1, z2⟩ := hz
        go_simp
      simp only [Act.put, List.setIfInBounds_toArray]
      refine wpAnyH_take (i := 1) (v := .int .i64 (i : Int)) rfl (by kernel_rfl) (by kernel_rfl) (by kernel_rfl) (fun _ _ _ h => h) (Or.inl ⟨by rfl, fun wz hz => ?_⟩) hS ?_
      · obtain ⟨z1, z2⟩ := hz
        go_simp
      simp only [Act.put]
      refine wpAnyH_take (i := 2) (v := .slice ab m cb) rfl (by kernel_rfl) (by kernel_rfl) (by kernel_rfl) (fun _ _ _ h => h) (Or.inl ⟨by rfl, fun wz hz => ?_⟩) hS ?_
      · obtain ⟨z1, z2⟩ := hz
        go_simp
      simp only [Act.put]
      refine wpAnyH_take (i := 3) (v := .int .i64 (m : Int)) rfl (by kernel_rfl) (by kernel_rfl) (by kernel_rfl) (fun _ _ _ h => h) (Or.inl ⟨by rfl, fun wz hz => ?_⟩) hS ?_
      · obtain ⟨z1, z2⟩ := hz
        go_simp
      simp only [Act.put]
      refine wpAnyH_take (i := 4) (v := .int .i64 (m1 : Int)) rfl (by kernel_rfl) (by kernel_rfl) (by kernel_rfl) (fun _ _ _ h => h) (Or.inl ⟨by rfl, fun wz hz => ?_⟩) hS ?_
      · obtain ⟨z1, z2⟩ := hz
        go_simp
      simp only [Act.put]
      refine wpAnyH_ready (rs := [5]) (by kernel_rfl) (by simp) ?_
      refine AllReadyH.cons rfl (fun K' hK' => ?_) AllReadyH.nil
      go_simp
      have s1 : (W.alloc (.cells Z2 76)).cell? ⟨p, 0, none⟩ = _ := (World.cell?_alloc_some W _ _ (by rw [ckp]; rfl)).trans ckp
      have s2 : (W.alloc (.cells Z2 76)).cell? ⟨w.heap.size, 0, none⟩ = _ := (World.cell?_alloc_some W _ _ (by rw [ckb]; rfl)).trans ckb
      refine hK'.out _ _ ⟨s1, s2⟩ (fun hS2 => ?_)
      clear hK' s1 s2
      refine wpAnyH_take (i := 6) (v := .pointer (some ⟨g, i, none⟩)) rfl (by kernel_rfl) (by kernel_rfl) (by kernel_rfl) (fun _ _ _ h => h) (Or.inl ⟨by rfl, fun wz hz => ?_⟩) hS2 ?_
      · obtain ⟨z1, z2⟩ := hz
        go_simp
      simp only [Act.put]
      refine wpAnyH_ready (rs := [7]) (by kernel_rfl) (by simp) ?_
      refine AllReadyH.cons rfl (fun K' hK' => ?_) AllReadyH.nil
      go_simp
      obtain ⟨far1, far2, far3⟩ := HT.out.far
      have s3 : (W.setCell ⟨g, i, none⟩ (.slice (some ⟨W.heap.size, 0, none⟩) m1 m1)).cell? ⟨p, 0, none⟩ = _ := (World.cell?_setCell_far W ⟨g, i, none⟩ ⟨p, 0, none⟩ _ (by show g ≠ p; omega)).trans ckp
      have s4 : (W.setCell ⟨g, i, none⟩ (.slice (some ⟨W.heap.size, 0, none⟩) m1 m1)).cell? ⟨w.heap.size, 0, none⟩ = _ := (World.cell?_setCell_far W ⟨g, i, none⟩ ⟨w.heap.size, 0, none⟩ _ (by show g ≠ w.heap.size; omega)).trans ckb
      refine hK'.out _ _ ⟨(World.cell?_alloc_some _ _ _ (by rw [s3]; rfl)).trans s3, (World.cell?_alloc_some _ _ _ (by rw [s4]; rfl)).trans s4⟩ (fun _ => ?_)
      clear hK' s3 s4 hS hS2
      refine wpAnyH_done (by kernel_rfl) ?_ _
      obtain ⟨W1, hW1⟩ : ∃ W1, W1 = ((W.setCell ⟨g, i, none⟩ (.slice (some ⟨W.heap.size, 0, none⟩) m1 m1)).alloc (.cells Z2 76)).drew := ⟨_, rfl⟩
      obtain ⟨hT1, hrow⟩ := HT.out.row2 (by omega) HM.out.2 HZ.out.2 hW1
      have hKO := (((KeepsOthers.setCell W ⟨g, i, none⟩ (.slice (some ⟨W.heap.size, 0, none⟩) m1 m1)).trans (KeepsOthers.alloc _ (.cells Z2 76))).trans (KeepsOthers.drew _))
      have hss : (W.setCell ⟨g, i, none⟩ (.slice (some ⟨W.heap.size, 0, none⟩) m1 m1)).heap.size = W.heap.size := by simp [World.setCell]
      have hBs : W1.heap[wc.heap.size]? = W.heap[wc.heap.size]? := by
        rw [hW1]
        exact (Below.heap_alloc _ _ _ (by rw [hss]; omega)).trans (Below.heap_setCell _ _ _ _ (by show wc.heap.size ≠ g; omega))
      have hBW : Below w.heap.size W W1 := by
        rw [hW1]
        exact (((Below.refl _ W).setCell (by show w.heap.size ≤ g; omega) _).alloc (by rw [hss]; exact HT.out.below.size) _).trans (show Below w.heap.size _ _ from ⟨rfl, rfl, rfl, Nat.le_refl _, fun _ _ => rfl⟩)
      have hsz1 : W1.heap.size = W.heap.size + 1 := by
        rw [hW1]
        show ((W.setCell ⟨g, i, none⟩ (.slice (some ⟨W.heap.size, 0, none⟩) m1 m1)).alloc (.cells Z2 76)).heap.size = _
        rw [World.size_alloc, hss]
      rw [← hW1] at hKO ⊢
      have hR2lt := lt_of_block (HT.out.rows (i + 1) (Nat.le_refl _) (by omega))
      have hRlt : ∀ j, i + 1 ≤ j → j ≤ n → R j < W.heap.size := fun j h4 h5 => lt_of_block (HT.out.rows j h4 h5)
      have hp1 := lt_of_block HT.out.bp
      have hbeh := hT1.rows (i + 1) (Nat.le_refl _) (by omega)
      have c3 := blk_cell (i := i) hT1.top (by rw [List.getElem?_toArray]; exact mixL_at (by omega) (Nat.le_refl _))
      have c4 := blk_cell (i := i + 1) hT1.top (by rw [List.getElem?_toArray]; exact mixL_at (by omega) (by omega))
      rw [if_pos rfl] at c3
      rw [if_neg (by omega)] at c4 hbeh
      have HR1 := hid (show (fun j => if j = i then W.heap.size else R j) i = W.heap.size from if_pos rfl)
      have HR2 := hid (show ∀ j, i + 1 ≤ j → j ≤ n → (fun j => if j = i then W.heap.size else R j) j ≠ W.heap.size from fun j h4 h5 => by
        show (if j = i then W.heap.size else R j) ≠ _
        rw [if_neg (by omega)]
        have := hRlt j h4 h5
        omega)
      have c1 := blk_cell (i := 0) hT1.bp rfl
      have c2 := blk_cell (i := 0) hT1.box rfl
      obtain ⟨R', hR'⟩ : ∃ R', (fun j => if j = i then W.heap.size else R j) = R' := ⟨_, rfl⟩
      rw [hR'] at hT1 HR1 HR2
      obtain ⟨rn, hrn⟩ : ∃ rn, W.heap.size = rn := ⟨_, rfl⟩
      obtain ⟨R2, hR2⟩ : ∃ R2, R (i + 1) = R2 := ⟨_, rfl⟩
      obtain ⟨i2, hi2⟩ : ∃ i2, i + 1 = i2 := ⟨_, rfl⟩
      have iw2 : IntKind.i64.wrap ((i : Int) + 1) = (i2 : Int) := (IntWalk.i64_in _ (by have := HL.out.1; omega)).trans (by omega)
      have i20 : (0 : Int) ≤ (i2 : Int) := Int.natCast_nonneg _
      have i21 : (i2 : Int) < (n1 : Int) := by have := HN.out.2; omega
      have HFILL := hid (fill16_any w rn R2 m x (.slice ab m cb) b (f i) (f (i + 1)) (fun _ => 0) W1.drew HM.out.1 (by have := HL.out.2; omega) HB.out (hT1.below.trans ⟨rfl, rfl, rfl, Nat.le_refl _, fun _ _ => rfl⟩) (by omega) (by rw [← hR2]; omega) (by rw [← hrn]; exact hrow) rfl (by rw [← hR2]; exact hbeh) (HF.out.2.1 i x HX.out) (HF.out.2.2 (i + 1)) (HF.out.2.2 i))
      rw [HM.out.2] at HFILL c3 c4
      rw [HN.out.2] at c1
      rw [hrn] at c3 HR1 HR2 hrow hsz1 hp1
      rw [hi2] at c4
      rw [← hi2, hR2, hi2] at c4
      have HT1 := hid hT1
      have HROW := hid hrow
      have HKO := hid hKO
      have HBW := hid hBW
      have HBS := hid hBs
      have HRN := hid hrn
      have HI2 := hid hi2
      clear hT1 hrow hKO hBW hBs hrn hi2 hR2 hR' hRlt hbeh hW1 ckb ckp ckt zkt hss far3
      refine NoOut.normal ?_
      gi_wp2
      refine region_round (fun wy => wy.cell? ⟨p, 0, none⟩ = some (.slice (some ⟨g, 0, none⟩) n1 n1) ∧ wy.cell? ⟨w.heap.size, 0, none⟩ = some (.slice ab m cb) ∧ wy.cell? ⟨g, i, none⟩ = some (.slice (some ⟨rn, 0, none⟩) m1 m1) ∧ wy.cell? ⟨g, i2, none⟩ = some (.slice (some ⟨R2, 0, none⟩) m1 m1)) (by kernel_rfl) (by kernel_rfl) ?_
      have hS7 : (fun wy => wy.cell? ⟨p, 0, none⟩ = some (.slice (some ⟨g, 0, none⟩) n1 n1) ∧ wy.cell? ⟨w.heap.size, 0, none⟩ = some (.slice ab m cb) ∧ wy.cell? ⟨g, i, none⟩ = some (.slice (some ⟨rn, 0, none⟩) m1 m1) ∧ wy.cell? ⟨g, i2, none⟩ = some (.slice (some ⟨R2, 0, none⟩) m1 m1)) W1.drew := ⟨c1, c2, c3, c4⟩
      refine wpAnyH_take (i := 0) (v := .slice (some ⟨g, 0, none⟩) n1 n1) rfl (by kernel_rfl) (by kernel_rfl) (by kernel_rfl) (fun _ _ _ h => h) (Or.inl ⟨by rfl, fun wz hz => ?_⟩) hS7 ?_
      · obtain ⟨z1, z2, z3, z4⟩ := hz
        go_simp
      simp only [Act.put, List.setIfInBounds_toArray]
      refine wpAnyH_take (i := 1) (v := .int .i64 (i : Int)) rfl (by kernel_rfl) (by kernel_rfl) (by kernel_rfl) (fun _ _ _ h => h) (Or.inl ⟨by rfl, fun wz hz => ?_⟩) hS7 ?_
      · obtain ⟨z1, z2, z3, z4⟩ := hz
        go_simp
      simp only [Act.put]
      refine wpAnyH_take (i := 2) (v := .pointer (some ⟨g, i, none⟩)) rfl (by kernel_rfl) (by kernel_rfl) (by kernel_rfl) (fun _ _ _ h => h) (Or.inl ⟨by rfl, fun wz hz => ?_⟩) hS7 ?_
      · obtain ⟨z1, z2, z3, z4⟩ := hz
        go_simp
      simp only [Act.put]
      refine wpAnyH_take (i := 3) (v := .slice (some ⟨rn, 0, none⟩) m1 m1) rfl (by kernel_rfl) (by kernel_rfl) (by kernel_rfl) (fun _ _ _ h => h) (Or.inl ⟨by rfl, fun wz hz => ?_⟩) hS7 ?_
      · obtain ⟨z1, z2, z3, z4⟩ := hz
        go_simp
      simp only [Act.put]
      refine wpAnyH_take (i := 4) (v := .slice (some ⟨g, 0, none⟩) n1 n1) rfl (by kernel_rfl) (by kernel_rfl) (by kernel_rfl) (fun _ _ _ h => h) (Or.inl ⟨by rfl, fun wz hz => ?_⟩) hS7 ?_
      · obtain ⟨z1, z2, z3, z4⟩ := hz
        go_simp
      simp only [Act.put]
      refine wpAnyH_take (i := 5) (v := .int .i64 (i : Int)) rfl (by kernel_rfl) (by kernel_rfl) (by kernel_rfl) (fun _ _ _ h => h) (Or.inl ⟨by rfl, fun wz hz => ?_⟩) hS7 ?_
      · obtain ⟨z1, z2, z3, z4⟩ := hz
        go_simp
      simp only [Act.put]
      refine wpAnyH_take (i := 6) (v := .int .i64 (i2 : Int)) rfl (by kernel_rfl) (by kernel_rfl) (by kernel_rfl) (fun _ _ _ h => h) (Or.inl ⟨by rfl, fun wz hz => ?_⟩) hS7 ?_
      · obtain ⟨z1, z2, z3, z4⟩ := hz
        go_simp
      simp only [Act.put]
      refine wpAnyH_take (i := 7) (v := .pointer (some ⟨g, i2, none⟩)) rfl (by kernel_rfl) (by kernel_rfl) (by kernel_rfl) (fun _ _ _ h => h) (Or.inl ⟨by rfl, fun wz hz => ?_⟩) hS7 ?_
      · obtain ⟨z1, z2, z3, z4⟩ := hz
        go_simp
      simp only [Act.put]
      refine wpAnyH_take (i := 8) (v := .slice (some ⟨R2, 0, none⟩) m1 m1) rfl (by kernel_rfl) (by kernel_rfl) (by kernel_rfl) (fun _ _ _ h => h) (Or.inl ⟨by rfl, fun wz hz => ?_⟩) hS7 ?_
      · obtain ⟨z1, z2, z3, z4⟩ := hz
        go_simp
      simp only [Act.put]
      refine wpAnyH_take (i := 9) (v := .string ⟨x.toArray⟩) rfl (by kernel_rfl) (by kernel_rfl) (by kernel_rfl) (fun _ _ _ h => h) (Or.inl ⟨by rfl, fun wz hz => ?_⟩) hS7 ?_
      · obtain ⟨z1, z2, z3, z4⟩ := hz
        go_simp
      simp only [Act.put]
      refine wpAnyH_take (i := 10) (v := .slice ab m cb) rfl (by kernel_rfl) (by kernel_rfl) (by kernel_rfl) (fun _ _ _ h => h) (Or.inl ⟨by rfl, fun wz hz => ?_⟩) hS7 ?_
      · obtain ⟨z1, z2, z3, z4⟩ := hz
        go_simp
      simp only [Act.put]
      refine wpAnyH_ready (rs := [11]) (by kernel_rfl) (by simp) ?_
      refine AllReadyH.cons rfl (fun K' hK' => ?_) AllReadyH.nil
      go_simp
      refine HFILL.out.mono ?_
      rintro e w6 ⟨⟨v, rfl⟩, hO, hr6⟩
      obtain ⟨far1, far2, _⟩ := HT1.out.far
      have d1 : w6.cell? ⟨p, 0, none⟩ = _ := (World.cell?_of_block (w := W1) (hO.block p (by omega))).trans c1
      have d2 : w6.cell? ⟨w.heap.size, 0, none⟩ = _ := (World.cell?_of_block (w := W1) (hO.block w.heap.size (by omega))).trans c2
      have d3 : w6.cell? ⟨g, i, none⟩ = _ := (World.cell?_of_block (w := W1) (hO.block g (by omega))).trans c3
      have d4 : w6.cell? ⟨g, i2, none⟩ = _ := (World.cell?_of_block (w := W1) (hO.block g (by omega))).trans c4
      refine hK'.out _ _ ⟨d1, d2, d3, d4⟩ (fun _ => ?_)
      clear hK' d1 d2 d3 d4 hS7 c1 c2 c3 c4
      refine wpAnyH_done (by kernel_rfl) ?_ _
      refine NoOut.normal ?_
      have HO1 := hid (show Only rn W1 w6 from ⟨hO.os, hO.tape, hO.output, hO.size, hO.block⟩)
      have HR6 := hid hr6
      clear hO hr6 HFILL
      gi_wp2
      refine ⟨(HKO.out.trans (HO1.out.others' HROW.out)).from _, ⟨HBW.out.trans (HO1.out.below (by omega)), (HO1.out.block _ (by have := HRN.out; omega)).trans HBS.out⟩, R', ?_, ?_⟩
      · rw [HIK.out]
        have h6 := HR6.out
        rw [← HM.out.2] at h6
        exact hid (HT1.out.fill HR1.out HR2.out (by omega) HO1.out h6)
      · have h1 := HO1.out.size
        have h2 := HRN.out
        omega
    case done =>
      rintro D W hD ⟨R, HT, hWz⟩ hK
      obtain ⟨R', HT', _⟩ := (tab_own (B := w9.heap.size) (Z := w9.heap.size) (w := w) (vB := .slice ab m cb) (n := n) (m := m) (g := g) (p := p) (f := f) HT9.out.below.size).putObj (.deferred none) (s := a.length) ⟨R, HT, hWz⟩ hD hK rfl
      rw [HN.out.1, Nat.sub_self] at HT HT'
      have ckp := blk_cell (i := 0) HT.out.bp rfl
      rw [HN.out.2] at ckp
      have HTAB := hid HT'.out.tab
      rw [HN.out.2] at HTAB
      clear HT'
      dsimp only
      go_wp2_with fail
      refine ⟨by simp, .inl ⟨_, _, rfl, run_takeDeferred hK, ?_⟩⟩
      refine ⟨.slice (some ⟨g, 0, none⟩) n1 n1, results_tmp (show Try.f44.results = #[.tmp 4] from rfl) _ _ _, _, rfl, HTAB.out, HT.out.below.trans (belowK_b (w := w) (Nat.le_refl _) W D _ _ (by have := HT9.out.below.size; omega) hK rfl rfl)⟩
end
end Go.Proofs.Ytgmopmlhggdefaa
