/-
  The document's own disk (rickref03): Restart.
-/
import Derived.Test.YtblhabiginckbaaRdsD
namespace Go.Proofs.Ytblhabiginckbaa
open Go.RowKit

/-- What is kept of a file: 'max(0, min(keep, loose))'. -/
theorem bel_drew2 (w : World) : Below w.heap.size w w.drew.drew := ⟨rfl, rfl, rfl, Nat.le_refl _, fun _ _ => rfl⟩
theorem held_cases (k m : Int) (h : 0 ≤ m) : heldI k m = if m < k then m else if 0 < k then k else 0 := by unfold heldI; split <;> (try split) <;> omega

set_option maxHeartbeats 4000000 in
theorem RRestart_any {B rp : Nat} {u0 u1 kv : Value} {D : Dk} (w : World) (h : RefIn w B rp u0 u1 kv D) (hw : D.Wf) :
    Calls Try.prog 19 #[.pointer (some ⟨rp, 0, none⟩)] w fun e w' => e = .returned (.pointer (some ⟨w.heap.size, 0, none⟩)) ∧ ∃ x0 x1 xk, RefIn w' w.heap.size w.heap.size x0 x1 xk D.restart ∧ Below w.heap.size w w' := by
  have hs0 := hw.s0
  have hs1 := hw.s1
  have hr := hw.room
  have hm := hw.most
  have hrp := lt_of_block h.block
  obtain ⟨a0, p0, hv0⟩ := owns_form h.own0
  obtain ⟨a1, p1, hv1⟩ := owns_form h.own1
  subst hv0 hv1
  obtain ⟨zs, hkz, hkk⟩ := h.keep
  obtain ⟨ak, pk, hvk⟩ := owns_form hkz
  subst hvk
  have HN := hid (RNew_any (D.room : Int) w)
  have hroom : Dk.new (D.room : Int) = ⟨D.room, ⟨[], 0⟩, ⟨[], 0⟩, false, 0, 0, 0⟩ := by unfold Dk.new; rw [heldI_room hm]; rfl
  have HROOM := hid hroom
  have HCALM := hid hw.calm
  have HKK := hid hkk
  clear hroom hkk
  have e0 := h.c0
  go_enter Try.func19, Try.ntmps19
  go_wp2_with fail
  refine HN.out.mono ?_
  rw [HROOM.out]
  rintro e w1 ⟨rfl, hR, hb⟩
  clear e0
  have HH := hid h
  have HKZ := hid hkz
  clear h hkz
  go_wp2
  go_loopw [4, 5] (fun i _ wr => ∃ k : Nat, k ≤ 2 ∧ i = .int .i64 (k : Int) ∧ Below w.heap.size w wr ∧ ∃ x0 x1 xk, RefIn wr w.heap.size w.heap.size x0 x1 xk ⟨D.room, if k = 0 then ⟨[], 0⟩ else D.f0.crash D.k0, if k = 2 then D.f1.crash D.k1 else ⟨[], 0⟩, false, 0, 0, 0⟩) (fun i _ _ => 2 - (intOf i).toNat)
  case atStart => exact ⟨0, by omega, rfl, hb, _, _, _, hR⟩
  case round =>
    clear hR hb
    obtain ⟨k, hk, rfl, hbel, x0, x1, xk, hR⟩ := hrel
    have h3 : k = 0 ∨ k = 1 ∨ k = 2 := by omega
    clear hk
    rcases h3 with rfl | rfl | rfl
    · rw [if_pos rfl, if_neg (by omega)] at hR
      rw [show ((0 : Nat) : Int) = 0 from rfl]
      have h := HH.out.below hbel
      have c5 := h.c5
      have c7 := h.c7
      have cf := h.c1
      have cs := h.c2
      have hsf := Sl.ofOwns h.own0
      have hbk : D.f0.b.length ≤ 1000000 := by omega
      have HBEL := hid hbel
      have HR := hid hR
      have HS := hid hsf
      have ib1 : (D.f0.b.length : Int) ≤ 1000000 := by omega
      have ib2 : (D.f0.s : Int) ≤ 1000000 := by omega
      clear hR hbel hsf h
      by_cases hc : D.armed = true ∧ 0 < zs.length
      · obtain ⟨z, hz⟩ : ∃ z, zs[0]? = some z := ⟨_, List.getElem?_eq_getElem hc.2⟩
        have hkz : D.k0 = z := by have := (HKK.out hc.1).1; rw [this, List.getD_eq_getElem?_getD, hz]; rfl
        obtain ⟨kb, hkc⟩ : ∃ kb, ak = some ⟨kb, 0, none⟩ ∧ wr.cell? ⟨kb, 0, none⟩ = some (.int .i64 z) := by
          rcases HKZ.out.2 with ⟨hv, hn⟩ | ⟨g, cap', cur, hv, hb2, hg, hmc, hcm, hcs, htake⟩
          · have := hc.2; omega
          · obtain ⟨rfl, _, _⟩ := Value.slice.inj hv
            refine ⟨g, rfl, blk_cell ((HBEL.out.block g (lt_of_block hg)).trans hg) ?_⟩
            have h0 : (zs.map (Value.int .i64))[0]? = some (.int .i64 z) := by rw [List.getElem?_map, hz]; rfl
            rw [← htake, List.getElem?_take] at h0
            split at h0
            · simpa using h0
            · cases h0
        obtain ⟨rfl, hkc⟩ := hkc
        have harm := hc.1
        rw [harm] at c5
        have i1 : (0 : Int) < (zs.length : Int) := by have := hc.2; omega
        have HKZ2 := hid hkz
        obtain ⟨d, hd⟩ : ∃ d : Nat, (D.f0.b.length : Int) - (D.f0.s : Int) = (d : Int) := ⟨D.f0.b.length - D.f0.s, by omega⟩
        have wd : IntKind.i64.wrap ((D.f0.b.length : Int) - (D.f0.s : Int)) = (d : Int) := by rw [hd]; exact IntWalk.i64_in _ (by omega)
        have HDD := hid hd
        clear hz hkz harm hc hd
        by_cases c1 : (d : Int) < z
        · by_cases c2 : 0 < d
          · have c3 : (0 : Int) < (d : Int) := by omega
            obtain ⟨q, hq⟩ : ∃ q : Nat, q = d + D.f0.s := ⟨_, rfl⟩
            have hql : q ≤ D.f0.b.length := by have := HDD.out; omega
            have hsum : (d : Int) + (D.f0.s : Int) = (q : Int) := by omega
            have iq : (q : Int) ≤ 1000000 := by omega
            have hcr : D.f0.crash D.k0 = ⟨D.f0.b.take (q), q⟩ := by unfold Fl.crash; rw [HKZ2.out, HDD.out, held_cases _ _ (by omega), if_pos c1, show ((D.f0.s : Int) + (d : Int)).toNat = q by omega]
            clear c2 hq
            have hl1 : (D.f0.b.take (q)).length ≤ 70368744177664 := by rw [List.length_take]; omega
            have hql2 := hql
            have htl : (D.f0.b.take (q)).length = q := by rw [List.length_take]; omega
            have hcap := HS.out.cap'
            have hsl := fun wx => run_slice_head a0 D.f0.b.length p0 (q) (by omega) wx
            have hst : Sl wr.drew.drew (.slice a0 (q) p0) (Lib.byteCells (D.f0.b.take (q))) := by
              have := HS.out.cutTo (q) (by rw [Lib.byteCells_length]; exact hql2)
              rw [← byteCells_take'] at this
              exact this.old' (bel_drew2 wr)
            have HST := hid hst
            have HTL := hid htl
            have HCR := hid hcr
            have HRD := hid (HR.out.below (bel_drew2 wr))
            clear hcr hql2 hst htl
            go_wp2
            go_region
            clear c5 c7
            go_wp2
            go_region_law (refine step_append_u8n (by rfl) (.tmp 72) (by rfl) _ (D.f0.b.take (q)) (by rfl) HST.out hl1 ?_; intro o6 c6 w6 own6 bel6; have hR6 := HRD.out.below bel6; have q1 := hR6.c1; have q2 := hR6.free 1; have q3 := hR6.c2; have q4 := hR6.free 2; obtain ⟨y0, y1, zv⟩ := owns_form hR6.own0; rw [zv] at q1; obtain ⟨hg6, _⟩ := HRD.out.give0 bel6 own6; rw [HTL.out] at hg6; have HG6 := hid (hg6.put (D' := ⟨D.room, if 1 = 0 then ⟨[], 0⟩ else D.f0.crash D.k0, if 1 = 2 then D.f1.crash D.k1 else ⟨[], 0⟩, false, 0, 0, 0⟩) 2 (.int .i64 ((q : Nat) : Int)) (by rw [if_neg (by omega), if_neg (by omega), HCR.out]; rfl) (by rw [if_neg (by omega), HCR.out] <;> rfl) (by rw [if_neg (by omega)] <;> rfl) ⟨rfl, rfl, rfl⟩); have hbel6 := below_step (below_step HBEL.out (bel_drew2 wr) HBEL.out.size) bel6 (show w.heap.size ≤ _ from HBEL.out.size); have HB6 := hid hbel6; clear hR6 zv hg6 hbel6)
            have hb9 := (HB6.out.setCell (p := ⟨w.heap.size, 1, none⟩) (Nat.le_refl _) (.slice o6 (q) c6)).setCell (p := ⟨w.heap.size, 2, none⟩) (Nat.le_refl _) (.int .i64 ((q : Nat) : Int))
            have HB9 := hid hb9
            clear own6 bel6 q1 q2 q3 q4 hsl hb9
            go_wp2
            go_roundw
            case rel => exact ⟨1, by omega, rfl, HB9.out, _, _, _, HG6.out⟩
            case measure => simp [intOf]
          · obtain rfl : d = 0 := by omega
            have c3 : (0 : Int) < z := by omega
            have hql : D.f0.s ≤ D.f0.b.length := hs0
            rw [show ((0 : Nat) : Int) = 0 from rfl] at wd c1
            have hcr : D.f0.crash D.k0 = ⟨D.f0.b.take (D.f0.s), D.f0.s⟩ := by unfold Fl.crash; rw [HKZ2.out, HDD.out, held_cases _ _ (by omega), if_pos (by omega), show ((D.f0.s : Int) + ((0 : Nat) : Int)).toNat = D.f0.s by omega]
            clear c2
            have hl1 : (D.f0.b.take (D.f0.s)).length ≤ 70368744177664 := by rw [List.length_take]; omega
            have hql2 := hql
            have htl : (D.f0.b.take (D.f0.s)).length = D.f0.s := by rw [List.length_take]; omega
            have hcap := HS.out.cap'
            have hsl := fun wx => run_slice_head a0 D.f0.b.length p0 (D.f0.s) (by omega) wx
            have hst : Sl wr.drew.drew (.slice a0 (D.f0.s) p0) (Lib.byteCells (D.f0.b.take (D.f0.s))) := by
              have := HS.out.cutTo (D.f0.s) (by rw [Lib.byteCells_length]; exact hql2)
              rw [← byteCells_take'] at this
              exact this.old' (bel_drew2 wr)
            have HST := hid hst
            have HTL := hid htl
            have HCR := hid hcr
            have HRD := hid (HR.out.below (bel_drew2 wr))
            clear hcr hql2 hst htl
            go_wp2
            go_region
            clear c5 c7
            go_wp2
            go_region_law (refine step_append_u8n (by rfl) (.tmp 72) (by rfl) _ (D.f0.b.take (D.f0.s)) (by rfl) HST.out hl1 ?_; intro o6 c6 w6 own6 bel6; have hR6 := HRD.out.below bel6; have q1 := hR6.c1; have q2 := hR6.free 1; have q3 := hR6.c2; have q4 := hR6.free 2; obtain ⟨y0, y1, zv⟩ := owns_form hR6.own0; rw [zv] at q1; obtain ⟨hg6, _⟩ := HRD.out.give0 bel6 own6; rw [HTL.out] at hg6; have HG6 := hid (hg6.put (D' := ⟨D.room, if 1 = 0 then ⟨[], 0⟩ else D.f0.crash D.k0, if 1 = 2 then D.f1.crash D.k1 else ⟨[], 0⟩, false, 0, 0, 0⟩) 2 (.int .i64 ((D.f0.s : Nat) : Int)) (by rw [if_neg (by omega), if_neg (by omega), HCR.out]; rfl) (by rw [if_neg (by omega), HCR.out] <;> rfl) (by rw [if_neg (by omega)] <;> rfl) ⟨rfl, rfl, rfl⟩); have hbel6 := below_step (below_step HBEL.out (bel_drew2 wr) HBEL.out.size) bel6 (show w.heap.size ≤ _ from HBEL.out.size); have HB6 := hid hbel6; clear hR6 zv hg6 hbel6)
            have hb9 := (HB6.out.setCell (p := ⟨w.heap.size, 1, none⟩) (Nat.le_refl _) (.slice o6 (D.f0.s) c6)).setCell (p := ⟨w.heap.size, 2, none⟩) (Nat.le_refl _) (.int .i64 ((D.f0.s : Nat) : Int))
            have HB9 := hid hb9
            clear own6 bel6 q1 q2 q3 q4 hsl hb9
            go_wp2
            go_roundw
            case rel => exact ⟨1, by omega, rfl, HB9.out, _, _, _, HG6.out⟩
            case measure => simp [intOf]
        · have c2 : z ≤ (d : Int) := by omega
          by_cases c3 : 0 < z
          · obtain ⟨m, rfl⟩ : ∃ m : Nat, z = (m : Int) := ⟨z.toNat, by omega⟩
            obtain ⟨q, hq⟩ : ∃ q : Nat, q = m + D.f0.s := ⟨_, rfl⟩
            have hql : q ≤ D.f0.b.length := by have := HDD.out; omega
            have hsum : (m : Int) + (D.f0.s : Int) = (q : Int) := by omega
            have iq : (q : Int) ≤ 1000000 := by omega
            have hcr : D.f0.crash D.k0 = ⟨D.f0.b.take (q), q⟩ := by unfold Fl.crash; rw [HKZ2.out, HDD.out, held_cases _ _ (by omega), if_neg c1, if_pos c3, show ((D.f0.s : Int) + (m : Int)).toNat = q by omega]
            clear c1 hq
            have hl1 : (D.f0.b.take (q)).length ≤ 70368744177664 := by rw [List.length_take]; omega
            have hql2 := hql
            have htl : (D.f0.b.take (q)).length = q := by rw [List.length_take]; omega
            have hcap := HS.out.cap'
            have hsl := fun wx => run_slice_head a0 D.f0.b.length p0 (q) (by omega) wx
            have hst : Sl wr.drew.drew (.slice a0 (q) p0) (Lib.byteCells (D.f0.b.take (q))) := by
              have := HS.out.cutTo (q) (by rw [Lib.byteCells_length]; exact hql2)
              rw [← byteCells_take'] at this
              exact this.old' (bel_drew2 wr)
            have HST := hid hst
            have HTL := hid htl
            have HCR := hid hcr
            have HRD := hid (HR.out.below (bel_drew2 wr))
            clear hcr hql2 hst htl
            go_wp2
            go_region
            clear c5 c7
            go_wp2
            go_region_law (refine step_append_u8n (by rfl) (.tmp 72) (by rfl) _ (D.f0.b.take (q)) (by rfl) HST.out hl1 ?_; intro o6 c6 w6 own6 bel6; have hR6 := HRD.out.below bel6; have q1 := hR6.c1; have q2 := hR6.free 1; have q3 := hR6.c2; have q4 := hR6.free 2; obtain ⟨y0, y1, zv⟩ := owns_form hR6.own0; rw [zv] at q1; obtain ⟨hg6, _⟩ := HRD.out.give0 bel6 own6; rw [HTL.out] at hg6; have HG6 := hid (hg6.put (D' := ⟨D.room, if 1 = 0 then ⟨[], 0⟩ else D.f0.crash D.k0, if 1 = 2 then D.f1.crash D.k1 else ⟨[], 0⟩, false, 0, 0, 0⟩) 2 (.int .i64 ((q : Nat) : Int)) (by rw [if_neg (by omega), if_neg (by omega), HCR.out]; rfl) (by rw [if_neg (by omega), HCR.out] <;> rfl) (by rw [if_neg (by omega)] <;> rfl) ⟨rfl, rfl, rfl⟩); have hbel6 := below_step (below_step HBEL.out (bel_drew2 wr) HBEL.out.size) bel6 (show w.heap.size ≤ _ from HBEL.out.size); have HB6 := hid hbel6; clear hR6 zv hg6 hbel6)
            have hb9 := (HB6.out.setCell (p := ⟨w.heap.size, 1, none⟩) (Nat.le_refl _) (.slice o6 (q) c6)).setCell (p := ⟨w.heap.size, 2, none⟩) (Nat.le_refl _) (.int .i64 ((q : Nat) : Int))
            have HB9 := hid hb9
            clear own6 bel6 q1 q2 q3 q4 hsl hb9
            go_wp2
            go_roundw
            case rel => exact ⟨1, by omega, rfl, HB9.out, _, _, _, HG6.out⟩
            case measure => simp [intOf]
          · have c4 : z ≤ 0 := by omega
            have hql : D.f0.s ≤ D.f0.b.length := hs0
            have hcr : D.f0.crash D.k0 = ⟨D.f0.b.take (D.f0.s), D.f0.s⟩ := by unfold Fl.crash; rw [HKZ2.out, HDD.out, held_cases _ _ (by omega), if_neg c1, if_neg c3, show ((D.f0.s : Int) + 0).toNat = D.f0.s by omega]
            clear c1 c3
            have hl1 : (D.f0.b.take (D.f0.s)).length ≤ 70368744177664 := by rw [List.length_take]; omega
            have hql2 := hql
            have htl : (D.f0.b.take (D.f0.s)).length = D.f0.s := by rw [List.length_take]; omega
            have hcap := HS.out.cap'
            have hsl := fun wx => run_slice_head a0 D.f0.b.length p0 (D.f0.s) (by omega) wx
            have hst : Sl wr.drew.drew (.slice a0 (D.f0.s) p0) (Lib.byteCells (D.f0.b.take (D.f0.s))) := by
              have := HS.out.cutTo (D.f0.s) (by rw [Lib.byteCells_length]; exact hql2)
              rw [← byteCells_take'] at this
              exact this.old' (bel_drew2 wr)
            have HST := hid hst
            have HTL := hid htl
            have HCR := hid hcr
            have HRD := hid (HR.out.below (bel_drew2 wr))
            clear hcr hql2 hst htl
            go_wp2
            go_region
            clear c5 c7
            go_wp2
            go_region_law (refine step_append_u8n (by rfl) (.tmp 72) (by rfl) _ (D.f0.b.take (D.f0.s)) (by rfl) HST.out hl1 ?_; intro o6 c6 w6 own6 bel6; have hR6 := HRD.out.below bel6; have q1 := hR6.c1; have q2 := hR6.free 1; have q3 := hR6.c2; have q4 := hR6.free 2; obtain ⟨y0, y1, zv⟩ := owns_form hR6.own0; rw [zv] at q1; obtain ⟨hg6, _⟩ := HRD.out.give0 bel6 own6; rw [HTL.out] at hg6; have HG6 := hid (hg6.put (D' := ⟨D.room, if 1 = 0 then ⟨[], 0⟩ else D.f0.crash D.k0, if 1 = 2 then D.f1.crash D.k1 else ⟨[], 0⟩, false, 0, 0, 0⟩) 2 (.int .i64 ((D.f0.s : Nat) : Int)) (by rw [if_neg (by omega), if_neg (by omega), HCR.out]; rfl) (by rw [if_neg (by omega), HCR.out] <;> rfl) (by rw [if_neg (by omega)] <;> rfl) ⟨rfl, rfl, rfl⟩); have hbel6 := below_step (below_step HBEL.out (bel_drew2 wr) HBEL.out.size) bel6 (show w.heap.size ≤ _ from HBEL.out.size); have HB6 := hid hbel6; clear hR6 zv hg6 hbel6)
            have hb9 := (HB6.out.setCell (p := ⟨w.heap.size, 1, none⟩) (Nat.le_refl _) (.slice o6 (D.f0.s) c6)).setCell (p := ⟨w.heap.size, 2, none⟩) (Nat.le_refl _) (.int .i64 ((D.f0.s : Nat) : Int))
            have HB9 := hid hb9
            clear own6 bel6 q1 q2 q3 q4 hsl hb9
            go_wp2
            go_roundw
            case rel => exact ⟨1, by omega, rfl, HB9.out, _, _, _, HG6.out⟩
            case measure => simp [intOf]
      · have hk0 : D.k0 = 0 := by
          cases ha : D.armed with
          | false => exact (HCALM.out ha).1
          | true =>
            rw [(HKK.out ha).1, List.getD_eq_getElem?_getD, List.getElem?_eq_none (by have hh : ¬ 0 < zs.length := fun h => hc ⟨ha, h⟩; omega)]
            rfl
        have hql : D.f0.s ≤ D.f0.b.length := hs0
        have hcr : D.f0.crash D.k0 = ⟨D.f0.b.take (D.f0.s), D.f0.s⟩ := by unfold Fl.crash; rw [hk0, held_cases _ _ (by omega), show (if (D.f0.b.length : Int) - (D.f0.s : Int) < 0 then (D.f0.b.length : Int) - (D.f0.s : Int) else if (0 : Int) < 0 then 0 else 0) = 0 by rw [if_neg (by omega)]; rfl, show ((D.f0.s : Int) + 0).toNat = D.f0.s by omega]
        clear hk0
        cases ha : D.armed
        · rw [ha] at c5
          clear ha hc
          have hl1 : (D.f0.b.take (D.f0.s)).length ≤ 70368744177664 := by rw [List.length_take]; omega
          have hql2 := hql
          have htl : (D.f0.b.take (D.f0.s)).length = D.f0.s := by rw [List.length_take]; omega
          have hcap := HS.out.cap'
          have hsl := fun wx => run_slice_head a0 D.f0.b.length p0 (D.f0.s) (by omega) wx
          have hst : Sl wr.drew (.slice a0 (D.f0.s) p0) (Lib.byteCells (D.f0.b.take (D.f0.s))) := by
            have := HS.out.cutTo (D.f0.s) (by rw [Lib.byteCells_length]; exact hql2)
            rw [← byteCells_take'] at this
            exact this.old' (bel_drew wr)
          have HST := hid hst
          have HTL := hid htl
          have HCR := hid hcr
          have HRD := hid (HR.out.below (bel_drew wr))
          clear hcr hql2 hst htl
          go_wp2
          go_region_law (refine step_append_u8n (by rfl) (.tmp 72) (by rfl) _ (D.f0.b.take (D.f0.s)) (by rfl) HST.out hl1 ?_; intro o6 c6 w6 own6 bel6; have hR6 := HRD.out.below bel6; have q1 := hR6.c1; have q2 := hR6.free 1; have q3 := hR6.c2; have q4 := hR6.free 2; obtain ⟨y0, y1, zv⟩ := owns_form hR6.own0; rw [zv] at q1; obtain ⟨hg6, _⟩ := HRD.out.give0 bel6 own6; rw [HTL.out] at hg6; have HG6 := hid (hg6.put (D' := ⟨D.room, if 1 = 0 then ⟨[], 0⟩ else D.f0.crash D.k0, if 1 = 2 then D.f1.crash D.k1 else ⟨[], 0⟩, false, 0, 0, 0⟩) 2 (.int .i64 ((D.f0.s : Nat) : Int)) (by rw [if_neg (by omega), if_neg (by omega), HCR.out]; rfl) (by rw [if_neg (by omega), HCR.out] <;> rfl) (by rw [if_neg (by omega)] <;> rfl) ⟨rfl, rfl, rfl⟩); have hbel6 := below_step (below_step HBEL.out (bel_drew wr) HBEL.out.size) bel6 (show w.heap.size ≤ _ from HBEL.out.size); have HB6 := hid hbel6; clear hR6 zv hg6 hbel6)
          have hb9 := (HB6.out.setCell (p := ⟨w.heap.size, 1, none⟩) (Nat.le_refl _) (.slice o6 (D.f0.s) c6)).setCell (p := ⟨w.heap.size, 2, none⟩) (Nat.le_refl _) (.int .i64 ((D.f0.s : Nat) : Int))
          have HB9 := hid hb9
          clear own6 bel6 q1 q2 q3 q4 hsl hb9
          go_wp2
          go_roundw
          case rel => exact ⟨1, by omega, rfl, HB9.out, _, _, _, HG6.out⟩
          case measure => simp [intOf]
        · rw [ha] at c5
          have i1 : (zs.length : Int) ≤ 0 := by have hh : ¬ 0 < zs.length := fun h => hc ⟨ha, h⟩; omega
          clear ha hc
          have hl1 : (D.f0.b.take (D.f0.s)).length ≤ 70368744177664 := by rw [List.length_take]; omega
          have hql2 := hql
          have htl : (D.f0.b.take (D.f0.s)).length = D.f0.s := by rw [List.length_take]; omega
          have hcap := HS.out.cap'
          have hsl := fun wx => run_slice_head a0 D.f0.b.length p0 (D.f0.s) (by omega) wx
          have hst : Sl wr.drew (.slice a0 (D.f0.s) p0) (Lib.byteCells (D.f0.b.take (D.f0.s))) := by
            have := HS.out.cutTo (D.f0.s) (by rw [Lib.byteCells_length]; exact hql2)
            rw [← byteCells_take'] at this
            exact this.old' (bel_drew wr)
          have HST := hid hst
          have HTL := hid htl
          have HCR := hid hcr
          have HRD := hid (HR.out.below (bel_drew wr))
          clear hcr hql2 hst htl
          go_wp2
          go_region_law (refine step_append_u8n (by rfl) (.tmp 72) (by rfl) _ (D.f0.b.take (D.f0.s)) (by rfl) HST.out hl1 ?_; intro o6 c6 w6 own6 bel6; have hR6 := HRD.out.below bel6; have q1 := hR6.c1; have q2 := hR6.free 1; have q3 := hR6.c2; have q4 := hR6.free 2; obtain ⟨y0, y1, zv⟩ := owns_form hR6.own0; rw [zv] at q1; obtain ⟨hg6, _⟩ := HRD.out.give0 bel6 own6; rw [HTL.out] at hg6; have HG6 := hid (hg6.put (D' := ⟨D.room, if 1 = 0 then ⟨[], 0⟩ else D.f0.crash D.k0, if 1 = 2 then D.f1.crash D.k1 else ⟨[], 0⟩, false, 0, 0, 0⟩) 2 (.int .i64 ((D.f0.s : Nat) : Int)) (by rw [if_neg (by omega), if_neg (by omega), HCR.out]; rfl) (by rw [if_neg (by omega), HCR.out] <;> rfl) (by rw [if_neg (by omega)] <;> rfl) ⟨rfl, rfl, rfl⟩); have hbel6 := below_step (below_step HBEL.out (bel_drew wr) HBEL.out.size) bel6 (show w.heap.size ≤ _ from HBEL.out.size); have HB6 := hid hbel6; clear hR6 zv hg6 hbel6)
          have hb9 := (HB6.out.setCell (p := ⟨w.heap.size, 1, none⟩) (Nat.le_refl _) (.slice o6 (D.f0.s) c6)).setCell (p := ⟨w.heap.size, 2, none⟩) (Nat.le_refl _) (.int .i64 ((D.f0.s : Nat) : Int))
          have HB9 := hid hb9
          clear own6 bel6 q1 q2 q3 q4 hsl hb9
          go_wp2
          go_roundw
          case rel => exact ⟨1, by omega, rfl, HB9.out, _, _, _, HG6.out⟩
          case measure => simp [intOf]
    · rw [if_neg (by omega), if_neg (by omega)] at hR
      rw [show ((1 : Nat) : Int) = 1 from rfl]
      have h := HH.out.below hbel
      have c5 := h.c5
      have c7 := h.c7
      have cf := h.c3
      have cs := h.c4
      have hsf := Sl.ofOwns h.own1
      have hbk : D.f1.b.length ≤ 1000000 := by omega
      have HBEL := hid hbel
      have HR := hid hR
      have HS := hid hsf
      have ib1 : (D.f1.b.length : Int) ≤ 1000000 := by omega
      have ib2 : (D.f1.s : Int) ≤ 1000000 := by omega
      clear hR hbel hsf h
      by_cases hc : D.armed = true ∧ 1 < zs.length
      · obtain ⟨z, hz⟩ : ∃ z, zs[1]? = some z := ⟨_, List.getElem?_eq_getElem hc.2⟩
        have hkz : D.k1 = z := by have := (HKK.out hc.1).2; rw [this, List.getD_eq_getElem?_getD, hz]; rfl
        obtain ⟨kb, hkc⟩ : ∃ kb, ak = some ⟨kb, 0, none⟩ ∧ wr.cell? ⟨kb, 1, none⟩ = some (.int .i64 z) := by
          rcases HKZ.out.2 with ⟨hv, hn⟩ | ⟨g, cap', cur, hv, hb2, hg, hmc, hcm, hcs, htake⟩
          · have := hc.2; omega
          · obtain ⟨rfl, _, _⟩ := Value.slice.inj hv
            refine ⟨g, rfl, blk_cell ((HBEL.out.block g (lt_of_block hg)).trans hg) ?_⟩
            have h0 : (zs.map (Value.int .i64))[1]? = some (.int .i64 z) := by rw [List.getElem?_map, hz]; rfl
            rw [← htake, List.getElem?_take] at h0
            split at h0
            · simpa using h0
            · cases h0
        obtain ⟨rfl, hkc⟩ := hkc
        have harm := hc.1
        rw [harm] at c5
        have i1 : (1 : Int) < (zs.length : Int) := by have := hc.2; omega
        have HKZ2 := hid hkz
        obtain ⟨d, hd⟩ : ∃ d : Nat, (D.f1.b.length : Int) - (D.f1.s : Int) = (d : Int) := ⟨D.f1.b.length - D.f1.s, by omega⟩
        have wd : IntKind.i64.wrap ((D.f1.b.length : Int) - (D.f1.s : Int)) = (d : Int) := by rw [hd]; exact IntWalk.i64_in _ (by omega)
        have HDD := hid hd
        clear hz hkz harm hc hd
        by_cases c1 : (d : Int) < z
        · by_cases c2 : 0 < d
          · have c3 : (0 : Int) < (d : Int) := by omega
            obtain ⟨q, hq⟩ : ∃ q : Nat, q = d + D.f1.s := ⟨_, rfl⟩
            have hql : q ≤ D.f1.b.length := by have := HDD.out; omega
            have hsum : (d : Int) + (D.f1.s : Int) = (q : Int) := by omega
            have iq : (q : Int) ≤ 1000000 := by omega
            have hcr : D.f1.crash D.k1 = ⟨D.f1.b.take (q), q⟩ := by unfold Fl.crash; rw [HKZ2.out, HDD.out, held_cases _ _ (by omega), if_pos c1, show ((D.f1.s : Int) + (d : Int)).toNat = q by omega]
            clear c2 hq
            have hl1 : (D.f1.b.take (q)).length ≤ 70368744177664 := by rw [List.length_take]; omega
            have hql2 := hql
            have htl : (D.f1.b.take (q)).length = q := by rw [List.length_take]; omega
            have hcap := HS.out.cap'
            have hsl := fun wx => run_slice_head a1 D.f1.b.length p1 (q) (by omega) wx
            have hst : Sl wr.drew.drew (.slice a1 (q) p1) (Lib.byteCells (D.f1.b.take (q))) := by
              have := HS.out.cutTo (q) (by rw [Lib.byteCells_length]; exact hql2)
              rw [← byteCells_take'] at this
              exact this.old' (bel_drew2 wr)
            have HST := hid hst
            have HTL := hid htl
            have HCR := hid hcr
            have HRD := hid (HR.out.below (bel_drew2 wr))
            clear hcr hql2 hst htl
            go_wp2
            go_region
            clear c5 c7
            go_wp2
            go_region_law (refine step_append_u8n (by rfl) (.tmp 72) (by rfl) _ (D.f1.b.take (q)) (by rfl) HST.out hl1 ?_; intro o6 c6 w6 own6 bel6; have hR6 := HRD.out.below bel6; have q1 := hR6.c3; have q2 := hR6.free 3; have q3 := hR6.c4; have q4 := hR6.free 4; obtain ⟨y0, y1, zv⟩ := owns_form hR6.own1; rw [zv] at q1; obtain ⟨hg6, _⟩ := HRD.out.give1 bel6 own6; rw [HTL.out] at hg6; have HG6 := hid (hg6.put (D' := ⟨D.room, if 2 = 0 then ⟨[], 0⟩ else D.f0.crash D.k0, if 2 = 2 then D.f1.crash D.k1 else ⟨[], 0⟩, false, 0, 0, 0⟩) 4 (.int .i64 ((q : Nat) : Int)) (by rw [if_neg (by omega), if_pos rfl, HCR.out]; rfl) (by rw [if_neg (by omega)] <;> rfl) (by rw [if_pos rfl, HCR.out] <;> rfl) ⟨rfl, rfl, rfl⟩); have hbel6 := below_step (below_step HBEL.out (bel_drew2 wr) HBEL.out.size) bel6 (show w.heap.size ≤ _ from HBEL.out.size); have HB6 := hid hbel6; clear hR6 zv hg6 hbel6)
            have hb9 := (HB6.out.setCell (p := ⟨w.heap.size, 3, none⟩) (Nat.le_refl _) (.slice o6 (q) c6)).setCell (p := ⟨w.heap.size, 4, none⟩) (Nat.le_refl _) (.int .i64 ((q : Nat) : Int))
            have HB9 := hid hb9
            clear own6 bel6 q1 q2 q3 q4 hsl hb9
            go_wp2
            go_roundw
            case rel => exact ⟨2, by omega, rfl, HB9.out, _, _, _, HG6.out⟩
            case measure => simp [intOf]
          · obtain rfl : d = 0 := by omega
            have c3 : (0 : Int) < z := by omega
            have hql : D.f1.s ≤ D.f1.b.length := hs1
            rw [show ((0 : Nat) : Int) = 0 from rfl] at wd c1
            have hcr : D.f1.crash D.k1 = ⟨D.f1.b.take (D.f1.s), D.f1.s⟩ := by unfold Fl.crash; rw [HKZ2.out, HDD.out, held_cases _ _ (by omega), if_pos (by omega), show ((D.f1.s : Int) + ((0 : Nat) : Int)).toNat = D.f1.s by omega]
            clear c2
            have hl1 : (D.f1.b.take (D.f1.s)).length ≤ 70368744177664 := by rw [List.length_take]; omega
            have hql2 := hql
            have htl : (D.f1.b.take (D.f1.s)).length = D.f1.s := by rw [List.length_take]; omega
            have hcap := HS.out.cap'
            have hsl := fun wx => run_slice_head a1 D.f1.b.length p1 (D.f1.s) (by omega) wx
            have hst : Sl wr.drew.drew (.slice a1 (D.f1.s) p1) (Lib.byteCells (D.f1.b.take (D.f1.s))) := by
              have := HS.out.cutTo (D.f1.s) (by rw [Lib.byteCells_length]; exact hql2)
              rw [← byteCells_take'] at this
              exact this.old' (bel_drew2 wr)
            have HST := hid hst
            have HTL := hid htl
            have HCR := hid hcr
            have HRD := hid (HR.out.below (bel_drew2 wr))
            clear hcr hql2 hst htl
            go_wp2
            go_region
            clear c5 c7
            go_wp2
            go_region_law (refine step_append_u8n (by rfl) (.tmp 72) (by rfl) _ (D.f1.b.take (D.f1.s)) (by rfl) HST.out hl1 ?_; intro o6 c6 w6 own6 bel6; have hR6 := HRD.out.below bel6; have q1 := hR6.c3; have q2 := hR6.free 3; have q3 := hR6.c4; have q4 := hR6.free 4; obtain ⟨y0, y1, zv⟩ := owns_form hR6.own1; rw [zv] at q1; obtain ⟨hg6, _⟩ := HRD.out.give1 bel6 own6; rw [HTL.out] at hg6; have HG6 := hid (hg6.put (D' := ⟨D.room, if 2 = 0 then ⟨[], 0⟩ else D.f0.crash D.k0, if 2 = 2 then D.f1.crash D.k1 else ⟨[], 0⟩, false, 0, 0, 0⟩) 4 (.int .i64 ((D.f1.s : Nat) : Int)) (by rw [if_neg (by omega), if_pos rfl, HCR.out]; rfl) (by rw [if_neg (by omega)] <;> rfl) (by rw [if_pos rfl, HCR.out] <;> rfl) ⟨rfl, rfl, rfl⟩); have hbel6 := below_step (below_step HBEL.out (bel_drew2 wr) HBEL.out.size) bel6 (show w.heap.size ≤ _ from HBEL.out.size); have HB6 := hid hbel6; clear hR6 zv hg6 hbel6)
            have hb9 := (HB6.out.setCell (p := ⟨w.heap.size, 3, none⟩) (Nat.le_refl _) (.slice o6 (D.f1.s) c6)).setCell (p := ⟨w.heap.size, 4, none⟩) (Nat.le_refl _) (.int .i64 ((D.f1.s : Nat) : Int))
            have HB9 := hid hb9
            clear own6 bel6 q1 q2 q3 q4 hsl hb9
            go_wp2
            go_roundw
            case rel => exact ⟨2, by omega, rfl, HB9.out, _, _, _, HG6.out⟩
            case measure => simp [intOf]
        · have c2 : z ≤ (d : Int) := by omega
          by_cases c3 : 0 < z
          · obtain ⟨m, rfl⟩ : ∃ m : Nat, z = (m : Int) := ⟨z.toNat, by omega⟩
            obtain ⟨q, hq⟩ : ∃ q : Nat, q = m + D.f1.s := ⟨_, rfl⟩
            have hql : q ≤ D.f1.b.length := by have := HDD.out; omega
            have hsum : (m : Int) + (D.f1.s : Int) = (q : Int) := by omega
            have iq : (q : Int) ≤ 1000000 := by omega
            have hcr : D.f1.crash D.k1 = ⟨D.f1.b.take (q), q⟩ := by unfold Fl.crash; rw [HKZ2.out, HDD.out, held_cases _ _ (by omega), if_neg c1, if_pos c3, show ((D.f1.s : Int) + (m : Int)).toNat = q by omega]
            clear c1 hq
            have hl1 : (D.f1.b.take (q)).length ≤ 70368744177664 := by rw [List.length_take]; omega
            have hql2 := hql
            have htl : (D.f1.b.take (q)).length = q := by rw [List.length_take]; omega
            have hcap := HS.out.cap'
            have hsl := fun wx => run_slice_head a1 D.f1.b.length p1 (q) (by omega) wx
            have hst : Sl wr.drew.drew (.slice a1 (q) p1) (Lib.byteCells (D.f1.b.take (q))) := by
              have := HS.out.cutTo (q) (by rw [Lib.byteCells_length]; exact hql2)
              rw [← byteCells_take'] at this
              exact this.old' (bel_drew2 wr)
            have HST := hid hst
            have HTL := hid htl
            have HCR := hid hcr
            have HRD := hid (HR.out.below (bel_drew2 wr))
            clear hcr hql2 hst htl
            go_wp2
            go_region
            clear c5 c7
            go_wp2
            go_region_law (refine step_append_u8n (by rfl) (.tmp 72) (by rfl) _ (D.f1.b.take (q)) (by rfl) HST.out hl1 ?_; intro o6 c6 w6 own6 bel6; have hR6 := HRD.out.below bel6; have q1 := hR6.c3; have q2 := hR6.free 3; have q3 := hR6.c4; have q4 := hR6.free 4; obtain ⟨y0, y1, zv⟩ := owns_form hR6.own1; rw [zv] at q1; obtain ⟨hg6, _⟩ := HRD.out.give1 bel6 own6; rw [HTL.out] at hg6; have HG6 := hid (hg6.put (D' := ⟨D.room, if 2 = 0 then ⟨[], 0⟩ else D.f0.crash D.k0, if 2 = 2 then D.f1.crash D.k1 else ⟨[], 0⟩, false, 0, 0, 0⟩) 4 (.int .i64 ((q : Nat) : Int)) (by rw [if_neg (by omega), if_pos rfl, HCR.out]; rfl) (by rw [if_neg (by omega)] <;> rfl) (by rw [if_pos rfl, HCR.out] <;> rfl) ⟨rfl, rfl, rfl⟩); have hbel6 := below_step (below_step HBEL.out (bel_drew2 wr) HBEL.out.size) bel6 (show w.heap.size ≤ _ from HBEL.out.size); have HB6 := hid hbel6; clear hR6 zv hg6 hbel6)
            have hb9 := (HB6.out.setCell (p := ⟨w.heap.size, 3, none⟩) (Nat.le_refl _) (.slice o6 (q) c6)).setCell (p := ⟨w.heap.size, 4, none⟩) (Nat.le_refl _) (.int .i64 ((q : Nat) : Int))
            have HB9 := hid hb9
            clear own6 bel6 q1 q2 q3 q4 hsl hb9
            go_wp2
            go_roundw
            case rel => exact ⟨2, by omega, rfl, HB9.out, _, _, _, HG6.out⟩
            case measure => simp [intOf]
          · have c4 : z ≤ 0 := by omega
            have hql : D.f1.s ≤ D.f1.b.length := hs1
            have hcr : D.f1.crash D.k1 = ⟨D.f1.b.take (D.f1.s), D.f1.s⟩ := by unfold Fl.crash; rw [HKZ2.out, HDD.out, held_cases _ _ (by omega), if_neg c1, if_neg c3, show ((D.f1.s : Int) + 0).toNat = D.f1.s by omega]
            clear c1 c3
            have hl1 : (D.f1.b.take (D.f1.s)).length ≤ 70368744177664 := by rw [List.length_take]; omega
            have hql2 := hql
            have htl : (D.f1.b.take (D.f1.s)).length = D.f1.s := by rw [List.length_take]; omega
            have hcap := HS.out.cap'
            have hsl := fun wx => run_slice_head a1 D.f1.b.length p1 (D.f1.s) (by omega) wx
            have hst : Sl wr.drew.drew (.slice a1 (D.f1.s) p1) (Lib.byteCells (D.f1.b.take (D.f1.s))) := by
              have := HS.out.cutTo (D.f1.s) (by rw [Lib.byteCells_length]; exact hql2)
              rw [← byteCells_take'] at this
              exact this.old' (bel_drew2 wr)
            have HST := hid hst
            have HTL := hid htl
            have HCR := hid hcr
            have HRD := hid (HR.out.below (bel_drew2 wr))
            clear hcr hql2 hst htl
            go_wp2
            go_region
            clear c5 c7
            go_wp2
            go_region_law (refine step_append_u8n (by rfl) (.tmp 72) (by rfl) _ (D.f1.b.take (D.f1.s)) (by rfl) HST.out hl1 ?_; intro o6 c6 w6 own6 bel6; have hR6 := HRD.out.below bel6; have q1 := hR6.c3; have q2 := hR6.free 3; have q3 := hR6.c4; have q4 := hR6.free 4; obtain ⟨y0, y1, zv⟩ := owns_form hR6.own1; rw [zv] at q1; obtain ⟨hg6, _⟩ := HRD.out.give1 bel6 own6; rw [HTL.out] at hg6; have HG6 := hid (hg6.put (D' := ⟨D.room, if 2 = 0 then ⟨[], 0⟩ else D.f0.crash D.k0, if 2 = 2 then D.f1.crash D.k1 else ⟨[], 0⟩, false, 0, 0, 0⟩) 4 (.int .i64 ((D.f1.s : Nat) : Int)) (by rw [if_neg (by omega), if_pos rfl, HCR.out]; rfl) (by rw [if_neg (by omega)] <;> rfl) (by rw [if_pos rfl, HCR.out] <;> rfl) ⟨rfl, rfl, rfl⟩); have hbel6 := below_step (below_step HBEL.out (bel_drew2 wr) HBEL.out.size) bel6 (show w.heap.size ≤ _ from HBEL.out.size); have HB6 := hid hbel6; clear hR6 zv hg6 hbel6)
            have hb9 := (HB6.out.setCell (p := ⟨w.heap.size, 3, none⟩) (Nat.le_refl _) (.slice o6 (D.f1.s) c6)).setCell (p := ⟨w.heap.size, 4, none⟩) (Nat.le_refl _) (.int .i64 ((D.f1.s : Nat) : Int))
            have HB9 := hid hb9
            clear own6 bel6 q1 q2 q3 q4 hsl hb9
            go_wp2
            go_roundw
            case rel => exact ⟨2, by omega, rfl, HB9.out, _, _, _, HG6.out⟩
            case measure => simp [intOf]
      · have hk0 : D.k1 = 0 := by
          cases ha : D.armed with
          | false => exact (HCALM.out ha).2
          | true =>
            rw [(HKK.out ha).2, List.getD_eq_getElem?_getD, List.getElem?_eq_none (by have hh : ¬ 1 < zs.length := fun h => hc ⟨ha, h⟩; omega)]
            rfl
        have hql : D.f1.s ≤ D.f1.b.length := hs1
        have hcr : D.f1.crash D.k1 = ⟨D.f1.b.take (D.f1.s), D.f1.s⟩ := by unfold Fl.crash; rw [hk0, held_cases _ _ (by omega), show (if (D.f1.b.length : Int) - (D.f1.s : Int) < 0 then (D.f1.b.length : Int) - (D.f1.s : Int) else if (0 : Int) < 0 then 0 else 0) = 0 by rw [if_neg (by omega)]; rfl, show ((D.f1.s : Int) + 0).toNat = D.f1.s by omega]
        clear hk0
        cases ha : D.armed
        · rw [ha] at c5
          clear ha hc
          have hl1 : (D.f1.b.take (D.f1.s)).length ≤ 70368744177664 := by rw [List.length_take]; omega
          have hql2 := hql
          have htl : (D.f1.b.take (D.f1.s)).length = D.f1.s := by rw [List.length_take]; omega
          have hcap := HS.out.cap'
          have hsl := fun wx => run_slice_head a1 D.f1.b.length p1 (D.f1.s) (by omega) wx
          have hst : Sl wr.drew (.slice a1 (D.f1.s) p1) (Lib.byteCells (D.f1.b.take (D.f1.s))) := by
            have := HS.out.cutTo (D.f1.s) (by rw [Lib.byteCells_length]; exact hql2)
            rw [← byteCells_take'] at this
            exact this.old' (bel_drew wr)
          have HST := hid hst
          have HTL := hid htl
          have HCR := hid hcr
          have HRD := hid (HR.out.below (bel_drew wr))
          clear hcr hql2 hst htl
          go_wp2
          go_region_law (refine step_append_u8n (by rfl) (.tmp 72) (by rfl) _ (D.f1.b.take (D.f1.s)) (by rfl) HST.out hl1 ?_; intro o6 c6 w6 own6 bel6; have hR6 := HRD.out.below bel6; have q1 := hR6.c3; have q2 := hR6.free 3; have q3 := hR6.c4; have q4 := hR6.free 4; obtain ⟨y0, y1, zv⟩ := owns_form hR6.own1; rw [zv] at q1; obtain ⟨hg6, _⟩ := HRD.out.give1 bel6 own6; rw [HTL.out] at hg6; have HG6 := hid (hg6.put (D' := ⟨D.room, if 2 = 0 then ⟨[], 0⟩ else D.f0.crash D.k0, if 2 = 2 then D.f1.crash D.k1 else ⟨[], 0⟩, false, 0, 0, 0⟩) 4 (.int .i64 ((D.f1.s : Nat) : Int)) (by rw [if_neg (by omega), if_pos rfl, HCR.out]; rfl) (by rw [if_neg (by omega)] <;> rfl) (by rw [if_pos rfl, HCR.out] <;> rfl) ⟨rfl, rfl, rfl⟩); have hbel6 := below_step (below_step HBEL.out (bel_drew wr) HBEL.out.size) bel6 (show w.heap.size ≤ _ from HBEL.out.size); have HB6 := hid hbel6; clear hR6 zv hg6 hbel6)
          have hb9 := (HB6.out.setCell (p := ⟨w.heap.size, 3, none⟩) (Nat.le_refl _) (.slice o6 (D.f1.s) c6)).setCell (p := ⟨w.heap.size, 4, none⟩) (Nat.le_refl _) (.int .i64 ((D.f1.s : Nat) : Int))
          have HB9 := hid hb9
          clear own6 bel6 q1 q2 q3 q4 hsl hb9
          go_wp2
          go_roundw
          case rel => exact ⟨2, by omega, rfl, HB9.out, _, _, _, HG6.out⟩
          case measure => simp [intOf]
        · rw [ha] at c5
          have i1 : (zs.length : Int) ≤ 1 := by have hh : ¬ 1 < zs.length := fun h => hc ⟨ha, h⟩; omega
          clear ha hc
          have hl1 : (D.f1.b.take (D.f1.s)).length ≤ 70368744177664 := by rw [List.length_take]; omega
          have hql2 := hql
          have htl : (D.f1.b.take (D.f1.s)).length = D.f1.s := by rw [List.length_take]; omega
          have hcap := HS.out.cap'
          have hsl := fun wx => run_slice_head a1 D.f1.b.length p1 (D.f1.s) (by omega) wx
          have hst : Sl wr.drew (.slice a1 (D.f1.s) p1) (Lib.byteCells (D.f1.b.take (D.f1.s))) := by
            have := HS.out.cutTo (D.f1.s) (by rw [Lib.byteCells_length]; exact hql2)
            rw [← byteCells_take'] at this
            exact this.old' (bel_drew wr)
          have HST := hid hst
          have HTL := hid htl
          have HCR := hid hcr
          have HRD := hid (HR.out.below (bel_drew wr))
          clear hcr hql2 hst htl
          go_wp2
          go_region_law (refine step_append_u8n (by rfl) (.tmp 72) (by rfl) _ (D.f1.b.take (D.f1.s)) (by rfl) HST.out hl1 ?_; intro o6 c6 w6 own6 bel6; have hR6 := HRD.out.below bel6; have q1 := hR6.c3; have q2 := hR6.free 3; have q3 := hR6.c4; have q4 := hR6.free 4; obtain ⟨y0, y1, zv⟩ := owns_form hR6.own1; rw [zv] at q1; obtain ⟨hg6, _⟩ := HRD.out.give1 bel6 own6; rw [HTL.out] at hg6; have HG6 := hid (hg6.put (D' := ⟨D.room, if 2 = 0 then ⟨[], 0⟩ else D.f0.crash D.k0, if 2 = 2 then D.f1.crash D.k1 else ⟨[], 0⟩, false, 0, 0, 0⟩) 4 (.int .i64 ((D.f1.s : Nat) : Int)) (by rw [if_neg (by omega), if_pos rfl, HCR.out]; rfl) (by rw [if_neg (by omega)] <;> rfl) (by rw [if_pos rfl, HCR.out] <;> rfl) ⟨rfl, rfl, rfl⟩); have hbel6 := below_step (below_step HBEL.out (bel_drew wr) HBEL.out.size) bel6 (show w.heap.size ≤ _ from HBEL.out.size); have HB6 := hid hbel6; clear hR6 zv hg6 hbel6)
          have hb9 := (HB6.out.setCell (p := ⟨w.heap.size, 3, none⟩) (Nat.le_refl _) (.slice o6 (D.f1.s) c6)).setCell (p := ⟨w.heap.size, 4, none⟩) (Nat.le_refl _) (.int .i64 ((D.f1.s : Nat) : Int))
          have HB9 := hid hb9
          clear own6 bel6 q1 q2 q3 q4 hsl hb9
          go_wp2
          go_roundw
          case rel => exact ⟨2, by omega, rfl, HB9.out, _, _, _, HG6.out⟩
          case measure => simp [intOf]
    · rw [if_neg (by omega), if_pos rfl] at hR
      rw [show ((2 : Nat) : Int) = 2 from rfl]
      go_wp2
      go_ret
      exact ⟨rfl, _, _, _, hR, hbel⟩
end Go.Proofs.Ytblhabiginckbaa
