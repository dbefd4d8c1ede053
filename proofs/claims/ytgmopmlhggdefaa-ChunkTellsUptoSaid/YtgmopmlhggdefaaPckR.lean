/-
  Package chunk: kept.
-/
import Derived.Test.YtgmopmlhggdefaaPckK
namespace Go.Proofs.Ytgmopmlhggdefaa
open Go.RowKit

theorem grown_of_below {w w' : World} (h : Below w.heap.size w w') (row : Option Nat) : w.grownBy w' row := ⟨h.os, h.tape, h.output, h.size, fun k hk _ => h.block k hk⟩
theorem OwnM.old {w w' : World} {b n : Nat} {D : MD} (h : OwnM w b n D) (hk : Below w.heap.size w w') : OwnM w' b n D := World.ownsMap.kept h (grown_of_below hk none) (by simp)
theorem ownM_made (w : World) (g : Nat) (hg : w.heap.size = g) : OwnM (w.alloc (.map #[] 0)) g 0 (.map []) := hg ▸ World.ownsMap_made w _ _ _
section
set_option maxRecDepth 100000
set_option maxHeartbeats 4000000
theorem DKept_any (va vb vc : Value) (a b c : List (List UInt8)) (w : World) (ha : Sl w va (strCells a)) (hb : Sl w vb (strCells b)) (hc : Sl w vc (strCells c)) (la : a.length ≤ 400) (lb : b.length ≤ 400) (lc : c.length ≤ 400) :
    Calls Try.prog 34 #[.agg #[va, vb, vc]] w fun e w' => ∃ g n D, e = .returned (.map (some g)) ∧ w.heap.size ≤ g ∧ g < w'.heap.size ∧ OwnM w' g n D ∧ (∀ k p, (placesS a b)[k]? = some p → Shows D (klit k 0) p) ∧ (∀ k p, (placesS a c)[k]? = some p → Shows D (klit k 1) p) ∧ Below w.heap.size w w' := by
  have hmm := @run_makeMap Try.prog
  obtain ⟨aa, ca, rfl⟩ := ha.form
  obtain ⟨ab, cb, rfl⟩ := hb.form
  obtain ⟨ac, cc, rfl⟩ := hc.form
  rw [strCells_length] at ha hb hc ⊢
  rw [strCells_length, strCells_length]
  have l1 : (scriptS a b).length ≤ 1000000 := by
    rw [scriptS_short la lb]
    have := (goS_sides a b).2.2.1
    omega
  have l2 : (scriptS a c).length ≤ 1000000 := by
    rw [scriptS_short la lc]
    have := (goS_sides a c).2.2.1
    omega
  have HN := hid (noted_both l1 l2)
  have HK1 := hid (show Kinds (scriptS a b) by rw [scriptS_short la lb]; exact goS_kinds a b)
  have HK2 := hid (show Kinds (scriptS a c) by rw [scriptS_short la lc]; exact goS_kinds a c)
  have HL := hid (And.intro l1 l2)
  have HLL := hid (And.intro la (And.intro lb lc))
  have HA := hid ha
  have HB := hid hb
  have HC := hid hc
  clear l1 l2 ha hb hc la lb lc
  unfold placesS
  obtain ⟨s1, hs1⟩ : ∃ s, scriptS a b = s := ⟨_, rfl⟩
  obtain ⟨s2, hs2⟩ : ∃ s, scriptS a c = s := ⟨_, rfl⟩
  rw [hs1] at HN HK1 HL
  rw [hs2] at HN HK2 HL
  rw [hs1, hs2]
  have HS1 := hid hs1
  have HS2 := hid hs2
  clear hs1 hs2
  have B1 : Below w.heap.size w ((w.alloc (.cells #[.slice aa a.length ca, .slice ab b.length cb, .slice ac c.length cc] 42)).alloc (.map #[] 0)) := ((Below.refl _ w).alloc (Nat.le_refl _) _).alloc (by simp) _
  have hblk : ((w.alloc (.cells #[.slice aa a.length ca, .slice ab b.length cb, .slice ac c.length cc] 42)).alloc (.map #[] 0)).heap[w.heap.size]? = some (.cells #[.slice aa a.length ca, .slice ab b.length cb, .slice ac c.length cc] 42 (0, 0)) := (Below.heap_alloc _ _ _ (by simp)).trans (heap_alloc_new w _)
  have HM0 := hid (ownM_made (w.alloc (.cells #[.slice aa a.length ca, .slice ab b.length cb, .slice ac c.length cc] 42)) (w.heap.size + 1) (by simp))
  have HSC1 := hid (DScript_any _ _ a b _ (Sl.old HA.out B1) (Sl.old HB.out B1) (by have := HLL.out; omega) (by have := HLL.out; omega))
  rw [HS1.out] at HSC1
  have c0 := blk_cell (i := 0) hblk rfl
  have c1 := blk_cell (i := 1) hblk rfl
  have c2 := blk_cell (i := 2) hblk rfl
  have HBL := hid hblk
  have HB1 := hid B1
  clear hblk B1
  go_enter Try.func34, Try.ntmps34
  go_wp2_with (go_at_call 40; refine HSC1.out.mono ?_; rintro e w3 ⟨l, rfl, hE, hb3⟩)
  have z3 := hb3.size
  simp only [World.size_alloc] at z3
  have HM3 := hid (OwnM.old HM0.out hb3)
  have HB3 := hid (below_step HB1.out hb3 HB1.out.size)
  obtain ⟨lo, lcap, rfl⟩ := hE.form
  have HN1 := hid (DNote_any _ _ 0 (.int .u8 0) _ s1 _ w3 rfl (by omega) hE.slE HM3.out HK1.out HL.out.1 (Nat.zero_le _))
  have HBL3 := hid ((hb3.block w.heap.size (by simp; omega)).trans HBL.out)
  clear hE hb3 HSC1 HM0 HBL HB1 c0 c1 c2
  go_wp2_with (first
    | (go_at_call 39; with_reducible refine HN1.out.mono ?_; rintro e w4 ⟨rfl, hm4, hg4⟩
       have hb4 : Below w.heap.size w w4 := HB3.out.grown hg4 HB3.out.size (fun j hj => by cases hj; omega)
       have HM4 := hid hm4
       have HB4 := hid hb4
       have hbl4 := (hg4.block w.heap.size (by omega) (by simp)).trans HBL3.out
       have HBL4 := hid hbl4
       have d0 := blk_cell (i := 0) hbl4 rfl
       have d2 := blk_cell (i := 2) hbl4 rfl
       have z4 := hg4.size
       have HSC2 := hid (DScript_any _ _ a c _ (Sl.old HA.out hb4) (Sl.old HC.out hb4) (by have := HLL.out; omega) (by have := HLL.out; omega))
       rw [HS2.out] at HSC2
       clear hm4 hg4 hb4 hbl4 HN1)
    | (go_at_call 40; with_reducible refine HSC2.out.mono ?_; rintro e w5 ⟨l2, rfl, hE5, hb5⟩
       have HM5 := hid (OwnM.old HM4.out hb5)
       have HB5 := hid (below_step HB4.out hb5 HB4.out.size)
       have z5 := hb5.size
       obtain ⟨lo5, lcap5, rfl⟩ := hE5.form
       have HN2 := hid (DNote_any _ _ 1 (.int .u8 1) _ s2 _ w5 rfl (by omega) hE5.slE HM5.out HK2.out HL.out.2 (by have := HL.out.1; omega))
       clear hE5 hb5 HSC2 d0 d2)
    | (go_at_call 39; with_reducible refine HN2.out.mono ?_; rintro e w6 ⟨rfl, hm6, hg6⟩
       have HM6 := hid hm6
       have HB6 := hid (HB5.out.grown hg6 HB5.out.size (fun j hj => by cases hj; omega))
       have z6 := hg6.size
       clear hm6 hg6 HN2))
  go_ret
  exact ⟨_, _, _, rfl, by omega, by omega, HM6.out, HN.out.1, HN.out.2, HB6.out⟩
end
end Go.Proofs.Ytgmopmlhggdefaa
