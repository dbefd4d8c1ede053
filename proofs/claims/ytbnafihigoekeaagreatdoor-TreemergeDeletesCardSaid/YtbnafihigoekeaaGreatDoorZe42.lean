/-
  TmDe, part 42.
-/
import Derived.Test.YtbnafihigoekeaaGreatDoorZe41
import Derived.Test.YtbnafihigoekeaaGreatDoorZe26
import Derived.Deep.RegionLaw
import Derived.Test.YtbnafihigoekeaaGreatDoorZe20
namespace Go.Proofs.YtbnafihigoekeaaGreatDoor
open Go.RowKit
section
set_option maxRecDepth 100000
set_option maxHeartbeats 4000000
theorem PBarF_any (f : FileS) (p : Txt) (g : Nat) (w : World) (hg : w.cell? ⟨g, 0, none⟩ = some (strV p)) (hf : f.1.length ≤ 1000000) (hp : p.length ≤ 1000000) :
    Calls Tryz.prog 91 #[fileV f, .pointer (some ⟨g, 0, none⟩)] w fun e w' => e = .returned (.bool (clashS f.1 p)) ∧ Below w.heap.size w w' := by
  obtain ⟨q, x, t⟩ := f
  have HC := hid (fun wy => DClash_any q p wy hf hp)
  have HB := hid ((Below.refl _ w).alloc (Nat.le_refl w.heap.size) (.cells #[.string ⟨q.toArray⟩, .bool x, .string ⟨t.toArray⟩] 28))
  have hg2 := below_cell HB.out hg
  clear hf hp
  unfold strV at HC hg hg2
  unfold fileV strV
  go_enter Tryz.func91, Tryz.ntmps91
  go_wp2_with (go_at_call 92; refine (HC.out _).mono ?_; rintro e w1 ⟨rfl, hb1⟩; have HB1 := hid (below_step HB.out hb1 HB.out.size); clear hb1)
  go_ret
  exact ⟨rfl, HB1.out⟩
theorem PIndexB_any (v : Value) (l : List FileS) (p : Txt) (g : Nat) (w : World) (hv : SlF w v l) (hl : l.length ≤ 100000) (hg : w.cell? ⟨g, 0, none⟩ = some (strV p)) (hf : ∀ f ∈ l, f.1.length ≤ 1000000) (hp : p.length ≤ 1000000) :
    Calls Tryz.prog 120 #[v, .func (Fn.func 91) #[] #[.pointer (some ⟨g, 0, none⟩)]] w fun e w' => ∃ z : Int, e = .returned (.int .i64 z) ∧ decide (0 ≤ z) = anyClash l p ∧ Below w.heap.size w w' := by
  obtain ⟨ao, cap, rfl⟩ := hv.form
  have HV := hid hv
  have HL := hid hl
  have HG := hid hg
  have HF := hid hf
  have HP := hid hp
  clear hv hl hg hf hp
  go_enter Tryz.func120, Tryz.ntmps120
  go_wp2_with fail
  go_loopg [5, 8] l.length (fun gk _ i wr => ∃ k : Nat, k ≤ l.length ∧ l.length - k = gk ∧ i = .int .i64 k ∧ Hid (anyClash l p = anyClash (l.drop k) p) ∧ Hid (Below w.heap.size w wr))
  case atStart => exact ⟨0, Nat.zero_le _, rfl, rfl, hid rfl, hid (Below.refl _ _)⟩
  case round =>
    obtain ⟨k, hk, rfl, rfl, HA, HB⟩ := hrel
    have k0 : (0 : Int) ≤ (k : Int) := Int.natCast_nonneg _
    by_cases hlt : k < l.length
    · have k1 : (k : Int) < (l.length : Int) := by omega
      have kw : IntKind.i64.wrap ((k : Int) + 1) = (k : Int) + 1 := IntWalk.i64_in _ (by have := HL.out; omega)
      obtain ⟨b, o, p2, x2, t2, rfl, he, c1, c2, c3⟩ := SlF.at (HV.out.old HB.out) hlt
      have hd := drop_one he
      have HX := hid (show anyClash l p = (clashS p2 p || anyClash (l.drop (k + 1)) p) by rw [HA.out, hd]; rfl)
      have HC := hid (PBarF_any (p2, x2, t2) p g wr (below_cell HB.out HG.out) (HF.out _ (List.mem_iff_getElem?.2 ⟨k, he⟩)) HP.out)
      unfold fileV strV at HC
      dsimp only at HC
      obtain ⟨y, hy⟩ : ∃ y, clashS p2 p = y := ⟨_, rfl⟩
      rw [hy] at HX HC
      clear he hd hy HA
      cases y with
      | true =>
        have HQ := hid (show anyClash l p = true by rw [HX.out]; rfl)
        clear HX
        go_wp2_with fail
        refine HC.out.mono ?_
        rintro e w1 ⟨rfl, hb1⟩
        have HB1 := hid (below_step HB.out hb1 HB.out.size)
        clear hb1
        go_wp2_with fail
        go_ret
        exact ⟨(k : Int), rfl, by rw [HQ.out]; exact decide_eq_true k0, HB1.out⟩
      | false =>
        have HQ := hid (show anyClash l p = anyClash (l.drop (k + 1)) p by rw [HX.out]; rfl)
        clear HX
        go_wp2_with fail
        refine HC.out.mono ?_
        rintro e w1 ⟨rfl, hb1⟩
        have HB1 := hid (below_step HB.out hb1 HB.out.size)
        clear hb1
        go_wp2_with fail
        go_roundg (l.length - (k + 1))
        case measure => omega
        case rel => exact ⟨k + 1, by omega, rfl, by go_num, HQ, HB1⟩
    · obtain rfl : k = l.length := by omega
      have hneg : ¬ (l.length : Int) < (l.length : Int) := by omega
      have HQ := hid (show anyClash l p = false by rw [HA.out, List.drop_length]; rfl)
      go_wp2_with fail
      go_ret
      exact ⟨-1, rfl, by rw [HQ.out]; rfl, HB.out⟩
theorem PContB_any (v : Value) (l : List FileS) (p : Txt) (g : Nat) (w : World) (hv : SlF w v l) (hl : l.length ≤ 100000) (hg : w.cell? ⟨g, 0, none⟩ = some (strV p)) (hf : ∀ f ∈ l, f.1.length ≤ 1000000) (hp : p.length ≤ 1000000) :
    Calls Tryz.prog 90 #[v, .func (Fn.func 91) #[] #[.pointer (some ⟨g, 0, none⟩)]] w fun e w' => e = .returned (.bool (anyClash l p)) ∧ Below w.heap.size w w' := by
  have HC := hid (PIndexB_any v l p g w hv hl hg hf hp)
  clear hv hl hg hf hp
  obtain ⟨r, hr⟩ : ∃ r, anyClash l p = r := ⟨_, rfl⟩
  rw [hr] at HC ⊢
  clear hr
  go_enter Tryz.func90, Tryz.ntmps90
  go_wp2_with (go_at_call 120; refine HC.out.mono ?_; rintro e w1 ⟨z, rfl, hz, hb1⟩; have HB1 := hid hb1; have HZ := hid hz; clear hb1 hz)
  go_ret
  exact ⟨by rw [← HZ.out]; rfl, HB1.out⟩
end
theorem Tryz.neM1 : 28 ≠ 57 := by decide
theorem Tryz.neM2 : 36 ≠ 57 := by decide
theorem Tryz.sizeMerging : (Tryz.prog.info? 57).map (·.size) = some 5 := by kernel_rfl
structure WhM (gk gm : Nat) (v0 v1 : Value) (s : WhS) (w : World) : Prop where
  ex : ∃ vm vc, w.heap[gk]? = some (.cells #[.map (some gm), v0, v1, vm, vc] 57 (0, 0)) ∧ OwnF w (gk + 1) vm s.1 ∧ OwnC w (gk + 1) vc s.2
section
variable {gk gm : Nat} {v0 v1 : Value} {s : WhS} {w w' : World}
theorem WhM.lt (h : WhM gk gm v0 v1 s w) : gk < w.heap.size := by
  obtain ⟨_, _, hg, _⟩ := h.ex
  exact lt_of_block hg
theorem WhM.old (h : WhM gk gm v0 v1 s w) (hk : Below w.heap.size w w') : WhM gk gm v0 v1 s w' := by
  obtain ⟨vm, vc, hg, hf, hc⟩ := h.ex
  exact ⟨vm, vc, (hk.block _ (lt_of_block hg)).trans hg, World.ownsRow.kept' hf hk, World.ownsRow.kept' hc hk⟩
theorem OwnC.setM {i : Nat} {base : Nat} {v u : Value} {C : List ClaS} {cs : Array Value} (h : OwnC w base v C) (hg : w.heap[gk]? = some (.cells cs 57 (0, 0))) : OwnC (w.setCell ⟨gk, i, none⟩ u) base v C := by
  have hne := own_ne_of h hg Tryz.neM2
  rcases h.2 with hn | ⟨g, cap, cur, rfl, hb, hg', rest⟩
  · exact ⟨h.1, .inl hn⟩
  · refine ⟨h.1, .inr ⟨g, cap, cur, rfl, hb, ?_, rest⟩⟩
    rw [Below.heap_setCell _ _ _ _ (show g ≠ gk from fun e => hne (by rw [e]; rfl))]
    exact hg'
theorem OwnC.beside {base base' size n : Nat} {v u : Value} {C : List ClaS} {xs : List Value} (h : OwnC w base v C) (hu : w.ownsRow base' 28 size u n xs) (hg : w.grownBy w' u.ownBlock) : OwnC w' base v C := by
  rcases h.2 with hn | ⟨k, cap, cur, rfl, hb, hk, rest⟩
  · exact ⟨h.1, .inl hn⟩
  · exact ⟨h.1, .inr ⟨k, cap, cur, rfl, hb, (hg.block k (lt_of_block hk) (fun e => own_ne_of hu hk Tryz.ne3.symm e.symm)).trans hk, rest⟩⟩
theorem OwnF.besideC {base base' size n : Nat} {v u : Value} {F : List FileS} {xs : List Value} (h : OwnF w base v F) (hu : w.ownsRow base' 36 size u n xs) (hg : w.grownBy w' u.ownBlock) : OwnF w' base v F := by
  rcases h.2 with hn | ⟨k, cap, cur, rfl, hb, hk, rest⟩
  · exact ⟨h.1, .inl hn⟩
  · exact ⟨h.1, .inr ⟨k, cap, cur, rfl, hb, (hg.block k (lt_of_block hk) (fun e => own_ne_of hu hk Tryz.ne3 e.symm)).trans hk, rest⟩⟩
theorem WhM.set4 {F : List FileS} {C : List ClaS} {vm vc u : Value} (hg : w.heap[gk]? = some (.cells #[.map (some gm), v0, v1, vm, vc] 57 (0, 0))) (hf : OwnF w (gk + 1) vm F) (hc : OwnC w (gk + 1) u C) : WhM gk gm v0 v1 (F, C) (w.setCell ⟨gk, 4, none⟩ u) :=
  ⟨_, _, blk_set hg, hf.cellSet hg Tryz.neM1, hc.setM hg⟩
end
section
set_option maxRecDepth 100000
set_option maxHeartbeats 4000000
theorem DBarred_any (gk gm : Nat) (v0 v1 : Value) (s : WhS) (p : Txt) (w : World) (h : WhM gk gm v0 v1 s w) (hl : s.1.length ≤ 100000) (hf : ∀ f ∈ s.1, f.1.length ≤ 1000000) (hp : p.length ≤ 1000000) :
    Calls Tryz.prog 74 #[.pointer (some ⟨gk, 0, none⟩), strV p] w fun e w' => e = .returned (.bool (barS s.1 p)) ∧ Below w.heap.size w w' := by
  obtain ⟨vm, vc, hg, hfm, hc⟩ := h.ex
  obtain ⟨fo, fc, rfl⟩ := owns_form hfm
  have hB := (Below.refl _ w).alloc (Nat.le_refl w.heap.size) (.cells #[strV p] 9)
  have HC := hid (PContB_any _ s.1 p w.heap.size (w.alloc (.cells #[strV p] 9)) ((OwnF.sl hfm).old hB) hl (blk_cell (i := 0) (heap_alloc_new w _) rfl) hf hp)
  have c3 := below_cell hB (blk_cell (i := 3) hg rfl)
  have HB := hid hB
  clear h hl hf hp hg hfm hc hB
  obtain ⟨r, hr⟩ : ∃ r, barS s.1 p = r := ⟨_, rfl⟩
  have hr2 : anyClash s.1 p = r := hr
  rw [hr2] at HC
  rw [hr]
  clear hr hr2
  unfold strV at HB HC c3 ⊢
  go_enter Tryz.func74, Tryz.ntmps74
  go_wp2_with (go_at_call 90; refine HC.out.mono ?_; rintro e w1 ⟨rfl, hb1⟩; have HB1 := hid (below_step HB.out hb1 HB.out.size); clear hb1)
  go_ret
  exact ⟨rfl, HB1.out⟩
theorem DPutM_any (gk gm : Nat) (v0 v1 : Value) (s : WhS) (p t : Txt) (x : Bool) (k : Int) (w : World) (h : WhM gk gm v0 v1 s w) (hl : s.1.length ≤ 100000 ∧ s.2.length ≤ 100000) (hf : ∀ f ∈ s.1, f.1.length ≤ 1000000) (hp : p.length ≤ 1000000) :
    Calls Tryz.prog 51 #[.pointer (some ⟨gk, 0, none⟩), .agg #[strV p, .bool x, strV t], .int .i64 k] w fun e w' => e = .returned (.tuple #[]) ∧ WhM gk gm v0 v1 (putW s (p, x, t) k) w' ∧ Below gk w w' := by
  obtain ⟨F, C⟩ := s
  have hgk := h.lt
  have hB := (Below.refl _ w).alloc (Nat.le_refl w.heap.size) (.cells #[.string ⟨p.toArray⟩, .bool x, .string ⟨t.toArray⟩] 28)
  have hgq := heap_alloc_new w (.cells #[.string ⟨p.toArray⟩, .bool x, .string ⟨t.toArray⟩] 28)
  have HBC := hid (fun wx hh => DBarred_any gk gm v0 v1 (F, C) p wx hh hl.1 hf hp)
  have HW := hid (h.old hB)
  obtain ⟨vm, vc, hg, hfm, hc⟩ := h.ex
  have HRL := hid (fun j (hj : vm.ownBlock = some j) => (World.ownsRow.lt hfm j hj).2)
  have HG0 := hid ((hB.block _ hgk).trans hg)
  have HF0 := hid (World.ownsRow.kept' hfm hB)
  have HC0 := hid (World.ownsRow.kept' hc hB)
  obtain ⟨fo, fc, rfl⟩ := owns_form hfm
  obtain ⟨co, cc, rfl⟩ := owns_form hc
  have HB0 := hid (hB.mono (Nat.le_of_lt hgk))
  have HGQ := hid hgq
  have HL := hid hl
  have HGK := hid (Nat.lt_of_lt_of_le hgk hB.size)
  have q0 := blk_cell (i := 0) hgq rfl
  clear h hl hf hp hgk hB hgq hg hfm hc
  obtain ⟨bar, hbar⟩ : ∃ b, barS F p = b := ⟨_, rfl⟩
  have HBR := hid hbar
  simp only [hbar] at HBC
  clear hbar
  unfold strV at HBC ⊢
  go_enter Tryz.func51, Tryz.ntmps51
  go_wp2_with fail
  generalize w.alloc (.cells #[.string ⟨p.toArray⟩, .bool x, .string ⟨t.toArray⟩] 28) = W at *
  generalize w.heap.size = gq at *
  refine (HBC.out W HW.out).mono ?_
  rintro e U ⟨rfl, hb⟩
  have HBU := hid (HB0.out.trans (hb.mono (Nat.le_of_lt HGK.out)))
  have hgq := (hb.block _ (lt_of_block HGQ.out)).trans HGQ.out
  have HGU := hid hgq
  have hg := (hb.block _ HGK.out).trans HG0.out
  have HG := hid hg
  have HF := hid (World.ownsRow.kept' HF0.out hb)
  have HC := hid (World.ownsRow.kept' HC0.out hb)
  clear hb HBC HW HB0 HGQ HGK q0 HG0 HF0 HC0
  have p0 := blk_cell (i := 0) hgq rfl
  have p1 := blk_cell (i := 1) hgq rfl
  have p2 := blk_cell (i := 2) hgq rfl
  have c3 := blk_cell (i := 3) hg rfl
  have c4 := blk_cell (i := 4) hg rfl
  have HGL := hid (lt_of_block hg)
  clear hg hgq
  try simp only at HL HF HC
  cases bar with
  | true =>
    have HPD := hid (show putW (F, C) (p, x, t) k = (F, C ++ [(p, 5, t)]) by unfold putW; rw [if_pos HBR.out])
    have hVB : Below U.heap.size U (U.alloc (.cells #[.string ⟨p.toArray⟩, .int .i64 5, .string ⟨t.toArray⟩] 36)).drew := ((Below.refl _ U).alloc (Nat.le_refl _) _).drew
    have HVS := hid (show SlCl (U.alloc (.cells #[.string ⟨p.toArray⟩, .int .i64 5, .string ⟨t.toArray⟩] 36)).drew (.slice (some ⟨U.heap.size, 0, none⟩) 1 1) [(p, 5, t)] from SlR.one (heap_alloc_new U _) rfl)
    have HVG := hid (show (U.alloc (.cells #[.string ⟨p.toArray⟩, .int .i64 5, .string ⟨t.toArray⟩] 36)).drew.heap[gk]? = _ from (hVB.block _ HGL.out).trans HG.out)
    have HVC := hid (show OwnC (U.alloc (.cells #[.string ⟨p.toArray⟩, .int .i64 5, .string ⟨t.toArray⟩] 36)).drew _ _ _ from World.ownsRow.kept' HC.out hVB)
    have HVF := hid (show OwnF (U.alloc (.cells #[.string ⟨p.toArray⟩, .int .i64 5, .string ⟨t.toArray⟩] 36)).drew _ _ _ from World.ownsRow.kept' HF.out hVB)
    have HVB := hid (show Below gk w (U.alloc (.cells #[.string ⟨p.toArray⟩, .int .i64 5, .string ⟨t.toArray⟩] 36)).drew from HBU.out.trans (hVB.mono (Nat.le_of_lt HGL.out)))
    have HVZ := hid (show gk + 1 ≤ (U.alloc (.cells #[.string ⟨p.toArray⟩, .int .i64 5, .string ⟨t.toArray⟩] 36)).drew.heap.size from Nat.le_trans HGL.out hVB.size)
    have HLN := hid (show C.length ≤ 100000000 by have := HL.out.2; omega)
    have e4 : (U.alloc (.cells #[.string ⟨p.toArray⟩, .int .i64 5, .string ⟨t.toArray⟩] 36)).cell? ⟨gk, 4, none⟩ = some (.slice co C.length cc) := below_cell ((Below.refl _ U).alloc (Nat.le_refl _) _) c4
    clear hVB
    go_wp2_with fail
    go_region_law (
      refine step_append_c1g (by rfl) (.tmp 26) (.tmp 33) (by rfl) (gk + 1) (.slice co C.length cc) C (p, 5, t) (by kernel_rfl) HVC.out (.slice (some ⟨U.heap.size, 0, none⟩) 1 1) (by kernel_rfl) HVS.out HLN.out HVZ.out ?_
      intro v5 w5 o5 g5
      obtain ⟨so5, sc5, rfl⟩ : ∃ o c, v5 = .slice o (C.length + 1) c := by obtain ⟨o, c, h⟩ := owns_form o5; exact ⟨o, c, by rw [h]; simp⟩
      have hw5 := (g5.block gk (lt_of_block HVG.out) (fun e => own_ne_of HVC.out HVG.out Tryz.neM2 e.symm)).trans HVG.out
      have HG5 := hid hw5
      have HF5 := hid (OwnF.besideC HVF.out HVC.out g5)
      have HO5 := hid o5
      have HB5 := hid (HVB.out.grown g5 (Nat.le_of_succ_le HVZ.out) (fun j hj => Nat.le_of_succ_le (World.ownsRow.lt HVC.out j hj).1))
      have c5 := blk_cell (i := 4) hw5 rfl
      have z5 := blk_free (i := 4) hw5
      clear o5 g5 hw5)
    all_goals (
      go_wp2_with fail
      go_end0
      refine ⟨rfl, ?_, HB5.out.setCell (Nat.le_refl _) _⟩
      rw [HPD.out]
      exact WhM.set4 HG5.out HF5.out HO5.out)
  | false =>
    have hVB : Below U.heap.size U (U.alloc (.cells #[.string ⟨p.toArray⟩, .bool x, .string ⟨t.toArray⟩] 28)).drew := ((Below.refl _ U).alloc (Nat.le_refl _) _).drew
    have HVS := hid (show SlF (U.alloc (.cells #[.string ⟨p.toArray⟩, .bool x, .string ⟨t.toArray⟩] 28)).drew (.slice (some ⟨U.heap.size, 0, none⟩) 1 1) [(p, x, t)] from SlR.one (heap_alloc_new U _) rfl)
    have HVG := hid (show (U.alloc (.cells #[.string ⟨p.toArray⟩, .bool x, .string ⟨t.toArray⟩] 28)).drew.heap[gk]? = _ from (hVB.block _ HGL.out).trans HG.out)
    have HVC := hid (show OwnC (U.alloc (.cells #[.string ⟨p.toArray⟩, .bool x, .string ⟨t.toArray⟩] 28)).drew _ _ _ from World.ownsRow.kept' HC.out hVB)
    have HVF := hid (show OwnF (U.alloc (.cells #[.string ⟨p.toArray⟩, .bool x, .string ⟨t.toArray⟩] 28)).drew _ _ _ from World.ownsRow.kept' HF.out hVB)
    have HVB := hid (show Below gk w (U.alloc (.cells #[.string ⟨p.toArray⟩, .bool x, .string ⟨t.toArray⟩] 28)).drew from HBU.out.trans (hVB.mono (Nat.le_of_lt HGL.out)))
    have HVZ := hid (show gk + 1 ≤ (U.alloc (.cells #[.string ⟨p.toArray⟩, .bool x, .string ⟨t.toArray⟩] 28)).drew.heap.size from Nat.le_trans HGL.out hVB.size)
    have HVQ := hid (show (U.alloc (.cells #[.string ⟨p.toArray⟩, .bool x, .string ⟨t.toArray⟩] 28)).drew.heap[gq]? = _ from (hVB.block _ (lt_of_block HGU.out)).trans HGU.out)
    have HLN := hid (show F.length ≤ 100000000 by have := HL.out.1; omega)
    have e3 : (U.alloc (.cells #[.string ⟨p.toArray⟩, .bool x, .string ⟨t.toArray⟩] 28)).cell? ⟨gk, 3, none⟩ = some (.slice fo F.length fc) := below_cell ((Below.refl _ U).alloc (Nat.le_refl _) _) c3
    clear hVB
    go_wp2_with fail
    go_region_law (
      refine step_append_f1g (by rfl) (.tmp 14) (.tmp 16) (by rfl) (gk + 1) (.slice fo F.length fc) F (p, x, t) (by kernel_rfl) HVF.out (.slice (some ⟨U.heap.size, 0, none⟩) 1 1) (by kernel_rfl) HVS.out HLN.out HVZ.out ?_
      intro v5 w5 o5 g5 h5
      obtain ⟨so5, sc5, rfl⟩ : ∃ o c, v5 = .slice o (F.length + 1) c := by obtain ⟨o, c, h⟩ := owns_form o5; exact ⟨o, c, by rw [h]; simp⟩
      have hw5 := (g5.block gk (lt_of_block HVG.out) (fun e => own_ne_of HVF.out HVG.out Tryz.neM1 e.symm)).trans HVG.out
      have HG5 := hid hw5
      have HC5 := hid (OwnC.beside HVC.out HVF.out g5)
      have HO5 := hid o5
      have HB5 := hid (HVB.out.grown g5 (Nat.le_of_succ_le HVZ.out) (fun j hj => Nat.le_of_succ_le (World.ownsRow.lt HVF.out j hj).1))
      have hq5 := (g5.block gq (lt_of_block HVQ.out) (fun e => Nat.lt_irrefl _ (HRL.out gq e.symm))).trans HVQ.out
      have HQ5 := hid hq5
      have c5 := blk_cell (i := 3) hw5 rfl
      have z5 := blk_free (i := 3) hw5
      clear o5 g5 hw5 h5 hq5)
    all_goals (
      have HG6 := hid (blk_set (i := 3) (u := (.slice so5 (F.length + 1) sc5)) HG5.out)
      have HF6 := hid (OwnF.cellSet (i := 3) (u := (.slice so5 (F.length + 1) sc5)) HO5.out HG5.out Tryz.neM1)
      have HC6 := hid (OwnC.setM (i := 3) (u := (.slice so5 (F.length + 1) sc5)) HC5.out HG5.out)
      have HB6 := hid (HB5.out.setCell (p := ⟨gk, 3, none⟩) (Nat.le_refl _) (.slice so5 (F.length + 1) sc5))
      have HQN := hid (show gq ≠ gk from fun e => by have h1 := HQ5.out; rw [e, HG5.out] at h1; cases h1)
      have HQ6 := hid (show (w5.setCell ⟨gk, 3, none⟩ (.slice so5 (F.length + 1) sc5)).heap[gq]? = _ from (Below.heap_setCell _ _ _ _ (show gq ≠ gk from HQN.out)).trans HQ5.out)
      clear c5 z5 HG5 HC5 HO5 HB5 HQ5 HVS HVG HVC HVF HVB HVZ HVQ e3 c3 c4 p0 p1 p2 HG HF HC HBU HGU HGL
      by_cases hk0 : k = 0
      case pos =>
        have kb : (k != 0) = false := by simp [hk0]
        have kb2 : (k == 0) = true := by simp [hk0]
        have HPD := hid (show putW (F, C) (p, x, t) k = (F ++ [(p, x, t)], C) by unfold putW; rw [if_neg (by rw [HBR.out]; simp), if_pos hk0])
        clear hk0
        go_wp2_with fail
        go_end0
        refine ⟨rfl, ?_, HB6.out⟩
        rw [HPD.out]
        exact ⟨_, _, HG6.out, HF6.out, HC6.out⟩
      have kb : (k != 0) = true := by simp [hk0]
      have kb2 : (k == 0) = false := by simp [hk0]
      have HPD := hid (show putW (F, C) (p, x, t) k = (F ++ [(p, x, t)], C ++ [(p, k, t)]) by unfold putW; rw [if_neg (by rw [HBR.out]; simp), if_neg hk0])
      clear hk0
      generalize w5.setCell ⟨gk, 3, none⟩ (.slice so5 (F.length + 1) sc5) = U5 at *
      have hg6 := HG6.out
      have hq6 := HQ6.out
      have p0 := blk_cell (i := 0) hq6 rfl
      have p1 := blk_cell (i := 1) hq6 rfl
      have p2 := blk_cell (i := 2) hq6 rfl
      have c4 : U5.cell? ⟨gk, 4, none⟩ = some (.slice co C.length cc) := blk_cell (i := 4) hg6 rfl
      clear hg6 hq6
      have HGL := hid (lt_of_block HG6.out)
      have hVB : Below U5.heap.size U5 (U5.alloc (.cells #[.string ⟨p.toArray⟩, .int .i64 k, .string ⟨t.toArray⟩] 36)).drew := ((Below.refl _ U5).alloc (Nat.le_refl _) _).drew
      have HVS := hid (show SlCl (U5.alloc (.cells #[.string ⟨p.toArray⟩, .int .i64 k, .string ⟨t.toArray⟩] 36)).drew (.slice (some ⟨U5.heap.size, 0, none⟩) 1 1) [(p, k, t)] from SlR.one (heap_alloc_new U5 _) rfl)
      have HVG := hid (show (U5.alloc (.cells #[.string ⟨p.toArray⟩, .int .i64 k, .string ⟨t.toArray⟩] 36)).drew.heap[gk]? = _ from (hVB.block _ HGL.out).trans HG6.out)
      have HVC := hid (show OwnC (U5.alloc (.cells #[.string ⟨p.toArray⟩, .int .i64 k, .string ⟨t.toArray⟩] 36)).drew _ _ _ from World.ownsRow.kept' HC6.out hVB)
      have HVF := hid (show OwnF (U5.alloc (.cells #[.string ⟨p.toArray⟩, .int .i64 k, .string ⟨t.toArray⟩] 36)).drew _ _ _ from World.ownsRow.kept' HF6.out hVB)
      have HVB := hid (show Below gk w (U5.alloc (.cells #[.string ⟨p.toArray⟩, .int .i64 k, .string ⟨t.toArray⟩] 36)).drew from HB6.out.trans (hVB.mono (Nat.le_of_lt HGL.out)))
      have HVZ := hid (show gk + 1 ≤ (U5.alloc (.cells #[.string ⟨p.toArray⟩, .int .i64 k, .string ⟨t.toArray⟩] 36)).drew.heap.size from Nat.le_trans HGL.out hVB.size)
      have HLC := hid (show C.length ≤ 100000000 by have := HL.out.2; omega)
      have e4 : (U5.alloc (.cells #[.string ⟨p.toArray⟩, .int .i64 k, .string ⟨t.toArray⟩] 36)).cell? ⟨gk, 4, none⟩ = some (.slice co C.length cc) := below_cell ((Below.refl _ U5).alloc (Nat.le_refl _) _) c4
      clear hVB
      go_wp2_with fail
      go_region_law (
        refine step_append_c1g (by rfl) (.tmp 26) (.tmp 33) (by rfl) (gk + 1) (.slice co C.length cc) C (p, k, t) (by kernel_rfl) HVC.out (.slice (some ⟨U5.heap.size, 0, none⟩) 1 1) (by kernel_rfl) HVS.out HLC.out HVZ.out ?_
        intro v7 w7 o7 g7
        obtain ⟨so7, sc7, rfl⟩ : ∃ o c, v7 = .slice o (C.length + 1) c := by obtain ⟨o, c, h⟩ := owns_form o7; exact ⟨o, c, by rw [h]; simp⟩
        have hw7 := (g7.block gk (lt_of_block HVG.out) (fun e => own_ne_of HVC.out HVG.out Tryz.neM2 e.symm)).trans HVG.out
        have HG7 := hid hw7
        have HF7 := hid (OwnF.besideC HVF.out HVC.out g7)
        have HO7 := hid o7
        have HB7 := hid (HVB.out.grown g7 (Nat.le_of_succ_le HVZ.out) (fun j hj => Nat.le_of_succ_le (World.ownsRow.lt HVC.out j hj).1))
        have c7 : w7.cell? ⟨gk, 4, none⟩ = some (.slice co C.length cc) := blk_cell (i := 4) hw7 rfl
        have z7 : w7.frozen? ⟨gk, 4, none⟩ = false := blk_free (i := 4) hw7
        clear o7 g7 hw7)
      all_goals (
        go_wp2_with fail
        go_end0
        refine ⟨rfl, ?_, HB7.out.setCell (Nat.le_refl _) _⟩
        rw [HPD.out]
        exact WhM.set4 HG7.out HF7.out HO7.out))
end
end Go.Proofs.YtbnafihigoekeaaGreatDoor
namespace Go.Proofs.YtbnafihigoekeaaGreatDoor
open Go.RowKit
section
set_option maxRecDepth 100000
set_option maxHeartbeats 1000000
theorem DChgS_any (b o t : Txt) (w : World) : Calls Tryz.prog 76 #[strV b, strV o, strV t] w fun e w' => e = .returned (strV (if o = b then t else o)) ∧ w = w' := by
  unfold strV
  by_cases h : o = b
  · have h1 : (o == b) = true := by simp [h]
    rw [if_pos h]
    clear h
    go_enter Tryz.func76, Tryz.ntmps76
    go_wp2
    go_ret
    exact ⟨rfl, rfl⟩
  · have h1 : (o == b) = false := beq_false_of_ne h
    rw [if_neg h]
    clear h
    go_enter Tryz.func76, Tryz.ntmps76
    go_wp2
    go_ret
    exact ⟨rfl, rfl⟩
theorem DChgB_any (b o t : Bool) (w : World) : Calls Tryz.prog 77 #[.bool b, .bool o, .bool t] w fun e w' => e = .returned (.bool (if o = b then t else o)) ∧ w = w' := by
  cases b <;> cases o <;> (
    go_enter Tryz.func77, Tryz.ntmps77
    go_wp2
    go_ret
    exact ⟨rfl, rfl⟩)
def apartB (b o t : Txt) : Bool := !(o == b) && (!(t == b) && !(o == t))
theorem DApart_any (b o t : Txt) (w : World) : Calls Tryz.prog 78 #[strV b, strV o, strV t] w fun e w' => e = .returned (.bool (apartB b o t)) ∧ w = w' := by
  obtain ⟨z1, h1⟩ : ∃ z, (o == b) = z := ⟨_, rfl⟩
  obtain ⟨z2, h2⟩ : ∃ z, (t == b) = z := ⟨_, rfl⟩
  obtain ⟨z3, h3⟩ : ∃ z, (o == t) = z := ⟨_, rfl⟩
  have hA : apartB b o t = (!z1 && (!z2 && !z3)) := by unfold apartB; rw [h1, h2, h3]
  rw [hA]
  clear hA
  unfold strV
  cases z1 <;> cases z2 <;> cases z3 <;> (
    go_enter Tryz.func78, Tryz.ntmps78
    go_wp2
    go_ret
    exact ⟨rfl, rfl⟩)
theorem apart_both (b o t : FileS) : bothK b o t = (if apartB b.1 o.1 t.1 = true then 4 else if (mergeS b.2.2 o.2.2 t.2.2).2 = true then 0 else 1) := by
  unfold bothK apartB
  have e : (o.1 ≠ b.1 ∧ t.1 ≠ b.1 ∧ t.1 ≠ o.1) ↔ (!(o.1 == b.1) && (!(t.1 == b.1) && !(o.1 == t.1))) = true := by
    simp only [Bool.and_eq_true, Bool.not_eq_true', beq_eq_false_iff_ne]
    exact ⟨fun ⟨h1, h2, h3⟩ => ⟨h1, h2, h3.symm⟩, fun ⟨h1, h2, h3⟩ => ⟨h1, h2, h3.symm⟩⟩
  by_cases h : o.1 ≠ b.1 ∧ t.1 ≠ b.1 ∧ t.1 ≠ o.1
  · rw [if_pos h, if_pos (e.1 h)]
  · rw [if_neg h, if_neg fun h' => h (e.2 h')]
theorem DUnited_any (b o t : FileS) (w : World) (lb : b.2.2.length ≤ 3000) (lo : o.2.2.length ≤ 3000) (lt : t.2.2.length ≤ 3000) :
    Calls Tryz.prog 52 #[fileV b, fileV o, fileV t] w fun e w' => e = .returned (.tuple #[fileV (bothF b o t), .int .i64 (bothK b o t)]) ∧ Below w.heap.size w w' := by
  have hK := apart_both b o t
  have HM := hid (fun wx => DMerge_any b.2.2 o.2.2 t.2.2 wx lb lo lt)
  have HAP := hid (fun wx => DApart_any b.1 o.1 t.1 wx)
  have HCS := hid (fun wx => DChgS_any b.1 o.1 t.1 wx)
  have HCB := hid (fun wx => DChgB_any b.2.1 o.2.1 t.2.1 wx)
  have hF : bothF b o t = (if o.1 = b.1 then t.1 else o.1, if o.2.1 = b.2.1 then t.2.1 else o.2.1, (mergeS b.2.2 o.2.2 t.2.2).1) := rfl
  obtain ⟨⟨m, cl⟩, hm⟩ : ∃ z, mergeS b.2.2 o.2.2 t.2.2 = z := ⟨_, rfl⟩
  obtain ⟨ap, hap⟩ : ∃ z, apartB b.1 o.1 t.1 = z := ⟨_, rfl⟩
  obtain ⟨np, hnp⟩ : ∃ z, (if o.1 = b.1 then t.1 else o.1) = z := ⟨_, rfl⟩
  obtain ⟨nx, hnx⟩ : ∃ z, (if o.2.1 = b.2.1 then t.2.1 else o.2.1) = z := ⟨_, rfl⟩
  rw [hm, hap] at hK
  rw [hm, hnp, hnx] at hF
  rw [hm] at HM
  rw [hap] at HAP
  rw [hnp] at HCS
  rw [hnx] at HCB
  rw [hK, hF]
  clear hK hF hm hap hnp hnx lb lo lt
  obtain ⟨bp, bx, bt⟩ := b
  obtain ⟨op, ox, ot⟩ := o
  obtain ⟨p, x, t⟩ := t
  simp only at HM HAP HCS HCB
  have hz1 : (w.alloc (.cells #[.string ⟨bp.toArray⟩, .bool bx, .string ⟨bt.toArray⟩] 28)).heap.size = w.heap.size + 1 := by simp
  have hz2 : ((w.alloc (.cells #[.string ⟨bp.toArray⟩, .bool bx, .string ⟨bt.toArray⟩] 28)).alloc (.cells #[.string ⟨op.toArray⟩, .bool ox, .string ⟨ot.toArray⟩] 28)).heap.size = w.heap.size + 2 := by simp
  have hz3 : (((w.alloc (.cells #[.string ⟨bp.toArray⟩, .bool bx, .string ⟨bt.toArray⟩] 28)).alloc (.cells #[.string ⟨op.toArray⟩, .bool ox, .string ⟨ot.toArray⟩] 28)).alloc (.cells #[.string ⟨p.toArray⟩, .bool x, .string ⟨t.toArray⟩] 28)).heap.size = w.heap.size + 3 := by simp
  obtain ⟨W, hW⟩ : ∃ y, (((w.alloc (.cells #[.string ⟨bp.toArray⟩, .bool bx, .string ⟨bt.toArray⟩] 28)).alloc (.cells #[.string ⟨op.toArray⟩, .bool ox, .string ⟨ot.toArray⟩] 28)).alloc (.cells #[.string ⟨p.toArray⟩, .bool x, .string ⟨t.toArray⟩] 28)).alloc (.cells #[.string ⟨#[]⟩, .bool false, .string ⟨#[]⟩] 28) = y := ⟨_, rfl⟩
  have hB0 : Below w.heap.size w W := by rw [← hW]; exact ((((Below.refl _ w).alloc (Nat.le_refl _) _).alloc (by omega) _).alloc (by omega) _).alloc (by omega) _
  have g1 : W.heap[w.heap.size]? = some (.cells #[.string ⟨bp.toArray⟩, .bool bx, .string ⟨bt.toArray⟩] 28 (0, 0)) := by
    rw [← hW]; exact (Below.heap_alloc _ _ _ (by omega)).trans ((Below.heap_alloc _ _ _ (by omega)).trans ((Below.heap_alloc _ _ _ (by omega)).trans (heap_alloc_new w _)))
  have g2 : W.heap[w.heap.size + 1]? = some (.cells #[.string ⟨op.toArray⟩, .bool ox, .string ⟨ot.toArray⟩] 28 (0, 0)) := by
    rw [← hW]
    have h := heap_alloc_new (w.alloc (.cells #[.string ⟨bp.toArray⟩, .bool bx, .string ⟨bt.toArray⟩] 28)) (.cells #[.string ⟨op.toArray⟩, .bool ox, .string ⟨ot.toArray⟩] 28)
    rw [hz1] at h
    exact (Below.heap_alloc _ _ _ (by omega)).trans ((Below.heap_alloc _ _ _ (by omega)).trans h)
  have g3 : W.heap[w.heap.size + 2]? = some (.cells #[.string ⟨p.toArray⟩, .bool x, .string ⟨t.toArray⟩] 28 (0, 0)) := by
    rw [← hW]
    have h := heap_alloc_new ((w.alloc (.cells #[.string ⟨bp.toArray⟩, .bool bx, .string ⟨bt.toArray⟩] 28)).alloc (.cells #[.string ⟨op.toArray⟩, .bool ox, .string ⟨ot.toArray⟩] 28)) (.cells #[.string ⟨p.toArray⟩, .bool x, .string ⟨t.toArray⟩] 28)
    rw [hz2] at h
    exact (Below.heap_alloc _ _ _ (by omega)).trans h
  have g6 : W.heap[w.heap.size + 3]? = some (.cells #[.string ⟨#[]⟩, .bool false, .string ⟨#[]⟩] 28 (0, 0)) := by
    rw [← hW]
    have h := heap_alloc_new (((w.alloc (.cells #[.string ⟨bp.toArray⟩, .bool bx, .string ⟨bt.toArray⟩] 28)).alloc (.cells #[.string ⟨op.toArray⟩, .bool ox, .string ⟨ot.toArray⟩] 28)).alloc (.cells #[.string ⟨p.toArray⟩, .bool x, .string ⟨t.toArray⟩] 28)) (.cells #[.string ⟨#[]⟩, .bool false, .string ⟨#[]⟩] 28)
    rwa [hz3] at h
  have HG1 := hid g1
  have HG2 := hid g2
  have HG3 := hid g3
  have HG6 := hid g6
  have HB0 := hid hB0
  have HWL := hid (lt_of_block g6)
  have b2 := blk_cell (i := 2) g1 rfl
  have o2 := blk_cell (i := 2) g2 rfl
  have c2 := blk_cell (i := 2) g3 rfl
  clear g1 g2 g3 g6 hB0 hz1 hz2 hz3
  unfold fileV strV
  unfold strV at HM HAP HCS
  go_enter Tryz.func52, Tryz.ntmps52
  go_wp2_with fail
  try rw [hW]
  clear hW
  obtain ⟨gw, hgw⟩ : ∃ g, w.heap.size = g := ⟨_, rfl⟩
  have HGW := hid hgw
  rw [hgw] at HG1 HG2 HG3 HG6 HB0 HWL b2 o2 c2 ⊢
  clear hgw
  refine (HM.out W).mono ?_
  rintro e U ⟨rfl, hb⟩
  have HU1 := hid ((hb.block _ (lt_of_block HG1.out)).trans HG1.out)
  have HU2 := hid ((hb.block _ (lt_of_block HG2.out)).trans HG2.out)
  have HU3 := hid ((hb.block _ (lt_of_block HG3.out)).trans HG3.out)
  have HU6 := hid ((hb.block _ (lt_of_block HG6.out)).trans HG6.out)
  have HBU := hid (HB0.out.trans (hb.mono (by have := HWL.out; omega)))
  clear hb b2 o2 c2 HG1 HG2 HG3 HG6 HB0 HWL
  have b0 := blk_cell (i := 0) HU1.out rfl
  have b1 := blk_cell (i := 1) HU1.out rfl
  have o0 := blk_cell (i := 0) HU2.out rfl
  have o1 := blk_cell (i := 1) HU2.out rfl
  have c0 := blk_cell (i := 0) HU3.out rfl
  have c1 := blk_cell (i := 1) HU3.out rfl
  have HUL := hid (lt_of_block HU6.out)
  go_upto_region 2 with fail
  have d0 := below_cell ((Below.refl _ U).alloc (Nat.le_refl _) (.cells #[.string ⟨#[]⟩, .bool false, .string ⟨#[]⟩] 28)) b0
  have d1 := below_cell ((Below.refl _ U).alloc (Nat.le_refl _) (.cells #[.string ⟨#[]⟩, .bool false, .string ⟨#[]⟩] 28)) b1
  have d2 := below_cell ((Below.refl _ U).alloc (Nat.le_refl _) (.cells #[.string ⟨#[]⟩, .bool false, .string ⟨#[]⟩] 28)) o0
  have d3 := below_cell ((Below.refl _ U).alloc (Nat.le_refl _) (.cells #[.string ⟨#[]⟩, .bool false, .string ⟨#[]⟩] 28)) o1
  have d4 := below_cell ((Below.refl _ U).alloc (Nat.le_refl _) (.cells #[.string ⟨#[]⟩, .bool false, .string ⟨#[]⟩] 28)) c0
  have d5 := below_cell ((Below.refl _ U).alloc (Nat.le_refl _) (.cells #[.string ⟨#[]⟩, .bool false, .string ⟨#[]⟩] 28)) c1
  have f0 := below_cell ((Below.refl _ U).alloc (Nat.le_refl _) (.cells #[.string ⟨np.toArray⟩, .bool nx, .string ⟨m.toArray⟩] 28)) b0
  have f1 := below_cell ((Below.refl _ U).alloc (Nat.le_refl _) (.cells #[.string ⟨np.toArray⟩, .bool nx, .string ⟨m.toArray⟩] 28)) b1
  have f2 := below_cell ((Below.refl _ U).alloc (Nat.le_refl _) (.cells #[.string ⟨np.toArray⟩, .bool nx, .string ⟨m.toArray⟩] 28)) o0
  have f3 := below_cell ((Below.refl _ U).alloc (Nat.le_refl _) (.cells #[.string ⟨np.toArray⟩, .bool nx, .string ⟨m.toArray⟩] 28)) o1
  have f4 := below_cell ((Below.refl _ U).alloc (Nat.le_refl _) (.cells #[.string ⟨np.toArray⟩, .bool nx, .string ⟨m.toArray⟩] 28)) c0
  have f5 := below_cell ((Below.refl _ U).alloc (Nat.le_refl _) (.cells #[.string ⟨np.toArray⟩, .bool nx, .string ⟨m.toArray⟩] 28)) c1
  go_cut [10] from 21 to 36 (fun s wx => s = .pointer (some ⟨U.heap.size, 0, none⟩) ∧ Hid (wx.heap[U.heap.size]? = some (.cells #[.string ⟨np.toArray⟩, .bool nx, .string ⟨m.toArray⟩] 28 (0, 0)) ∧ Below U.heap.size U wx))
  case first =>
    go_region_held3 (fun wy => wy.cell? ⟨gw, 0, none⟩ = some (.string ⟨bp.toArray⟩) ∧ wy.cell? ⟨gw, 1, none⟩ = some (.bool bx) ∧ wy.cell? ⟨gw + 1, 0, none⟩ = some (.string ⟨op.toArray⟩) ∧ wy.cell? ⟨gw + 1, 1, none⟩ = some (.bool ox) ∧ wy.cell? ⟨gw + 2, 0, none⟩ = some (.string ⟨p.toArray⟩) ∧ wy.cell? ⟨gw + 2, 1, none⟩ = some (.bool x)) (first | exact ⟨b0, b1, o0, o1, c0, c1⟩ | exact ⟨d0, d1, d2, d3, d4, d5⟩ | exact ⟨f0, f1, f2, f3, f4, f5⟩) ((first
      | (go_at_call 76; refine (HCS.out _).mono ?_; rintro e w5 ⟨rfl, rfl⟩)
      | (go_at_call 77; refine (HCB.out _).mono ?_; rintro e w5 ⟨rfl, rfl⟩)))
    all_goals (
      go_wp2_with fail
      go_meet
      exact ⟨rfl, hid ⟨heap_alloc_new _ _, ((Below.refl _ U).alloc (Nat.le_refl _) _).drew⟩⟩)
  case rest =>
    obtain ⟨rfl, HC⟩ := hcut
    clear d0 d1 d2 d3 d4 d5 f0 f1 f2 f3 f4 f5 b1 o1 c1
    have HG10 := hid HC.out.1
    have HBC := hid HC.out.2
    have b0 := below_cell HBC.out b0
    have o0 := below_cell HBC.out o0
    have c0 := below_cell HBC.out c0
    have q0 := blk_cell (i := 0) HG10.out rfl
    have q1 := blk_cell (i := 1) HG10.out rfl
    have q2 := blk_cell (i := 2) HG10.out rfl
    have HV6 := hid ((HBC.out.block _ HUL.out).trans HU6.out)
    have HBV := hid (show Below gw w wc from HBU.out.trans (HBC.out.mono (by have := HUL.out; omega)))
    have HZV := hid (show gw ≤ wc.heap.size from by have := HBV.out.size; have h2 := HGW.out; omega)
    clear HC HU1 HU2 HU3 HU6 HBU
    generalize U.heap.size = g10 at *
    generalize wc = V at *
    cases ap with
    | true =>
      go_wp2_with (first
        | (go_at_call 78; refine (HAP.out _).mono ?_; rintro e w5 ⟨rfl, rfl⟩)
        | (refine file_store rfl 28 _ _ rfl (gw + 3) #[.string ⟨np.toArray⟩, .bool nx, .string ⟨m.toArray⟩] rfl rfl _ _ HV6.out 3 Tryz.sizeFile rfl rfl (by simp [Value.oneCell']) ?_; intro w9 hg9 hk9))
      refine bodyPost_ret (file_results rfl _ _ (gw + 3) _ _ _ _ _ rfl rfl hg9 Tryz.underlying28 rfl Tryz.sizeFile) rfl ?_
      exact ⟨rfl, by rw [HGW.out]; exact HBV.out.trans (hk9.below HZV.out (fun j hj e => by omega))⟩
    | false =>
      cases cl <;> (
        go_wp2_with (first
          | (go_at_call 78; refine (HAP.out _).mono ?_; rintro e w5 ⟨rfl, rfl⟩)
          | (refine file_store rfl 28 _ _ rfl (gw + 3) #[.string ⟨np.toArray⟩, .bool nx, .string ⟨m.toArray⟩] rfl rfl _ _ HV6.out 3 Tryz.sizeFile rfl rfl (by simp [Value.oneCell']) ?_; intro w9 hg9 hk9))
        refine bodyPost_ret (file_results rfl _ _ (gw + 3) _ _ _ _ _ rfl rfl hg9 Tryz.underlying28 rfl Tryz.sizeFile) rfl ?_
        exact ⟨rfl, by rw [HGW.out]; exact HBV.out.trans (hk9.below HZV.out (fun j hj e => by omega))⟩)
end
end Go.Proofs.YtbnafihigoekeaaGreatDoor
namespace Go.Proofs.YtbnafihigoekeaaGreatDoor
open Go.RowKit
section
set_option maxRecDepth 100000
set_option maxHeartbeats 4000000
theorem DJoined_any (x t : FileS) (w : World) (lx : x.2.2.length ≤ 3000) (lt : t.2.2.length ≤ 3000) :
    Calls Tryz.prog 54 #[fileV x, fileV t] w fun e w' => e = .returned (.tuple #[fileV (if x = t then x else joinF x t), .int .i64 (if x = t then 0 else 2)]) ∧ Below w.heap.size w w' := by
  have HM := hid (fun wx => DMerge_any [] x.2.2 t.2.2 wx (by simp) lx lt)
  obtain ⟨⟨m, cl⟩, hm⟩ : ∃ z, mergeS [] x.2.2 t.2.2 = z := ⟨_, rfl⟩
  have HJ := hid (show joinF x t = (x.1, x.2.1, m) by unfold joinF; rw [hm])
  rw [hm] at HM
  clear hm lx lt
  obtain ⟨p, px, pt⟩ := x
  obtain ⟨q, qx, qt⟩ := t
  simp only at HM HJ
  have hz1 : (w.alloc (.cells #[.string ⟨p.toArray⟩, .bool px, .string ⟨pt.toArray⟩] 28)).heap.size = w.heap.size + 1 := by simp
  have hz2 : ((w.alloc (.cells #[.string ⟨p.toArray⟩, .bool px, .string ⟨pt.toArray⟩] 28)).alloc (.cells #[.string ⟨q.toArray⟩, .bool qx, .string ⟨qt.toArray⟩] 28)).heap.size = w.heap.size + 2 := by simp
  obtain ⟨W, hW⟩ : ∃ y, ((w.alloc (.cells #[.string ⟨p.toArray⟩, .bool px, .string ⟨pt.toArray⟩] 28)).alloc (.cells #[.string ⟨q.toArray⟩, .bool qx, .string ⟨qt.toArray⟩] 28)).alloc (.cells #[.string ⟨#[]⟩, .bool false, .string ⟨#[]⟩] 28) = y := ⟨_, rfl⟩
  have hB0 : Below w.heap.size w W := by rw [← hW]; exact (((Below.refl _ w).alloc (Nat.le_refl _) _).alloc (by omega) _).alloc (by omega) _
  have g1 : W.heap[w.heap.size]? = some (.cells #[.string ⟨p.toArray⟩, .bool px, .string ⟨pt.toArray⟩] 28 (0, 0)) := by
    rw [← hW]; exact (Below.heap_alloc _ _ _ (by omega)).trans ((Below.heap_alloc _ _ _ (by omega)).trans (heap_alloc_new w _))
  have g2 : W.heap[w.heap.size + 1]? = some (.cells #[.string ⟨q.toArray⟩, .bool qx, .string ⟨qt.toArray⟩] 28 (0, 0)) := by
    rw [← hW]
    have h := heap_alloc_new (w.alloc (.cells #[.string ⟨p.toArray⟩, .bool px, .string ⟨pt.toArray⟩] 28)) (.cells #[.string ⟨q.toArray⟩, .bool qx, .string ⟨qt.toArray⟩] 28)
    rw [hz1] at h
    exact (Below.heap_alloc _ _ _ (by omega)).trans h
  have g4 : W.heap[w.heap.size + 2]? = some (.cells #[.string ⟨#[]⟩, .bool false, .string ⟨#[]⟩] 28 (0, 0)) := by
    rw [← hW]
    have h := heap_alloc_new ((w.alloc (.cells #[.string ⟨p.toArray⟩, .bool px, .string ⟨pt.toArray⟩] 28)).alloc (.cells #[.string ⟨q.toArray⟩, .bool qx, .string ⟨qt.toArray⟩] 28)) (.cells #[.string ⟨#[]⟩, .bool false, .string ⟨#[]⟩] 28)
    rwa [hz2] at h
  have HG1 := hid g1
  have HG4 := hid g4
  have HB0 := hid hB0
  have HWL := hid (lt_of_block g4)
  have b0 := blk_cell (i := 0) g1 rfl
  have b1 := blk_cell (i := 1) g1 rfl
  have b2 := blk_cell (i := 2) g1 rfl
  have c0 := blk_cell (i := 0) g2 rfl
  have c1 := blk_cell (i := 1) g2 rfl
  have c2 := blk_cell (i := 2) g2 rfl
  clear g1 g2 g4 hB0 hz1 hz2
  have hq := fun wx => file_eql p pt q qt px qx wx
  obtain ⟨z, hz⟩ : ∃ y, (((p, px, pt) : FileS) == (q, qx, qt)) = y := ⟨_, rfl⟩
  rw [hz] at hq
  have HZ := hid hz
  clear hz
  unfold strV at HM
  cases z with
  | true =>
    have he : ((p, px, pt) : FileS) = (q, qx, qt) := eq_of_beq HZ.out
    rw [if_pos he, if_pos he]
    clear he
    unfold fileV strV
    go_enter Tryz.func54, Tryz.ntmps54
    go_wp2_with (refine file_store rfl 28 _ _ rfl (w.heap.size + 2) #[.string ⟨p.toArray⟩, .bool px, .string ⟨pt.toArray⟩] rfl rfl _ _ HG4.out 3 Tryz.sizeFile rfl rfl (by simp [Value.oneCell']) ?_; intro w9 hg9 hk9)
    refine bodyPost_ret (file_results rfl _ _ (w.heap.size + 2) _ _ _ _ _ rfl rfl hg9 Tryz.underlying28 rfl Tryz.sizeFile) rfl ?_
    exact ⟨rfl, HB0.out.trans (hk9.below HB0.out.size (fun j hj e => by omega))⟩
  | false =>
    have he : ¬ ((p, px, pt) : FileS) = (q, qx, qt) := ne_of_beq_false HZ.out
    rw [if_neg he, if_neg he, HJ.out]
    clear he
    unfold fileV strV
    go_enter Tryz.func54, Tryz.ntmps54
    go_wp2_with (first
      | (go_at_call 75; refine (HM.out _).mono ?_; rintro e w5 ⟨rfl, hb5⟩; have HB5 := hid (HB0.out.trans (hb5.mono (by have := HWL.out; omega))); have HG5 := hid ((hb5.block _ (lt_of_block HG4.out)).trans HG4.out); have d0 := below_cell hb5 b0; have d1 := below_cell hb5 b1; clear hb5)
      | (refine file_store rfl 28 _ _ rfl (w.heap.size + 2) #[.string ⟨p.toArray⟩, .bool px, .string ⟨m.toArray⟩] rfl rfl _ _ HG5.out 3 Tryz.sizeFile rfl rfl (by simp [Value.oneCell']) ?_; intro w9 hg9 hk9))
    refine bodyPost_ret (file_results rfl _ _ (w.heap.size + 2) _ _ _ _ _ rfl rfl hg9 Tryz.underlying28 rfl Tryz.sizeFile) rfl ?_
    exact ⟨rfl, HB5.out.trans (hk9.below HB5.out.size (fun j hj e => by omega))⟩
theorem DPutLeft_any (gk gm : Nat) (v0 v1 : Value) (s : WhS) (b f : FileS) (w : World) (h : WhM gk gm v0 v1 s w) (hl : s.1.length ≤ 100000 ∧ s.2.length ≤ 100000) (hf : ∀ f ∈ s.1, f.1.length ≤ 1000000) (hp : f.1.length ≤ 1000000) :
    Calls Tryz.prog 53 #[.pointer (some ⟨gk, 0, none⟩), fileV b, fileV f] w fun e w' => e = .returned (.tuple #[]) ∧ WhM gk gm v0 v1 (oneW s b f) w' ∧ Below gk w w' := by
  obtain ⟨bp, bx, bt⟩ := b
  obtain ⟨p, x, t⟩ := f
  obtain ⟨W, hW⟩ : ∃ y, (w.alloc (.cells #[.string ⟨bp.toArray⟩, .bool bx, .string ⟨bt.toArray⟩] 28)).alloc (.cells #[.string ⟨p.toArray⟩, .bool x, .string ⟨t.toArray⟩] 28) = y := ⟨_, rfl⟩
  have hB0 : Below w.heap.size w W := by rw [← hW]; exact ((Below.refl _ w).alloc (Nat.le_refl _) _).alloc (by simp) _
  have h1 : W.heap[w.heap.size]? = some (.cells #[.string ⟨bp.toArray⟩, .bool bx, .string ⟨bt.toArray⟩] 28 (0, 0)) := by
    rw [← hW]; exact (Below.heap_alloc _ _ _ (by simp)).trans (heap_alloc_new w _)
  have h2 : W.heap[w.heap.size + 1]? = some (.cells #[.string ⟨p.toArray⟩, .bool x, .string ⟨t.toArray⟩] 28 (0, 0)) := by
    rw [← hW]
    have h := heap_alloc_new (w.alloc (.cells #[.string ⟨bp.toArray⟩, .bool bx, .string ⟨bt.toArray⟩] 28)) (.cells #[.string ⟨p.toArray⟩, .bool x, .string ⟨t.toArray⟩] 28)
    rwa [show (w.alloc (.cells #[.string ⟨bp.toArray⟩, .bool bx, .string ⟨bt.toArray⟩] 28)).heap.size = w.heap.size + 1 by simp] at h
  have b0 := blk_cell (i := 0) h1 rfl
  have b1 := blk_cell (i := 1) h1 rfl
  have b2 := blk_cell (i := 2) h1 rfl
  have c0 := blk_cell (i := 0) h2 rfl
  have c1 := blk_cell (i := 1) h2 rfl
  have c2 := blk_cell (i := 2) h2 rfl
  have HW := hid (h.old hB0)
  have HB := hid (hB0.mono (Nat.le_of_lt h.lt))
  have HP := hid (fun wx hh => DPutM_any gk gm v0 v1 s p t x 3 wx hh hl hf hp)
  have hq := fun wx => file_neq p t bp bt x bx wx
  obtain ⟨z, hz⟩ : ∃ z, (((p, x, t) : FileS) == (bp, bx, bt)) = z := ⟨_, rfl⟩
  simp only [bne, hz] at hq
  have HZ := hid hz
  clear h hl hf hp hB0 h1 h2 hz
  unfold strV at HP
  cases z with
  | true =>
    have he : ((bp, bx, bt) : FileS) = (p, x, t) := (eq_of_beq HZ.out).symm
    have HE := hid (show oneW s (bp, bx, bt) (p, x, t) = s by unfold oneW; rw [if_pos he])
    rw [HE.out]
    clear he
    unfold fileV strV
    go_enter Tryz.func53, Tryz.ntmps53
    go_wp2_with fail
    try rw [hW]
    go_end0
    exact ⟨rfl, HW.out, HB.out⟩
  | false =>
    have he : ¬ ((bp, bx, bt) : FileS) = (p, x, t) := fun e => ne_of_beq_false HZ.out e.symm
    have HE := hid (show oneW s (bp, bx, bt) (p, x, t) = putW s (p, x, t) 3 by unfold oneW; rw [if_neg he])
    rw [HE.out]
    clear he
    unfold fileV strV
    go_enter Tryz.func53, Tryz.ntmps53
    go_wp2_with (go_at_call 51; refine (HP.out _ HW.out).mono ?_; rintro e w5 ⟨rfl, h5, h6⟩; have H5 := hid h5; have H6 := hid (HB.out.trans h6); clear h5 h6)
    go_end0
    exact ⟨rfl, H5.out, H6.out⟩
end
end Go.Proofs.YtbnafihigoekeaaGreatDoor
