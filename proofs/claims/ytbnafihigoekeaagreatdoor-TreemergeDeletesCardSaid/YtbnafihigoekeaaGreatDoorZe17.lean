/-
  TmDe, part 17.
-/
import Derived.Test.YtbnafihigoekeaaGreatDoorZe13
import Derived.Test.YtbnafihigoekeaaGreatDoorZe8
import Derived.Test.YtbnafihigoekeaaGreatDoorZe15
import Derived.Deep.RegionHeld3
import Derived.Laws.Tables
import Derived.Test.YtbnafihigoekeaaGreatDoorZe1
import Derived.Test.YtbnafihigoekeaaGreatDoorZe3
import Derived.Deep.QuietTactic
import Derived.Deep.DrawnRows
import Derived.Test.YtbnafihigoekeaaGreatDoorZe14
import Derived.Test.YtbnafihigoekeaaGreatDoorZe2
import Derived.Test.YtbnafihigoekeaaGreatDoorZe7
import Derived.Deep.DeepCutAuto
import Derived.Deep.CutBlock
import Derived.Deep.LoopGhost
namespace Go.Proofs.YtbnafihigoekeaaGreatDoor
open Go.RowKit
structure Live (w : World) (T F E : Array Value) (wx : World) : Prop where
  below : Below w.heap.size w wx
  big : w.heap.size + 1 + 1 + 1 < wx.heap.size
  t : wx.heap[w.heap.size]? = some (.cells T 162 (0, 0))
  f : wx.heap[w.heap.size + 1]? = some (.cells F 164 (0, 0))
  e : wx.heap[w.heap.size + 1 + 1]? = some (.cells E 164 (0, 0))
structure LiveZ (w : World) (T F E : Array Value) (wx : World) : Prop where
  live : Live w T F E wx
  z : wx.heap[w.heap.size + 1 + 1 + 1]? = some (.cells #[.int .i64 0, .slice none 0 0, .slice none 0 0, .slice none 0 0] 104 (0, 0))
theorem Live.set {w wx : World} {T F E : Array Value} (h : Live w T F E wx) (i : Nat) (u : Value) : Live w T F E (wx.setCell ⟨w.heap.size + 1 + 1 + 1, i, none⟩ u) :=
  ⟨h.below.setCell (by simp only; omega) _, by have := h.big; simp [World.setCell]; omega, (Below.heap_setCell _ _ _ _ (by simp only; omega)).trans h.t, (Below.heap_setCell _ _ _ _ (by simp only; omega)).trans h.f, (Below.heap_setCell _ _ _ _ (by simp only; omega)).trans h.e⟩
theorem LiveZ.step {w wx w' : World} {T F E : Array Value} (h : LiveZ w T F E wx) (k : Below wx.heap.size wx w') : LiveZ w T F E w' := by
  have hb := h.live.big
  exact ⟨⟨below_step h.live.below k h.live.below.size, Nat.lt_of_lt_of_le hb k.size, (k.block _ (by omega)).trans h.live.t, (k.block _ (by omega)).trans h.live.f, (k.block _ (by omega)).trans h.live.e⟩, (k.block _ hb).trans h.z⟩
theorem LiveZ.start (w : World) (T F E : Array Value) : LiveZ w T F E ((((w.alloc (.cells T 162)).alloc (.cells F 164)).alloc (.cells E 164)).alloc (.cells #[.int .i64 0, .slice none 0 0, .slice none 0 0, .slice none 0 0] 104)) := by
  have z1 : (w.alloc (.cells T 162)).heap.size = w.heap.size + 1 := by simp
  have z2 : ((w.alloc (.cells T 162)).alloc (.cells F 164)).heap.size = w.heap.size + 1 + 1 := by simp
  have z3 : (((w.alloc (.cells T 162)).alloc (.cells F 164)).alloc (.cells E 164)).heap.size = w.heap.size + 1 + 1 + 1 := by simp
  refine ⟨⟨((((Below.refl _ w).alloc (Nat.le_refl _) _).alloc (by omega) _).alloc (by omega) _).alloc (by omega) _, by simp, ?_, ?_, ?_⟩, ?_⟩
  · exact (Below.heap_alloc _ _ _ (by omega)).trans ((Below.heap_alloc _ _ _ (by omega)).trans ((Below.heap_alloc _ _ _ (by omega)).trans (heap_alloc_new _ _)))
  · exact (Below.heap_alloc _ _ _ (by omega)).trans ((Below.heap_alloc _ _ _ (by omega)).trans (z1 ▸ heap_alloc_new _ _))
  · exact (Below.heap_alloc _ _ _ (by omega)).trans (z2 ▸ heap_alloc_new _ _)
  · exact z3 ▸ heap_alloc_new _ _
theorem set4 {wx : World} {z : Nat} {c0 c1 c2 c3 : Value} {t : TypeId} (h : wx.heap[z]? = some (.cells #[c0, c1, c2, c3] t (0, 0))) (d0 d1 d2 d3 : Value) : ((((wx.setCell ⟨z, 0, none⟩ d0).setCell ⟨z, 1, none⟩ d1).setCell ⟨z, 2, none⟩ d2).setCell ⟨z, 3, none⟩ d3).heap[z]? = some (.cells #[d0, d1, d2, d3] t (0, 0)) := by
  have e1 := blk_set (i := 0) (u := d0) h
  have e2 := blk_set (i := 1) (u := d1) e1
  have e3 := blk_set (i := 2) (u := d2) e2
  exact blk_set (i := 3) (u := d3) e3
theorem set4_other (wx : World) (z : Nat) (d0 d1 d2 d3 : Value) (k : Nat) (hk : k ≠ z) : ((((wx.setCell ⟨z, 0, none⟩ d0).setCell ⟨z, 1, none⟩ d1).setCell ⟨z, 2, none⟩ d2).setCell ⟨z, 3, none⟩ d3).heap[k]? = wx.heap[k]? :=
  (Below.heap_setCell _ _ _ _ hk).trans ((Below.heap_setCell _ _ _ _ hk).trans ((Below.heap_setCell _ _ _ _ hk).trans (Below.heap_setCell _ _ _ _ hk)))
theorem owns_z {w w' : World} {base z : Nat} {v : Value} {n : Nat} {xs : List Value} {cs : Array Value} (h : w.ownsRow base 9 1 v n xs) (hz : w.heap[z]? = some (.cells cs 104 (0, 0))) (hk : ∀ k, k ≠ z → w'.heap[k]? = w.heap[k]?) : w'.ownsRow base 9 1 v n xs := by
  refine ⟨h.1, ?_⟩
  rcases h.2 with hn | ⟨g, cap, cur, rfl, r1, r2, r3⟩
  · exact .inl hn
  · refine .inr ⟨g, cap, cur, rfl, r1, (hk g fun e => ?_).trans r2, r3⟩
    rw [e, hz] at r2
    simp at r2
theorem piece_end {w wx : World} {T F E : Array Value} {A B C : List (List UInt8)} {ua ub uc : Value} (k : Value) (h : LiveZ w T F E wx) (ha : wx.ownsRow w.heap.size 9 1 ua A.length (strCells A)) (hb : wx.ownsRow w.heap.size 9 1 ub B.length (strCells B)) (hc : wx.ownsRow w.heap.size 9 1 uc C.length (strCells C)) :
    ((((wx.setCell ⟨w.heap.size + 1 + 1 + 1, 0, none⟩ k).setCell ⟨w.heap.size + 1 + 1 + 1, 1, none⟩ ua).setCell ⟨w.heap.size + 1 + 1 + 1, 2, none⟩ ub).setCell ⟨w.heap.size + 1 + 1 + 1, 3, none⟩ uc).heap[w.heap.size + 1 + 1 + 1]? = some (.cells #[k, ua, ub, uc] 104 (0, 0)) ∧
      Three ((((wx.setCell ⟨w.heap.size + 1 + 1 + 1, 0, none⟩ k).setCell ⟨w.heap.size + 1 + 1 + 1, 1, none⟩ ua).setCell ⟨w.heap.size + 1 + 1 + 1, 2, none⟩ ub).setCell ⟨w.heap.size + 1 + 1 + 1, 3, none⟩ uc) w.heap.size ua ub uc A B C ∧
      Below w.heap.size w ((((wx.setCell ⟨w.heap.size + 1 + 1 + 1, 0, none⟩ k).setCell ⟨w.heap.size + 1 + 1 + 1, 1, none⟩ ua).setCell ⟨w.heap.size + 1 + 1 + 1, 2, none⟩ ub).setCell ⟨w.heap.size + 1 + 1 + 1, 3, none⟩ uc) :=
  ⟨set4 h.z _ _ _ _, ⟨owns_z ha h.z (set4_other _ _ _ _ _ _), owns_z hb h.z (set4_other _ _ _ _ _ _), owns_z hc h.z (set4_other _ _ _ _ _ _)⟩, ((((h.live.set _ _).set _ _).set _ _).set _ _).below⟩
theorem owns_on {w w' : World} {base : Nat} {v : Value} {n : Nat} {xs : List Value} (h : w.ownsRow base 9 1 v n xs) (hk : Below w.heap.size w w') : w'.ownsRow base 9 1 v n xs := owns_kept h fun g _ hg => hk.block g hg
section
set_option maxRecDepth 100000
set_option maxHeartbeats 4000000
theorem DCopied_any (v : Value) (xs : List (List UInt8)) (w : World) (hv : Sl w v (strCells xs)) (hl : xs.length ≤ 1000000) :
    Calls Tryz.prog 150 #[v] w fun e w' => ∃ u, e = .returned u ∧ w'.ownsRow w.heap.size 9 1 u xs.length (strCells xs) ∧ Below w.heap.size w w' := by
  obtain ⟨ao, cap, rfl⟩ := hv.form
  rw [strCells_length] at hv ⊢
  have HV := hid hv
  clear hv
  go_enter Tryz.func150, Tryz.ntmps150
  go_wp2_with (refine wpList_append_ss rfl (.const (.slice none 0 0)) (.tmp 3) rfl w.heap.size _ [] xs rfl (World.ownsRow_nil _ _ _ _) _ rfl HV.out (by simp; omega) (Nat.le_refl _) ?_; intro u1 w1 p1 q1; rw [List.nil_append] at p1; have HP1 := hid p1; have HQ1 := hid q1; clear p1 q1)
  go_ret
  exact ⟨_, rfl, HP1.out, HQ1.out⟩
theorem DPiece_any (kind : Int) (va vb vc : Value) (a b c : List (List UInt8)) (f1 f2 f3 t1 t2 t3 : Nat) (w : World) (ha : Sl w va (strCells a)) (hb : Sl w vb (strCells b)) (hc : Sl w vc (strCells c)) (la : a.length ≤ 1000000) (lb : b.length ≤ 1000000) (lc : c.length ≤ 1000000)
    (h1 : f1 ≤ t1) (h1' : t1 ≤ a.length) (h2 : f2 ≤ t2) (h2' : t2 ≤ b.length) (h3 : f3 ≤ t3) (h3' : t3 ≤ c.length) :
    Calls Tryz.prog 124 #[.agg #[va, vb, vc], .int .i64 kind, .agg #[.int .i64 f1, .int .i64 f2, .int .i64 f3], .agg #[.int .i64 t1, .int .i64 t2, .int .i64 t3]] w fun e w' => ∃ ua ub uc, e = .returned (.agg #[.int .i64 kind, ua, ub, uc]) ∧ Three w' w.heap.size ua ub uc (cutL a f1 t1) (cutL b f2 t2) (cutL c f3 t3) ∧ Below w.heap.size w w' := by
  obtain ⟨xa, ya, ra, sa⟩ := cutS_mid ha f1 t1 h1 h1'
  obtain ⟨xb, yb, rb, sb⟩ := cutS_mid hb f2 t2 h2 h2'
  obtain ⟨xc, yc, rc, sc⟩ := cutS_mid hc f3 t3 h3 h3'
  have ka : (cutL a f1 t1).length = t1 - f1 := cutL_len h1 h1'
  have kb : (cutL b f2 t2).length = t2 - f2 := cutL_len h2 h2'
  have kc : (cutL c f3 t3).length = t3 - f3 := cutL_len h3 h3'
  have hla : (cutL a f1 t1).length ≤ 1000000 := by omega
  have hlb : (cutL b f2 t2).length ≤ 1000000 := by omega
  have hlc : (cutL c f3 t3).length ≤ 1000000 := by omega
  have HSA := hid (show Sl w (.slice xa (t1 - f1) ya) (strCells (cutL a f1 t1)) from sa)
  have HSB := hid (show Sl w (.slice xb (t2 - f2) yb) (strCells (cutL b f2 t2)) from sb)
  have HSC := hid (show Sl w (.slice xc (t3 - f3) yc) (strCells (cutL c f3 t3)) from sc)
  generalize cutL a f1 t1 = A at hla HSA ⊢
  generalize cutL b f2 t2 = B at hlb HSB ⊢
  generalize cutL c f3 t3 = C at hlc HSC ⊢
  generalize t1 - f1 = na at ra HSA
  generalize t2 - f2 = nb at rb HSB
  generalize t3 - f3 = nc at rc HSC
  have HLE := hid (And.intro hla (And.intro hlb hlc))
  clear sa sb sc ka kb kc hla hlb hlc ha hb hc la lb lc h1 h1' h2 h2' h3 h3'
  go_enter Tryz.func124, Tryz.ntmps124
  go_wp2_with fail
  have HV0 := LiveZ.start w #[va, vb, vc] #[.int .i64 f1, .int .i64 f2, .int .i64 f3] #[.int .i64 t1, .int .i64 t2, .int .i64 t3]
  have HCa := hid (show ∀ wx, LiveZ w #[va, vb, vc] #[.int .i64 f1, .int .i64 f2, .int .i64 f3] #[.int .i64 t1, .int .i64 t2, .int .i64 t3] wx → Calls Tryz.prog 150 #[.slice xa na ya] wx fun e w' => ∃ u, e = .returned u ∧ w'.ownsRow w.heap.size 9 1 u A.length (strCells A) ∧ Below wx.heap.size wx w' ∧ LiveZ w #[va, vb, vc] #[.int .i64 f1, .int .i64 f2, .int .i64 f3] #[.int .i64 t1, .int .i64 t2, .int .i64 t3] w' from fun wx hx => by
    refine (DCopied_any _ A wx (Sl.old HSA.out hx.live.below) HLE.out.1).mono ?_
    rintro e w' ⟨u, rfl, q1, q2⟩
    exact ⟨u, rfl, owns_low q1 hx.live.below.size, q2, hx.step q2⟩)
  have HCb := hid (show ∀ wx, LiveZ w #[va, vb, vc] #[.int .i64 f1, .int .i64 f2, .int .i64 f3] #[.int .i64 t1, .int .i64 t2, .int .i64 t3] wx → Calls Tryz.prog 150 #[.slice xb nb yb] wx fun e w' => ∃ u, e = .returned u ∧ w'.ownsRow w.heap.size 9 1 u B.length (strCells B) ∧ Below wx.heap.size wx w' ∧ LiveZ w #[va, vb, vc] #[.int .i64 f1, .int .i64 f2, .int .i64 f3] #[.int .i64 t1, .int .i64 t2, .int .i64 t3] w' from fun wx hx => by
    refine (DCopied_any _ B wx (Sl.old HSB.out hx.live.below) HLE.out.2.1).mono ?_
    rintro e w' ⟨u, rfl, q1, q2⟩
    exact ⟨u, rfl, owns_low q1 hx.live.below.size, q2, hx.step q2⟩)
  have HCc := hid (show ∀ wx, LiveZ w #[va, vb, vc] #[.int .i64 f1, .int .i64 f2, .int .i64 f3] #[.int .i64 t1, .int .i64 t2, .int .i64 t3] wx → Calls Tryz.prog 150 #[.slice xc nc yc] wx fun e w' => ∃ u, e = .returned u ∧ w'.ownsRow w.heap.size 9 1 u C.length (strCells C) ∧ Below wx.heap.size wx w' ∧ LiveZ w #[va, vb, vc] #[.int .i64 f1, .int .i64 f2, .int .i64 f3] #[.int .i64 t1, .int .i64 t2, .int .i64 t3] w' from fun wx hx => by
    refine (DCopied_any _ C wx (Sl.old HSC.out hx.live.below) HLE.out.2.2).mono ?_
    rintro e w' ⟨u, rfl, q1, q2⟩
    exact ⟨u, rfl, owns_low q1 hx.live.below.size, q2, hx.step q2⟩)
  have LS := hid (show ∀ wy, Live w #[va, vb, vc] #[.int .i64 f1, .int .i64 f2, .int .i64 f3] #[.int .i64 t1, .int .i64 t2, .int .i64 t3] wy → wy.cell? ⟨w.heap.size, 0, none⟩ = some va ∧ wy.cell? ⟨w.heap.size, 1, none⟩ = some vb ∧ wy.cell? ⟨w.heap.size, 2, none⟩ = some vc ∧ wy.cell? ⟨w.heap.size + 1, 0, none⟩ = some (.int .i64 f1) ∧ wy.cell? ⟨w.heap.size + 1, 1, none⟩ = some (.int .i64 f2) ∧ wy.cell? ⟨w.heap.size + 1, 2, none⟩ = some (.int .i64 f3) ∧ wy.cell? ⟨w.heap.size + 1 + 1, 0, none⟩ = some (.int .i64 t1) ∧ wy.cell? ⟨w.heap.size + 1 + 1, 1, none⟩ = some (.int .i64 t2) ∧ wy.cell? ⟨w.heap.size + 1 + 1, 2, none⟩ = some (.int .i64 t3) from fun wy h => ⟨blk_cell (i := 0) h.t rfl, blk_cell (i := 1) h.t rfl, blk_cell (i := 2) h.t rfl, blk_cell (i := 0) h.f rfl, blk_cell (i := 1) h.f rfl, blk_cell (i := 2) h.f rfl, blk_cell (i := 0) h.e rfl, blk_cell (i := 1) h.e rfl, blk_cell (i := 2) h.e rfl⟩)
  generalize (((w.alloc (.cells #[va, vb, vc] 162)).alloc (.cells #[.int .i64 f1, .int .i64 f2, .int .i64 f3] 164)).alloc (.cells #[.int .i64 t1, .int .i64 t2, .int .i64 t3] 164)).alloc (.cells #[.int .i64 0, .slice none 0 0, .slice none 0 0, .slice none 0 0] 104) = W0 at HV0 ⊢
  have HV1 := HV0.step (Below.drew (Below.refl _ W0))
  clear HV0
  go_region_held3 (fun wy => wy.cell? ⟨w.heap.size, 0, none⟩ = some va ∧ wy.cell? ⟨w.heap.size, 1, none⟩ = some vb ∧ wy.cell? ⟨w.heap.size, 2, none⟩ = some vc ∧ wy.cell? ⟨w.heap.size + 1, 0, none⟩ = some (.int .i64 f1) ∧ wy.cell? ⟨w.heap.size + 1, 1, none⟩ = some (.int .i64 f2) ∧ wy.cell? ⟨w.heap.size + 1, 2, none⟩ = some (.int .i64 f3) ∧ wy.cell? ⟨w.heap.size + 1 + 1, 0, none⟩ = some (.int .i64 t1) ∧ wy.cell? ⟨w.heap.size + 1 + 1, 1, none⟩ = some (.int .i64 t2) ∧ wy.cell? ⟨w.heap.size + 1 + 1, 2, none⟩ = some (.int .i64 t3)) (first | exact LS.out _ (LiveZ.live (by assumption)) | exact LS.out _ (((((LiveZ.live (by assumption)).set _ _).set _ _).set _ _).set _ _)) ((go_at_call 150; first
      | (with_reducible refine (HCa.out _ (by assumption)).mono ?_; rintro e wa ⟨ua, rfl, hOa, hba, hka⟩
         obtain ⟨pa, qa, rfl⟩ := owns_form hOa
         have HOa := hid hOa
         have HBa := hid hba
         have hz := hka.z
         have z0 := blk_cell (i := 0) hz rfl
         have z1 := blk_cell (i := 1) hz rfl
         have z2 := blk_cell (i := 2) hz rfl
         have z3 := blk_cell (i := 3) hz rfl
         have g0 := blk_free (i := 0) hz
         have g1 := blk_free (i := 1) hz
         have g2 := blk_free (i := 2) hz
         have g3 := blk_free (i := 3) hz
         clear hOa hba hz)
      | (with_reducible refine (HCb.out _ (by assumption)).mono ?_; rintro e wb ⟨ub, rfl, hOb, hbb, hkb⟩
         obtain ⟨pb, qb, rfl⟩ := owns_form hOb
         have HOb := hid hOb
         have HBb := hid hbb
         have hz := hkb.z
         have z0 := blk_cell (i := 0) hz rfl
         have z1 := blk_cell (i := 1) hz rfl
         have z2 := blk_cell (i := 2) hz rfl
         have z3 := blk_cell (i := 3) hz rfl
         have g0 := blk_free (i := 0) hz
         have g1 := blk_free (i := 1) hz
         have g2 := blk_free (i := 2) hz
         have g3 := blk_free (i := 3) hz
         clear hOb hbb hz)
      | (with_reducible refine (HCc.out _ (by assumption)).mono ?_; rintro e wc ⟨uc, rfl, hOc, hbc, hkc⟩
         obtain ⟨pc, qc, rfl⟩ := owns_form hOc
         have HOc := hid hOc
         have HBc := hid hbc
         have hz := hkc.z
         have z0 := blk_cell (i := 0) hz rfl
         have z1 := blk_cell (i := 1) hz rfl
         have z2 := blk_cell (i := 2) hz rfl
         have z3 := blk_cell (i := 3) hz rfl
         have g0 := blk_free (i := 0) hz
         have g1 := blk_free (i := 1) hz
         have g2 := blk_free (i := 2) hz
         have g3 := blk_free (i := 3) hz
         clear hOc hbc hz)))
  all_goals
    first
    | (have hfin := piece_end (.int .i64 kind) hkc (owns_on (owns_on HOa.out HBb.out) HBc.out) (owns_on HOb.out HBc.out) HOc.out
       have HFZ := hid hfin.1
       have HFT := hid hfin.2
       clear hfin)
    | (have hfin := piece_end (.int .i64 kind) hkb (owns_on (owns_on HOa.out HBc.out) HBb.out) HOb.out (owns_on HOc.out HBb.out)
       have HFZ := hid hfin.1
       have HFT := hid hfin.2
       clear hfin)
    | (have hfin := piece_end (.int .i64 kind) hkc (owns_on HOa.out HBc.out) (owns_on (owns_on HOb.out HBa.out) HBc.out) HOc.out
       have HFZ := hid hfin.1
       have HFT := hid hfin.2
       clear hfin)
    | (have hfin := piece_end (.int .i64 kind) hka HOa.out (owns_on (owns_on HOb.out HBc.out) HBa.out) (owns_on HOc.out HBa.out)
       have HFZ := hid hfin.1
       have HFT := hid hfin.2
       clear hfin)
    | (have hfin := piece_end (.int .i64 kind) hkb (owns_on HOa.out HBb.out) HOb.out (owns_on (owns_on HOc.out HBa.out) HBb.out)
       have HFZ := hid hfin.1
       have HFT := hid hfin.2
       clear hfin)
    | (have hfin := piece_end (.int .i64 kind) hka HOa.out (owns_on HOb.out HBa.out) (owns_on (owns_on HOc.out HBb.out) HBa.out)
       have HFZ := hid hfin.1
       have HFT := hid hfin.2
       clear hfin)
    go_wp2_with fail
    exact bodyPost_ret (results_cell_row rfl _ _ (w.heap.size + 1 + 1 + 1) 104 _ (0, 0) _ rfl HFZ.out Tryz.underlying104 rfl Tryz.sizeCk) rfl ⟨_, _, _, rfl, HFT.out.1, HFT.out.2⟩
end
end Go.Proofs.YtbnafihigoekeaaGreatDoor
namespace Go.Proofs.YtbnafihigoekeaaGreatDoor
open Go.RowKit
section
set_option maxRecDepth 100000
set_option maxHeartbeats 2000000
theorem SEqualL_any (a b : Value) (x y : List (List UInt8)) (w : World) (ha : Sl w a (strCells x)) (hb : Sl w b (strCells y)) (hx : x.length ≤ maxLen) :
    Calls Tryz.prog 149 #[a, b] w fun e w' => e = .returned (.bool (x == y)) ∧ ∃ m, w' = w.drewN m := by
  obtain ⟨aa, ca, rfl⟩ := ha.form
  obtain ⟨ab, cb, rfl⟩ := hb.form
  rw [strCells_length] at ha hb ⊢
  rw [strCells_length]
  unfold maxLen at hx
  by_cases hl : x.length = y.length
  · have hne : (x.length != y.length) = false := by simp [hl]
    have hne' : ((x.length : Int) != (y.length : Int)) = false := by simp [hl]
    have HL := hid hl
    clear hl
    go_enter Tryz.func149, Tryz.ntmps149
    go_wp2
    go_loopw [13] (fun i wr => ∃ k : Nat, k ≤ x.length ∧ i = .int .i64 k ∧ x.take k = y.take k ∧ ∃ q, wr = w.drewN q) (fun i _ => x.length - (intOf i).toNat)
    case atStart => exact ⟨0, Nat.zero_le _, rfl, rfl, 0, rfl⟩
    case round =>
      obtain ⟨k, hk, rfl, heq, q, rfl⟩ := hrel
      by_cases hlt : k < x.length
      · obtain ⟨a1, b1, rfl, hc1, hb1⟩ := ha.strAt' (i := k) hlt
        obtain ⟨a2, b2, rfl, hc2, hb2⟩ := hb.strAt' (i := k) (by rw [← HL.out]; exact hlt)
        have hlt2 : k < y.length := by rw [← HL.out]; exact hlt
        have i0 : (0 : Int) ≤ (k : Int) := Int.natCast_nonneg _
        have i1 : (k : Int) < (x.length : Int) := by omega
        have i2 : (k : Int) < (y.length : Int) := by omega
        by_cases he : b1 = b2
        · subst he
          have hbe : (b1 == b1) = true := by simp
          have HEQ := hid (show x.take (k + 1) = y.take (k + 1) by rw [take_snoc hb1, take_snoc hb2, heq])
          clear hb1 hb2 heq
          go_wp2_with fail
          go_quiet (fail)
          go_wp2
          go_roundw
          case rel => exact ⟨k + 1, by omega, by go_num, HEQ.out, _, rfl⟩
          case measure => simp [intOf]; omega
        · have hbe : (b1 == b2) = false := by simpa using he
          have hxy := hid (show (x == y) = false by
            simp
            rintro rfl
            rw [hb1] at hb2
            exact he (by simpa using hb2))
          clear hb1 hb2 heq he
          go_wp2_with fail
          go_quiet (fail)
          go_wp2
          go_ret
          rw [hxy.out]
          exact ⟨rfl, _, World.drewN_drewN _ _ _⟩
      · obtain rfl : k = x.length := by omega
        have hxy := hid (show (x == y) = true by
          rw [List.take_length, HL.out, List.take_length] at heq
          simpa using heq)
        clear heq
        go_wp2
        go_ret
        rw [hxy.out]
        exact ⟨rfl, _, rfl⟩
  · have hne : (x.length != y.length) = true := by simpa using hl
    have hne' : ((x.length : Int) != (y.length : Int)) = true := by simp; omega
    have hxy := hid (show (x == y) = false by
      simp
      rintro rfl
      exact hl rfl)
    clear hl
    go_enter Tryz.func149, Tryz.ntmps149
    go_wp2
    go_ret
    rw [hxy.out]
    exact ⟨rfl, 0, rfl⟩
end
end Go.Proofs.YtbnafihigoekeaaGreatDoor
namespace Go.Proofs.YtbnafihigoekeaaGreatDoor
open Go.RowKit
def Chg (w : World) (g z : Nat) (k : Value) (ua ub uc : Value) (A B C : List (List UInt8)) (wx : World) : Prop :=
  wx.heap[g]? = some (.cells #[k, ua, ub, uc] 104 (0, 0)) ∧ wx.heap[z]? = some (.cells #[.int .i64 0, .slice none 0 0, .slice none 0 0, .slice none 0 0] 104 (0, 0)) ∧
    (Three wx w.heap.size ua ub uc A B C ∧ Below w.heap.size w wx ∧ w.heap.size ≤ z ∧ w.heap.size ≤ g ∧ g ≠ z)
theorem Chg.drew {w wx : World} {g z : Nat} {k ua ub uc : Value} {A B C : List (List UInt8)} (h : Chg w g z k ua ub uc A B C wx) (n : Nat) : Chg w g z k ua ub uc A B C (wx.drewN n) :=
  ⟨h.1, h.2.1, ⟨h.2.2.1.1, h.2.2.1.2.1, h.2.2.1.2.2⟩, h.2.2.2.1.trans ⟨rfl, rfl, rfl, Nat.le_refl _, fun _ _ => rfl⟩, h.2.2.2.2⟩
theorem owns_not {w : World} {base g : Nat} {v : Value} {n : Nat} {xs : List Value} {cs : Array Value} (h : w.ownsRow base 9 1 v n xs) (hg : v.ownBlock = some g) (hz : w.heap[g]? = some (.cells cs 104 (0, 0))) : False := by
  rcases h.2 with ⟨rfl, _⟩ | ⟨g', cap, cur, rfl, r1, r2, r3⟩
  · cases hg
  · cases hg
    simp only [r2] at hz
    simp at hz
theorem three_z {w w' : World} {base z : Nat} {ua ub uc : Value} {A B C : List (List UInt8)} {cs : Array Value} (h : Three w base ua ub uc A B C) (hz : w.heap[z]? = some (.cells cs 104 (0, 0))) (hk : ∀ k, k < w.heap.size → k ≠ z → w'.heap[k]? = w.heap[k]?) : Three w' base ua ub uc A B C :=
  ⟨owns_kept h.1 fun g hg hl => hk g hl fun e => by subst e; exact owns_not h.1 hg hz, owns_kept h.2.1 fun g hg hl => hk g hl fun e => by subst e; exact owns_not h.2.1 hg hz, owns_kept h.2.2 fun g hg hl => hk g hl fun e => by subst e; exact owns_not h.2.2 hg hz⟩
theorem Chg.set {w wx : World} {g z : Nat} {k ua ub uc : Value} {A B C : List (List UInt8)} (h : Chg w g z k ua ub uc A B C wx) (u : Value) : Chg w g z u ua ub uc A B C (wx.setCell ⟨g, 0, none⟩ u) :=
  ⟨blk_set (i := 0) (u := u) h.1, (Below.heap_setCell _ _ _ _ (Ne.symm h.2.2.2.2.2.2)).trans h.2.1, three_z h.2.2.1 h.1 fun _ _ hk => Below.heap_setCell _ _ _ _ hk, h.2.2.2.1.setCell h.2.2.2.2.2.1 _, h.2.2.2.2⟩
theorem Chg.fin {w wx w' : World} {g z : Nat} {k ua ub uc : Value} {A B C : List (List UInt8)} (h : Chg w g z k ua ub uc A B C wx) (hk : Keep (· = z) wx w') : Three w' w.heap.size ua ub uc A B C ∧ Below w.heap.size w w' :=
  ⟨three_z h.2.2.1 h.2.1 fun k hl hne => hk.block k hl hne, h.2.2.2.1.trans (hk.below (Nat.le_trans (Nat.le_refl _) h.2.2.2.1.size) (fun j hj e => by have := h.2.2.2.2.1; omega))⟩
section
set_option maxRecDepth 100000
set_option maxHeartbeats 4000000
theorem DChanged_any (va vb vc : Value) (a b c : List (List UInt8)) (f1 f2 f3 t1 t2 t3 : Nat) (w : World) (ha : Sl w va (strCells a)) (hb : Sl w vb (strCells b)) (hc : Sl w vc (strCells c)) (la : a.length ≤ 1000000) (lb : b.length ≤ 1000000) (lc : c.length ≤ 1000000)
    (h1 : f1 ≤ t1) (h1' : t1 ≤ a.length) (h2 : f2 ≤ t2) (h2' : t2 ≤ b.length) (h3 : f3 ≤ t3) (h3' : t3 ≤ c.length) :
    Calls Tryz.prog 123 #[.agg #[va, vb, vc], .agg #[.int .i64 f1, .int .i64 f2, .int .i64 f3], .agg #[.int .i64 t1, .int .i64 t2, .int .i64 t3]] w fun e w' => ∃ ua ub uc, e = .returned (.agg #[.int .i64 (kindOf (cutL a f1 t1) (cutL b f2 t2) (cutL c f3 t3)), ua, ub, uc]) ∧ Three w' w.heap.size ua ub uc (cutL a f1 t1) (cutL b f2 t2) (cutL c f3 t3) ∧ Below w.heap.size w w' := by
  have hla : (cutL a f1 t1).length ≤ 1000000 := by rw [cutL_len h1 h1']; omega
  have hlb : (cutL b f2 t2).length ≤ 1000000 := by rw [cutL_len h2 h2']; omega
  have hlc : (cutL c f3 t3).length ≤ 1000000 := by rw [cutL_len h3 h3']; omega
  have HV0 := LiveZ.start w #[va, vb, vc] #[.int .i64 f1, .int .i64 f2, .int .i64 f3] #[.int .i64 t1, .int .i64 t2, .int .i64 t3]
  have HP := hid (DPiece_any 5 va vb vc a b c f1 f2 f3 t1 t2 t3 _ (Sl.old ha HV0.live.below) (Sl.old hb HV0.live.below) (Sl.old hc HV0.live.below) la lb lc h1 h1' h2 h2' h3 h3')
  generalize cutL a f1 t1 = A at hla HP ⊢
  generalize cutL b f2 t2 = B at hlb HP ⊢
  generalize cutL c f3 t3 = C at hlc HP ⊢
  have HLE := hid (And.intro hla (And.intro hlb hlc))
  have HVZ := hid HV0
  have kt0 := blk_cell (i := 0) HV0.live.t rfl
  have kt1 := blk_cell (i := 1) HV0.live.t rfl
  have kt2 := blk_cell (i := 2) HV0.live.t rfl
  have kf0 := blk_cell (i := 0) HV0.live.f rfl
  have kf1 := blk_cell (i := 1) HV0.live.f rfl
  have kf2 := blk_cell (i := 2) HV0.live.f rfl
  have ke0 := blk_cell (i := 0) HV0.live.e rfl
  have ke1 := blk_cell (i := 1) HV0.live.e rfl
  have ke2 := blk_cell (i := 2) HV0.live.e rfl
  clear hla hlb hlc ha hb hc la lb lc h1 h1' h2 h2' h3 h3' HV0
  go_enter Tryz.func123, Tryz.ntmps123
  go_wp2_with (first
    | (go_at_call 124; refine HP.out.mono ?_; rintro e w3 ⟨ua, ub, uc, rfl, hT3, hb3⟩
       obtain ⟨xa, ya, rfl⟩ := owns_form hT3.1
       obtain ⟨xb, yb, rfl⟩ := owns_form hT3.2.1
       obtain ⟨xc, yc, rfl⟩ := owns_form hT3.2.2
       have HT3 := hid hT3
       have HV3 := hid (HVZ.out.step hb3)
       have g4 := heap_alloc_new w3 (.cells #[.int .i64 5, .slice xa A.length ya, .slice xb B.length yb, .slice xc C.length yc] 104)
       have l0 := blk_cell (i := 0) g4 rfl
       have l1 := blk_cell (i := 1) g4 rfl
       have l2 := blk_cell (i := 2) g4 rfl
       have l3 := blk_cell (i := 3) g4 rfl
       have hz3 := HV3.out.live.big
       have HC4 := hid (show Chg w w3.heap.size (w.heap.size + 1 + 1 + 1) (.int .i64 5) (.slice xa A.length ya) (.slice xb B.length yb) (.slice xc C.length yc) A B C (w3.alloc (.cells #[.int .i64 5, .slice xa A.length ya, .slice xb B.length yb, .slice xc C.length yc] 104)) from
         ⟨g4, (Below.heap_alloc w3 _ _ hz3).trans HV3.out.z, ⟨World.ownsRow.alloc (owns_low hT3.1 HVZ.out.live.below.size) _, World.ownsRow.alloc (owns_low hT3.2.1 HVZ.out.live.below.size) _, World.ownsRow.alloc (owns_low hT3.2.2 HVZ.out.live.below.size) _⟩, HV3.out.live.below.alloc HV3.out.live.below.size _, by omega, by omega, by omega⟩)
       clear hT3 hb3 hz3 g4))
  have HLB := hid (Sl.ofOwns HC4.out.2.2.1.2.1)
  have HLA := hid (Sl.ofOwns HC4.out.2.2.1.1)
  have HLC := hid (Sl.ofOwns HC4.out.2.2.1.2.2)
  generalize w3.alloc (.cells #[.int .i64 5, .slice xa A.length ya, .slice xb B.length yb, .slice xc C.length yc] 104) = W4 at l0 l1 l2 l3 HC4 HLB HLA HLC ⊢
  refine (SEqualL_any _ _ B A _ HLB.out HLA.out (by have := HLE.out; unfold maxLen; omega)).mono ?_
  rintro e w5 ⟨rfl, m, rfl⟩
  by_cases e1 : B = A
  · have HKD := hid (show kindOf A B C = 3 by rw [kindOf, if_pos e1])
    have d1 : (B == A) = true := by simpa using e1
    rw [d1]
    have H5 := hid (Chg.drew HC4.out m)
    clear e1 l0 l1 l2 l3
    generalize W4.drewN m = W5 at H5 ⊢
    have c5 := blk_cell (i := 0) H5.out.1 rfl
    have f5 := blk_free (i := 0) H5.out.1
    have g6 := blk_set (i := 0) (u := .int .i64 3) H5.out.1
    have HC6 := hid (Chg.set H5.out (.int .i64 3))
    have l0 := blk_cell (i := 0) g6 (v := .int .i64 3) rfl
    have l1 := blk_cell (i := 1) g6 (v := .slice xa A.length ya) rfl
    have l2 := blk_cell (i := 2) g6 (v := .slice xb B.length yb) rfl
    have l3 := blk_cell (i := 3) g6 (v := .slice xc C.length yc) rfl
    clear g6
    go_wp2_with (refine wpList_store_whole rfl 104 _ _ rfl (w.heap.size + 1 + 1 + 1) #[.int .i64 3, .slice xa A.length ya, .slice xb B.length yb, .slice xc C.length yc] rfl rfl _ _ HC6.out.2.1 4 Tryz.sizeCk rfl rfl (by simp [Value.oneCell']) ?_; intro w9 hg9 hk9)
    obtain ⟨HT9, HB9⟩ := HC6.out.fin hk9
    exact bodyPost_ret (results_cell_row rfl _ _ (w.heap.size + 1 + 1 + 1) 104 _ (0, 0) _ rfl hg9 Tryz.underlying104 rfl Tryz.sizeCk) rfl ⟨_, _, _, by rw [HKD.out], HT9, HB9⟩
  have d1 : (B == A) = false := by simpa using e1
  rw [d1]
  go_wp2_with fail
  refine (SEqualL_any _ _ C A _ (Sl.old HLC.out (below_drewN _ _)) (Sl.old HLA.out (below_drewN _ _)) (by have := HLE.out; unfold maxLen; omega)).mono ?_
  rintro e w5 ⟨rfl, m1, rfl⟩
  rw [World.drewN_drewN]
  by_cases e2 : C = A
  · have HKD := hid (show kindOf A B C = 2 by rw [kindOf, if_neg e1, if_pos e2])
    have d2 : (C == A) = true := by simpa using e2
    rw [d2]
    have H5 := hid (Chg.drew HC4.out (m + m1))
    clear e1 e2 l0 l1 l2 l3
    generalize W4.drewN (m + m1) = W5 at H5 ⊢
    have c5 := blk_cell (i := 0) H5.out.1 rfl
    have f5 := blk_free (i := 0) H5.out.1
    have g6 := blk_set (i := 0) (u := .int .i64 2) H5.out.1
    have HC6 := hid (Chg.set H5.out (.int .i64 2))
    have l0 := blk_cell (i := 0) g6 (v := .int .i64 2) rfl
    have l1 := blk_cell (i := 1) g6 (v := .slice xa A.length ya) rfl
    have l2 := blk_cell (i := 2) g6 (v := .slice xb B.length yb) rfl
    have l3 := blk_cell (i := 3) g6 (v := .slice xc C.length yc) rfl
    clear g6
    go_wp2_with (refine wpList_store_whole rfl 104 _ _ rfl (w.heap.size + 1 + 1 + 1) #[.int .i64 2, .slice xa A.length ya, .slice xb B.length yb, .slice xc C.length yc] rfl rfl _ _ HC6.out.2.1 4 Tryz.sizeCk rfl rfl (by simp [Value.oneCell']) ?_; intro w9 hg9 hk9)
    obtain ⟨HT9, HB9⟩ := HC6.out.fin hk9
    exact bodyPost_ret (results_cell_row rfl _ _ (w.heap.size + 1 + 1 + 1) 104 _ (0, 0) _ rfl hg9 Tryz.underlying104 rfl Tryz.sizeCk) rfl ⟨_, _, _, by rw [HKD.out], HT9, HB9⟩
  have d2 : (C == A) = false := by simpa using e2
  rw [d2]
  go_wp2_with fail
  refine (SEqualL_any _ _ B C _ (Sl.old HLB.out (below_drewN _ _)) (Sl.old HLC.out (below_drewN _ _)) (by have := HLE.out; unfold maxLen; omega)).mono ?_
  rintro e w5 ⟨rfl, m2, rfl⟩
  rw [World.drewN_drewN]
  have H5 := hid (Chg.drew HC4.out (m + m1 + m2))
  by_cases e3 : B = C
  · have HKD := hid (show kindOf A B C = 4 by rw [kindOf, if_neg e1, if_neg e2, if_pos e3])
    have d3 : (B == C) = true := by simpa using e3
    rw [d3]
    clear e1 e2 e3 l0 l1 l2 l3
    generalize W4.drewN (m + m1 + m2) = W5 at H5 ⊢
    have c5 := blk_cell (i := 0) H5.out.1 rfl
    have f5 := blk_free (i := 0) H5.out.1
    have g6 := blk_set (i := 0) (u := .int .i64 4) H5.out.1
    have HC6 := hid (Chg.set H5.out (.int .i64 4))
    have l0 := blk_cell (i := 0) g6 (v := .int .i64 4) rfl
    have l1 := blk_cell (i := 1) g6 (v := .slice xa A.length ya) rfl
    have l2 := blk_cell (i := 2) g6 (v := .slice xb B.length yb) rfl
    have l3 := blk_cell (i := 3) g6 (v := .slice xc C.length yc) rfl
    clear g6
    go_wp2_with (refine wpList_store_whole rfl 104 _ _ rfl (w.heap.size + 1 + 1 + 1) #[.int .i64 4, .slice xa A.length ya, .slice xb B.length yb, .slice xc C.length yc] rfl rfl _ _ HC6.out.2.1 4 Tryz.sizeCk rfl rfl (by simp [Value.oneCell']) ?_; intro w9 hg9 hk9)
    obtain ⟨HT9, HB9⟩ := HC6.out.fin hk9
    exact bodyPost_ret (results_cell_row rfl _ _ (w.heap.size + 1 + 1 + 1) 104 _ (0, 0) _ rfl hg9 Tryz.underlying104 rfl Tryz.sizeCk) rfl ⟨_, _, _, by rw [HKD.out], HT9, HB9⟩
  have HKD := hid (show kindOf A B C = 5 by rw [kindOf, if_neg e1, if_neg e2, if_neg e3])
  have d3 : (B == C) = false := by simpa using e3
  rw [d3]
  clear e1 e2 e3 l0 l1 l2 l3
  generalize W4.drewN (m + m1 + m2) = W5 at H5 ⊢
  have HC6 := H5
  have l0 := blk_cell (i := 0) H5.out.1 (v := .int .i64 5) rfl
  have l1 := blk_cell (i := 1) H5.out.1 (v := .slice xa A.length ya) rfl
  have l2 := blk_cell (i := 2) H5.out.1 (v := .slice xb B.length yb) rfl
  have l3 := blk_cell (i := 3) H5.out.1 (v := .slice xc C.length yc) rfl
  go_wp2_with (refine wpList_store_whole rfl 104 _ _ rfl (w.heap.size + 1 + 1 + 1) #[.int .i64 5, .slice xa A.length ya, .slice xb B.length yb, .slice xc C.length yc] rfl rfl _ _ HC6.out.2.1 4 Tryz.sizeCk rfl rfl (by simp [Value.oneCell']) ?_; intro w9 hg9 hk9)
  obtain ⟨HT9, HB9⟩ := HC6.out.fin hk9
  exact bodyPost_ret (results_cell_row rfl _ _ (w.heap.size + 1 + 1 + 1) 104 _ (0, 0) _ rfl hg9 Tryz.underlying104 rfl Tryz.sizeCk) rfl ⟨_, _, _, by rw [HKD.out], HT9, HB9⟩
end
end Go.Proofs.YtbnafihigoekeaaGreatDoor
namespace Go.Proofs.YtbnafihigoekeaaGreatDoor
open Go.RowKit
section
set_option maxRecDepth 100000
set_option maxHeartbeats 4000000
theorem DClean_any (v : Value) (cs : List CkS) (w : World) (hv : SlC w v cs) (hl : cs.length ≤ 4000000) :
    Calls Tryz.prog 95 #[v] w fun e w' => e = .returned (.bool (cleanS cs)) ∧ Below w.heap.size w w' := by
  obtain ⟨ao, cap, rfl⟩ := hv.form
  have HV := hid hv
  clear hv
  go_enter Tryz.func95, Tryz.ntmps95
  go_wp2_with fail
  go_loopg [7] cs.length (fun g i wr => ∃ k : Nat, k ≤ cs.length ∧ cs.length - k = g ∧ i = .int .i64 k ∧ Hid (cleanS cs = cleanS (cs.drop k)) ∧ Below w.heap.size w wr)
  case atStart => exact ⟨0, Nat.zero_le _, rfl, rfl, hid rfl, Below.refl _ _⟩
  case round =>
    obtain ⟨k, hk, rfl, rfl, HC, hbel⟩ := hrel
    have hz := hbel.size
    have k0 : (0 : Int) ≤ (k : Int) := Int.natCast_nonneg _
    by_cases hlt : k < cs.length
    · have k1 : (k : Int) < (cs.length : Int) := by omega
      have kw : IntKind.i64.wrap ((k : Int) + 1) = (k : Int) + 1 := IntWalk.i64_in _ (by omega)
      obtain ⟨b, o, z, xb, xo, xt, vb, vo, vt, rfl, c1, c2, c3, c4, s1, s2, s3, he⟩ := (HV.out.old hbel).at' (i := k) hlt
      have hd : cs.drop k = (z, xb, xo, xt) :: cs.drop (k + 1) := by
        obtain ⟨q, e⟩ := List.getElem?_eq_some_iff.1 he
        rw [List.drop_eq_getElem_cons q, e]
      have HN := hid (show cleanS cs = (z != 5 && cleanS (cs.drop (k + 1))) by rw [HC.out, hd]; rfl)
      have HBA := hid (fun o : Obj => hbel.alloc hz o)
      obtain ⟨_, _, rfl⟩ := s1.form
      obtain ⟨_, _, rfl⟩ := s2.form
      obtain ⟨_, _, rfl⟩ := s3.form
      clear s1 s2 s3 he hd HC
      by_cases h5 : z = 5
      · subst h5
        go_wp2_with fail
        go_ret
        exact ⟨by rw [HN.out]; rfl, HBA.out _⟩
      · have hb : (z == 5) = false := by simpa using h5
        have HN2 := hid (show cleanS cs = cleanS (cs.drop (k + 1)) by rw [HN.out, bne, hb]; rfl)
        clear h5 HN
        go_wp2_with fail
        go_roundg (cs.length - (k + 1))
        case measure => omega
        case rel => exact ⟨k + 1, by omega, rfl, rfl, HN2, HBA.out _⟩
    · obtain rfl : k = cs.length := by omega
      have hneg : ¬ (cs.length : Int) < (cs.length : Int) := by omega
      have HN := hid (show cleanS cs = true by rw [HC.out, List.drop_length]; rfl)
      go_wp2_with fail
      go_ret
      exact ⟨by rw [HN.out]; rfl, hbel⟩
end
end Go.Proofs.YtbnafihigoekeaaGreatDoor
