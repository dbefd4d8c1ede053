/-
  Package chunk: copied, piece.
-/
import Derived.Test.YtgmopmlhggdefaaCkB
import Derived.Test.YtgmopmlhggdefaaCutS
import Derived.Test.YtgmopmlhggdefaaPckM
import Derived.Deep.RegionHeld3
import Derived.Laws.Tables
namespace Go.Proofs.Ytgmopmlhggdefaa
open Go.RowKit

/-- the four blocks that piece makes: its arguments' as they were, with what it makes last of all above -/
structure Live (w : World) (T F E : Array Value) (wx : World) : Prop where
  below : Below w.heap.size w wx
  big : w.heap.size + 1 + 1 + 1 < wx.heap.size
  t : wx.heap[w.heap.size]? = some (.cells T 42 (0, 0))
  f : wx.heap[w.heap.size + 1]? = some (.cells F 44 (0, 0))
  e : wx.heap[w.heap.size + 1 + 1]? = some (.cells E 44 (0, 0))
structure LiveZ (w : World) (T F E : Array Value) (wx : World) : Prop where
  live : Live w T F E wx
  z : wx.heap[w.heap.size + 1 + 1 + 1]? = some (.cells #[.int .i64 0, .slice none 0 0, .slice none 0 0, .slice none 0 0] 29 (0, 0))
theorem Live.set {w wx : World} {T F E : Array Value} (h : Live w T F E wx) (i : Nat) (u : Value) : Live w T F E (wx.setCell ⟨w.heap.size + 1 + 1 + 1, i, none⟩ u) :=
  ⟨h.below.setCell (by simp only; omega) _, by have := h.big; simp [World.setCell]; omega, (Below.heap_setCell _ _ _ _ (by simp only; omega)).trans h.t, (Below.heap_setCell _ _ _ _ (by simp only; omega)).trans h.f, (Below.heap_setCell _ _ _ _ (by simp only; omega)).trans h.e⟩
theorem LiveZ.step {w wx w' : World} {T F E : Array Value} (h : LiveZ w T F E wx) (k : Below wx.heap.size wx w') : LiveZ w T F E w' := by
  have hb := h.live.big
  exact ⟨⟨below_step h.live.below k h.live.below.size, Nat.lt_of_lt_of_le hb k.size, (k.block _ (by omega)).trans h.live.t, (k.block _ (by omega)).trans h.live.f, (k.block _ (by omega)).trans h.live.e⟩, (k.block _ hb).trans h.z⟩
theorem LiveZ.start (w : World) (T F E : Array Value) : LiveZ w T F E ((((w.alloc (.cells T 42)).alloc (.cells F 44)).alloc (.cells E 44)).alloc (.cells #[.int .i64 0, .slice none 0 0, .slice none 0 0, .slice none 0 0] 29)) := by
  have z1 : (w.alloc (.cells T 42)).heap.size = w.heap.size + 1 := by simp
  have z2 : ((w.alloc (.cells T 42)).alloc (.cells F 44)).heap.size = w.heap.size + 1 + 1 := by simp
  have z3 : (((w.alloc (.cells T 42)).alloc (.cells F 44)).alloc (.cells E 44)).heap.size = w.heap.size + 1 + 1 + 1 := by simp
  refine ⟨⟨((((Below.refl _ w).alloc (Nat.le_refl _) _).alloc (by omega) _).alloc (by omega) _).alloc (by omega) _, by simp, ?_, ?_, ?_⟩, ?_⟩
  · exact (Below.heap_alloc _ _ _ (by omega)).trans ((Below.heap_alloc _ _ _ (by omega)).trans ((Below.heap_alloc _ _ _ (by omega)).trans (heap_alloc_new _ _)))
  · exact (Below.heap_alloc _ _ _ (by omega)).trans ((Below.heap_alloc _ _ _ (by omega)).trans (z1 ▸ heap_alloc_new _ _))
  · exact (Below.heap_alloc _ _ _ (by omega)).trans (z2 ▸ heap_alloc_new _ _)
  · exact z3 ▸ heap_alloc_new _ _
theorem set4 {wx : World} {z : Nat} {c0 c1 c2 c3 : Value} {t : TypeId} (h : wx.heap[z]? = some (.cells #[c0, c1, c2, c3] t (0, 0))) (d0 d1 d2 d3 : Value) : ((((wx.setCell ⟨z, 0, none⟩ d0).setCell ⟨z, 1, none⟩ d1).setCell ⟨z, 2, none⟩ d2).setCell ⟨z, 3, none⟩ d3).heap[z]? = some (.cells #[d0, d1, d2, d3] t (0, 0)) := by
  have e1 := blk_set (i := 0) (u := d0) h
  have e2 := blk_set (i := 1) (u := d1) e1
  have e3 := blk_set (i := 2) (u := d2) e2
  exact blk_set (i := 3) (u := d3) e3
theorem set4_other (wx : World) (z : Nat) (d0 d1 d2 d3 : Value) (k : Nat) (hk : k ≠ z) : ((((wx.setCell ⟨z, 0, none⟩ d0).setCell ⟨z, 1, none⟩ d1).setCell ⟨z, 2, none⟩ d2).setCell ⟨z, 3, none⟩ d3).heap[k]? = wx.heap[k]? :=
  (Below.heap_setCell _ _ _ _ hk).trans ((Below.heap_setCell _ _ _ _ hk).trans ((Below.heap_setCell _ _ _ _ hk).trans (Below.heap_setCell _ _ _ _ hk)))
theorem owns_z {w w' : World} {base z : Nat} {v : Value} {n : Nat} {xs : List Value} {cs : Array Value} (h : w.ownsRow base 9 1 v n xs) (hz : w.heap[z]? = some (.cells cs 29 (0, 0))) (hk : ∀ k, k ≠ z → w'.heap[k]? = w.heap[k]?) : w'.ownsRow base 9 1 v n xs := by
  refine ⟨h.1, ?_⟩
  rcases h.2 with hn | ⟨g, cap, cur, rfl, r1, r2, r3⟩
  · exact .inl hn
  · refine .inr ⟨g, cap, cur, rfl, r1, (hk g fun e => ?_).trans r2, r3⟩
    rw [e, hz] at r2
    simp at r2
theorem piece_end {w wx : World} {T F E : Array Value} {A B C : List (List UInt8)} {ua ub uc : Value} (k : Value) (h : LiveZ w T F E wx) (ha : wx.ownsRow w.heap.size 9 1 ua A.length (strCells A)) (hb : wx.ownsRow w.heap.size 9 1 ub B.length (strCells B)) (hc : wx.ownsRow w.heap.size 9 1 uc C.length (strCells C)) :
    ((((wx.setCell ⟨w.heap.size + 1 + 1 + 1, 0, none⟩ k).setCell ⟨w.heap.size + 1 + 1 + 1, 1, none⟩ ua).setCell ⟨w.heap.size + 1 + 1 + 1, 2, none⟩ ub).setCell ⟨w.heap.size + 1 + 1 + 1, 3, none⟩ uc).heap[w.heap.size + 1 + 1 + 1]? = some (.cells #[k, ua, ub, uc] 29 (0, 0)) ∧
      Three ((((wx.setCell ⟨w.heap.size + 1 + 1 + 1, 0, none⟩ k).setCell ⟨w.heap.size + 1 + 1 + 1, 1, none⟩ ua).setCell ⟨w.heap.size + 1 + 1 + 1, 2, none⟩ ub).setCell ⟨w.heap.size + 1 + 1 + 1, 3, none⟩ uc) w.heap.size ua ub uc A B C ∧
      Below w.heap.size w ((((wx.setCell ⟨w.heap.size + 1 + 1 + 1, 0, none⟩ k).setCell ⟨w.heap.size + 1 + 1 + 1, 1, none⟩ ua).setCell ⟨w.heap.size + 1 + 1 + 1, 2, none⟩ ub).setCell ⟨w.heap.size + 1 + 1 + 1, 3, none⟩ uc) :=
  ⟨set4 h.z _ _ _ _, ⟨owns_z ha h.z (set4_other _ _ _ _ _ _), owns_z hb h.z (set4_other _ _ _ _ _ _), owns_z hc h.z (set4_other _ _ _ _ _ _)⟩, ((((h.live.set _ _).set _ _).set _ _).set _ _).below⟩
theorem owns_on {w w' : World} {base : Nat} {v : Value} {n : Nat} {xs : List Value} (h : w.ownsRow base 9 1 v n xs) (hk : Below w.heap.size w w') : w'.ownsRow base 9 1 v n xs := owns_kept h fun g _ hg => hk.block g hg
section
set_option maxRecDepth 100000
set_option maxHeartbeats 4000000
theorem DCopied_any (v : Value) (xs : List (List UInt8)) (w : World) (hv : Sl w v (strCells xs)) (hl : xs.length ≤ 1000000) :
    Calls Try.prog 37 #[v] w fun e w' => ∃ u, e = .returned u ∧ w'.ownsRow w.heap.size 9 1 u xs.length (strCells xs) ∧ Below w.heap.size w w' := by
  obtain ⟨ao, cap, rfl⟩ := hv.form
  rw [strCells_length] at hv ⊢
  have HV := hid hv
  clear hv
  go_enter Try.func37, Try.ntmps37
  go_wp2_with (refine wpList_append_ss rfl (.const (.slice none 0 0)) (.tmp 3) rfl w.heap.size _ [] xs rfl (World.ownsRow_nil _ _ _ _) _ rfl HV.out (by simp; omega) (Nat.le_refl _) ?_; intro u1 w1 p1 q1; rw [List.nil_append] at p1; have HP1 := hid p1; have HQ1 := hid q1; clear p1 q1)
  go_ret
  exact ⟨_, rfl, HP1.out, HQ1.out⟩
theorem DPiece_any (kind : Int) (va vb vc : Value) (a b c : List (List UInt8)) (f1 f2 f3 t1 t2 t3 : Nat) (w : World) (ha : Sl w va (strCells a)) (hb : Sl w vb (strCells b)) (hc : Sl w vc (strCells c)) (la : a.length ≤ 1000000) (lb : b.length ≤ 1000000) (lc : c.length ≤ 1000000)
    (h1 : f1 ≤ t1) (h1' : t1 ≤ a.length) (h2 : f2 ≤ t2) (h2' : t2 ≤ b.length) (h3 : f3 ≤ t3) (h3' : t3 ≤ c.length) :
    Calls Try.prog 27 #[.agg #[va, vb, vc], .int .i64 kind, .agg #[.int .i64 f1, .int .i64 f2, .int .i64 f3], .agg #[.int .i64 t1, .int .i64 t2, .int .i64 t3]] w fun e w' => ∃ ua ub uc, e = .returned (.agg #[.int .i64 kind, ua, ub, uc]) ∧ Three w' w.heap.size ua ub uc (cutL a f1 t1) (cutL b f2 t2) (cutL c f3 t3) ∧ Below w.heap.size w w' := by
  obtain ⟨xa, ya, ra, sa⟩ := cutS_mid ha f1 t1 h1 h1'
  obtain ⟨xb, yb, rb, sb⟩ := cutS_mid hb f2 t2 h2 h2'
  obtain ⟨xc, yc, rc, sc⟩ := cutS_mid hc f3 t3 h3 h3'
  have ka : (cutL a f1 t1).length = t1 - f1 := cutL_len h1 h1'
  have kb : (cutL b f2 t2).length = t2 - f2 := cutL_len h2 h2'
  have kc : (cutL c f3 t3).length = t3 - f3 := cutL_len h3 h3'
  have hla : (cutL a f1 t1).length ≤ 1000000 := by omega
  have hlb : (cutL b f2 t2).length ≤ 1000000 := by omega
  have hlc : (cutL c f3 t3).length ≤ 1000000 := by omega
  have HSA := hid (show Sl w (.slice xa (t1 - f1) ya) (strCells (cutL a f1 t1)) from sa)
  have HSB := hid (show Sl w (.slice xb (t2 - f2) yb) (strCells (cutL b f2 t2)) from sb)
  have HSC := hid (show Sl w (.slice xc (t3 - f3) yc) (strCells (cutL c f3 t3)) from sc)
  generalize cutL a f1 t1 = A at hla HSA ⊢
  generalize cutL b f2 t2 = B at hlb HSB ⊢
  generalize cutL c f3 t3 = C at hlc HSC ⊢
  generalize t1 - f1 = na at ra HSA
  generalize t2 - f2 = nb at rb HSB
  generalize t3 - f3 = nc at rc HSC
  have HLE := hid (And.intro hla (And.intro hlb hlc))
  clear sa sb sc ka kb kc hla hlb hlc ha hb hc la lb lc h1 h1' h2 h2' h3 h3'
  go_enter Try.func27, Try.ntmps27
  go_wp2_with fail
  have HV0 := LiveZ.start w #[va, vb, vc] #[.int .i64 f1, .int .i64 f2, .int .i64 f3] #[.int .i64 t1, .int .i64 t2, .int .i64 t3]
  have HCa := hid (show ∀ wx, LiveZ w #[va, vb, vc] #[.int .i64 f1, .int .i64 f2, .int .i64 f3] #[.int .i64 t1, .int .i64 t2, .int .i64 t3] wx → Calls Try.prog 37 #[.slice xa na ya] wx fun e w' => ∃ u, e = .returned u ∧ w'.ownsRow w.heap.size 9 1 u A.length (strCells A) ∧ Below wx.heap.size wx w' ∧ LiveZ w #[va, vb, vc] #[.int .i64 f1, .int .i64 f2, .int .i64 f3] #[.int .i64 t1, .int .i64 t2, .int .i64 t3] w' from fun wx hx => by
    refine (DCopied_any _ A wx (Sl.old HSA.out hx.live.below) HLE.out.1).mono ?_
    rintro e w' ⟨u, rfl, q1, q2⟩
    exact ⟨u, rfl, owns_low q1 hx.live.below.size, q2, hx.step q2⟩)
  have HCb := hid (show ∀ wx, LiveZ w #[va, vb, vc] #[.int .i64 f1, .int .i64 f2, .int .i64 f3] #[.int .i64 t1, .int .i64 t2, .int .i64 t3] wx → Calls Try.prog 37 #[.slice xb nb yb] wx fun e w' => ∃ u, e = .returned u ∧ w'.ownsRow w.heap.size 9 1 u B.length (strCells B) ∧ Below wx.heap.size wx w' ∧ LiveZ w #[va, vb, vc] #[.int .i64 f1, .int .i64 f2, .int .i64 f3] #[.int .i64 t1, .int .i64 t2, .int .i64 t3] w' from fun wx hx => by
    refine (DCopied_any _ B wx (Sl.old HSB.out hx.live.below) HLE.out.2.1).mono ?_
    rintro e w' ⟨u, rfl, q1, q2⟩
    exact ⟨u, rfl, owns_low q1 hx.live.below.size, q2, hx.step q2⟩)
  have HCc := hid (show ∀ wx, LiveZ w #[va, vb, vc] #[.int .i64 f1, .int .i64 f2, .int .i64 f3] #[.int .i64 t1, .int .i64 t2, .int .i64 t3] wx → Calls Try.prog 37 #[.slice xc nc yc] wx fun e w' => ∃ u, e = .returned u ∧ w'.ownsRow w.heap.size 9 1 u C.length (strCells C) ∧ Below wx.heap.size wx w' ∧ LiveZ w #[va, vb, vc] #[.int .i64 f1, .int .i64 f2, .int .i64 f3] #[.int .i64 t1, .int .i64 t2, .int .i64 t3] w' from fun wx hx => by
    refine (DCopied_any _ C wx (Sl.old HSC.out hx.live.below) HLE.out.2.2).mono ?_
    rintro e w' ⟨u, rfl, q1, q2⟩
    exact ⟨u, rfl, owns_low q1 hx.live.below.size, q2, hx.step q2⟩)
  have LS := hid (show ∀ wy, Live w #[va, vb, vc] #[.int .i64 f1, .int .i64 f2, .int .i64 f3] #[.int .i64 t1, .int .i64 t2, .int .i64 t3] wy → wy.cell? ⟨w.heap.size, 0, none⟩ = some va ∧ wy.cell? ⟨w.heap.size, 1, none⟩ = some vb ∧ wy.cell? ⟨w.heap.size, 2, none⟩ = some vc ∧ wy.cell? ⟨w.heap.size + 1, 0, none⟩ = some (.int .i64 f1) ∧ wy.cell? ⟨w.heap.size + 1, 1, none⟩ = some (.int .i64 f2) ∧ wy.cell? ⟨w.heap.size + 1, 2, none⟩ = some (.int .i64 f3) ∧ wy.cell? ⟨w.heap.size + 1 + 1, 0, none⟩ = some (.int .i64 t1) ∧ wy.cell? ⟨w.heap.size + 1 + 1, 1, none⟩ = some (.int .i64 t2) ∧ wy.cell? ⟨w.heap.size + 1 + 1, 2, none⟩ = some (.int .i64 t3) from fun wy h => ⟨blk_cell (i := 0) h.t rfl, blk_cell (i := 1) h.t rfl, blk_cell (i := 2) h.t rfl, blk_cell (i := 0) h.f rfl, blk_cell (i := 1) h.f rfl, blk_cell (i := 2) h.f rfl, blk_cell (i := 0) h.e rfl, blk_cell (i := 1) h.e rfl, blk_cell (i := 2) h.e rfl⟩)
  generalize (((w.alloc (.cells #[va, vb, vc] 42)).alloc (.cells #[.int .i64 f1, .int .i64 f2, .int .i64 f3] 44)).alloc (.cells #[.int .i64 t1, .int .i64 t2, .int .i64 t3] 44)).alloc (.cells #[.int .i64 0, .slice none 0 0, .slice none 0 0, .slice none 0 0] 29) = W0 at HV0 ⊢
  have HV1 := HV0.step (Below.drew (Below.refl _ W0))
  clear HV0
  go_region_held3 (fun wy => wy.cell? ⟨w.heap.size, 0, none⟩ = some va ∧ wy.cell? ⟨w.heap.size, 1, none⟩ = some vb ∧ wy.cell? ⟨w.heap.size, 2, none⟩ = some vc ∧ wy.cell? ⟨w.heap.size + 1, 0, none⟩ = some (.int .i64 f1) ∧ wy.cell? ⟨w.heap.size + 1, 1, none⟩ = some (.int .i64 f2) ∧ wy.cell? ⟨w.heap.size + 1, 2, none⟩ = some (.int .i64 f3) ∧ wy.cell? ⟨w.heap.size + 1 + 1, 0, none⟩ = some (.int .i64 t1) ∧ wy.cell? ⟨w.heap.size + 1 + 1, 1, none⟩ = some (.int .i64 t2) ∧ wy.cell? ⟨w.heap.size + 1 + 1, 2, none⟩ = some (.int .i64 t3)) (first | exact LS.out _ (LiveZ.live (by assumption)) | exact LS.out _ (((((LiveZ.live (by assumption)).set _ _).set _ _).set _ _).set _ _)) ((go_at_call 37; first
      | (with_reducible refine (HCa.out _ (by assumption)).mono ?_; rintro e wa ⟨ua, rfl, hOa, hba, hka⟩
         obtain ⟨pa, qa, rfl⟩ := owns_form hOa
         have HOa := hid hOa
         have HBa := hid hba
         have hz := hka.z
         have z0 := blk_cell (i := 0) hz rfl
         have z1 := blk_cell (i := 1) hz rfl
         have z2 := blk_cell (i := 2) hz rfl
         have z3 := blk_cell (i := 3) hz rfl
         have g0 := blk_free (i := 0) hz
         have g1 := blk_free (i := 1) hz
         have g2 := blk_free (i := 2) hz
         have g3 := blk_free (i := 3) hz
         clear hOa hba hz)
      | (with_reducible refine (HCb.out _ (by assumption)).mono ?_; rintro e wb ⟨ub, rfl, hOb, hbb, hkb⟩
         obtain ⟨pb, qb, rfl⟩ := owns_form hOb
         have HOb := hid hOb
         have HBb := hid hbb
         have hz := hkb.z
         have z0 := blk_cell (i := 0) hz rfl
         have z1 := blk_cell (i := 1) hz rfl
         have z2 := blk_cell (i := 2) hz rfl
         have z3 := blk_cell (i := 3) hz rfl
         have g0 := blk_free (i := 0) hz
         have g1 := blk_free (i := 1) hz
         have g2 := blk_free (i := 2) hz
         have g3 := blk_free (i := 3) hz
         clear hOb hbb hz)
      | (with_reducible refine (HCc.out _ (by assumption)).mono ?_; rintro e wc ⟨uc, rfl, hOc, hbc, hkc⟩
         obtain ⟨pc, qc, rfl⟩ := owns_form hOc
         have HOc := hid hOc
         have HBc := hid hbc
         have hz := hkc.z
         have z0 := blk_cell (i := 0) hz rfl
         have z1 := blk_cell (i := 1) hz rfl
         have z2 := blk_cell (i := 2) hz rfl
         have z3 := blk_cell (i := 3) hz rfl
         have g0 := blk_free (i := 0) hz
         have g1 := blk_free (i := 1) hz
         have g2 := blk_free (i := 2) hz
         have g3 := blk_free (i := 3) hz
         clear hOc hbc hz)))
  all_goals
    first
    | (have hfin := piece_end (.int .i64 kind) hkc (owns_on (owns_on HOa.out HBb.out) HBc.out) (owns_on HOb.out HBc.out) HOc.out
       have HFZ := hid hfin.1
       have HFT := hid hfin.2
       clear hfin)
    | (have hfin := piece_end (.int .i64 kind) hkb (owns_on (owns_on HOa.out HBc.out) HBb.out) HOb.out (owns_on HOc.out HBb.out)
       have HFZ := hid hfin.1
       have HFT := hid hfin.2
       clear hfin)
    | (have hfin := piece_end (.int .i64 kind) hkc (owns_on HOa.out HBc.out) (owns_on (owns_on HOb.out HBa.out) HBc.out) HOc.out
       have HFZ := hid hfin.1
       have HFT := hid hfin.2
       clear hfin)
    | (have hfin := piece_end (.int .i64 kind) hka HOa.out (owns_on (owns_on HOb.out HBc.out) HBa.out) (owns_on HOc.out HBa.out)
       have HFZ := hid hfin.1
       have HFT := hid hfin.2
       clear hfin)
    | (have hfin := piece_end (.int .i64 kind) hkb (owns_on HOa.out HBb.out) HOb.out (owns_on (owns_on HOc.out HBa.out) HBb.out)
       have HFZ := hid hfin.1
       have HFT := hid hfin.2
       clear hfin)
    | (have hfin := piece_end (.int .i64 kind) hka HOa.out (owns_on HOb.out HBa.out) (owns_on (owns_on HOc.out HBb.out) HBa.out)
       have HFZ := hid hfin.1
       have HFT := hid hfin.2
       clear hfin)
    go_wp2_with fail
    exact bodyPost_ret (results_cell_row rfl _ _ (w.heap.size + 1 + 1 + 1) 29 _ (0, 0) _ rfl HFZ.out Try.underlying29 rfl Try.sizeCk) rfl ⟨_, _, _, rfl, HFT.out.1, HFT.out.2⟩
end
end Go.Proofs.Ytgmopmlhggdefaa
