/-
  Package chunk: changed.
-/
import Derived.Test.YtgmopmlhggdefaaPckP
import Derived.Test.YtgmopmlhggdefaaSeq
namespace Go.Proofs.Ytgmopmlhggdefaa
open Go.RowKit

/-- what stands when the kinds are asked: the chunk in block g, the result's block, what is the call's own -/
def Chg (w : World) (g z : Nat) (k : Value) (ua ub uc : Value) (A B C : List (List UInt8)) (wx : World) : Prop :=
  wx.heap[g]? = some (.cells #[k, ua, ub, uc] 29 (0, 0)) ∧ wx.heap[z]? = some (.cells #[.int .i64 0, .slice none 0 0, .slice none 0 0, .slice none 0 0] 29 (0, 0)) ∧
    (Three wx w.heap.size ua ub uc A B C ∧ Below w.heap.size w wx ∧ w.heap.size ≤ z ∧ w.heap.size ≤ g ∧ g ≠ z)
theorem Chg.drew {w wx : World} {g z : Nat} {k ua ub uc : Value} {A B C : List (List UInt8)} (h : Chg w g z k ua ub uc A B C wx) (n : Nat) : Chg w g z k ua ub uc A B C (wx.drewN n) :=
  ⟨h.1, h.2.1, ⟨h.2.2.1.1, h.2.2.1.2.1, h.2.2.1.2.2⟩, h.2.2.2.1.trans ⟨rfl, rfl, rfl, Nat.le_refl _, fun _ _ => rfl⟩, h.2.2.2.2⟩
theorem owns_not {w : World} {base g : Nat} {v : Value} {n : Nat} {xs : List Value} {cs : Array Value} (h : w.ownsRow base 9 1 v n xs) (hg : v.ownBlock = some g) (hz : w.heap[g]? = some (.cells cs 29 (0, 0))) : False := by
  rcases h.2 with ⟨rfl, _⟩ | ⟨g', cap, cur, rfl, r1, r2, r3⟩
  · cases hg
  · cases hg
    simp only [r2] at hz
    simp at hz
theorem three_z {w w' : World} {base z : Nat} {ua ub uc : Value} {A B C : List (List UInt8)} {cs : Array Value} (h : Three w base ua ub uc A B C) (hz : w.heap[z]? = some (.cells cs 29 (0, 0))) (hk : ∀ k, k < w.heap.size → k ≠ z → w'.heap[k]? = w.heap[k]?) : Three w' base ua ub uc A B C :=
  ⟨owns_kept h.1 fun g hg hl => hk g hl fun e => by subst e; exact owns_not h.1 hg hz, owns_kept h.2.1 fun g hg hl => hk g hl fun e => by subst e; exact owns_not h.2.1 hg hz, owns_kept h.2.2 fun g hg hl => hk g hl fun e => by subst e; exact owns_not h.2.2 hg hz⟩
theorem Chg.set {w wx : World} {g z : Nat} {k ua ub uc : Value} {A B C : List (List UInt8)} (h : Chg w g z k ua ub uc A B C wx) (u : Value) : Chg w g z u ua ub uc A B C (wx.setCell ⟨g, 0, none⟩ u) :=
  ⟨blk_set (i := 0) (u := u) h.1, (Below.heap_setCell _ _ _ _ (Ne.symm h.2.2.2.2.2.2)).trans h.2.1, three_z h.2.2.1 h.1 fun _ _ hk => Below.heap_setCell _ _ _ _ hk, h.2.2.2.1.setCell h.2.2.2.2.2.1 _, h.2.2.2.2⟩
theorem Chg.fin {w wx w' : World} {g z : Nat} {k ua ub uc : Value} {A B C : List (List UInt8)} (h : Chg w g z k ua ub uc A B C wx) (hk : Keep (· = z) wx w') : Three w' w.heap.size ua ub uc A B C ∧ Below w.heap.size w w' :=
  ⟨three_z h.2.2.1 h.2.1 fun k hl hne => hk.block k hl hne, h.2.2.2.1.trans (hk.below (Nat.le_trans (Nat.le_refl _) h.2.2.2.1.size) (fun j hj e => by have := h.2.2.2.2.1; omega))⟩
section
set_option maxRecDepth 100000
set_option maxHeartbeats 4000000
theorem DChanged_any (va vb vc : Value) (a b c : List (List UInt8)) (f1 f2 f3 t1 t2 t3 : Nat) (w : World) (ha : Sl w va (strCells a)) (hb : Sl w vb (strCells b)) (hc : Sl w vc (strCells c)) (la : a.length ≤ 1000000) (lb : b.length ≤ 1000000) (lc : c.length ≤ 1000000)
    (h1 : f1 ≤ t1) (h1' : t1 ≤ a.length) (h2 : f2 ≤ t2) (h2' : t2 ≤ b.length) (h3 : f3 ≤ t3) (h3' : t3 ≤ c.length) :
    Calls Try.prog 26 #[.agg #[va, vb, vc], .agg #[.int .i64 f1, .int .i64 f2, .int .i64 f3], .agg #[.int .i64 t1, .int .i64 t2, .int .i64 t3]] w fun e w' => ∃ ua ub uc, e = .returned (.agg #[.int .i64 (kindOf (cutL a f1 t1) (cutL b f2 t2) (cutL c f3 t3)), ua, ub, uc]) ∧ Three w' w.heap.size ua ub uc (cutL a f1 t1) (cutL b f2 t2) (cutL c f3 t3) ∧ Below w.heap.size w w' := by
  have hla : (cutL a f1 t1).length ≤ 1000000 := by rw [cutL_len h1 h1']; omega
  have hlb : (cutL b f2 t2).length ≤ 1000000 := by rw [cutL_len h2 h2']; omega
  have hlc : (cutL c f3 t3).length ≤ 1000000 := by rw [cutL_len h3 h3']; omega
  have HV0 := LiveZ.start w #[va, vb, vc] #[.int .i64 f1, .int .i64 f2, .int .i64 f3] #[.int .i64 t1, .int .i64 t2, .int .i64 t3]
  have HP := hid (DPiece_any 5 va vb vc a b c f1 f2 f3 t1 t2 t3 _ (Sl.old ha HV0.live.below) (Sl.old hb HV0.live.below) (Sl.old hc HV0.live.below) la lb lc h1 h1' h2 h2' h3 h3')
  generalize cutL a f1 t1 = A at hla HP ⊢
  generalize cutL b f2 t2 = B at hlb HP ⊢
  generalize cutL c f3 t3 = C at hlc HP ⊢
  have HLE := hid (And.intro hla (And.intro hlb hlc))
  have HVZ := hid HV0
  have kt0 := blk_cell (i := 0) HV0.live.t rfl
  have kt1 := blk_cell (i := 1) HV0.live.t rfl
  have kt2 := blk_cell (i := 2) HV0.live.t rfl
  have kf0 := blk_cell (i := 0) HV0.live.f rfl
  have kf1 := blk_cell (i := 1) HV0.live.f rfl
  have kf2 := blk_cell (i := 2) HV0.live.f rfl
  have ke0 := blk_cell (i := 0) HV0.live.e rfl
  have ke1 := blk_cell (i := 1) HV0.live.e rfl
  have ke2 := blk_cell (i := 2) HV0.live.e rfl
  clear hla hlb hlc ha hb hc la lb lc h1 h1' h2 h2' h3 h3' HV0
  go_enter Try.func26, Try.ntmps26
  go_wp2_with (first
    | (go_at_call 27; refine HP.out.mono ?_; rintro e w3 ⟨ua, ub, uc, rfl, hT3, hb3⟩
       obtain ⟨xa, ya, rfl⟩ := owns_form hT3.1
       obtain ⟨xb, yb, rfl⟩ := owns_form hT3.2.1
       obtain ⟨xc, yc, rfl⟩ := owns_form hT3.2.2
       have HT3 := hid hT3
       have HV3 := hid (HVZ.out.step hb3)
       have g4 := heap_alloc_new w3 (.cells #[.int .i64 5, .slice xa A.length ya, .slice xb B.length yb, .slice xc C.length yc] 29)
       have l0 := blk_cell (i := 0) g4 rfl
       have l1 := blk_cell (i := 1) g4 rfl
       have l2 := blk_cell (i := 2) g4 rfl
       have l3 := blk_cell (i := 3) g4 rfl
       have hz3 := HV3.out.live.big
       have HC4 := hid (show Chg w w3.heap.size (w.heap.size + 1 + 1 + 1) (.int .i64 5) (.slice xa A.length ya) (.slice xb B.length yb) (.slice xc C.length yc) A B C (w3.alloc (.cells #[.int .i64 5, .slice xa A.length ya, .slice xb B.length yb, .slice xc C.length yc] 29)) from
         ⟨g4, (Below.heap_alloc w3 _ _ hz3).trans HV3.out.z, ⟨World.ownsRow.alloc (owns_low hT3.1 HVZ.out.live.below.size) _, World.ownsRow.alloc (owns_low hT3.2.1 HVZ.out.live.below.size) _, World.ownsRow.alloc (owns_low hT3.2.2 HVZ.out.live.below.size) _⟩, HV3.out.live.below.alloc HV3.out.live.below.size _, by omega, by omega, by omega⟩)
       clear hT3 hb3 hz3 g4))
  have HLB := hid (Sl.ofOwns HC4.out.2.2.1.2.1)
  have HLA := hid (Sl.ofOwns HC4.out.2.2.1.1)
  have HLC := hid (Sl.ofOwns HC4.out.2.2.1.2.2)
  generalize w3.alloc (.cells #[.int .i64 5, .slice xa A.length ya, .slice xb B.length yb, .slice xc C.length yc] 29) = W4 at l0 l1 l2 l3 HC4 HLB HLA HLC ⊢
  refine (SEqualL_any _ _ B A _ HLB.out HLA.out (by have := HLE.out; unfold maxLen; omega)).mono ?_
  rintro e w5 ⟨rfl, m, rfl⟩
  by_cases e1 : B = A
  · have HKD := hid (show kindOf A B C = 3 by rw [kindOf, if_pos e1])
    have d1 : (B == A) = true := by simpa using e1
    rw [d1]
    have H5 := hid (Chg.drew HC4.out m)
    clear e1 l0 l1 l2 l3
    generalize W4.drewN m = W5 at H5 ⊢
    have c5 := blk_cell (i := 0) H5.out.1 rfl
    have f5 := blk_free (i := 0) H5.out.1
    have g6 := blk_set (i := 0) (u := .int .i64 3) H5.out.1
    have HC6 := hid (Chg.set H5.out (.int .i64 3))
    have l0 := blk_cell (i := 0) g6 (v := .int .i64 3) rfl
    have l1 := blk_cell (i := 1) g6 (v := .slice xa A.length ya) rfl
    have l2 := blk_cell (i := 2) g6 (v := .slice xb B.length yb) rfl
    have l3 := blk_cell (i := 3) g6 (v := .slice xc C.length yc) rfl
    clear g6
    go_wp2_with (refine wpList_store_whole rfl 29 _ _ rfl (w.heap.size + 1 + 1 + 1) #[.int .i64 3, .slice xa A.length ya, .slice xb B.length yb, .slice xc C.length yc] rfl rfl _ _ HC6.out.2.1 4 Try.sizeCk rfl rfl (by simp [Value.oneCell']) ?_; intro w9 hg9 hk9)
    obtain ⟨HT9, HB9⟩ := HC6.out.fin hk9
    exact bodyPost_ret (results_cell_row rfl _ _ (w.heap.size + 1 + 1 + 1) 29 _ (0, 0) _ rfl hg9 Try.underlying29 rfl Try.sizeCk) rfl ⟨_, _, _, by rw [HKD.out], HT9, HB9⟩
  have d1 : (B == A) = false := by simpa using e1
  rw [d1]
  go_wp2_with fail
  refine (SEqualL_any _ _ C A _ (Sl.old HLC.out (below_drewN _ _)) (Sl.old HLA.out (below_drewN _ _)) (by have := HLE.out; unfold maxLen; omega)).mono ?_
  rintro e w5 ⟨rfl, m1, rfl⟩
  rw [World.drewN_drewN]
  by_cases e2 : C = A
  · have HKD := hid (show kindOf A B C = 2 by rw [kindOf, if_neg e1, if_pos e2])
    have d2 : (C == A) = true := by simpa using e2
    rw [d2]
    have H5 := hid (Chg.drew HC4.out (m + m1))
    clear e1 e2 l0 l1 l2 l3
    generalize W4.drewN (m + m1) = W5 at H5 ⊢
    have c5 := blk_cell (i := 0) H5.out.1 rfl
    have f5 := blk_free (i := 0) H5.out.1
    have g6 := blk_set (i := 0) (u := .int .i64 2) H5.out.1
    have HC6 := hid (Chg.set H5.out (.int .i64 2))
    have l0 := blk_cell (i := 0) g6 (v := .int .i64 2) rfl
    have l1 := blk_cell (i := 1) g6 (v := .slice xa A.length ya) rfl
    have l2 := blk_cell (i := 2) g6 (v := .slice xb B.length yb) rfl
    have l3 := blk_cell (i := 3) g6 (v := .slice xc C.length yc) rfl
    clear g6
    go_wp2_with (refine wpList_store_whole rfl 29 _ _ rfl (w.heap.size + 1 + 1 + 1) #[.int .i64 2, .slice xa A.length ya, .slice xb B.length yb, .slice xc C.length yc] rfl rfl _ _ HC6.out.2.1 4 Try.sizeCk rfl rfl (by simp [Value.oneCell']) ?_; intro w9 hg9 hk9)
    obtain ⟨HT9, HB9⟩ := HC6.out.fin hk9
    exact bodyPost_ret (results_cell_row rfl _ _ (w.heap.size + 1 + 1 + 1) 29 _ (0, 0) _ rfl hg9 Try.underlying29 rfl Try.sizeCk) rfl ⟨_, _, _, by rw [HKD.out], HT9, HB9⟩
  have d2 : (C == A) = false := by simpa using e2
  rw [d2]
  go_wp2_with fail
  refine (SEqualL_any _ _ B C _ (Sl.old HLB.out (below_drewN _ _)) (Sl.old HLC.out (below_drewN _ _)) (by have := HLE.out; unfold maxLen; omega)).mono ?_
  rintro e w5 ⟨rfl, m2, rfl⟩
  rw [World.drewN_drewN]
  have H5 := hid (Chg.drew HC4.out (m + m1 + m2))
  by_cases e3 : B = C
  · have HKD := hid (show kindOf A B C = 4 by rw [kindOf, if_neg e1, if_neg e2, if_pos e3])
    have d3 : (B == C) = true := by simpa using e3
    rw [d3]
    clear e1 e2 e3 l0 l1 l2 l3
    generalize W4.drewN (m + m1 + m2) = W5 at H5 ⊢
    have c5 := blk_cell (i := 0) H5.out.1 rfl
    have f5 := blk_free (i := 0) H5.out.1
    have g6 := blk_set (i := 0) (u := .int .i64 4) H5.out.1
    have HC6 := hid (Chg.set H5.out (.int .i64 4))
    have l0 := blk_cell (i := 0) g6 (v := .int .i64 4) rfl
    have l1 := blk_cell (i := 1) g6 (v := .slice xa A.length ya) rfl
    have l2 := blk_cell (i := 2) g6 (v := .slice xb B.length yb) rfl
    have l3 := blk_cell (i := 3) g6 (v := .slice xc C.length yc) rfl
    clear g6
    go_wp2_with (refine wpList_store_whole rfl 29 _ _ rfl (w.heap.size + 1 + 1 + 1) #[.int .i64 4, .slice xa A.length ya, .slice xb B.length yb, .slice xc C.length yc] rfl rfl _ _ HC6.out.2.1 4 Try.sizeCk rfl rfl (by simp [Value.oneCell']) ?_; intro w9 hg9 hk9)
    obtain ⟨HT9, HB9⟩ := HC6.out.fin hk9
    exact bodyPost_ret (results_cell_row rfl _ _ (w.heap.size + 1 + 1 + 1) 29 _ (0, 0) _ rfl hg9 Try.underlying29 rfl Try.sizeCk) rfl ⟨_, _, _, by rw [HKD.out], HT9, HB9⟩
  have HKD := hid (show kindOf A B C = 5 by rw [kindOf, if_neg e1, if_neg e2, if_neg e3])
  have d3 : (B == C) = false := by simpa using e3
  rw [d3]
  clear e1 e2 e3 l0 l1 l2 l3
  generalize W4.drewN (m + m1 + m2) = W5 at H5 ⊢
  have HC6 := H5
  have l0 := blk_cell (i := 0) H5.out.1 (v := .int .i64 5) rfl
  have l1 := blk_cell (i := 1) H5.out.1 (v := .slice xa A.length ya) rfl
  have l2 := blk_cell (i := 2) H5.out.1 (v := .slice xb B.length yb) rfl
  have l3 := blk_cell (i := 3) H5.out.1 (v := .slice xc C.length yc) rfl
  go_wp2_with (refine wpList_store_whole rfl 29 _ _ rfl (w.heap.size + 1 + 1 + 1) #[.int .i64 5, .slice xa A.length ya, .slice xb B.length yb, .slice xc C.length yc] rfl rfl _ _ HC6.out.2.1 4 Try.sizeCk rfl rfl (by simp [Value.oneCell']) ?_; intro w9 hg9 hk9)
  obtain ⟨HT9, HB9⟩ := HC6.out.fin hk9
  exact bodyPost_ret (results_cell_row rfl _ _ (w.heap.size + 1 + 1 + 1) 29 _ (0, 0) _ rfl hg9 Try.underlying29 rfl Try.sizeCk) rfl ⟨_, _, _, by rw [HKD.out], HT9, HB9⟩
end
end Go.Proofs.Ytgmopmlhggdefaa
