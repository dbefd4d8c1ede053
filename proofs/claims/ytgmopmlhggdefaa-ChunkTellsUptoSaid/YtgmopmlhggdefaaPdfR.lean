/-
  What each rest of a list has in common with each rest of another one, in rows (rests).
-/
import Derived.Test.YtgmopmlhggdefaaPdfB
import Derived.Test.YtgmopmlhggdefaaPdfC
import Derived.Deep.CutRange
import Derived.Deep.RegionHeld3
namespace Go.Proofs.Ytgmopmlhggdefaa
open Go.RowKit

attribute [local go_sem] Oper.semAt_some

/-- What a table shows: of each two places a number of that kind. Its blocks are new ones. -/
def TabQ (q : IntKind) (w : World) (base : Nat) (t : Value) (n m : Nat) (f : Nat → Nat → Nat) : Prop :=
  ∃ g, base ≤ g ∧ t = .slice (some ⟨g, 0, none⟩) (n + 1) (n + 1) ∧ ∀ i, i ≤ n → ∃ r, base ≤ r ∧ w.cell? ⟨g, i, none⟩ = some (.slice (some ⟨r, 0, none⟩) (m + 1) (m + 1)) ∧ ∀ k, k ≤ m → w.cell? ⟨r, k, none⟩ = some (.int q (f i k : Nat))
theorem TabQ.old {q : IntKind} {w w' : World} {base : Nat} {t : Value} {n m : Nat} {f : Nat → Nat → Nat} (h : TabQ q w base t n m f) (hk : ∀ b, base ≤ b → b < w.heap.size → w'.heap[b]? = w.heap[b]?) : TabQ q w' base t n m f := by
  obtain ⟨g, hg, rfl, h1⟩ := h
  refine ⟨g, hg, rfl, fun i hi => ?_⟩
  obtain ⟨r, hr, h2, h3⟩ := h1 i hi
  refine ⟨r, hr, (World.cell?_of_block (w := w) (hk _ hg (World.block_lt_of_cell? w _ h2))).trans h2, fun k hkm => ?_⟩
  exact (World.cell?_of_block (w := w) (hk _ hr (World.block_lt_of_cell? w _ (h3 k hkm)))).trans (h3 k hkm)

/-- .. while it is built: the rows from K on are laid, those from L on are filled. -/
structure TabR (w W : World) (vB : Value) (n m g p K L : Nat) (R : Nat → Nat) (f : Nat → Nat → Nat) : Prop where
  box : W.heap[w.heap.size]? = some (.cells #[vB] 22 (0, 0))
  bp : W.heap[p]? = some (.cells #[.slice (some ⟨g, 0, none⟩) (n + 1) (n + 1)] 74 (0, 0))
  top : W.heap[g]? = some (.cells (mixL (fun j => .slice (some ⟨R j, 0, none⟩) (m + 1) (m + 1)) (fun _ => .slice none 0 0) (n + 1) K).toArray 77 (0, 0))
  rows : ∀ j, L ≤ j → j ≤ n → W.heap[R j]? = some (.cells (rowL .u16 (f j) (m + 1)).toArray 76 (0, 0))
  far : w.heap.size < g ∧ g < p ∧ ∀ j, L ≤ j → j ≤ n → p < R j
  below : Below w.heap.size w W
theorem TabR.tab {w W : World} {vB : Value} {n m g p : Nat} {R : Nat → Nat} {f : Nat → Nat → Nat} (h : TabR w W vB n m g p 0 0 R f) : TabQ .u16 W w.heap.size (.slice (some ⟨g, 0, none⟩) (n + 1) (n + 1)) n m f := by
  obtain ⟨h1, h2, h3⟩ := h.far
  refine ⟨g, by omega, rfl, fun i hi => ⟨R i, by have := h3 i (Nat.zero_le _) hi; omega, blk_cell h.top ?_, fun k hk => blk_cell (h.rows i (Nat.zero_le _) hi) ?_⟩⟩
  · rw [List.getElem?_toArray, mixL_at (by omega) (Nat.zero_le _)]
  · rw [List.getElem?_toArray, rowL_at (by omega)]
/-- the next row is laid -/
theorem TabR.row {w W W1 : World} {vB : Value} {n m g p i : Nat} {R : Nat → Nat} {f : Nat → Nat → Nat} (h : TabR w W vB n m g p (i + 1) (i + 1) R f) (hi : i ≤ n)
    (hw : W1 = ((W.setCell ⟨g, i, none⟩ (.slice (some ⟨W.heap.size, 0, none⟩) (m + 1) (m + 1))).alloc (.cells (List.replicate (m + 1) (Value.int .u16 0)).toArray 76)).drew) :
    TabR w W1 vB n m g p i (i + 1) (fun j => if j = i then W.heap.size else R j) f ∧ W1.heap[W.heap.size]? = some (.cells (rowL .u16 (fun _ => 0) (m + 1)).toArray 76 (0, 0)) := by
  obtain ⟨h1, h2, h3⟩ := h.far
  have lg := lt_of_block h.top
  have lp := lt_of_block h.bp
  have ls := h.below.size
  have hss : (W.setCell ⟨g, i, none⟩ (.slice (some ⟨W.heap.size, 0, none⟩) (m + 1) (m + 1))).heap.size = W.heap.size := by simp [World.setCell]
  have hne : ∀ b, b ≠ g → b < W.heap.size → W1.heap[b]? = W.heap[b]? := fun b hb hl => by
    rw [hw]
    exact (Below.heap_alloc _ _ b (by rw [hss]; exact hl)).trans (Below.heap_setCell _ _ _ _ hb)
  refine ⟨⟨?_, ?_, ?_, fun j h4 h5 => ?_, ⟨h1, h2, fun j h4 h5 => ?_⟩, ?_⟩, ?_⟩
  · rw [hne _ (by omega) (by omega)]
    exact h.box
  · rw [hne _ (by omega) (by omega)]
    exact h.bp
  · have := blk_set (i := i) (u := .slice (some ⟨W.heap.size, 0, none⟩) (m + 1) (m + 1)) h.top
    rw [hw]
    refine ((Below.heap_alloc _ _ g (by rw [hss]; exact lg)).trans this).trans ?_
    rw [List.setIfInBounds_toArray]
    congr 3
    have e := mixL_set (fun j => Value.slice (some ⟨if j = i then W.heap.size else R j, 0, none⟩) (m + 1) (m + 1)) (fun _ => .slice none 0 0) (n + 1) i (by omega)
    rw [if_pos rfl] at e
    rw [← e]
    congr 1
    apply List.ext_getElem
    · simp [mixL]
    · intro q q1 q2
      simp only [mixL, List.getElem_map, List.getElem_range]
      by_cases hq : i + 1 ≤ q
      · rw [if_pos hq, if_pos hq, if_neg (by omega)]
      · rw [if_neg hq, if_neg hq]
  · have lr := lt_of_block (h.rows j h4 h5)
    have := h3 j h4 h5
    rw [if_neg (by omega), hne _ (by omega) lr]
    exact h.rows j h4 h5
  · rw [if_neg (by omega)]
    exact h3 j h4 h5
  · rw [hw]
    exact ((h.below.setCell (by show w.heap.size ≤ g; omega) _).alloc (by rw [hss]; exact ls) _).trans (show Below w.heap.size _ _ from ⟨rfl, rfl, rfl, Nat.le_refl _, fun _ _ => rfl⟩)
  · rw [hw, ← rowL_zero]
    have := World.alloc_heap_new (W.setCell ⟨g, i, none⟩ (.slice (some ⟨W.heap.size, 0, none⟩) (m + 1) (m + 1))) (.cells (List.replicate (m + 1) (Value.int .u16 0)).toArray 76)
    rw [hss] at this
    exact this
theorem TabR.row2 {w W W1 : World} {vB : Value} {n m m1 g p i : Nat} {R : Nat → Nat} {f : Nat → Nat → Nat} {Z : Array Value} (h : TabR w W vB n m g p (i + 1) (i + 1) R f) (hi : i ≤ n) (hm : m + 1 = m1) (hZ : (List.replicate m1 (Value.int .u16 0)).toArray = Z)
    (hw : W1 = ((W.setCell ⟨g, i, none⟩ (.slice (some ⟨W.heap.size, 0, none⟩) m1 m1)).alloc (.cells Z 76)).drew) :
    TabR w W1 vB n m g p i (i + 1) (fun j => if j = i then W.heap.size else R j) f ∧ W1.heap[W.heap.size]? = some (.cells (rowL .u16 (fun _ => 0) (m + 1)).toArray 76 (0, 0)) := by
  subst hm
  subst hZ
  exact h.row hi hw
/-- .. and filled -/
theorem TabR.fill {w W W2 : World} {vB : Value} {n m g p i r : Nat} {R : Nat → Nat} {f : Nat → Nat → Nat} (h : TabR w W vB n m g p i (i + 1) R f) (hr : R i = r) (hne : ∀ j, i + 1 ≤ j → j ≤ n → R j ≠ r) (hp : p < r) (hO : Only r W W2) (hrow : W2.heap[r]? = some (.cells (rowL .u16 (f i) (m + 1)).toArray 76 (0, 0))) :
    TabR w W2 vB n m g p i i R f := by
  obtain ⟨h1, h2, h3⟩ := h.far
  refine ⟨?_, ?_, ?_, fun j h4 h5 => ?_, ⟨h1, h2, fun j h4 h5 => ?_⟩, h.below.trans (hO.below (by omega))⟩
  · rw [hO.block _ (by omega)]
    exact h.box
  · rw [hO.block _ (by omega)]
    exact h.bp
  · rw [hO.block _ (by omega)]
    exact h.top
  · by_cases e : j = i
    · subst e
      rw [hr]
      exact hrow
    · rw [hO.block _ (hne j (by omega) h5)]
      exact h.rows j (by omega) h5
  · by_cases e : j = i
    · subst e
      rw [hr]
      exact hp
    · exact h3 j (by omega) h5
theorem TabR.alloc {w W : World} {vB : Value} {n m g p K L : Nat} {R : Nat → Nat} {f : Nat → Nat → Nat} (h : TabR w W vB n m g p K L R f) (o : Obj) : TabR w (W.alloc o) vB n m g p K L R f := by
  have k : ∀ {b : Nat} {ob : Obj}, W.heap[b]? = some ob → (W.alloc o).heap[b]? = some ob := fun {b ob} hb => (Below.heap_alloc W o b (Array.getElem?_eq_some_iff.1 hb).1).trans hb
  exact ⟨k h.box, k h.bp, k h.top, fun j h4 h5 => k (h.rows j h4 h5), h.far, h.below.alloc h.below.size _⟩
theorem tab_own {B Z : Nat} {w : World} {vB : Value} {n m g p : Nat} {f : Nat → Nat → Nat} (hB : w.heap.size ≤ B) : OwnFrom B (fun (k : Nat) W => ∃ R, Hid (TabR w W vB n m g p (n - k) (n - k) R f) ∧ Z ≤ W.heap.size) := fun k X Y row hs hg hr => by
  obtain ⟨R, H, hZ⟩ := hs
  have keep : ∀ {b : Nat} {cs : Array Value} {t : TypeId}, X.heap[b]? = some (.cells cs t (0, 0)) → Y.heap[b]? = some (.cells cs t (0, 0)) := fun {b cs t} hb => by
    refine (hg.block b (lt_of_block hb) fun e => ?_).trans hb
    obtain ⟨_, o, ho, hc⟩ := hr b e.symm
    rw [hb] at ho
    cases ho
    cases hc
  exact ⟨R, hid ⟨keep H.out.box, keep H.out.bp, keep H.out.top, fun j h4 h5 => keep (H.out.rows j h4 h5), H.out.far, H.out.below.grown hg H.out.below.size (fun j e => by have := (hr j e).1; omega)⟩, Nat.le_trans hZ hg.size⟩
theorem Only.others' {br : Nat} {w w' : World} {cs : Array Value} {t : TypeId} {fr : Nat × Nat} (h : Only br w w') (hb : w.heap[br]? = some (.cells cs t fr)) : KeepsOthers w w' :=
  ⟨Nat.le_of_eq h.size.symm, fun k o hk ho => by
    by_cases e : k = br
    · subst e
      rw [hb] at hk
      cases hk
      cases ho
    · exact (h.block k e).trans hk⟩
/-- the table and its box, no row yet -/
theorem tab_start {w : World} {vB : Value} {n m n1 : Nat} {Z1 : Array Value} {R : Nat → Nat} {f : Nat → Nat → Nat} (hn : n + 1 = n1) (hZ1 : (List.replicate n1 (Value.slice none 0 0)).toArray = Z1) :
    TabR w (((w.alloc (.cells #[vB] 22)).alloc (.cells Z1 77)).alloc (.cells #[.slice (some ⟨w.heap.size + 1, 0, none⟩) n1 n1] 74)) vB n m (w.heap.size + 1) (w.heap.size + 1 + 1) (n + 1) (n + 1) R f := by
  subst hn
  generalize hA : (.cells #[vB] 22 : Obj) = o0
  generalize hB : (.cells Z1 77 : Obj) = o1
  generalize hC : (.cells #[.slice (some ⟨w.heap.size + 1, 0, none⟩) (n + 1) (n + 1)] 74 : Obj) = o2
  have s0 : (w.alloc o0).heap.size = w.heap.size + 1 := by simp
  have s1 : ((w.alloc o0).alloc o1).heap.size = w.heap.size + 1 + 1 := by simp
  have e0 : (((w.alloc o0).alloc o1).alloc o2).heap[w.heap.size]? = some o0 := by rw [Below.heap_alloc _ _ _ (by omega), Below.heap_alloc _ _ _ (by omega), World.alloc_heap_new]
  have e1 : (((w.alloc o0).alloc o1).alloc o2).heap[w.heap.size + 1]? = some o1 := by rw [Below.heap_alloc _ _ _ (by omega), ← s0, World.alloc_heap_new]
  have e2 : (((w.alloc o0).alloc o1).alloc o2).heap[w.heap.size + 1 + 1]? = some o2 := by rw [← s1, World.alloc_heap_new]
  refine ⟨e0.trans (congrArg some hA.symm), e2.trans (congrArg some hC.symm), ?_, fun j h4 h5 => by omega, ⟨by omega, by omega, fun j h4 h5 => by omega⟩, (((Below.refl _ w).alloc (Nat.le_refl _) o0).alloc (by omega) o1).alloc (by omega) o2⟩
  refine (e1.trans (congrArg some hB.symm)).trans ?_
  rw [← hZ1]
  congr 3
  apply List.ext_getElem
  · simp [mixL]
  · intro q q1 q2
    have : q < n + 1 := by simpa using q1
    simp only [mixL, List.getElem_map, List.getElem_range, List.getElem_replicate]
    rw [if_neg (by omega)]
end Go.Proofs.Ytgmopmlhggdefaa
