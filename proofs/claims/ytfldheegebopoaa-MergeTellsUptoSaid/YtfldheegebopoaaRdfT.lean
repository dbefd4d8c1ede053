/-
  The document's own table (rickref05): of each place in both lists how much the rests have in common.
-/
import Derived.Test.YtfldheegebopoaaEdit
import Derived.Test.YtfldheegebopoaaStr
import Derived.Laws.OwnMore
import Derived.StillTailTactics
import Derived.Deep.LoopGhost
namespace Go.Proofs.Ytfldheegebopoaa
open Go.RowKit

/-! ### Cells that are filled from behind -/
def fillL (f : Nat → Value) (z : Value) (N K : Nat) : List Value := (List.range N).map fun k => if K ≤ k then f k else z
theorem fillL_length (f : Nat → Value) (z : Value) (N K : Nat) : (fillL f z N K).length = N := by simp [fillL]
theorem fillL_zero (f : Nat → Value) (z : Value) (N : Nat) : fillL f z N N = List.replicate N z := by
  apply List.ext_getElem
  · simp [fillL]
  · intro i h1 h2
    have : i < N := by simpa [fillL] using h1
    simp [fillL]
    omega
theorem fillL_at {f : Nat → Value} {z : Value} {N K k : Nat} (h : k < N) (hK : K ≤ k) : (fillL f z N K)[k]? = some (f k) := by simp [fillL, h, hK]
theorem fillL_lo {f : Nat → Value} {z : Value} {N K k : Nat} (h : k < N) (hK : k < K) : (fillL f z N K)[k]? = some z := by
  simp [fillL, h]
  omega
theorem fillL_set (f : Nat → Value) (z : Value) (N K : Nat) (h : K < N) : (fillL f z N (K + 1)).set K (f K) = fillL f z N K := by
  apply List.ext_getElem
  · simp [fillL]
  · intro i h1 h2
    have hi : i < N := by simpa [fillL] using h2
    by_cases e : i = K
    · subst e
      simp [fillL]
    · rw [List.getElem_set_ne (fun h => e h.symm)]
      simp only [fillL, List.getElem_map, List.getElem_range]
      by_cases h3 : K ≤ i
      · rw [if_pos h3, if_pos (by omega)]
      · rw [if_neg h3, if_neg (by omega)]
/-- the last place of all may already be what it should be -/
theorem fillL_last (f : Nat → Value) (z : Value) (N : Nat) (h : f N = z) : fillL f z (N + 1) (N + 1) = fillL f z (N + 1) N := by
  apply List.ext_getElem
  · simp [fillL]
  · intro i h1 h2
    have hi : i < N + 1 := by simpa [fillL] using h2
    simp only [fillL, List.getElem_map, List.getElem_range]
    rw [if_neg (by omega)]
    by_cases h3 : N ≤ i
    · rw [if_pos h3, show i = N by omega, h]
    · rw [if_neg h3]
/-- a slice of cells of one place each is made -/
theorem run_make1 {P : Program} (w : World) (t e : TypeId) (i : TypeInfo) (z : Value) (ht : P.underlying t = some (.slice e)) (hi : P.info? e = some i) (hz : i.zero = some z) (hs : i.size = 1) (hz1 : z.cells = #[z]) (n : Nat) (hb : i.bytes * n ≤ 281474976710656) (hn : n ≤ 9223372036854775807) :
    (Instr.makeSlice t (.int .i64 (n : Int)) (.int .i64 (n : Int))).run P w = .ok (.slice (some ⟨w.heap.size, 0, none⟩) n n) (w.alloc (.cells (List.replicate n z).toArray e)) := by
  have h := run_make (P := P) w t e i z ht hi hz .i64 .i64 (n : Int) (n : Int) (by omega) (by omega) (by rw [← Int.natCast_mul]; omega) (by omega)
  rw [hs, Int.toNat_natCast, Nat.mul_one, hz1] at h
  rw [h, ← toList_madeCells_one z n]

/-- What a table shows: of each two places a number. Its blocks are new ones. -/
def TabAt (w : World) (base : Nat) (t : Value) (n m : Nat) (f : Nat → Nat → Nat) : Prop :=
  ∃ g, base ≤ g ∧ t = .slice (some ⟨g, 0, none⟩) (n + 1) (n + 1) ∧ ∀ i, i ≤ n → ∃ r, base ≤ r ∧ w.cell? ⟨g, i, none⟩ = some (.slice (some ⟨r, 0, none⟩) (m + 1) (m + 1)) ∧ ∀ k, k ≤ m → w.cell? ⟨r, k, none⟩ = some (.int .i64 (f i k : Nat))
theorem TabAt.old {w w' : World} {base : Nat} {t : Value} {n m : Nat} {f : Nat → Nat → Nat} (h : TabAt w base t n m f) (hk : ∀ b, base ≤ b → b < w.heap.size → w'.heap[b]? = w.heap[b]?) : TabAt w' base t n m f := by
  obtain ⟨g, hg, rfl, h1⟩ := h
  refine ⟨g, hg, rfl, fun i hi => ?_⟩
  obtain ⟨r, hr, h2, h3⟩ := h1 i hi
  refine ⟨r, hr, (World.cell?_of_block (w := w) (hk _ hg (World.block_lt_of_cell? w _ h2))).trans h2, fun k hkm => ?_⟩
  exact (World.cell?_of_block (w := w) (hk _ hr (World.block_lt_of_cell? w _ (h3 k hkm)))).trans (h3 k hkm)

/-- .. while it is built: the rows from I on stand; of the row ahead of them (if K is given) the places from K on. -/
structure TabUp (w wr : World) (n m : Nat) (f : Nat → Nat → Nat) (I : Nat) : Prop where
  size : wr.heap.size = w.heap.size + (n - I) + 2
  top : wr.heap[w.heap.size]? = some (.cells (fillL (fun j => .slice (some ⟨w.heap.size + 1 + (n - j), 0, none⟩) (m + 1) (m + 1)) (.slice none 0 0) (n + 1) I).toArray 44 (0, 0))
  rows : ∀ j, I ≤ j → j ≤ n → wr.heap[w.heap.size + 1 + (n - j)]? = some (.cells (fillL (fun k => .int .i64 (f j k : Nat)) (.int .i64 0) (m + 1) 0).toArray 3 (0, 0))
  below : Below w.heap.size w wr
theorem TabUp.tab {w wr : World} {n m : Nat} {f : Nat → Nat → Nat} (h : TabUp w wr n m f 0) : TabAt wr w.heap.size (.slice (some ⟨w.heap.size, 0, none⟩) (n + 1) (n + 1)) n m f := by
  refine ⟨_, Nat.le_refl _, rfl, fun i hi => ⟨w.heap.size + 1 + (n - i), by omega, blk_cell h.top ?_, fun k hk => blk_cell (h.rows i (Nat.zero_le _) hi) ?_⟩⟩
  · rw [List.getElem?_toArray, fillL_at (by omega) (Nat.zero_le _)]
  · rw [List.getElem?_toArray, fillL_at (by omega) (Nat.zero_le _)]
/-- the next row is laid, with nothing in it but its last place -/
structure RowUp (w wr : World) (n m : Nat) (f : Nat → Nat → Nat) (i K : Nat) : Prop where
  size : wr.heap.size = w.heap.size + (n - i) + 2
  top : wr.heap[w.heap.size]? = some (.cells (fillL (fun j => .slice (some ⟨w.heap.size + 1 + (n - j), 0, none⟩) (m + 1) (m + 1)) (.slice none 0 0) (n + 1) i).toArray 44 (0, 0))
  rows : ∀ j, i + 1 ≤ j → j ≤ n → wr.heap[w.heap.size + 1 + (n - j)]? = some (.cells (fillL (fun k => .int .i64 (f j k : Nat)) (.int .i64 0) (m + 1) 0).toArray 3 (0, 0))
  cur : wr.heap[w.heap.size + 1 + (n - i)]? = some (.cells (fillL (fun k => .int .i64 (f i k : Nat)) (.int .i64 0) (m + 1) K).toArray 3 (0, 0))
  below : Below w.heap.size w wr
theorem TabUp.row {w wr w1 : World} {n m : Nat} {f : Nat → Nat → Nat} {i : Nat} (h : TabUp w wr n m f (i + 1)) (hi : i < n) (f1 : f i m = 0) (hw : w1 = (wr.alloc (.cells (List.replicate (m + 1) (Value.int .i64 0)).toArray 3)).setCell ⟨w.heap.size, i, none⟩ (.slice (some ⟨wr.heap.size, 0, none⟩) (m + 1) (m + 1))) : RowUp w w1 n m f i m := by
  have hs := h.size
  have hse : wr.heap.size = w.heap.size + 1 + (n - i) := by omega
  have hne : ∀ b, b ≠ w.heap.size → w1.heap[b]? = (wr.alloc (.cells (List.replicate (m + 1) (Value.int .i64 0)).toArray 3)).heap[b]? := fun b hb => by rw [hw]; exact Below.heap_setCell _ _ _ _ hb
  have hb : Below w.heap.size w w1 := by
    rw [hw]
    exact (h.below.alloc (by omega) _).setCell (Nat.le_refl _) _
  refine ⟨?_, ?_, fun j h1 h2 => ?_, ?_, hb⟩
  · have : w1.heap.size = wr.heap.size + 1 := by rw [hw]; simp [World.setCell]
    omega
  · have h0 : (wr.alloc (.cells (List.replicate (m + 1) (Value.int .i64 0)).toArray 3)).heap[w.heap.size]? = _ := (Below.heap_alloc wr _ _ (by omega)).trans h.top
    have := blk_set (i := i) (u := .slice (some ⟨wr.heap.size, 0, none⟩) (m + 1) (m + 1)) h0
    rw [← hw, List.setIfInBounds_toArray, hse, fillL_set (fun j => Value.slice (some ⟨w.heap.size + 1 + (n - j), 0, none⟩) (m + 1) (m + 1)) _ _ _ (by omega)] at this
    exact this
  · rw [hne _ (by omega), Below.heap_alloc wr _ _ (by omega)]
    exact h.rows j h1 h2
  · rw [hne _ (by omega), ← hse, heap_alloc_new, ← fillL_zero (fun k => Value.int .i64 (f i k : Nat)), fillL_last _ _ _ (by show Value.int .i64 (f i m : Nat) = _; rw [f1]; rfl)]
theorem RowUp.done {w wr : World} {n m : Nat} {f : Nat → Nat → Nat} {i : Nat} (h : RowUp w wr n m f i 0) : TabUp w wr n m f i := by
  refine ⟨h.size, h.top, fun j h1 h2 => ?_, h.below⟩
  by_cases e : j = i
  · subst e; exact h.cur
  · exact h.rows j (by omega) h2
theorem RowUp.put {w wr w1 : World} {n m : Nat} {f : Nat → Nat → Nat} {i K : Nat} (h : RowUp w wr n m f i (K + 1)) (hi : i ≤ n) (hK : K < m + 1) (hd : ∃ q, w1 = wr.drewN q) (u : Value) (hu : u = .int .i64 (f i K : Nat)) : RowUp w (w1.setCell ⟨w.heap.size + 1 + (n - i), K, none⟩ u) n m f i K := by
  subst hu
  obtain ⟨q, rfl⟩ := hd
  have hne : ∀ b, b ≠ w.heap.size + 1 + (n - i) → ((wr.drewN q).setCell ⟨w.heap.size + 1 + (n - i), K, none⟩ (.int .i64 (f i K : Nat))).heap[b]? = wr.heap[b]? := fun b hb => Below.heap_setCell _ _ _ _ hb
  refine ⟨?_, ?_, fun j h1 h2 => ?_, ?_, ?_⟩
  · have : ((wr.drewN q).setCell ⟨w.heap.size + 1 + (n - i), K, none⟩ (.int .i64 (f i K : Nat))).heap.size = wr.heap.size := by simp [World.setCell]
    rw [this]; exact h.size
  · rw [hne _ (by omega)]; exact h.top
  · rw [hne _ (by omega)]; exact h.rows j h1 h2
  · have := blk_set (i := K) (u := .int .i64 (f i K : Nat)) (show (wr.drewN q).heap[_]? = _ from h.cur)
    rw [List.setIfInBounds_toArray, fillL_set (fun k => .int .i64 (f i k : Nat)) _ _ _ hK] at this
    exact this
  · exact (h.below.trans ⟨rfl, rfl, rfl, Nat.le_refl _, fun _ _ => rfl⟩ : Below w.heap.size w (wr.drewN q)).setCell (by show w.heap.size ≤ w.heap.size + 1 + (n - i); omega) _
theorem Try.infoI : (Try.prog.info? 3).map (fun i => (i.zero, i.size, i.bytes)) = some (some (.int .i64 0), 1, 8) := by kernel_rfl
theorem Try.infoSlI : (Try.prog.info? 44).map (fun i => (i.zero, i.size, i.bytes)) = some (some (.slice none 0 0), 1, 24) := by kernel_rfl
end Go.Proofs.Ytfldheegebopoaa
