/-
  Lists of edits: what a slice of them shows; two of them held against each other (rickhelp). The document's own table (rickref05): of each place in both lists how much the rests have in common. The document's own table (rickref05), walked; Common. The document's own lines (rickref05): Split, Join, Whole. The document's own measure of how alike two texts are (rickref14.Ratio).
-/
import Derived.Test.YtnpgfbgnbonhfaaHelpS
import Derived.Test.YtnpgfbgnbonhfaaDifM
import Derived.Test.YtnpgfbgnbonhfaaOpen2
import Derived.Test.YtnpgfbgnbonhfaaQuiet
import Derived.Test.YtnpgfbgnbonhfaaStr
import Derived.Laws.OwnMore
import Derived.StillTailTactics
import Derived.Deep.LoopGhost
import Derived.Test.YtnpgfbgnbonhfaaLinM
import Derived.Test.YtnpgfbgnbonhfaaSimM
namespace Go.Proofs.Ytnpgfbgnbonhfaa
open Go.RowKit

/-- An edit's two cells. -/
def edCells (e : Int × List UInt8) : List Value := [.int .i64 e.1, strV e.2]
def edFlat (es : List (Int × List UInt8)) : List Value := es.flatMap edCells
theorem edFlat_length (es : List (Int × List UInt8)) : (edFlat es).length = es.length * 2 := by
  induction es with
  | nil => rfl
  | cons e es ih => rw [edFlat, List.flatMap_cons, List.length_append, ← edFlat, ih, List.length_cons]; simp [edCells]; omega
theorem edFlat_append (a b : List (Int × List UInt8)) : edFlat (a ++ b) = edFlat a ++ edFlat b := by simp [edFlat]
theorem edFlat_at (es : List (Int × List UInt8)) (i : Nat) (e : Int × List UInt8) (h : es[i]? = some e) : (edFlat es)[i * 2]? = some (.int .i64 e.1) ∧ (edFlat es)[i * 2 + 1]? = some (strV e.2) := by
  induction es generalizing i with
  | nil => simp at h
  | cons x es ih =>
    cases i with
    | zero =>
      simp at h
      subst h
      simp [edFlat, edCells]
    | succ i =>
      have := ih i (by simpa using h)
      rw [edFlat, List.flatMap_cons, ← edFlat, show (i + 1) * 2 = i * 2 + 2 by omega, show i * 2 + 2 + 1 = (i * 2 + 1) + 2 by omega]
      simpa [edCells] using this

/-- What a slice of edits shows. -/
def SlE (w : World) (v : Value) (es : List (Int × List UInt8)) : Prop :=
  ∃ ao cap, v = .slice ao es.length cap ∧ (ao = none → es = []) ∧ es.length ≤ cap ∧ ∀ a, ao = some a → ∀ i e, es[i]? = some e → w.cell? (a.add (i * 2)) = some (.int .i64 e.1) ∧ w.cell? (a.add (i * 2 + 1)) = some (strV e.2)
theorem SlE.nil (w : World) : SlE w (.slice none 0 0) [] := ⟨none, 0, rfl, fun _ => rfl, Nat.le_refl _, fun a h => by cases h⟩
theorem SlE.form {w : World} {v : Value} {es : List (Int × List UInt8)} (h : SlE w v es) : ∃ ao cap, v = .slice ao es.length cap := by
  obtain ⟨ao, cap, rfl, _⟩ := h
  exact ⟨ao, cap, rfl⟩
theorem SlE.old {w w' : World} {v : Value} {es : List (Int × List UInt8)} (h : SlE w v es) (hk : Below w.heap.size w w') : SlE w' v es := by
  obtain ⟨ao, cap, rfl, hn, hcap, hc⟩ := h
  refine ⟨ao, cap, rfl, hn, hcap, fun a ha i e he => ?_⟩
  obtain ⟨h1, h2⟩ := hc a ha i e he
  exact ⟨(World.cell?_of_block (w := w) (hk.block _ (World.block_lt_of_cell? w _ h1))).trans h1, (World.cell?_of_block (w := w) (hk.block _ (World.block_lt_of_cell? w _ h2))).trans h2⟩
theorem SlE.ofOwns {w : World} {base : Nat} {e : TypeId} {v : Value} {es : List (Int × List UInt8)} (h : w.ownsRow base e 2 v es.length (edFlat es)) : SlE w v es := by
  rcases h.2 with ⟨rfl, h0⟩ | ⟨g, cap, cur, rfl, r⟩
  · have : es = [] := List.eq_nil_of_length_eq_zero h0
    subst this
    exact SlE.nil w
  · refine ⟨some ⟨g, 0, none⟩, cap, rfl, (fun h => by cases h), r.2.2.1, fun a ha i x hx => ?_⟩
    cases ha
    obtain ⟨h1, h2⟩ := edFlat_at es i x hx
    exact ⟨h.cells rfl _ _ h1, h.cells rfl _ _ h2⟩
theorem range2 {w : World} {b o : Nat} {u v : Value} (h1 : w.cell? ⟨b, o, none⟩ = some u) (h2 : w.cell? ⟨b, o + 1, none⟩ = some v) : w.rangeAt b o [u, v] := by
  intro j x hx
  match j, hx with
  | 0, hx => cases hx; exact h1
  | 1, hx => cases hx; exact h2
theorem SlE.at {w : World} {ao : Option Addr} {n cap : Nat} {es : List (Int × List UInt8)} (h : SlE w (.slice ao n cap) es) {i : Nat} (hi : i < es.length) :
    ∃ a k x, ao = some a ∧ w.cell? (a.add (i * 2)) = some (.int .i64 k) ∧ w.cell? (a.add (i * 2 + 1)) = some (.string ⟨List.toArray x⟩) ∧ es[i]? = some (k, x) := by
  obtain ⟨ao', cap', hv, hn, _, hc⟩ := h
  obtain ⟨rfl, _, _⟩ := Value.slice.inj hv
  cases ao with
  | none => rw [hn rfl] at hi; simp at hi
  | some a =>
    obtain ⟨h1, h2⟩ := hc a rfl i _ (List.getElem?_eq_getElem hi)
    exact ⟨a, es[i].1, es[i].2, rfl, h1, h2, List.getElem?_eq_getElem hi⟩

/-- .. the address written out. -/
theorem SlE.at' {w : World} {ao : Option Addr} {n cap : Nat} {es : List (Int × List UInt8)} (h : SlE w (.slice ao n cap) es) {i : Nat} (hi : i < es.length) :
    ∃ b o k x, ao = some ⟨b, o, none⟩ ∧ w.cell? ⟨b, o + i * 2, none⟩ = some (.int .i64 k) ∧ w.cell? ⟨b, o + i * 2 + 1, none⟩ = some (.string ⟨List.toArray x⟩) ∧ es[i]? = some (k, x) := by
  obtain ⟨a, k, x, rfl, h1, h2, h3⟩ := h.at hi
  obtain ⟨b, o, sp⟩ := a
  obtain ⟨a', k', x', e', h1', _, _⟩ := h.at (i := 0) (by omega)
  cases e'
  rw [Nat.zero_mul, show (⟨b, o, sp⟩ : Addr).add 0 = ⟨b, o, sp⟩ from rfl] at h1'
  have hsp : sp = none := World.cell?_spot h1'
  subst hsp
  rw [Addr.add_lit] at h1 h2
  exact ⟨b, o, k, x, rfl, h1, by rw [Nat.add_assoc]; exact h2, h3⟩


section
set_option maxHeartbeats 1000000
set_option maxRecDepth 100000


end
end Go.Proofs.Ytnpgfbgnbonhfaa

namespace Go.Proofs.Ytnpgfbgnbonhfaa
open Go.RowKit

/-! ### Cells that are filled from behind -/
def fillL (f : Nat → Value) (z : Value) (N K : Nat) : List Value := (List.range N).map fun k => if K ≤ k then f k else z
theorem fillL_length (f : Nat → Value) (z : Value) (N K : Nat) : (fillL f z N K).length = N := by simp [fillL]
theorem fillL_zero (f : Nat → Value) (z : Value) (N : Nat) : fillL f z N N = List.replicate N z := by
  apply List.ext_getElem
  · simp [fillL]
  · intro i h1 h2
    have : i < N := by simpa [fillL] using h1
    simp [fillL]
    omega
theorem fillL_at {f : Nat → Value} {z : Value} {N K k : Nat} (h : k < N) (hK : K ≤ k) : (fillL f z N K)[k]? = some (f k) := by simp [fillL, h, hK]
theorem fillL_lo {f : Nat → Value} {z : Value} {N K k : Nat} (h : k < N) (hK : k < K) : (fillL f z N K)[k]? = some z := by
  simp [fillL, h]
  omega
theorem fillL_set (f : Nat → Value) (z : Value) (N K : Nat) (h : K < N) : (fillL f z N (K + 1)).set K (f K) = fillL f z N K := by
  apply List.ext_getElem
  · simp [fillL]
  · intro i h1 h2
    have hi : i < N := by simpa [fillL] using h2
    by_cases e : i = K
    · subst e
      simp [fillL]
    · rw [List.getElem_set_ne (fun h => e h.symm)]
      simp only [fillL, List.getElem_map, List.getElem_range]
      by_cases h3 : K ≤ i
      · rw [if_pos h3, if_pos (by omega)]
      · rw [if_neg h3, if_neg (by omega)]
/-- the last place of all may already be what it should be -/
theorem fillL_last (f : Nat → Value) (z : Value) (N : Nat) (h : f N = z) : fillL f z (N + 1) (N + 1) = fillL f z (N + 1) N := by
  apply List.ext_getElem
  · simp [fillL]
  · intro i h1 h2
    have hi : i < N + 1 := by simpa [fillL] using h2
    simp only [fillL, List.getElem_map, List.getElem_range]
    rw [if_neg (by omega)]
    by_cases h3 : N ≤ i
    · rw [if_pos h3, show i = N by omega, h]
    · rw [if_neg h3]
/-- a slice of cells of one place each is made -/
theorem run_make1 {P : Program} (w : World) (t e : TypeId) (i : TypeInfo) (z : Value) (ht : P.underlying t = some (.slice e)) (hi : P.info? e = some i) (hz : i.zero = some z) (hs : i.size = 1) (hz1 : z.cells = #[z]) (n : Nat) (hb : i.bytes * n ≤ 281474976710656) (hn : n ≤ 9223372036854775807) :
    (Instr.makeSlice t (.int .i64 (n : Int)) (.int .i64 (n : Int))).run P w = .ok (.slice (some ⟨w.heap.size, 0, none⟩) n n) (w.alloc (.cells (List.replicate n z).toArray e)) := by
  have h := run_make (P := P) w t e i z ht hi hz .i64 .i64 (n : Int) (n : Int) (by omega) (by omega) (by rw [← Int.natCast_mul]; omega) (by omega)
  rw [hs, Int.toNat_natCast, Nat.mul_one, hz1] at h
  rw [h, ← toList_madeCells_one z n]

/-- What a table shows: of each two places a number. Its blocks are new ones. -/
def TabAt (w : World) (base : Nat) (t : Value) (n m : Nat) (f : Nat → Nat → Nat) : Prop :=
  ∃ g, base ≤ g ∧ t = .slice (some ⟨g, 0, none⟩) (n + 1) (n + 1) ∧ ∀ i, i ≤ n → ∃ r, base ≤ r ∧ w.cell? ⟨g, i, none⟩ = some (.slice (some ⟨r, 0, none⟩) (m + 1) (m + 1)) ∧ ∀ k, k ≤ m → w.cell? ⟨r, k, none⟩ = some (.int .i64 (f i k : Nat))
theorem TabAt.old {w w' : World} {base : Nat} {t : Value} {n m : Nat} {f : Nat → Nat → Nat} (h : TabAt w base t n m f) (hk : ∀ b, base ≤ b → b < w.heap.size → w'.heap[b]? = w.heap[b]?) : TabAt w' base t n m f := by
  obtain ⟨g, hg, rfl, h1⟩ := h
  refine ⟨g, hg, rfl, fun i hi => ?_⟩
  obtain ⟨r, hr, h2, h3⟩ := h1 i hi
  refine ⟨r, hr, (World.cell?_of_block (w := w) (hk _ hg (World.block_lt_of_cell? w _ h2))).trans h2, fun k hkm => ?_⟩
  exact (World.cell?_of_block (w := w) (hk _ hr (World.block_lt_of_cell? w _ (h3 k hkm)))).trans (h3 k hkm)

/-- .. while it is built: the rows from I on stand; of the row ahead of them (if K is given) the places from K on. -/
structure TabUp (w wr : World) (n m : Nat) (f : Nat → Nat → Nat) (I : Nat) : Prop where
  size : wr.heap.size = w.heap.size + (n - I) + 2
  top : wr.heap[w.heap.size]? = some (.cells (fillL (fun j => .slice (some ⟨w.heap.size + 1 + (n - j), 0, none⟩) (m + 1) (m + 1)) (.slice none 0 0) (n + 1) I).toArray 63 (0, 0))
  rows : ∀ j, I ≤ j → j ≤ n → wr.heap[w.heap.size + 1 + (n - j)]? = some (.cells (fillL (fun k => .int .i64 (f j k : Nat)) (.int .i64 0) (m + 1) 0).toArray 3 (0, 0))
  below : Below w.heap.size w wr
theorem TabUp.tab {w wr : World} {n m : Nat} {f : Nat → Nat → Nat} (h : TabUp w wr n m f 0) : TabAt wr w.heap.size (.slice (some ⟨w.heap.size, 0, none⟩) (n + 1) (n + 1)) n m f := by
  refine ⟨_, Nat.le_refl _, rfl, fun i hi => ⟨w.heap.size + 1 + (n - i), by omega, blk_cell h.top ?_, fun k hk => blk_cell (h.rows i (Nat.zero_le _) hi) ?_⟩⟩
  · rw [List.getElem?_toArray, fillL_at (by omega) (Nat.zero_le _)]
  · rw [List.getElem?_toArray, fillL_at (by omega) (Nat.zero_le _)]
/-- the next row is laid, with nothing in it but its last place -/
structure RowUp (w wr : World) (n m : Nat) (f : Nat → Nat → Nat) (i K : Nat) : Prop where
  size : wr.heap.size = w.heap.size + (n - i) + 2
  top : wr.heap[w.heap.size]? = some (.cells (fillL (fun j => .slice (some ⟨w.heap.size + 1 + (n - j), 0, none⟩) (m + 1) (m + 1)) (.slice none 0 0) (n + 1) i).toArray 63 (0, 0))
  rows : ∀ j, i + 1 ≤ j → j ≤ n → wr.heap[w.heap.size + 1 + (n - j)]? = some (.cells (fillL (fun k => .int .i64 (f j k : Nat)) (.int .i64 0) (m + 1) 0).toArray 3 (0, 0))
  cur : wr.heap[w.heap.size + 1 + (n - i)]? = some (.cells (fillL (fun k => .int .i64 (f i k : Nat)) (.int .i64 0) (m + 1) K).toArray 3 (0, 0))
  below : Below w.heap.size w wr
theorem TabUp.row {w wr w1 : World} {n m : Nat} {f : Nat → Nat → Nat} {i : Nat} (h : TabUp w wr n m f (i + 1)) (hi : i < n) (f1 : f i m = 0) (hw : w1 = (wr.alloc (.cells (List.replicate (m + 1) (Value.int .i64 0)).toArray 3)).setCell ⟨w.heap.size, i, none⟩ (.slice (some ⟨wr.heap.size, 0, none⟩) (m + 1) (m + 1))) : RowUp w w1 n m f i m := by
  have hs := h.size
  have hse : wr.heap.size = w.heap.size + 1 + (n - i) := by omega
  have hne : ∀ b, b ≠ w.heap.size → w1.heap[b]? = (wr.alloc (.cells (List.replicate (m + 1) (Value.int .i64 0)).toArray 3)).heap[b]? := fun b hb => by rw [hw]; exact Below.heap_setCell _ _ _ _ hb
  have hb : Below w.heap.size w w1 := by
    rw [hw]
    exact (h.below.alloc (by omega) _).setCell (Nat.le_refl _) _
  refine ⟨?_, ?_, fun j h1 h2 => ?_, ?_, hb⟩
  · have : w1.heap.size = wr.heap.size + 1 := by rw [hw]; simp [World.setCell]
    omega
  · have h0 : (wr.alloc (.cells (List.replicate (m + 1) (Value.int .i64 0)).toArray 3)).heap[w.heap.size]? = _ := (Below.heap_alloc wr _ _ (by omega)).trans h.top
    have := blk_set (i := i) (u := .slice (some ⟨wr.heap.size, 0, none⟩) (m + 1) (m + 1)) h0
    rw [← hw, List.setIfInBounds_toArray, hse, fillL_set (fun j => Value.slice (some ⟨w.heap.size + 1 + (n - j), 0, none⟩) (m + 1) (m + 1)) _ _ _ (by omega)] at this
    exact this
  · rw [hne _ (by omega), Below.heap_alloc wr _ _ (by omega)]
    exact h.rows j h1 h2
  · rw [hne _ (by omega), ← hse, heap_alloc_new, ← fillL_zero (fun k => Value.int .i64 (f i k : Nat)), fillL_last _ _ _ (by show Value.int .i64 (f i m : Nat) = _; rw [f1]; rfl)]
theorem RowUp.done {w wr : World} {n m : Nat} {f : Nat → Nat → Nat} {i : Nat} (h : RowUp w wr n m f i 0) : TabUp w wr n m f i := by
  refine ⟨h.size, h.top, fun j h1 h2 => ?_, h.below⟩
  by_cases e : j = i
  · subst e; exact h.cur
  · exact h.rows j (by omega) h2
theorem RowUp.put {w wr w1 : World} {n m : Nat} {f : Nat → Nat → Nat} {i K : Nat} (h : RowUp w wr n m f i (K + 1)) (hi : i ≤ n) (hK : K < m + 1) (hd : ∃ q, w1 = wr.drewN q) (u : Value) (hu : u = .int .i64 (f i K : Nat)) : RowUp w (w1.setCell ⟨w.heap.size + 1 + (n - i), K, none⟩ u) n m f i K := by
  subst hu
  obtain ⟨q, rfl⟩ := hd
  have hne : ∀ b, b ≠ w.heap.size + 1 + (n - i) → ((wr.drewN q).setCell ⟨w.heap.size + 1 + (n - i), K, none⟩ (.int .i64 (f i K : Nat))).heap[b]? = wr.heap[b]? := fun b hb => Below.heap_setCell _ _ _ _ hb
  refine ⟨?_, ?_, fun j h1 h2 => ?_, ?_, ?_⟩
  · have : ((wr.drewN q).setCell ⟨w.heap.size + 1 + (n - i), K, none⟩ (.int .i64 (f i K : Nat))).heap.size = wr.heap.size := by simp [World.setCell]
    rw [this]; exact h.size
  · rw [hne _ (by omega)]; exact h.top
  · rw [hne _ (by omega)]; exact h.rows j h1 h2
  · have := blk_set (i := K) (u := .int .i64 (f i K : Nat)) (show (wr.drewN q).heap[_]? = _ from h.cur)
    rw [List.setIfInBounds_toArray, fillL_set (fun k => .int .i64 (f i k : Nat)) _ _ _ hK] at this
    exact this
  · exact (h.below.trans ⟨rfl, rfl, rfl, Nat.le_refl _, fun _ _ => rfl⟩ : Below w.heap.size w (wr.drewN q)).setCell (by show w.heap.size ≤ w.heap.size + 1 + (n - i); omega) _
theorem Try.infoI : (Try.prog.info? 3).map (fun i => (i.zero, i.size, i.bytes)) = some (some (.int .i64 0), 1, 8) := by kernel_rfl
theorem Try.infoSlI : (Try.prog.info? 63).map (fun i => (i.zero, i.size, i.bytes)) = some (some (.slice none 0 0), 1, 24) := by kernel_rfl
end Go.Proofs.Ytnpgfbgnbonhfaa

namespace Go.Proofs.Ytnpgfbgnbonhfaa
open Go.RowKit

section
set_option maxRecDepth 100000
set_option maxHeartbeats 4000000
theorem Rtable_any (va vb : Value) (a b : List (List UInt8)) (w : World) (ha : Sl w va (strCells a)) (hb : Sl w vb (strCells b)) (hal : a.length ≤ 1000000) (hbl : b.length ≤ 1000000) :
    Calls Try.prog 46 #[va, vb] w fun e w' => ∃ t, e = .returned t ∧ TabAt w' w.heap.size t a.length b.length (fun i k => lcs (a.drop i) (b.drop k)) ∧ Below w.heap.size w w' := by
  obtain ⟨i0, hi0, hi1, hi2, hi3⟩ := info_parts Try.infoI
  obtain ⟨i9, hj0, hj1, hj2, hj3⟩ := info_parts Try.infoSlI
  obtain ⟨aa, ca, rfl⟩ := ha.form
  obtain ⟨ab, cb, rfl⟩ := hb.form
  rw [strCells_length] at ha hb ⊢
  rw [strCells_length]
  obtain ⟨n, hn⟩ : ∃ n, a.length = n := ⟨_, rfl⟩
  obtain ⟨m, hm⟩ : ∃ m, b.length = m := ⟨_, rfl⟩
  rw [hn] at ha hal ⊢
  rw [hm] at hb hbl ⊢
  obtain ⟨n1, hn1⟩ : ∃ n1, n + 1 = n1 := ⟨_, rfl⟩
  obtain ⟨m1, hm1⟩ : ∃ m1, m + 1 = m1 := ⟨_, rfl⟩
  have nw : IntKind.i64.wrap ((n : Int) + 1) = (n1 : Int) := (IntWalk.i64_in _ (by omega)).trans (by omega)
  have mw : IntKind.i64.wrap ((m : Int) + 1) = (m1 : Int) := (IntWalk.i64_in _ (by omega)).trans (by omega)
  have mk1 := fun wx : World => run_make1 (P := Try.prog) wx 80 63 i9 (.slice none 0 0) Try.underlying80 hj0 hj1 hj2 rfl n1 (by rw [hj3]; omega) (by omega)
  have mk2 := fun wx : World => run_make1 (P := Try.prog) wx 63 3 i0 (.int .i64 0) Try.underlying63 hi0 hi1 hi2 rfl m1 (by rw [hi3]; omega) (by omega)
  obtain ⟨f, hf⟩ : ∃ f : Nat → Nat → Nat, f = fun i k => lcs (a.drop i) (b.drop k) := ⟨_, rfl⟩
  rw [← hf]
  have f0 : ∀ k, f n k = 0 := fun k => by rw [hf]; show lcs (a.drop n) _ = 0; rw [List.drop_of_length_le (l := a) (by omega), lcs_nil_left]
  have f1 : ∀ i, f i m = 0 := fun i => by rw [hf]; show lcs _ (b.drop m) = 0; rw [List.drop_of_length_le (l := b) (by omega), lcs_nil_right]
  have fe : ∀ i k x, a[i]? = some x → b[k]? = some x → f i k = f (i + 1) (k + 1) + 1 := fun i k x h1 h2 => by
    obtain ⟨q1, e1⟩ := List.getElem?_eq_some_iff.1 h1
    obtain ⟨q2, e2⟩ := List.getElem?_eq_some_iff.1 h2
    rw [hf]
    show lcs (a.drop i) (b.drop k) = _
    rw [List.drop_eq_getElem_cons q1, List.drop_eq_getElem_cons q2, e1, e2, lcs_cons_eq]
  have fn : ∀ i k x y, a[i]? = some x → b[k]? = some y → x ≠ y → f i k = max (f (i + 1) k) (f i (k + 1)) := fun i k x y h1 h2 hne => by
    obtain ⟨q1, e1⟩ := List.getElem?_eq_some_iff.1 h1
    obtain ⟨q2, e2⟩ := List.getElem?_eq_some_iff.1 h2
    rw [hf]
    show lcs (a.drop i) (b.drop k) = max (lcs (a.drop (i + 1)) (b.drop k)) (lcs (a.drop i) (b.drop (k + 1)))
    rw [List.drop_eq_getElem_cons q1, List.drop_eq_getElem_cons q2, e1, e2, lcs_cons_ne hne, ← e1, ← e2, ← List.drop_eq_getElem_cons q1, ← List.drop_eq_getElem_cons q2]
  have hfm : ∀ i k, f i k ≤ n := fun i k => by
    rw [hf]
    have := (lcs_le (a.drop i) (b.drop k)).1
    rw [List.length_drop] at this
    show lcs (a.drop i) (b.drop k) ≤ n
    omega
  obtain ⟨Z1, hZ1⟩ : ∃ Z, (List.replicate n1 (Value.slice none 0 0)).toArray = Z := ⟨_, rfl⟩
  obtain ⟨Z2, hZ2⟩ : ∃ Z, (List.replicate m1 (Value.int .i64 0)).toArray = Z := ⟨_, rfl⟩
  rw [hZ1] at mk1
  rw [hZ2] at mk2
  have hg0 : ((w.alloc (.cells Z1 63)).alloc (.cells Z2 3)).heap[w.heap.size]? = some (.cells Z1 63 (0, 0)) := heap_alloc2_old w _ _
  have hg1 : ((w.alloc (.cells Z1 63)).alloc (.cells Z2 3)).heap[w.heap.size + 1]? = some (.cells Z2 3 (0, 0)) := heap_alloc2_new w _ _
  have c0 := blk_cell (i := n) (v := .slice none 0 0) hg0 (by rw [← hZ1, List.getElem?_toArray, List.getElem?_replicate, if_pos (by omega)])
  have z0 := blk_free (i := n) hg0
  have hn2 : (n : Int) < (n1 : Int) := by omega
  have nn0 : (0 : Int) ≤ (n : Int) := Int.natCast_nonneg _
  have hT0 : TabUp w ((w.alloc (.cells (Z1.setIfInBounds n (.slice (some ⟨w.heap.size + 1, 0, none⟩) m1 m1)) 63)).alloc (.cells Z2 3)) n m f n := by
    have e := fillL_set (fun j => Value.slice (some ⟨w.heap.size + 1 + (n - j), 0, none⟩) (m + 1) (m + 1)) (.slice none 0 0) (n + 1) n (by omega)
    simp only [Nat.sub_self, Nat.add_zero, hm1] at e
    have e3 : Z1.setIfInBounds n (.slice (some ⟨w.heap.size + 1, 0, none⟩) m1 m1) = (fillL (fun j => Value.slice (some ⟨w.heap.size + 1 + (n - j), 0, none⟩) m1 m1) (.slice none 0 0) (n + 1) n).toArray := by
      rw [← hZ1, List.setIfInBounds_toArray, ← hn1, ← fillL_zero (fun j => Value.slice (some ⟨w.heap.size + 1 + (n - j), 0, none⟩) m1 m1), e]
    refine ⟨by simp, ?_, fun j h1 h2 => ?_, ?_⟩
    · rw [e3, hm1]
      exact heap_alloc2_old w _ _
    · obtain rfl : j = n := by omega
      rw [Nat.sub_self, Nat.add_zero]
      refine (heap_alloc2_new w _ _).trans ?_
      rw [← hZ2]
      congr 3
      rw [← hm1]
      apply List.ext_getElem
      · simp [fillL]
      · intro q q1 q2
        simp [fillL, f0]
    · exact ((Below.refl _ _).alloc (Nat.le_refl _) _).alloc (by simp) _
  have HT0 := hid hT0
  have HZ2 := hid hZ2
  have HF0 := hid f0
  have HF1 := hid f1
  have HFE := hid fe
  have HFN := hid fn
  have HFM := hid hfm
  have HN1 := hid hn1
  have HM1 := hid hm1
  have HNL := hid hn
  have HML := hid hm
  clear hf f0 f1 fe fn hfm hn hm hT0 hn1 hm1 hg0 hg1 hZ1 hZ2
  go_enter Try.func46, Try.ntmps46
  go_wp2_with fail
  generalize (w.alloc (.cells (Z1.setIfInBounds n (.slice (some ⟨w.heap.size + 1, 0, none⟩) m1 m1)) 63)).alloc (.cells Z2 3) = w2 at HT0 ⊢
  clear c0 z0
  go_loopg [6] n (fun g i wr => ∃ I : Nat, I ≤ n ∧ I = g ∧ i = .int .i64 ((I : Int) - 1) ∧ Hid (TabUp w wr n m f I))
  case atStart => exact ⟨n, Nat.le_refl _, rfl, rfl, HT0⟩
  case round =>
    obtain ⟨I, hI, rfl, rfl, HT⟩ := hrel
    by_cases hI0 : I = 0
    · subst hI0
      have hneg : ¬ (0 : Int) ≤ ((0 : Nat) : Int) - 1 := by omega
      go_wp2
      go_ret
      refine ⟨_, rfl, ?_, HT.out.below⟩
      have := HT.out.tab
      rw [HN1.out] at this
      exact this
    · obtain ⟨i, rfl⟩ : ∃ i, I = i + 1 := ⟨I - 1, by omega⟩
      rw [show ((i + 1 : Nat) : Int) - 1 = (i : Int) by omega]
      have i0 : (0 : Int) ≤ (i : Int) := Int.natCast_nonneg _
      have i1 : (i : Int) < (n1 : Int) := by omega
      have iw : IntKind.i64.wrap ((i : Int) - 1) = (i : Int) - 1 := IntWalk.i64_in _ (by omega)
      have hin : i < n := by omega
      have hz := HT.out.size
      have h0 : (wr.alloc (.cells Z2 3)).heap[w.heap.size]? = _ := (Below.heap_alloc wr _ _ (by omega)).trans HT.out.top
      have c1 := blk_cell (i := i) (v := .slice none 0 0) h0 (by rw [List.getElem?_toArray, fillL_lo (by omega) (by omega)])
      have z1 := blk_free (i := i) h0
      have hR := HT.out.row hin (HF1.out i) rfl
      rw [HM1.out, HZ2.out] at hR
      have HR := hid hR
      clear h0 hR hz
      go_wp2_with fail
      generalize (wr.alloc (.cells Z2 3)).setCell ⟨w.heap.size, i, none⟩ (.slice (some ⟨wr.heap.size, 0, none⟩) m1 m1) = w3 at HR ⊢
      clear c1 z1
      go_loopg [7] m (fun g k wr => ∃ K : Nat, K ≤ m ∧ K = g ∧ k = .int .i64 ((K : Int) - 1) ∧ Hid (RowUp w wr n m f i K))
      case atStart => exact ⟨m, Nat.le_refl _, rfl, rfl, HR⟩
      case round =>
        obtain ⟨K, hK, rfl, rfl, HU⟩ := hrel
        by_cases hK0 : K = 0
        · subst hK0
          have hneg : ¬ (0 : Int) ≤ ((0 : Nat) : Int) - 1 := by omega
          have HD := hid HU.out.done
          go_wp2
          go_roundg i
          case measure => omega
          case rel => exact ⟨i, by omega, rfl, rfl, HD⟩
        · obtain ⟨k, rfl⟩ : ∃ k, K = k + 1 := ⟨K - 1, by omega⟩
          rw [show ((k + 1 : Nat) : Int) - 1 = (k : Int) by omega]
          have k0 : (0 : Int) ≤ (k : Int) := Int.natCast_nonneg _
          have kw : IntKind.i64.wrap ((k : Int) - 1) = (k : Int) - 1 := IntWalk.i64_in _ (by omega)
          have hkm : k < m := by omega
          have hbel := HU.out.below
          obtain ⟨a1, x, rfl, hcx, hx⟩ := (Sl.old ha hbel).strAt' (i := i) (by rw [HNL.out]; exact hin)
          obtain ⟨a2, y, rfl, hcy, hy⟩ := (Sl.old hb hbel).strAt' (i := k) (by rw [HML.out]; exact hkm)
          have in1 : (i : Int) < (n : Int) := by omega
          have km1 : (k : Int) < (m : Int) := by omega
          obtain ⟨R0, hR0⟩ : ∃ R0, w.heap.size + 1 + (n - i) = R0 := ⟨_, rfl⟩
          obtain ⟨R1, hR1⟩ : ∃ R1, w.heap.size + 1 + (n - (i + 1)) = R1 := ⟨_, rfl⟩
          obtain ⟨i2, hi2'⟩ : ∃ i2, i + 1 = i2 := ⟨_, rfl⟩
          obtain ⟨k2, hk2'⟩ : ∃ k2, k + 1 = k2 := ⟨_, rfl⟩
          have iw2 : IntKind.i64.wrap ((i : Int) + 1) = (i2 : Int) := (IntWalk.i64_in _ (by omega)).trans (by omega)
          have kw2 : IntKind.i64.wrap ((k : Int) + 1) = (k2 : Int) := (IntWalk.i64_in _ (by omega)).trans (by omega)
          have ct0 := blk_cell (i := i) HU.out.top (by rw [List.getElem?_toArray]; exact fillL_at (by omega) (Nat.le_refl _))
          have ct1 := blk_cell (i := i2) HU.out.top (by rw [List.getElem?_toArray]; exact fillL_at (by omega) (by omega))
          rw [hR0, HM1.out] at ct0
          rw [← hi2', hR1, hi2', HM1.out] at ct1
          have hrow := HU.out.rows (i + 1) (Nat.le_refl _) (by omega)
          have hcur := HU.out.cur
          rw [hR1] at hrow
          rw [hR0] at hcur
          have cr0 := blk_cell (i := k) hrow (by rw [List.getElem?_toArray]; exact fillL_at (by omega) (Nat.zero_le _))
          have cr1 := blk_cell (i := k2) hrow (by rw [List.getElem?_toArray]; exact fillL_at (by omega) (Nat.zero_le _))
          have cc1 := blk_cell (i := k2) hcur (by rw [List.getElem?_toArray]; exact fillL_at (by omega) (by omega))
          have cc0 := blk_cell (i := k) hcur (by rw [List.getElem?_toArray]; exact fillL_lo (by omega) (by omega))
          have zc0 := blk_free (i := k) hcur
          have hm1 : (k2 : Int) < (m1 : Int) := by have := HM1.out; omega
          have hm2 : (k : Int) < (m1 : Int) := by have := HM1.out; omega
          have hi3' : (i2 : Int) < (n1 : Int) := by have := HN1.out; omega
          have k20 : (0 : Int) ≤ (k2 : Int) := Int.natCast_nonneg _
          have i20 : (0 : Int) ≤ (i2 : Int) := Int.natCast_nonneg _
          by_cases hxy : x = y
          · subst hxy
            have hbe : (x == x) = true := by simp
            have hfe := HFE.out i k x hx hy
            have hfm := HFM.out (i + 1) (k + 1)
            rw [hi2', hk2'] at hfe hfm
            obtain ⟨V, hV⟩ : ∃ V, f i2 k2 = V := ⟨_, rfl⟩
            rw [hV] at hfe hfm
            rw [hi2', hV] at cr1
            have HFE2 := hid hfe
            have HR0 := hid hR0
            have vw : IntKind.i64.wrap ((V : Int) + 1) = (V : Int) + 1 := IntWalk.i64_in _ (by omega)
            clear hfe hV hrow hcur hR0 hR1 hi2' hk2' hx hy hbel cr0 cc1
            go_wp2_with fail
            go_quiet (fail)
            go_wp2_with fail
            refine wp_region_still_tail 16 (by kernel_rfl) (by kernel_rfl) ?_
            simp only [List.take_succ_cons, List.take_zero, List.drop_succ_cons, List.drop_zero]
            have e0 : (wr.drewN nq).drew.cell? ⟨w.heap.size, i, none⟩ = _ := ct0
            have e1 : (wr.drewN nq).drew.cell? ⟨w.heap.size, i2, none⟩ = _ := ct1
            have e2 : (wr.drewN nq).drew.cell? ⟨R1, k2, none⟩ = _ := cr1
            have e3 : (wr.drewN nq).drew.cell? ⟨R0, k, none⟩ = _ := cc0
            have e4 : (wr.drewN nq).drew.frozen? ⟨R0, k, none⟩ = false := zc0
            have HQ := hid (show ∃ q, (wr.drewN nq).drew = wr.drewN q from ⟨nq + 1, rfl⟩)
            change wpStill _ _ (World.drew (wr.drewN nq)) (fun a' => wpList _ _ _ _ a' (World.drew (wr.drewN nq))) _ _
            clear ct0 ct1 cr1 cc0 zc0 hcx hcy
            generalize (wr.drewN nq).drew = w5 at e0 e1 e2 e3 e4 HQ ⊢
            repeat still_step
            try refine wpStill_nil ?_
            go_wp2_with fail
            have R := HU.out.put (by omega) (by omega) HQ.out (.int .i64 ((V : Int) + 1)) (by rw [HFE2.out]; rfl)
            rw [HR0.out] at R
            go_roundg k
            case measure => omega
            case rel => exact ⟨k, by omega, rfl, rfl, hid R⟩
          · have hbe : (x == y) = false := by simpa using hxy
            have hfe := HFN.out i k x y hx hy hxy
            have hfm0 := HFM.out (i + 1) k
            have hfm1 := HFM.out i (k + 1)
            rw [hi2', hk2'] at hfe
            rw [hi2'] at hfm0 cr0
            rw [hk2'] at hfm1
            obtain ⟨V0, hV0⟩ : ∃ V, f i2 k = V := ⟨_, rfl⟩
            obtain ⟨V1, hV1⟩ : ∃ V, f i k2 = V := ⟨_, rfl⟩
            rw [hV0, hV1] at hfe
            rw [hV0] at hfm0 cr0
            rw [hV1] at hfm1 cc1
            have HFE2 := hid hfe
            have HR0 := hid hR0
            clear hfe hV0 hV1 hrow hcur hR0 hR1 hi2' hk2' hx hy hbel cr1 hxy
            go_wp2_with fail
            go_quiet (fail)
            go_wp2_with fail
            refine wp_region_still_tail 23 (by kernel_rfl) (by kernel_rfl) ?_
            simp only [List.take_succ_cons, List.take_zero, List.drop_succ_cons, List.drop_zero]
            have e0 : (wr.drewN nq).drew.cell? ⟨w.heap.size, i, none⟩ = _ := ct0
            have e1 : (wr.drewN nq).drew.cell? ⟨w.heap.size, i2, none⟩ = _ := ct1
            have e2 : (wr.drewN nq).drew.cell? ⟨R1, k, none⟩ = _ := cr0
            have e5 : (wr.drewN nq).drew.cell? ⟨R0, k2, none⟩ = _ := cc1
            have e3 : (wr.drewN nq).drew.cell? ⟨R0, k, none⟩ = _ := cc0
            have e4 : (wr.drewN nq).drew.frozen? ⟨R0, k, none⟩ = false := zc0
            have HQ := hid (show ∃ q, (wr.drewN nq).drew = wr.drewN q from ⟨nq + 1, rfl⟩)
            change wpStill _ _ (World.drew (wr.drewN nq)) (fun a' => wpList _ _ _ _ a' (World.drew (wr.drewN nq))) _ _
            clear ct0 ct1 cr0 cc0 cc1 zc0 hcx hcy
            generalize (wr.drewN nq).drew = w5 at e0 e1 e2 e3 e4 e5 HQ ⊢
            repeat still_step
            try refine wpStill_nil ?_
            go_wp2_with fail
            · rename_i hmx
              have R := HU.out.put (by omega) (by omega) HQ.out (.int .i64 (V1 : Int)) (by rw [HFE2.out, Nat.max_eq_right (by omega)])
              rw [HR0.out] at R
              go_roundg k
              case measure => omega
              case rel => exact ⟨k, by omega, rfl, rfl, hid R⟩
            · rename_i hmx
              have R := HU.out.put (by omega) (by omega) HQ.out (.int .i64 (V0 : Int)) (by rw [HFE2.out, Nat.max_eq_left (by omega)])
              rw [HR0.out] at R
              go_roundg k
              case measure => omega
              case rel => exact ⟨k, by omega, rfl, rfl, hid R⟩

theorem RCommon_any (va vb : Value) (a b : List (List UInt8)) (w : World) (ha : Sl w va (strCells a)) (hb : Sl w vb (strCells b)) (hal : a.length ≤ 1000000) (hbl : b.length ≤ 1000000) :
    Calls Try.prog 26 #[va, vb] w fun e w' => e = .returned (.int .i64 (lcs a b : Nat)) ∧ Below w.heap.size w w' := by
  go_enter Try.func26, Try.ntmps26
  go_wp2_with fail
  refine (Rtable_any va vb a b w ha hb hal hbl).mono ?_
  rintro e w1 ⟨t, rfl, ⟨g, _, rfl, ht⟩, hb1⟩
  obtain ⟨r, _, h1, h2⟩ := ht 0 (Nat.zero_le _)
  have h3 : w1.cell? ⟨r, 0, none⟩ = some (.int .i64 (lcs a b : Nat)) := h2 0 (Nat.zero_le _)
  clear ht h2
  obtain ⟨n1, hn1⟩ : ∃ n1, a.length + 1 = n1 := ⟨_, rfl⟩
  obtain ⟨m1, hm1⟩ : ∃ m1, b.length + 1 = m1 := ⟨_, rfl⟩
  rw [hm1] at h1
  rw [hn1]
  have p1 : (0 : Int) < (n1 : Int) := by omega
  have p2 : (0 : Int) < (m1 : Int) := by omega
  have p1' : 0 < n1 := by omega
  have p2' : 0 < m1 := by omega
  clear hn1 hm1
  go_wp2
  go_ret
  exact ⟨rfl, hb1⟩
end
end Go.Proofs.Ytnpgfbgnbonhfaa

namespace Go.Proofs.Ytnpgfbgnbonhfaa
open Go.RowKit

section
set_option maxRecDepth 100000
set_option maxHeartbeats 2000000

theorem RSplit_any (s : List UInt8) (w : World) (hlen : s.length ≤ 1099511627776) :
    Calls Try.prog 25 #[strV s] w fun e w' => ∃ v, e = .returned v ∧ w'.ownsRow w.heap.size 9 1 v (linesOf s).length (strCells (linesOf s)) ∧ Below w.heap.size w w' := by
  obtain ⟨i0, hi0, hi1, hi2, hi3⟩ := info_parts Try.infoStr
  unfold strV
  have hsz := hid (rfl : (⟨s.toArray⟩ : ByteArray).size = s.length)
  go_enter Try.func25, Try.ntmps25
  go_wp2_with fail
  go_loopw [3, 4, 5] (fun l f i wr => ∃ (ds : List (List UInt8)) (p k : Nat), Hid (LinesAt s ds p k) ∧ p ≤ k ∧ k ≤ s.length ∧ ds.length ≤ p ∧ f = .int .i64 (p : Nat) ∧ i = .int .i64 (k : Nat) ∧ wr.ownsRow w.heap.size 9 1 l ds.length (strCells ds) ∧ Below w.heap.size w wr) (fun _ _ i _ => s.length - (intOf i).toNat)
  case atStart => exact ⟨[], 0, 0, hid (LinesAt.start s), Nat.le_refl _, Nat.zero_le _, Nat.le_refl _, rfl, rfl, World.ownsRow_nil _ _ _ _, Below.refl _ _⟩
  case round =>
    obtain ⟨ds, p, k, HL, hpk, hk, hdp, rfl, rfl, hown, hbel⟩ := hrel
    have hz := hbel.size
    by_cases hlt : k < s.length
    · obtain ⟨b, hb⟩ : ∃ b, s[k]? = some b := ⟨_, List.getElem?_eq_getElem hlt⟩
      have hix := run_str_at (P := Try.prog) 9 Try.underlying9 hb
      have k1 : (k : Int) < (s.length : Int) := by omega
      obtain ⟨e, he⟩ : ∃ e, e = k + 1 := ⟨_, rfl⟩
      have kw : IntKind.i64.wrap ((k : Int) + 1) = (e : Int) := (IntWalk.i64_in _ (by omega)).trans (by omega)
      by_cases h10 : b = 10
      · subst h10
        have hsl := run_str_mid (P := Try.prog) 9 Try.underlying9 s p e (by omega) (by omega)
        have hbe : ((UInt8.toNat 10 : Nat) : Int) = 10 := rfl
        rw [hbe] at hix
        have HN := hid (HL.out.line hb)
        rw [← he] at HN
        obtain ⟨x, hx⟩ : ∃ x, (s.drop p).take (e - p) = x := ⟨_, rfl⟩
        rw [hx] at hsl HN
        have g3 : ds.length + 1 ≤ maxLen := by unfold maxLen; omega
        have g4 : (ds.length + 1) * 16 ≤ 140737488355328 := by omega
        have HE := hid he
        obtain ⟨al, cl, rfl⟩ := owns_form hown
        have hbase : w.heap.size ≤ (wr.alloc (.cells #[.string ⟨x.toArray⟩] 9)).heap.size := by simp; omega
        clear hb hx he
        go_wp2_with (refine wpList_append_any _ rfl (.tmp 16) (.tmp 22) _ _ rfl w.heap.size 9 i0 _ 1 16 Try.underlying47 hi0 hi1 hi2 hi3 rfl (by omega) (.slice al ds.length cl) _ _ rfl (hown.alloc _) _ 1 [.string ⟨x.toArray⟩] rfl (Src.ofSlice _ Try.underlying47 ⟨wr.heap.size, 0, none⟩ 1 1 [.string ⟨x.toArray⟩] (by rfl) (World.news_of_block (cs := #[.string ⟨x.toArray⟩]) (t := 9) (fr := (0, 0)) (heap_alloc_new wr _)) (by simp [Value.oneCell'])) g3 g4 hbase ?_; intro v5 w5 hown5 hgrow5 hat5)
        have hb5 : Below w.heap.size w w5 := (hbel.alloc hz _).grown hgrow5 hbase (fun j hj => (hown.lt j hj).1)
        have R : w5.ownsRow w.heap.size 9 1 v5 (ds ++ [x]).length (strCells (ds ++ [x])) := by
          rw [strCells_append, List.length_append]
          exact hown5
        have he := HE.out
        clear hown5 hgrow5 hat5 hown
        go_roundw
        case rel => exact ⟨ds ++ [x], e, e, HN, by omega, by omega, by simp; omega, rfl, rfl, R, hb5⟩
        case measure => simp [intOf]; omega
      · have hbe : (((b.toNat : Nat) : Int) == 10) = false := by
          simp
          intro h
          exact h10 (UInt8.toNat_inj.1 (by rw [show UInt8.toNat 10 = 10 from rfl]; omega))
        have HN := hid (HL.out.more hb h10)
        rw [← he] at HN
        have HE := hid he
        clear hb h10 he
        go_wp2
        go_roundw
        case rel => exact ⟨ds, p, e, HN, by have := HE.out; omega, by have := HE.out; omega, hdp, rfl, rfl, hown, hbel⟩
        case measure => have := HE.out; simp [intOf]; omega
    · obtain rfl : k = s.length := by omega
      have HS := hid HL.out.stop
      by_cases hps : p < s.length
      · have hps' : (p : Int) < (s.length : Int) := by omega
        have hsl := run_str_from (P := Try.prog) 9 Try.underlying9 s p (by omega)
        obtain ⟨x, hx⟩ : ∃ x, s.drop p = x := ⟨_, rfl⟩
        have HS2 := hid (show linesOf s = ds ++ [x] by rw [HS.out, if_pos hps, hx])
        rw [hx] at hsl
        have g3 : ds.length + 1 ≤ maxLen := by unfold maxLen; omega
        have g4 : (ds.length + 1) * 16 ≤ 140737488355328 := by omega
        obtain ⟨al, cl, rfl⟩ := owns_form hown
        have hbase : w.heap.size ≤ (wr.alloc (.cells #[.string ⟨x.toArray⟩] 9)).heap.size := by simp; omega
        have hlt' : ¬ (s.length : Int) < (s.length : Int) := by omega
        clear hx hlt hps
        go_wp2_with (refine wpList_append_any _ rfl (.tmp 30) (.tmp 34) _ _ rfl w.heap.size 9 i0 _ 1 16 Try.underlying47 hi0 hi1 hi2 hi3 rfl (by omega) (.slice al ds.length cl) _ _ rfl (hown.alloc _) _ 1 [.string ⟨x.toArray⟩] rfl (Src.ofSlice _ Try.underlying47 ⟨wr.heap.size, 0, none⟩ 1 1 [.string ⟨x.toArray⟩] (by rfl) (World.news_of_block (cs := #[.string ⟨x.toArray⟩]) (t := 9) (fr := (0, 0)) (heap_alloc_new wr _)) (by simp [Value.oneCell'])) g3 g4 hbase ?_; intro v5 w5 hown5 hgrow5 hat5)
        have hb5 : Below w.heap.size w w5 := (hbel.alloc hz _).grown hgrow5 hbase (fun j hj => (hown.lt j hj).1)
        go_ret
        refine ⟨v5, rfl, ?_, hb5⟩
        rw [HS2.out, strCells_append, List.length_append]
        exact hown5
      · have hps' : ¬ (p : Int) < (s.length : Int) := by omega
        have HS2 := hid (show linesOf s = ds by rw [HS.out, if_neg hps])
        have hlt' : ¬ (s.length : Int) < (s.length : Int) := by omega
        clear hlt hps
        go_wp2
        go_ret
        refine ⟨_, rfl, ?_, hbel⟩
        rw [HS2.out]
        exact hown

end
end Go.Proofs.Ytnpgfbgnbonhfaa

namespace Go.Proofs.Ytnpgfbgnbonhfaa
open Go.RowKit

section
set_option maxRecDepth 100000
set_option maxHeartbeats 4000000
theorem RRatio_any (a b : Txt) (w : World) (ha : a.length ≤ 1000000) (hb : b.length ≤ 1000000) :
    Calls Try.prog 13 #[strV a, strV b] w fun e w' => e = .returned (.int .i64 (ratioS a b : Nat)) ∧ Below w.heap.size w w' := by
  have hca := linesOf_count a
  have hcb := linesOf_count b
  have HSA := hid (RSplit_any a w (by omega))
  have HSB := hid (fun wx => RSplit_any b wx (by omega))
  unfold ratioS
  obtain ⟨x, hx⟩ : ∃ x, linesOf a = x := ⟨_, rfl⟩
  obtain ⟨y, hy⟩ : ∃ y, linesOf b = y := ⟨_, rfl⟩
  rw [hx] at HSA hca ⊢
  rw [hy] at HSB hcb ⊢
  have hxl : x.length ≤ 1000000 := by omega
  have hyl : y.length ≤ 1000000 := by omega
  clear hca hcb hx hy ha hb
  have HC := hid (fun va vb wx h1 h2 => RCommon_any va vb x y wx h1 h2 hxl hyl)
  have hle := (lcs_le x y).1
  have hz : ratioL x y = if x.length + y.length = 0 then 100 else if 400 < x.length ∨ 400 < y.length then 0 else 200 * lcs x y / (x.length + y.length) := rfl
  obtain ⟨c, hc⟩ : ∃ c, lcs x y = c := ⟨_, rfl⟩
  obtain ⟨z, hzz⟩ : ∃ z, ratioL x y = z := ⟨_, rfl⟩
  rw [hzz] at hz
  rw [hzz]
  rw [hc] at hz hle HC
  clear hzz hc
  obtain ⟨n, hn⟩ : ∃ n, x.length = n := ⟨_, rfl⟩
  obtain ⟨m, hm⟩ : ∃ m, y.length = m := ⟨_, rfl⟩
  rw [hn] at hz hle hxl HSA
  rw [hm] at hz hyl HSB
  clear hn hm
  have kw : IntKind.i64.wrap ((n : Int) + (m : Int)) = (n : Int) + (m : Int) := IntWalk.i64_in _ (by omega)
  by_cases h0 : n + m = 0
  · have e0 : (n : Int) + (m : Int) = 0 := by omega
    rw [if_pos h0] at hz
    subst hz
    clear h0 HC hle hxl hyl
    unfold strV at *
    go_enter Try.func13, Try.ntmps13
    go_wp2_with fail
    refine HSA.out.mono ?_
    rintro e w1 ⟨va, rfl, ho1, hb1⟩
    obtain ⟨lo, lc, rfl⟩ := owns_form ho1
    have HX := hid (Sl.ofOwns ho1)
    clear ho1 HSA
    go_wp2_with fail
    refine (HSB.out w1).mono ?_
    rintro e w2 ⟨vb, rfl, ho2, hb2⟩
    obtain ⟨lo2, lc2, rfl⟩ := owns_form ho2
    have HY := hid (Sl.ofOwns ho2)
    have HX2 := hid (Sl.old HX.out hb2)
    have HB := hid (below_step hb1 hb2 hb1.size)
    clear ho2 HSB HX hb1 hb2
    go_wp2_with fail
    go_ret
    exact ⟨rfl, HB.out⟩
  have e0 : ¬ (n : Int) + (m : Int) = 0 := by omega
  rw [if_neg h0] at hz
  by_cases h1 : 400 < n
  · have e1 : (400 : Int) < (n : Int) := by omega
    rw [if_pos (.inl h1)] at hz
    subst hz
    clear h0 h1 HC hle hxl hyl
    unfold strV at *
    go_enter Try.func13, Try.ntmps13
    go_wp2_with fail
    refine HSA.out.mono ?_
    rintro e w1 ⟨va, rfl, ho1, hb1⟩
    obtain ⟨lo, lc, rfl⟩ := owns_form ho1
    have HX := hid (Sl.ofOwns ho1)
    clear ho1 HSA
    go_wp2_with fail
    refine (HSB.out w1).mono ?_
    rintro e w2 ⟨vb, rfl, ho2, hb2⟩
    obtain ⟨lo2, lc2, rfl⟩ := owns_form ho2
    have HY := hid (Sl.ofOwns ho2)
    have HX2 := hid (Sl.old HX.out hb2)
    have HB := hid (below_step hb1 hb2 hb1.size)
    clear ho2 HSB HX hb1 hb2
    go_wp2_with fail
    go_ret
    exact ⟨rfl, HB.out⟩
  have e1 : ¬ (400 : Int) < (n : Int) := by omega
  by_cases h2 : 400 < m
  · have e2 : (400 : Int) < (m : Int) := by omega
    rw [if_pos (.inr h2)] at hz
    subst hz
    clear h0 h1 h2 HC hle hxl hyl
    unfold strV at *
    go_enter Try.func13, Try.ntmps13
    go_wp2_with fail
    refine HSA.out.mono ?_
    rintro e w1 ⟨va, rfl, ho1, hb1⟩
    obtain ⟨lo, lc, rfl⟩ := owns_form ho1
    have HX := hid (Sl.ofOwns ho1)
    clear ho1 HSA
    go_wp2_with fail
    refine (HSB.out w1).mono ?_
    rintro e w2 ⟨vb, rfl, ho2, hb2⟩
    obtain ⟨lo2, lc2, rfl⟩ := owns_form ho2
    have HY := hid (Sl.ofOwns ho2)
    have HX2 := hid (Sl.old HX.out hb2)
    have HB := hid (below_step hb1 hb2 hb1.size)
    clear ho2 HSB HX hb1 hb2
    go_wp2_with fail
    go_ret
    exact ⟨rfl, HB.out⟩
  have e2 : ¬ (400 : Int) < (m : Int) := by omega
  rw [if_neg (by omega)] at hz
  have kc : IntKind.i64.wrap (200 * (c : Int)) = 200 * (c : Int) := IntWalk.i64_in _ (by omega)
  have kd : Int.tdiv (200 * (c : Int)) ((n : Int) + (m : Int)) = (z : Int) := by
    rw [Int.tdiv_eq_ediv_of_nonneg (by omega), hz]
    norm_cast
  have hz1 : z ≤ 200 * c := by rw [hz]; exact Nat.div_le_self _ _
  have kz : IntKind.i64.wrap (z : Int) = (z : Int) := IntWalk.i64_in _ (by omega)
  clear hz hz1 h0 h1 h2 hle hxl hyl
  · skip
    unfold strV at *
    go_enter Try.func13, Try.ntmps13
    go_wp2_with fail
    refine HSA.out.mono ?_
    rintro e w1 ⟨va, rfl, ho1, hb1⟩
    obtain ⟨lo, lc, rfl⟩ := owns_form ho1
    have HX := hid (Sl.ofOwns ho1)
    clear ho1 HSA
    go_wp2_with fail
    refine (HSB.out w1).mono ?_
    rintro e w2 ⟨vb, rfl, ho2, hb2⟩
    obtain ⟨lo2, lc2, rfl⟩ := owns_form ho2
    have HY := hid (Sl.ofOwns ho2)
    have HX2 := hid (Sl.old HX.out hb2)
    have HB := hid (below_step hb1 hb2 hb1.size)
    clear ho2 HSB HX hb1 hb2
    go_wp2_with fail
    refine (HC.out _ _ w2 HX2.out HY.out).mono ?_
    rintro e w3 ⟨rfl, hb3⟩
    have HB3 := hid (below_step HB.out hb3 HB.out.size)
    clear HC HX2 HY hb3 HB
    go_wp2_with fail
    go_ret
    exact ⟨rfl, HB3.out⟩
end
end Go.Proofs.Ytnpgfbgnbonhfaa
