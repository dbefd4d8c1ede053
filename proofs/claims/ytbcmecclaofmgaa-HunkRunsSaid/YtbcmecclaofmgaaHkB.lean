/-
  The hunks of edits (the document's own): the last one may be under way, and what it holds grows through a pointer into the list.
-/
import Derived.Test.YtbcmecclaofmgaaHkA
import Derived.Test.YtbcmecclaofmgaaEdA
import Derived.Test.YtbcmecclaofmgaaEdB
import Derived.Laws.OwnMore
import Derived.Deep.RegionLaw
import Derived.Deep.LoopGhost
namespace Go.Proofs.Ytbcmecclaofmgaa
open Go.RowKit

def NestS (w : World) (S : Nat → Prop) (u : Value) (xs : List (List UInt8)) : Prop := Sl w u (strCells xs) ∧ ∀ a n c, u = .slice (some a) n c → a.block < w.heap.size ∧ ¬ S a.block
theorem NestS.kept {w w' : World} {S T : Nat → Prop} {u : Value} {xs : List (List UInt8)} (h : NestS w S u xs) (hk : ∀ b, b < w.heap.size → ¬ S b → w'.heap[b]? = w.heap[b]?) (hz : w.heap.size ≤ w'.heap.size) (hT : ∀ b, b < w.heap.size → T b → S b) : NestS w' T u xs :=
  ⟨h.1.kept fun a n c e hlt => hk _ hlt (h.2 a n c e).2, fun a n c e => ⟨Nat.lt_of_lt_of_le (h.2 a n c e).1 hz, fun ht => (h.2 a n c e).2 (hT _ (h.2 a n c e).1 ht)⟩⟩
def Blk (v vo vn : Value) (b : Nat) : Prop := v.ownBlock = some b ∨ vo.ownBlock = some b ∨ vn.ownBlock = some b
/-- A list of hunks of the call's own, the last of which is under way. -/
structure OpenHk (w : World) (base : Nat) (v : Value) (done : List HkS) (s : Int) (o n : List (List UInt8)) (vo vn : Value) (flat : List Value) : Prop where
  row : w.ownsRow base 36 3 v (done.length + 1) (flat ++ [.int .i64 s, vo, vn])
  nests : ∀ i h, done[i]? = some h → ∃ uo un, flat[i * 3]? = some (.int .i64 h.1) ∧ flat[i * 3 + 1]? = some uo ∧ flat[i * 3 + 2]? = some un ∧ NestS w (Blk v vo vn) uo h.2.1 ∧ NestS w (Blk v vo vn) un h.2.2
  old : w.ownsRow base 9 1 vo o.length (strCells o)
  new : w.ownsRow base 9 1 vn n.length (strCells n)
  a1 : ∀ b, v.ownBlock = some b → vo.ownBlock ≠ some b
  a2 : ∀ b, v.ownBlock = some b → vn.ownBlock ≠ some b
  a3 : ∀ b, vo.ownBlock = some b → vn.ownBlock ≠ some b
section
variable {w : World} {base : Nat} {v vo vn : Value} {done : List HkS} {s : Int} {o n : List (List UInt8)} {flat : List Value}
theorem OpenHk.len (h : OpenHk w base v done s o n vo vn flat) : flat.length = done.length * 3 := by
  have := h.row.1
  rw [List.length_append] at this
  simp at this
  omega
theorem OpenHk.old' {w' : World} (h : OpenHk w base v done s o n vo vn flat) (hk : Below w.heap.size w w') : OpenHk w' base v done s o n vo vn flat :=
  ⟨owns_kept h.row fun g _ hg => hk.block g hg, fun i x hx => by
    obtain ⟨uo, un, e1, e2, e3, n1, n2⟩ := h.nests i x hx
    exact ⟨uo, un, e1, e2, e3, n1.kept (fun b hb _ => hk.block b hb) hk.size (fun b _ hb => hb), n2.kept (fun b hb _ => hk.block b hb) hk.size (fun b _ hb => hb)⟩,
    owns_kept h.old fun g _ hg => hk.block g hg, owns_kept h.new fun g _ hg => hk.block g hg, h.a1, h.a2, h.a3⟩
theorem own_nest {u : Value} {xs : List (List UInt8)} (h : w.ownsRow base 9 1 u xs.length (strCells xs)) (ha : ∀ b, v.ownBlock = some b → u.ownBlock ≠ some b) : Nest w v u xs :=
  ⟨Sl.ofOwns h, fun a k c e => ⟨(h.lt _ (by rw [e]; rfl)).2, fun e' => ha _ e' (by rw [e]; rfl)⟩⟩
theorem OpenHk.close (h : OpenHk w base v done s o n vo vn flat) : OwnHk w base v (done ++ [(s, o, n)]) := by
  have hl := h.len
  refine ⟨flat ++ [.int .i64 s, vo, vn], by rw [List.length_append]; exact h.row, fun i x hx => ?_⟩
  by_cases hi : i < done.length
  · rw [List.getElem?_append_left hi] at hx
    obtain ⟨a, b, e1, e2, e3, n1, n2⟩ := h.nests i x hx
    refine ⟨a, b, ?_, ?_, ?_, ⟨n1.1, fun a k c e => ⟨(n1.2 a k c e).1, fun e' => (n1.2 a k c e).2 (.inl e')⟩⟩, ⟨n2.1, fun a k c e => ⟨(n2.2 a k c e).1, fun e' => (n2.2 a k c e).2 (.inl e')⟩⟩⟩
    · rw [List.getElem?_append_left (by omega)]; exact e1
    · rw [List.getElem?_append_left (by omega)]; exact e2
    · rw [List.getElem?_append_left (by omega)]; exact e3
  · have hlt := (List.getElem?_eq_some_iff.1 hx).1
    rw [List.length_append, List.length_singleton] at hlt
    obtain rfl : i = done.length := by omega
    rw [List.getElem?_append_right (Nat.le_refl _), Nat.sub_self] at hx
    cases hx
    refine ⟨vo, vn, ?_, ?_, ?_, own_nest h.old h.a1, own_nest h.new h.a2⟩
    · rw [List.getElem?_append_right (by omega), show done.length * 3 - flat.length = 0 by omega]; rfl
    · rw [List.getElem?_append_right (by omega), show done.length * 3 + 1 - flat.length = 1 by omega]; rfl
    · rw [List.getElem?_append_right (by omega), show done.length * 3 + 2 - flat.length = 2 by omega]; rfl
/-- a new one is begun -/
theorem wpList_open_hk {ops : Array Oper} {rest : List Oper} {op : Oper} {a : Act} {Q : Exit → Act → World → Prop} (hgd : op.guard = none) (t tx : Operand)
    (ho : op.op = .call { callee := .builtin .append, args := #[t, tx], argTypes := #[24, 24] })
    (base : Nat) (v : Value) (hs : List HkS) (k : Int) (he : a.eval t = v) (hown : OwnHk w base v hs)
    (hx : a.eval tx = .slice (some ⟨w.heap.size, 0, none⟩) 1 1) (hlen : hs.length ≤ 4000000) (hbase : base ≤ w.heap.size)
    (h : ∀ v' w' flat, OpenHk w' base v' hs k [] [] (.slice none 0 0) (.slice none 0 0) flat → Below base w w' → wpList Try.prog ops Q rest (a.put op.dst v') w') : wpList Try.prog ops Q (op :: rest) a (w.alloc (.cells #[.int .i64 k, .slice none 0 0, .slice none 0 0] 36)) := by
  obtain ⟨flat, h1, h2⟩ := hown
  obtain ⟨i0, hi0, hi1, hi2, hi3⟩ := info_parts Try.infoHk
  have hz : (w.alloc (.cells #[.int .i64 k, .slice none 0 0, .slice none 0 0] 36)).heap.size = w.heap.size + 1 := by simp
  refine wpList_append_any _ hgd t tx _ _ ho base 36 i0 _ 3 56 Try.underlying24 hi0 hi1 hi2 hi3 rfl (by omega) v _ _ he (h1.alloc _) _ 1 [.int .i64 k, .slice none 0 0, .slice none 0 0] hx
    (Src.ofSlice _ Try.underlying24 ⟨w.heap.size, 0, none⟩ 1 1 [.int .i64 k, .slice none 0 0, .slice none 0 0] (by rfl) (World.news_of_block (cs := #[.int .i64 k, .slice none 0 0, .slice none 0 0]) (t := 36) (fr := (0, 0)) (heap_alloc_new w _)) (by simp [Value.oneCell'])) (by unfold maxLen; omega) (by omega) (by omega) fun v' w' q1 q2 q3 => h v' w' flat ⟨q1, fun i x hx => ?_, World.ownsRow_nil _ _ _ _, World.ownsRow_nil _ _ _ _, (fun b _ e => by cases e), (fun b _ e => by cases e), (fun b e => by cases e)⟩ ?_
  · obtain ⟨uo, un, e1, e2, e3, n1, n2⟩ := h2 i x hx
    have keep : ∀ b, b < w.heap.size → v.ownBlock ≠ some b → w'.heap[b]? = w.heap[b]? := fun b hb hne => (q2.block b (by omega) (fun e => hne e.symm)).trans (Below.heap_alloc w _ b hb)
    have hsz : w.heap.size ≤ w'.heap.size := by have := q2.size; omega
    have go : ∀ {u : Value} {xs : List (List UInt8)}, Nest w v u xs → NestS w' (Blk v' (.slice none 0 0) (.slice none 0 0)) u xs := fun {u xs} hn =>
      ⟨hn.1.kept fun a n c e hlt => keep _ hlt (hn.2 a n c e).2, fun a n c e => ⟨Nat.lt_of_lt_of_le (hn.2 a n c e).1 hsz, fun hb => by
        rcases hb with hb | hb | hb
        · rcases q3 with e' | e'
          · exact (hn.2 a n c e).2 (e' ▸ hb)
          · have h5 := (hn.2 a n c e).1
            have h6 := Option.some.inj (e'.symm.trans hb)
            omega
        · cases hb
        · cases hb⟩⟩
    exact ⟨uo, un, e1, e2, e3, go n1, go n2⟩
  · exact ((Below.refl base w).alloc hbase _).grown q2 (by omega) (fun j hj => (h1.lt j hj).1)
/-- a line more in what it deletes -/
theorem OpenHk.putOld (h : OpenHk w base v done s o n vo vn flat) {g cap : Nat} (hv : v = .slice (some ⟨g, 0, none⟩) (done.length + 1) cap) {W w1 : World} (hW : ∀ b, b < w.heap.size → W.heap[b]? = w.heap[b]?) (hWs : W.heap.size = w.heap.size + 1) (hWb : Below base w W) {x : List UInt8} {u : Value}
    (q1 : w1.ownsRow base 9 1 u (o.length + 1) (strCells o ++ [.string ⟨x.toArray⟩])) (q2 : W.grownBy w1 vo.ownBlock) (q3 : u.ownBlock = vo.ownBlock ∨ u.ownBlock = some W.heap.size) (hbase : base ≤ w.heap.size) :
    OpenHk (w1.setCell ⟨g, done.length * 3 + 1, none⟩ u) base v done s (o ++ [x]) n u vn flat ∧ Below base w (w1.setCell ⟨g, done.length * 3 + 1, none⟩ u) := by
  have hl := h.len
  have hgb : v.ownBlock = some g := by rw [hv]; rfl
  have hg := h.row.lt g hgb
  have hgo : vo.ownBlock ≠ some g := h.a1 g hgb
  have hsz := q2.size
  have hug : u.ownBlock ≠ some g := by
    rcases q3 with e | e
    · rw [e]; exact hgo
    · rw [e]
      intro e'
      cases e'
      omega
  have keep : ∀ b, b < w.heap.size → vo.ownBlock ≠ some b → w1.heap[b]? = w.heap[b]? := fun b hb hne => (q2.block b (by omega) (fun e => hne e.symm)).trans (hW b hb)
  have keep2 : ∀ b, b < w.heap.size → vo.ownBlock ≠ some b → b ≠ g → (w1.setCell ⟨g, done.length * 3 + 1, none⟩ u).heap[b]? = w.heap[b]? := fun b hb hne hbg => (Below.heap_setCell _ _ _ _ hbg).trans (keep b hb hne)
  have hs2 : (w1.setCell ⟨g, done.length * 3 + 1, none⟩ u).heap.size = w1.heap.size := by simp [World.setCell]
  have row1 := owns_kept h.row (w' := w1) (fun b e hb => keep b hb (by rw [hgb] at e; cases e; exact hgo))
  have row2 : w1.ownsRow base 36 3 (.slice (some ⟨g, 0, none⟩) (done.length + 1) cap) (done.length + 1) (flat ++ [.int .i64 s, vo, vn]) := by
    rw [← hv]
    exact row1
  have row3 := (row2.stored (done.length * 3 + 1) u).1
  rw [← hv, List.set_append_right _ _ (by omega), show done.length * 3 + 1 - flat.length = 1 by omega] at row3
  have hblk : ∀ b, b < w.heap.size → Blk v u vn b → Blk v vo vn b := fun b hb h4 => by
    rcases h4 with h4 | h4 | h4
    · exact .inl h4
    · rcases q3 with e | e
      · exact .inr (.inl (e ▸ h4))
      · rw [e] at h4
        cases h4
        omega
    · exact .inr (.inr h4)
  refine ⟨⟨row3, fun i y hy => ?_, ?_, ?_, ?_, ?_, ?_⟩, ?_⟩
  · obtain ⟨uo, un, e1, e2, e3, n1, n2⟩ := h.nests i y hy
    have kk : ∀ b, b < w.heap.size → ¬ Blk v vo vn b → (w1.setCell ⟨g, done.length * 3 + 1, none⟩ u).heap[b]? = w.heap[b]? := fun b hb hn => keep2 b hb (fun e => hn (.inr (.inl e))) (fun e => hn (.inl (by rw [e]; exact hgb)))
    exact ⟨uo, un, e1, e2, e3, n1.kept kk (by omega) hblk, n2.kept kk (by omega) hblk⟩
  · have : w1.ownsRow base 9 1 u (o ++ [x]).length (strCells (o ++ [x])) := by
      rw [List.length_append, strCells_append]
      exact q1
    exact owns_kept this (fun b e hb => Below.heap_setCell _ _ _ _ (fun e' => hug (by rw [e, e'])))
  · exact owns_kept h.new (fun b e hb => keep2 b hb (fun e' => h.a3 b e' e) (fun e' => h.a2 g hgb (by rw [e, e'])))
  · intro b e1 e2
    rw [hgb] at e1
    cases e1
    exact hug e2
  · exact h.a2
  · intro b e1 e2
    rcases q3 with e | e
    · exact h.a3 b (e ▸ e1) e2
    · rw [e] at e1
      cases e1
      have := (h.new.lt _ e2).2
      omega
  · exact (hWb.grown q2 (by omega) (fun j hj => (h.old.lt j hj).1)).setCell (by show base ≤ g; omega) _
/-- a line more in what it inserts -/
theorem OpenHk.putNew (h : OpenHk w base v done s o n vo vn flat) {g cap : Nat} (hv : v = .slice (some ⟨g, 0, none⟩) (done.length + 1) cap) {W w1 : World} (hW : ∀ b, b < w.heap.size → W.heap[b]? = w.heap[b]?) (hWs : W.heap.size = w.heap.size + 1) (hWb : Below base w W) {x : List UInt8} {u : Value}
    (q1 : w1.ownsRow base 9 1 u (n.length + 1) (strCells n ++ [.string ⟨x.toArray⟩])) (q2 : W.grownBy w1 vn.ownBlock) (q3 : u.ownBlock = vn.ownBlock ∨ u.ownBlock = some W.heap.size) (hbase : base ≤ w.heap.size) :
    OpenHk (w1.setCell ⟨g, done.length * 3 + 2, none⟩ u) base v done s o (n ++ [x]) vo u flat ∧ Below base w (w1.setCell ⟨g, done.length * 3 + 2, none⟩ u) := by
  have hl := h.len
  have hgb : v.ownBlock = some g := by rw [hv]; rfl
  have hg := h.row.lt g hgb
  have hgo : vn.ownBlock ≠ some g := h.a2 g hgb
  have hsz := q2.size
  have hug : u.ownBlock ≠ some g := by
    rcases q3 with e | e
    · rw [e]; exact hgo
    · rw [e]
      intro e'
      cases e'
      omega
  have keep : ∀ b, b < w.heap.size → vn.ownBlock ≠ some b → w1.heap[b]? = w.heap[b]? := fun b hb hne => (q2.block b (by omega) (fun e => hne e.symm)).trans (hW b hb)
  have keep2 : ∀ b, b < w.heap.size → vn.ownBlock ≠ some b → b ≠ g → (w1.setCell ⟨g, done.length * 3 + 2, none⟩ u).heap[b]? = w.heap[b]? := fun b hb hne hbg => (Below.heap_setCell _ _ _ _ hbg).trans (keep b hb hne)
  have hs2 : (w1.setCell ⟨g, done.length * 3 + 2, none⟩ u).heap.size = w1.heap.size := by simp [World.setCell]
  have row1 := owns_kept h.row (w' := w1) (fun b e hb => keep b hb (by rw [hgb] at e; cases e; exact hgo))
  have row2 : w1.ownsRow base 36 3 (.slice (some ⟨g, 0, none⟩) (done.length + 1) cap) (done.length + 1) (flat ++ [.int .i64 s, vo, vn]) := by
    rw [← hv]
    exact row1
  have row3 := (row2.stored (done.length * 3 + 2) u).1
  rw [← hv, List.set_append_right _ _ (by omega), show done.length * 3 + 2 - flat.length = 2 by omega] at row3
  have hblk : ∀ b, b < w.heap.size → Blk v vo u b → Blk v vo vn b := fun b hb h4 => by
    rcases h4 with h4 | h4 | h4
    · exact .inl h4
    · exact .inr (.inl h4)
    · rcases q3 with e | e
      · exact .inr (.inr (e ▸ h4))
      · rw [e] at h4
        cases h4
        omega
  refine ⟨⟨row3, fun i y hy => ?_, ?_, ?_, ?_, ?_, ?_⟩, ?_⟩
  · obtain ⟨uo, un, e1, e2, e3, n1, n2⟩ := h.nests i y hy
    have kk : ∀ b, b < w.heap.size → ¬ Blk v vo vn b → (w1.setCell ⟨g, done.length * 3 + 2, none⟩ u).heap[b]? = w.heap[b]? := fun b hb hn => keep2 b hb (fun e => hn (.inr (.inr e))) (fun e => hn (.inl (by rw [e]; exact hgb)))
    exact ⟨uo, un, e1, e2, e3, n1.kept kk (by omega) hblk, n2.kept kk (by omega) hblk⟩
  · exact owns_kept h.old (fun b e hb => keep2 b hb (fun e' => h.a3 b e e') (fun e' => h.a1 g hgb (by rw [e, e'])))
  · have : w1.ownsRow base 9 1 u (n ++ [x]).length (strCells (n ++ [x])) := by
      rw [List.length_append, strCells_append]
      exact q1
    exact owns_kept this (fun b e hb => Below.heap_setCell _ _ _ _ (fun e' => hug (by rw [e, e'])))
  · exact h.a1
  · intro b e1 e2
    rw [hgb] at e1
    cases e1
    exact hug e2
  · intro b e1 e2
    rcases q3 with e | e
    · exact h.a3 b e1 (e ▸ e2)
    · rw [e] at e2
      cases e2
      have := (h.old.lt _ e1).2
      omega
  · exact (hWb.grown q2 (by omega) (fun j hj => (h.new.lt j hj).1)).setCell (by show base ≤ g; omega) _
end
section
variable {w : World} {base : Nat} {v vo vn : Value} {done : List HkS} {s : Int} {o n : List (List UInt8)} {flat : List Value}
theorem OpenHk.form (h : OpenHk w base v done s o n vo vn flat) : ∃ g cap, v = .slice (some ⟨g, 0, none⟩) (done.length + 1) cap := by
  rcases h.row.2 with ⟨_, h0⟩ | ⟨g, cap, cur, rfl, _⟩
  · omega
  · exact ⟨g, cap, rfl⟩
theorem OpenHk.cells (h : OpenHk w base v done s o n vo vn flat) {g cap : Nat} (hv : v = .slice (some ⟨g, 0, none⟩) (done.length + 1) cap) :
    w.cell? ⟨g, done.length * 3 + 1, none⟩ = some vo ∧ w.cell? ⟨g, done.length * 3 + 2, none⟩ = some vn := by
  have hl := h.len
  have r := h.row
  rw [hv] at r
  have e1 : (flat ++ [.int .i64 s, vo, vn])[done.length * 3 + 1]? = some vo := by rw [List.getElem?_append_right (by omega), show done.length * 3 + 1 - flat.length = 1 by omega]; rfl
  have e2 : (flat ++ [.int .i64 s, vo, vn])[done.length * 3 + 2]? = some vn := by rw [List.getElem?_append_right (by omega), show done.length * 3 + 2 - flat.length = 2 by omega]; rfl
  have c1 := r.cells rfl _ _ e1
  have c2 := r.cells rfl _ _ e2
  rw [Addr.add_lit, Nat.zero_add] at c1 c2
  exact ⟨c1, c2⟩
/-- the place in the list stands while a line is appended elsewhere -/
theorem OpenHk.stay (h : OpenHk w base v done s o n vo vn flat) {g cap : Nat} (hv : v = .slice (some ⟨g, 0, none⟩) (done.length + 1) cap) {W w1 : World} {r : Option Nat} (hr : r ≠ some g) (hW : ∀ b, b < w.heap.size → W.heap[b]? = w.heap[b]?) (hWs : W.heap.size = w.heap.size + 1) (q2 : W.grownBy w1 r) :
    w1.cell? ⟨g, done.length * 3 + 1, none⟩ = some vo ∧ w1.cell? ⟨g, done.length * 3 + 2, none⟩ = some vn ∧ (∀ j, w1.frozen? ⟨g, j, none⟩ = false) := by
  have hg := h.row.lt g (by rw [hv]; rfl)
  have hb : w1.heap[g]? = w.heap[g]? := (q2.block g (by omega) (fun e => hr e.symm)).trans (hW g hg.2)
  obtain ⟨c1, c2⟩ := h.cells hv
  refine ⟨(World.cell?_of_block (w := w) hb).trans c1, (World.cell?_of_block (w := w) hb).trans c2, fun j => ?_⟩
  have r1 := owns_kept h.row (w' := w1) (fun b e hb' => by rw [hv] at e; cases e; exact hb)
  rw [hv] at r1
  exact r1.frozenAt j
end
/-- where the walk stands: no run under way, or one -/
def HkSt (w : World) (base : Nat) (out : Value) (at' : Nat) (wi : Bool) (es : List (Int × List UInt8)) (k : Nat) : Prop :=
  (wi = false ∧ ∃ D, OwnHk w base out D ∧ D ++ hunksG none at' (es.drop k) = hunksS es ∧ D.length ≤ k) ∨
  (wi = true ∧ ∃ D, ∃ s : Nat, ∃ o n vo vn flat, OpenHk w base out D (s : Int) o n vo vn flat ∧ D ++ hunksG (some (s, o, n)) at' (es.drop k) = hunksS es ∧ D.length + 1 ≤ k ∧ o.length + n.length ≤ k)
theorem hkG_begin {α : Type} {c : Int} {x : α} (hc : c ≠ 1) (at' : Nat) (l : List (Int × α)) : hunksG none at' ((c, x) :: l) = hunksG (some (at', [], [])) at' ((c, x) :: l) := by
  rw [hunksG, hunksG, if_neg hc, if_neg hc]
  rfl
theorem drop_two {α : Type} {a : List α} {k : Nat} {x : α} (h : a[k]? = some x) : a.drop k = x :: a.drop (k + 1) := by
  obtain ⟨q, e⟩ := List.getElem?_eq_some_iff.1 h
  rw [List.drop_eq_getElem_cons q, e]

section
set_option maxRecDepth 100000
set_option maxHeartbeats 8000000
theorem RHunks_any (v : Value) (es : List (Int × List UInt8)) (w : World) (hv : SlE w v es) (hn : es.length ≤ 1000000) :
    Calls Try.prog 16 #[v] w fun e w' => ∃ u, e = .returned u ∧ OwnHk w' w.heap.size u (hunksS es) ∧ Below w.heap.size w w' := by
  obtain ⟨i0, hi0, hz0, hz1, hz2⟩ := info_parts Try.infoStr
  obtain ⟨ea, ec, rfl⟩ := hv.form
  have HV := hid hv
  clear hv
  go_enter Try.func16, Try.ntmps16
  go_wp2_with fail
  go_loopg [3, 4, 5, 6] es.length (fun g out av wv i wr => ∃ (k A : Nat) (wi : Bool), k ≤ es.length ∧ g = es.length - k ∧ i = .int .i64 k ∧ av = .int .i64 A ∧ wv = .bool wi ∧ A ≤ k ∧ Hid (HkSt wr w.heap.size out A wi es k) ∧ Below w.heap.size w wr)
  case atStart => exact ⟨0, 0, false, Nat.zero_le _, rfl, rfl, rfl, rfl, Nat.le_refl _, hid (.inl ⟨rfl, [], OwnHk.nil _ _, rfl, Nat.le_refl _⟩), Below.refl _ _⟩
  case round =>
    obtain ⟨k, A, wi, hk, rfl, rfl, rfl, rfl, hA, HST, hbel⟩ := hrel
    have hz := hbel.size
    have k0 : (0 : Int) ≤ (k : Int) := Int.natCast_nonneg _
    by_cases hlt : k < es.length
    · obtain ⟨b, eo, c, x, rfl, hc, hd, he⟩ := (HV.out.old hbel).at' (i := k) hlt
      have k1 : (k : Int) < (es.length : Int) := by omega
      have kw : IntKind.i64.wrap ((k : Int) + 1) = (k : Int) + 1 := IntWalk.i64_in _ (by omega)
      have aw : IntKind.i64.wrap ((A : Int) + 1) = ((A + 1 : Nat) : Int) := (IntWalk.i64_in _ (by omega)).trans (by omega)
      have HDR := hid (drop_two he)
      obtain ⟨b', eo', c', x', eb, dd1, _⟩ := HV.out.at' (i := k) hlt
      cases eb
      have hbw : b < w.heap.size := World.block_lt_of_cell? w _ dd1
      clear he dd1
      by_cases hc1 : c = 1
      · subst hc1
        have HNX := hid (show HkSt wr w.heap.size u3 (A + 1) false es (k + 1) from by
          rcases HST.out with ⟨_, D, h1, h2, h3⟩ | ⟨_, D, s, o, n, vo, vn, flat, h1, h2, h3, h4⟩
          · refine .inl ⟨rfl, D, h1, ?_, by omega⟩
            rw [← h2, HDR.out, hunksG, if_pos rfl]
          · refine .inl ⟨rfl, _, h1.close, ?_, by rw [List.length_append]; simp; omega⟩
            rw [← h2, HDR.out, hunksG, if_pos rfl, List.append_assoc]
            rfl)
        go_wp2_with fail
        go_roundg (es.length - (k + 1))
        case measure => omega
        case rel => exact ⟨k + 1, A + 1, false, by omega, rfl, rfl, rfl, rfl, by omega, HNX, hbel⟩
      · have hcb : (c == 1) = false := by simpa using hc1
        rcases HST.out with ⟨hwi, D, h1, h2, h3⟩ | ⟨hwi, D, s, o, n, vo, vn, flat, h1, h2, h3, h4⟩
        · subst hwi
          have HO := hid h1
          have HG := hid (show D ++ hunksG (some (A, [], [])) A ((c, x) :: es.drop (k + 1)) = hunksS es by rw [← h2, HDR.out, hkG_begin hc1])
          have HL := hid (show D.length + 1 ≤ k + 1 by omega)
          have HK := hid (show ([] : List (List UInt8)).length + ([] : List (List UInt8)).length ≤ k by simp)
          have dw : wrap64 (D.length : Int) = (D.length : Int) := IntWalk.wrap64_in _ (by omega)
          have d0 : (0 : Int) ≤ (D.length : Int) := Int.natCast_nonneg _
          clear h1 h2 h3 HST
          rcases (show c = 2 ∨ (c ≠ 2 ∧ c = 3) ∨ (c ≠ 2 ∧ c ≠ 3) by omega) with k2 | ⟨k2, k3⟩ | ⟨k2, k3⟩
          · subst k2
            have HG2 := hid (show D ++ hunksG (some (A, (([] : List (List UInt8)) ++ [x]), ([] : List (List UInt8)))) (A + 1) (es.drop (k + 1)) = hunksS es by
              have := HG.out
              rw [hunksG, if_neg (by decide), if_pos rfl] at this
              exact this)
            go_wp2_with (refine wpList_open_hk (by rfl) (.tmp 24) (.tmp 27) (by rfl) w.heap.size _ D (A : Int) rfl HO.out rfl (by have := HL.out; omega) hz ?_; intro v5 w5 flat hop5 hb5; have HOP := hid hop5; have hb6 := hbel.trans hb5; have hz5 := hb6.size; obtain ⟨g, cap, hf5⟩ := hop5.form; subst hf5; have e0 : w5.cell? ⟨b, eo + k * 2, none⟩ = _ := (World.cell?_of_block (w := wr) (hb5.block b hbw)).trans hc; have e1 : w5.cell? ⟨b, eo + k * 2 + 1, none⟩ = _ := (World.cell?_of_block (w := wr) (hb5.block b hbw)).trans hd; obtain ⟨co, cn⟩ := hop5.cells rfl; clear hop5 hb5)
            have hSZ : (w5.alloc (.cells #[.string ⟨x.toArray⟩] 9)).drew.heap.size = w5.heap.size + 1 := by
              show (w5.alloc (.cells #[.string ⟨x.toArray⟩] 9)).heap.size = _
              simp
            have hKP : ∀ q, q < w5.heap.size → (w5.alloc (.cells #[.string ⟨x.toArray⟩] 9)).drew.heap[q]? = w5.heap[q]? := fun q hq => Below.heap_alloc w5 _ q hq
            have hBW : Below w.heap.size w5 (w5.alloc (.cells #[.string ⟨x.toArray⟩] 9)).drew := ((Below.refl _ w5).alloc hz5 _).trans ⟨rfl, rfl, rfl, Nat.le_refl _, fun _ _ => rfl⟩
            have ca := (World.cell?_alloc_some w5 ⟨g, D.length * 3 + 1, none⟩ (.cells #[.string ⟨x.toArray⟩] 9) (by rw [co]; rfl)).trans co
            have l63 : (([] : List (List UInt8))).length + 1 ≤ maxLen := by have := HK.out; unfold maxLen; simp at this ⊢ <;> omega
            have l47 : ((([] : List (List UInt8))).length + 1) * 16 ≤ 140737488355328 := by have := HK.out; simp at this ⊢ <;> omega
            go_region_law
              ((refine step_append_any _ (by rfl) _ _ _ _ (by rfl) w.heap.size 9 i0 _ 1 16 Try.underlying23 hi0 hz0 hz1 hz2 rfl (by omega) (.slice none 0 0) _ _ (by rfl) ((HOP.out.old.alloc _).drew) _ 1 [.string ⟨x.toArray⟩] (by rfl) (Src.ofSlice _ Try.underlying23 ⟨w5.heap.size, 0, none⟩ 1 1 [.string ⟨x.toArray⟩] (by rfl) (World.news_of_block (cs := #[.string ⟨x.toArray⟩]) (t := 9) (fr := (0, 0)) (heap_alloc_new w5 _)) (by simp [Value.oneCell'])) l63 l47 (by rw [hSZ]; omega) ?_; intro v1 w1 hown1 hgrow hat; obtain ⟨ao1, cp1, rfl⟩ := owns_form hown1; obtain ⟨p1, p2, p3⟩ := HOP.out.stay rfl (HOP.out.a1 g rfl) hKP hSZ hgrow; have p4 := p3 (D.length * 3 + 1); have R := hid (HOP.out.putOld rfl hKP hSZ hBW hown1 hgrow hat hz5); clear hown1 hgrow hat p3))
            all_goals
              have NX := hid (show HkSt _ w.heap.size _ (A + 1) true es (k + 1) from .inr ⟨rfl, D, A, (([] : List (List UInt8)) ++ [x]), ([] : List (List UInt8)), _, _, flat, R.out.1, HG2.out, HL.out, by have := HK.out; rw [List.length_append]; simp at this ⊢ <;> omega⟩)
              have hb9 := hb6.trans R.out.2
              clear R
              go_wp2_with fail
              go_roundg (es.length - (k + 1))
              case measure => omega
              case rel => exact ⟨k + 1, A + 1, true, by omega, rfl, rfl, rfl, rfl, by omega, NX, hb9⟩
          · subst k3
            have HG2 := hid (show D ++ hunksG (some (A, ([] : List (List UInt8)), (([] : List (List UInt8)) ++ [x]))) (A) (es.drop (k + 1)) = hunksS es by
              have := HG.out
              rw [hunksG, if_neg (by decide), if_neg (by decide), if_pos rfl] at this
              exact this)
            go_wp2_with (refine wpList_open_hk (by rfl) (.tmp 24) (.tmp 27) (by rfl) w.heap.size _ D (A : Int) rfl HO.out rfl (by have := HL.out; omega) hz ?_; intro v5 w5 flat hop5 hb5; have HOP := hid hop5; have hb6 := hbel.trans hb5; have hz5 := hb6.size; obtain ⟨g, cap, hf5⟩ := hop5.form; subst hf5; have e0 : w5.cell? ⟨b, eo + k * 2, none⟩ = _ := (World.cell?_of_block (w := wr) (hb5.block b hbw)).trans hc; have e1 : w5.cell? ⟨b, eo + k * 2 + 1, none⟩ = _ := (World.cell?_of_block (w := wr) (hb5.block b hbw)).trans hd; obtain ⟨co, cn⟩ := hop5.cells rfl; clear hop5 hb5)
            have hSZ : (w5.alloc (.cells #[.string ⟨x.toArray⟩] 9)).drew.heap.size = w5.heap.size + 1 := by
              show (w5.alloc (.cells #[.string ⟨x.toArray⟩] 9)).heap.size = _
              simp
            have hKP : ∀ q, q < w5.heap.size → (w5.alloc (.cells #[.string ⟨x.toArray⟩] 9)).drew.heap[q]? = w5.heap[q]? := fun q hq => Below.heap_alloc w5 _ q hq
            have hBW : Below w.heap.size w5 (w5.alloc (.cells #[.string ⟨x.toArray⟩] 9)).drew := ((Below.refl _ w5).alloc hz5 _).trans ⟨rfl, rfl, rfl, Nat.le_refl _, fun _ _ => rfl⟩
            have ca := (World.cell?_alloc_some w5 ⟨g, D.length * 3 + 2, none⟩ (.cells #[.string ⟨x.toArray⟩] 9) (by rw [cn]; rfl)).trans cn
            have l63 : (([] : List (List UInt8))).length + 1 ≤ maxLen := by have := HK.out; unfold maxLen; simp at this ⊢ <;> omega
            have l47 : ((([] : List (List UInt8))).length + 1) * 16 ≤ 140737488355328 := by have := HK.out; simp at this ⊢ <;> omega
            go_region_law
              ((refine step_append_any _ (by rfl) _ _ _ _ (by rfl) w.heap.size 9 i0 _ 1 16 Try.underlying23 hi0 hz0 hz1 hz2 rfl (by omega) (.slice none 0 0) _ _ (by rfl) ((HOP.out.new.alloc _).drew) _ 1 [.string ⟨x.toArray⟩] (by rfl) (Src.ofSlice _ Try.underlying23 ⟨w5.heap.size, 0, none⟩ 1 1 [.string ⟨x.toArray⟩] (by rfl) (World.news_of_block (cs := #[.string ⟨x.toArray⟩]) (t := 9) (fr := (0, 0)) (heap_alloc_new w5 _)) (by simp [Value.oneCell'])) l63 l47 (by rw [hSZ]; omega) ?_; intro v1 w1 hown1 hgrow hat; obtain ⟨ao1, cp1, rfl⟩ := owns_form hown1; obtain ⟨p1, p2, p3⟩ := HOP.out.stay rfl (HOP.out.a2 g rfl) hKP hSZ hgrow; have p4 := p3 (D.length * 3 + 2); have R := hid (HOP.out.putNew rfl hKP hSZ hBW hown1 hgrow hat hz5); clear hown1 hgrow hat p3))
            all_goals
              have NX := hid (show HkSt _ w.heap.size _ (A) true es (k + 1) from .inr ⟨rfl, D, A, ([] : List (List UInt8)), (([] : List (List UInt8)) ++ [x]), _, _, flat, R.out.1, HG2.out, HL.out, by have := HK.out; rw [List.length_append]; simp at this ⊢ <;> omega⟩)
              have hb9 := hb6.trans R.out.2
              clear R
              go_wp2_with fail
              go_roundg (es.length - (k + 1))
              case measure => omega
              case rel => exact ⟨k + 1, A, true, by omega, rfl, rfl, rfl, rfl, by omega, NX, hb9⟩
          · have b2 : (c == 2) = false := by simpa using k2
            have b3 : (c == 3) = false := by simpa using k3
            have HG2 := hid (show D ++ hunksG (some (A, ([] : List (List UInt8)), ([] : List (List UInt8)))) A (es.drop (k + 1)) = hunksS es by
              have := HG.out
              rw [hunksG, if_neg hc1, if_neg k2, if_neg k3] at this
              exact this)
            go_wp2_with (refine wpList_open_hk (by rfl) (.tmp 24) (.tmp 27) (by rfl) w.heap.size _ D (A : Int) rfl HO.out rfl (by have := HL.out; omega) hz ?_; intro v5 w5 flat hop5 hb5; have HOP := hid hop5; have hb6 := hbel.trans hb5; have hz5 := hb6.size; obtain ⟨g, cap, hf5⟩ := hop5.form; subst hf5; have e0 : w5.cell? ⟨b, eo + k * 2, none⟩ = _ := (World.cell?_of_block (w := wr) (hb5.block b hbw)).trans hc; have e1 : w5.cell? ⟨b, eo + k * 2 + 1, none⟩ = _ := (World.cell?_of_block (w := wr) (hb5.block b hbw)).trans hd; obtain ⟨co, cn⟩ := hop5.cells rfl; clear hop5 hb5)
            have NX := hid (show HkSt w5 w.heap.size _ A true es (k + 1) from .inr ⟨rfl, D, A, ([] : List (List UInt8)), ([] : List (List UInt8)), _, _, flat, HOP.out, HG2.out, HL.out, by have := HK.out; omega⟩)
            go_roundg (es.length - (k + 1))
            case measure => omega
            case rel => exact ⟨k + 1, A, true, by omega, rfl, rfl, rfl, rfl, by omega, NX, hb6⟩
        · subst hwi
          have HOP := hid h1
          have HG := hid (show D ++ hunksG (some (s, o, n)) A ((c, x) :: es.drop (k + 1)) = hunksS es by rw [← h2, HDR.out])
          have HL := hid (show D.length + 1 ≤ k + 1 by omega)
          have HK := hid h4
          have dw : wrap64 (D.length : Int) = (D.length : Int) := IntWalk.wrap64_in _ (by omega)
          have d0 : (0 : Int) ≤ (D.length : Int) := Int.natCast_nonneg _
          obtain ⟨g, cap, hf5⟩ := h1.form
          subst hf5
          obtain ⟨xo, yo, hfo⟩ := owns_form h1.old
          subst hfo
          obtain ⟨xn, yn, hfn⟩ := owns_form h1.new
          subst hfn
          obtain ⟨co, cn⟩ := h1.cells rfl
          have e0 := hc
          have e1 := hd
          have hb6 := hbel
          have hz5 := hz
          clear h1 h2 h3 h4 HST hc hd
          rcases (show c = 2 ∨ (c ≠ 2 ∧ c = 3) ∨ (c ≠ 2 ∧ c ≠ 3) by omega) with k2 | ⟨k2, k3⟩ | ⟨k2, k3⟩
          · subst k2
            have HG2 := hid (show D ++ hunksG (some (s, (o ++ [x]), n)) (A + 1) (es.drop (k + 1)) = hunksS es by
              have := HG.out
              rw [hunksG, if_neg (by decide), if_pos rfl] at this
              exact this)
            go_wp2_with fail
            have hSZ : (wr.alloc (.cells #[.string ⟨x.toArray⟩] 9)).drew.heap.size = wr.heap.size + 1 := by
              show (wr.alloc (.cells #[.string ⟨x.toArray⟩] 9)).heap.size = _
              simp
            have hKP : ∀ q, q < wr.heap.size → (wr.alloc (.cells #[.string ⟨x.toArray⟩] 9)).drew.heap[q]? = wr.heap[q]? := fun q hq => Below.heap_alloc wr _ q hq
            have hBW : Below w.heap.size wr (wr.alloc (.cells #[.string ⟨x.toArray⟩] 9)).drew := ((Below.refl _ wr).alloc hz5 _).trans ⟨rfl, rfl, rfl, Nat.le_refl _, fun _ _ => rfl⟩
            have ca := (World.cell?_alloc_some wr ⟨g, D.length * 3 + 1, none⟩ (.cells #[.string ⟨x.toArray⟩] 9) (by rw [co]; rfl)).trans co
            have l63 : (o).length + 1 ≤ maxLen := by have := HK.out; unfold maxLen; simp at this ⊢ <;> omega
            have l47 : ((o).length + 1) * 16 ≤ 140737488355328 := by have := HK.out; simp at this ⊢ <;> omega
            go_region_law
              ((refine step_append_any _ (by rfl) _ _ _ _ (by rfl) w.heap.size 9 i0 _ 1 16 Try.underlying23 hi0 hz0 hz1 hz2 rfl (by omega) (.slice xo o.length yo) _ _ (by rfl) ((HOP.out.old.alloc _).drew) _ 1 [.string ⟨x.toArray⟩] (by rfl) (Src.ofSlice _ Try.underlying23 ⟨wr.heap.size, 0, none⟩ 1 1 [.string ⟨x.toArray⟩] (by rfl) (World.news_of_block (cs := #[.string ⟨x.toArray⟩]) (t := 9) (fr := (0, 0)) (heap_alloc_new wr _)) (by simp [Value.oneCell'])) l63 l47 (by rw [hSZ]; omega) ?_; intro v1 w1 hown1 hgrow hat; obtain ⟨ao1, cp1, rfl⟩ := owns_form hown1; obtain ⟨p1, p2, p3⟩ := HOP.out.stay rfl (HOP.out.a1 g rfl) hKP hSZ hgrow; have p4 := p3 (D.length * 3 + 1); have R := hid (HOP.out.putOld rfl hKP hSZ hBW hown1 hgrow hat hz5); clear hown1 hgrow hat p3))
            all_goals
              have NX := hid (show HkSt _ w.heap.size _ (A + 1) true es (k + 1) from .inr ⟨rfl, D, s, (o ++ [x]), n, _, _, flat, R.out.1, HG2.out, HL.out, by have := HK.out; rw [List.length_append]; simp at this ⊢ <;> omega⟩)
              have hb9 := hb6.trans R.out.2
              clear R
              go_wp2_with fail
              go_roundg (es.length - (k + 1))
              case measure => omega
              case rel => exact ⟨k + 1, A + 1, true, by omega, rfl, rfl, rfl, rfl, by omega, NX, hb9⟩
          · subst k3
            have HG2 := hid (show D ++ hunksG (some (s, o, (n ++ [x]))) (A) (es.drop (k + 1)) = hunksS es by
              have := HG.out
              rw [hunksG, if_neg (by decide), if_neg (by decide), if_pos rfl] at this
              exact this)
            go_wp2_with fail
            have hSZ : (wr.alloc (.cells #[.string ⟨x.toArray⟩] 9)).drew.heap.size = wr.heap.size + 1 := by
              show (wr.alloc (.cells #[.string ⟨x.toArray⟩] 9)).heap.size = _
              simp
            have hKP : ∀ q, q < wr.heap.size → (wr.alloc (.cells #[.string ⟨x.toArray⟩] 9)).drew.heap[q]? = wr.heap[q]? := fun q hq => Below.heap_alloc wr _ q hq
            have hBW : Below w.heap.size wr (wr.alloc (.cells #[.string ⟨x.toArray⟩] 9)).drew := ((Below.refl _ wr).alloc hz5 _).trans ⟨rfl, rfl, rfl, Nat.le_refl _, fun _ _ => rfl⟩
            have ca := (World.cell?_alloc_some wr ⟨g, D.length * 3 + 2, none⟩ (.cells #[.string ⟨x.toArray⟩] 9) (by rw [cn]; rfl)).trans cn
            have l63 : (n).length + 1 ≤ maxLen := by have := HK.out; unfold maxLen; simp at this ⊢ <;> omega
            have l47 : ((n).length + 1) * 16 ≤ 140737488355328 := by have := HK.out; simp at this ⊢ <;> omega
            go_region_law
              ((refine step_append_any _ (by rfl) _ _ _ _ (by rfl) w.heap.size 9 i0 _ 1 16 Try.underlying23 hi0 hz0 hz1 hz2 rfl (by omega) (.slice xn n.length yn) _ _ (by rfl) ((HOP.out.new.alloc _).drew) _ 1 [.string ⟨x.toArray⟩] (by rfl) (Src.ofSlice _ Try.underlying23 ⟨wr.heap.size, 0, none⟩ 1 1 [.string ⟨x.toArray⟩] (by rfl) (World.news_of_block (cs := #[.string ⟨x.toArray⟩]) (t := 9) (fr := (0, 0)) (heap_alloc_new wr _)) (by simp [Value.oneCell'])) l63 l47 (by rw [hSZ]; omega) ?_; intro v1 w1 hown1 hgrow hat; obtain ⟨ao1, cp1, rfl⟩ := owns_form hown1; obtain ⟨p1, p2, p3⟩ := HOP.out.stay rfl (HOP.out.a2 g rfl) hKP hSZ hgrow; have p4 := p3 (D.length * 3 + 2); have R := hid (HOP.out.putNew rfl hKP hSZ hBW hown1 hgrow hat hz5); clear hown1 hgrow hat p3))
            all_goals
              have NX := hid (show HkSt _ w.heap.size _ (A) true es (k + 1) from .inr ⟨rfl, D, s, o, (n ++ [x]), _, _, flat, R.out.1, HG2.out, HL.out, by have := HK.out; rw [List.length_append]; simp at this ⊢ <;> omega⟩)
              have hb9 := hb6.trans R.out.2
              clear R
              go_wp2_with fail
              go_roundg (es.length - (k + 1))
              case measure => omega
              case rel => exact ⟨k + 1, A, true, by omega, rfl, rfl, rfl, rfl, by omega, NX, hb9⟩
          · have b2 : (c == 2) = false := by simpa using k2
            have b3 : (c == 3) = false := by simpa using k3
            have HG2 := hid (show D ++ hunksG (some (s, o, n)) A (es.drop (k + 1)) = hunksS es by
              have := HG.out
              rw [hunksG, if_neg hc1, if_neg k2, if_neg k3] at this
              exact this)
            go_wp2_with fail
            have NX := hid (show HkSt wr w.heap.size _ A true es (k + 1) from .inr ⟨rfl, D, s, o, n, _, _, flat, HOP.out, HG2.out, HL.out, by have := HK.out; omega⟩)
            go_roundg (es.length - (k + 1))
            case measure => omega
            case rel => exact ⟨k + 1, A, true, by omega, rfl, rfl, rfl, rfl, by omega, NX, hb6⟩
    · obtain rfl : k = es.length := by omega
      have hneg : ¬ (es.length : Int) < (es.length : Int) := by omega
      have HF := hid (show OwnHk wr w.heap.size u3 (hunksS es) from by
        rcases HST.out with ⟨_, D, h1, h2, h3⟩ | ⟨_, D, s, o, n, vo, vn, flat, h1, h2, h3, h4⟩
        · rw [List.drop_length, hunksG, List.append_nil] at h2
          rw [← h2]
          exact h1
        · rw [List.drop_length, hunksG] at h2
          rw [← h2]
          exact h1.close)
      obtain ⟨xo, xc, hf⟩ := HF.out.form
      subst hf
      go_wp2_with fail
      go_ret
      exact ⟨_, rfl, HF.out, hbel⟩
end
end Go.Proofs.Ytbcmecclaofmgaa
