/-
  Lists of runs of the call's own: what they show, an append, a store into the last one; corners.
-/
import Derived.Test.YtgmopmlhggdefaaPckR
import Derived.Deep.AppendSrc
import Derived.Laws.Tables
namespace Go.Proofs.Ytgmopmlhggdefaa
open Go.RowKit

def corCells (c : Cor) : List Value := [.int .i64 c.1, .int .i64 c.2.1, .int .i64 c.2.2]
def runCells (r : Rn) : List Value := [.int .i64 r.1.1, .int .i64 r.1.2.1, .int .i64 r.1.2.2, .int .i64 r.2.1, .int .i64 r.2.2.1, .int .i64 r.2.2.2]
def runFlat (rs : List Rn) : List Value := rs.flatMap runCells
theorem runFlat_length (rs : List Rn) : (runFlat rs).length = rs.length * 6 := by
  induction rs with
  | nil => rfl
  | cons r rs ih => rw [runFlat, List.flatMap_cons, List.length_append, ← runFlat, ih, List.length_cons]; simp [runCells]; omega
theorem runFlat_append (a b : List Rn) : runFlat (a ++ b) = runFlat a ++ runFlat b := by simp [runFlat]
theorem runFlat_drop (rs : List Rn) (i : Nat) : (runFlat rs).drop (i * 6) = runFlat (rs.drop i) := by
  induction rs generalizing i with
  | nil => simp [runFlat]
  | cons r rs ih =>
    cases i with
    | zero => simp
    | succ i =>
      rw [runFlat, List.flatMap_cons, ← runFlat, List.drop_succ_cons, ← ih i, show (i + 1) * 6 = 6 + i * 6 by omega, ← List.drop_drop]
      rfl
theorem runFlat_at {rs : List Rn} {i : Nat} {r : Rn} (h : rs[i]? = some r) (j : Nat) (hj : j < 6) : (runFlat rs)[i * 6 + j]? = (runCells r)[j]? := by
  obtain ⟨q, e⟩ := List.getElem?_eq_some_iff.1 h
  rw [← List.getElem?_drop, runFlat_drop, List.drop_eq_getElem_cons q, e, runFlat, List.flatMap_cons, List.getElem?_append_left (by simpa [runCells] using hj)]
def OwnRn (w : World) (base : Nat) (v : Value) (rs : List Rn) : Prop := w.ownsRow base 48 6 v rs.length (runFlat rs)
theorem OwnRn.nil (w : World) (base : Nat) : OwnRn w base (.slice none 0 0) [] := World.ownsRow_nil _ _ _ _
theorem OwnRn.form {w : World} {base : Nat} {v : Value} {rs : List Rn} (h : OwnRn w base v rs) : ∃ ao cap, v = .slice ao rs.length cap := owns_form h
/-- What a slice of runs shows. -/
def SlRn (w : World) (v : Value) (rs : List Rn) : Prop :=
  ∃ ao cap, v = .slice ao rs.length cap ∧ (ao = none → rs = []) ∧ rs.length ≤ cap ∧ ∀ a, ao = some a → ∃ g, a = ⟨g, 0, none⟩ ∧ ∀ i r, rs[i]? = some r → ∀ j, j < 6 → w.cell? ⟨g, i * 6 + j, none⟩ = (runCells r)[j]?
theorem OwnRn.sl {w : World} {base : Nat} {v : Value} {rs : List Rn} (h : OwnRn w base v rs) : SlRn w v rs := by
  rcases h.2 with ⟨rfl, h0⟩ | ⟨g, cap, cur, rfl, r⟩
  · have : rs = [] := List.eq_nil_of_length_eq_zero h0
    subst this
    exact ⟨none, 0, rfl, fun _ => rfl, Nat.le_refl _, fun a h => by cases h⟩
  · refine ⟨some ⟨g, 0, none⟩, cap, rfl, (fun h => by cases h), r.2.2.1, fun a ha => ?_⟩
    cases ha
    refine ⟨g, rfl, fun i x hx j hj => ?_⟩
    have e := runFlat_at hx j hj
    have hl : j < (runCells x).length := by simpa [runCells] using hj
    have := h.cells rfl (i * 6 + j) (runCells x)[j] (by rw [e, List.getElem?_eq_getElem hl])
    rw [Addr.add_lit, Nat.zero_add] at this
    rw [this, List.getElem?_eq_getElem hl]
theorem SlRn.old {w w' : World} {v : Value} {rs : List Rn} (h : SlRn w v rs) (hk : Below w.heap.size w w') : SlRn w' v rs := by
  obtain ⟨ao, cap, rfl, hn, hcap, hc⟩ := h
  refine ⟨ao, cap, rfl, hn, hcap, fun a ha => ?_⟩
  obtain ⟨g, rfl, h⟩ := hc a ha
  refine ⟨g, rfl, fun i r hr j hj => ?_⟩
  have e := h i r hr j hj
  have hl : j < (runCells r).length := by simpa [runCells] using hj
  rw [List.getElem?_eq_getElem hl] at e ⊢
  exact (World.cell?_of_block (w := w) (hk.block _ (World.block_lt_of_cell? w _ e))).trans e
theorem SlRn.form {w : World} {v : Value} {rs : List Rn} (h : SlRn w v rs) : ∃ ao cap, v = .slice ao rs.length cap := by
  obtain ⟨ao, cap, rfl, _⟩ := h
  exact ⟨ao, cap, rfl⟩
theorem SlRn.at' {w : World} {ao : Option Addr} {n cap : Nat} {rs : List Rn} (h : SlRn w (.slice ao n cap) rs) {i : Nat} (hi : i < rs.length) :
    ∃ (g x1 x2 x3 y1 y2 y3 : Nat), ao = some ⟨g, 0, none⟩ ∧ rs[i]? = some ((x1, x2, x3), (y1, y2, y3)) ∧ w.cell? ⟨g, i * 6, none⟩ = some (.int .i64 x1) ∧ w.cell? ⟨g, i * 6 + 1, none⟩ = some (.int .i64 x2) ∧ w.cell? ⟨g, i * 6 + 2, none⟩ = some (.int .i64 x3) ∧
      w.cell? ⟨g, i * 6 + 3, none⟩ = some (.int .i64 y1) ∧ w.cell? ⟨g, i * 6 + 4, none⟩ = some (.int .i64 y2) ∧ w.cell? ⟨g, i * 6 + 5, none⟩ = some (.int .i64 y3) := by
  obtain ⟨ao', cap', hv, hn, _, hc⟩ := h
  obtain ⟨rfl, _, _⟩ := Value.slice.inj hv
  cases ao with
  | none => rw [hn rfl] at hi; cases hi
  | some a =>
    obtain ⟨g, rfl, h⟩ := hc _ rfl
    have := h i _ (List.getElem?_eq_getElem hi)
    exact ⟨g, _, _, _, _, _, _, rfl, List.getElem?_eq_getElem hi, this 0 (by omega), this 1 (by omega), this 2 (by omega), this 3 (by omega), this 4 (by omega), this 5 (by omega)⟩
theorem OwnRn.old {w w' : World} {base : Nat} {v : Value} {rs : List Rn} (h : OwnRn w base v rs) (hk : Below w.heap.size w w') : OwnRn w' base v rs := World.ownsRow.kept h (grown_of_below hk none) (by cases hv : v.ownBlock <;> simp)
theorem OwnRn.low {w : World} {b b' : Nat} {v : Value} {rs : List Rn} (h : OwnRn w b v rs) (hb : b' ≤ b) : OwnRn w b' v rs := by
  refine ⟨h.1, ?_⟩
  rcases h.2 with hn | ⟨g, cap, cur, rfl, hbg, rest⟩
  · exact .inl hn
  · exact .inr ⟨g, cap, cur, rfl, Nat.le_trans hb hbg, rest⟩
theorem OwnRn.last {w : World} {base : Nat} {v : Value} {L : List Rn} {r : Rn} (h : OwnRn w base v (L ++ [r])) : ∃ g cap, v = .slice (some ⟨g, 0, none⟩) (L.length + 1) cap ∧ base ≤ g ∧ g < w.heap.size := by
  rcases h.2 with ⟨_, h0⟩ | ⟨g, cap, cur, rfl, r1, r2, _⟩
  · simp at h0
  · exact ⟨g, cap, by rw [List.length_append, List.length_singleton], r1, (Array.getElem?_eq_some_iff.1 r2).1⟩
theorem Try.infoRn : (Try.prog.info? 48).map (fun i => (i.zero, i.size, i.bytes)) = some (some (.agg #[.int .i64 0, .int .i64 0, .int .i64 0, .int .i64 0, .int .i64 0, .int .i64 0]), 6, 48) := by kernel_rfl
theorem Try.sizeCor : (Try.prog.info? 44).map (·.size) = some 3 := by kernel_rfl
section
variable {w : World}
theorem wpList_append_rn {ops : Array Oper} {rest : List Oper} {o : Oper} {a : Act} {Q : Exit → Act → World → Prop} (hgd : o.guard = none) (s sx : Operand)
    (ho : o.op = .call { callee := .builtin .append, args := #[s, sx], argTypes := #[45, 45] })
    (base : Nat) (v : Value) (rs : List Rn) (r : Rn) (he : a.eval s = v) (hown : OwnRn w base v rs) (hx : a.eval sx = .slice (some ⟨w.heap.size, 0, none⟩) 1 1) (hlen : rs.length ≤ 4000000) (hbase : base ≤ w.heap.size)
    (h : ∀ v' w', OwnRn w' base v' (rs ++ [r]) → Below base w w' → (∀ b, b < w.heap.size → v.ownBlock ≠ some b → w'.heap[b]? = w.heap[b]?) → wpList Try.prog ops Q rest (a.put o.dst v') w') : wpList Try.prog ops Q (o :: rest) a (w.alloc (.cells #[.int .i64 r.1.1, .int .i64 r.1.2.1, .int .i64 r.1.2.2, .int .i64 r.2.1, .int .i64 r.2.2.1, .int .i64 r.2.2.2] 48)) := by
  obtain ⟨i0, hi0, hi1, hi2, hi3⟩ := info_parts Try.infoRn
  have hz : (w.alloc (.cells #[.int .i64 r.1.1, .int .i64 r.1.2.1, .int .i64 r.1.2.2, .int .i64 r.2.1, .int .i64 r.2.2.1, .int .i64 r.2.2.2] 48)).heap.size = w.heap.size + 1 := by simp
  refine wpList_plain hgd fun _ hK => wp_append_any _ s sx _ _ ho base 48 i0 _ 6 48 Try.underlying45 hi0 hi1 hi2 hi3 rfl (by omega) v _ _ he (World.ownsRow.alloc hown _) _ 1 (runCells r) hx
    (Src.ofSlice _ Try.underlying45 ⟨w.heap.size, 0, none⟩ 1 1 (runCells r) (by rfl) (World.news_of_block (cs := #[.int .i64 r.1.1, .int .i64 r.1.2.1, .int .i64 r.1.2.2, .int .i64 r.2.1, .int .i64 r.2.2.1, .int .i64 r.2.2.2]) (t := 48) (fr := (0, 0)) (heap_alloc_new w _)) (fun u hu => ?_)) (by unfold maxLen; omega) (by omega) (by omega) fun v' w' q1 q2 q3 => hK _ _ (h v' w' ?_ ?_ fun b hb hne => (q2.block b (by omega) (fun e => hne e.symm)).trans (Below.heap_alloc w _ b hb))
  · simp only [runCells, List.mem_cons, List.not_mem_nil, or_false] at hu
    rcases hu with rfl | rfl | rfl | rfl | rfl | rfl <;> rfl
  · unfold OwnRn
    rw [runFlat_append, List.length_append]
    simpa [runFlat] using q1
  · exact ((Below.refl base w).alloc hbase _).grown q2 (by omega) (fun j hj => (World.ownsRow.lt hown j hj).1)
/-- A struct stored into a row: the block behind it. -/
theorem wpList_store_in {P : Program} {ops : Array Oper} {rest : List Oper} {o : Oper} {a : Act} {Q : Exit → Act → World → Prop} (hgd : o.guard = none) (ty : TypeId) (x y : Operand) (ho : o.op = .store ty x y)
    (g off : Nat) (cells : Array Value) (hx : a.eval x = .pointer (some ⟨g, off, none⟩)) (hy : a.eval y = .agg cells)
    (t : TypeId) (old : Array Value) (hg : w.heap[g]? = some (.cells old t (0, 0))) (hi : (P.info? ty).map (·.size) = some cells.size)
    (hold : off + cells.size ≤ old.size) (h1 : cells.all (·.oneCell') = true)
    (h : ∀ w', w'.heap[g]? = some (.cells (old.toList.take off ++ cells.toList ++ old.toList.drop (off + cells.size)).toArray t (0, 0)) → Keep (· = g) w w' → wpList P ops Q rest (a.put o.dst undef) w') : wpList P ops Q (o :: rest) a w := by
  refine wpList_plain hgd fun _ hK => ?_
  have hst := run_storeCells_at P g off t cells.toList 0 old w hg (by simpa using hold) (fun v hv => (Array.all_eq_true_iff_forall_mem.1 h1) v (by simpa using hv))
  have hrun : (storeVar ty ⟨g, off, none⟩ (.agg cells)).run P w = .ok () (w.setRow g (old.toList.take off ++ cells.toList ++ old.toList.drop (off + cells.size)).toArray) := by
    cases hq : P.info? ty with
    | none => simp [hq] at hi
    | some i =>
      have hs : cells.size = i.size := by simp [hq] at hi; omega
      simp [storeVar, sizeOf, typeInfo, hq, Value.cells, hs] at hst ⊢
      rw [← hs] at hst ⊢
      exact hst
  unfold Oper.wp execOp
  simp only [ho, hx, hy, Instr.storeAt, Instr.sureAddr, Sem.run_bind, Sem.run_pure, Result.andThen_ok, hrun]
  exact hK _ _ (h _ (setRow_heap w g old _ t _ hg) ⟨rfl, rfl, rfl, by simp [World.setRow], fun k _ hk => setRow_other w g k _ hk⟩)
/-- The last run's end, stored. -/
theorem wpList_store_end {ops : Array Oper} {rest : List Oper} {o : Oper} {a : Act} {Q : Exit → Act → World → Prop} (hgd : o.guard = none) (x y : Operand) (ho : o.op = .store 44 x y)
    (base g n cap : Nat) (rs : List Rn) (r : Rn) (c : Cor) (hown : OwnRn w base (.slice (some ⟨g, 0, none⟩) n cap) (rs ++ [r])) (off : Nat) (hoff : off = rs.length * 6 + 3) (hx : a.eval x = .pointer (some ⟨g, off, none⟩)) (hy : a.eval y = .agg #[.int .i64 c.1, .int .i64 c.2.1, .int .i64 c.2.2])
    (h : ∀ w', OwnRn w' base (.slice (some ⟨g, 0, none⟩) n cap) (rs ++ [(r.1, c)]) → Keep (· = g) w w' → wpList Try.prog ops Q rest (a.put o.dst undef) w') : wpList Try.prog ops Q (o :: rest) a w := by
  subst hoff
  rcases hown.2 with ⟨hv, _⟩ | ⟨g', cap', cur, hv, q1, q2, q3, q4, q5, q6⟩
  · cases hv
  · cases hv
    rw [List.length_append, List.length_singleton] at q3 q6 hown
    have hcs : rs.length * 6 + 6 ≤ cur.size := by rw [q5]; omega
    refine wpList_store_in hgd 44 x y ho g (rs.length * 6 + 3) #[.int .i64 c.1, .int .i64 c.2.1, .int .i64 c.2.2] hx hy 48 cur q2 Try.sizeCor (by simp; omega) (by simp [Value.oneCell']) fun w' hg hk => h w' ?_ hk
    refine ⟨by rw [runFlat_length], .inr ⟨g, cap, _, by rw [List.length_append, List.length_append]; rfl, q1, hg, by simpa using q3, q4, by simp; omega, ?_⟩⟩
    have e : cur.toList.take (rs.length * 6 + 3) = runFlat rs ++ [.int .i64 r.1.1, .int .i64 r.1.2.1, .int .i64 r.1.2.2] := by
      have := congrArg (List.take (rs.length * 6 + 3)) q6
      rw [List.take_take, Nat.min_eq_left (by omega)] at this
      rw [this, runFlat_append, List.take_append, runFlat_length, List.take_of_length_le (by rw [runFlat_length]; omega), show rs.length * 6 + 3 - rs.length * 6 = 3 by omega]
      rfl
    simp only [List.length_append, List.length_singleton]
    rw [e, List.take_append_of_le_length (by simp [runFlat_length]; omega), runFlat_append, List.take_of_length_le (by simp [runFlat_length]; omega), List.append_assoc]
    rfl
end
end Go.Proofs.Ytgmopmlhggdefaa
