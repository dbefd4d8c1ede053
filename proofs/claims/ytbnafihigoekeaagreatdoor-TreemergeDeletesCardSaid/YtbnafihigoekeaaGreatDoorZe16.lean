/-
  TmDe, part 16.
-/
import Derived.Test.YtbnafihigoekeaaGreatDoorZe15
import Derived.Deep.AppendSrc
import Derived.Laws.Tables
import Derived.Test.YtbnafihigoekeaaGreatDoorZe10
import Derived.Deep.RegionHeld3
import Derived.Deep.QuietTactic
namespace Go.Proofs.YtbnafihigoekeaaGreatDoor
open Go.RowKit
def corCells (c : Cor) : List Value := [.int .i64 c.1, .int .i64 c.2.1, .int .i64 c.2.2]
def runCells (r : Rn) : List Value := [.int .i64 r.1.1, .int .i64 r.1.2.1, .int .i64 r.1.2.2, .int .i64 r.2.1, .int .i64 r.2.2.1, .int .i64 r.2.2.2]
def runFlat (rs : List Rn) : List Value := rs.flatMap runCells
theorem runFlat_length (rs : List Rn) : (runFlat rs).length = rs.length * 6 := by
  induction rs with
  | nil => rfl
  | cons r rs ih => rw [runFlat, List.flatMap_cons, List.length_append, ← runFlat, ih, List.length_cons]; simp [runCells]; omega
theorem runFlat_append (a b : List Rn) : runFlat (a ++ b) = runFlat a ++ runFlat b := by simp [runFlat]
theorem runFlat_drop (rs : List Rn) (i : Nat) : (runFlat rs).drop (i * 6) = runFlat (rs.drop i) := by
  induction rs generalizing i with
  | nil => simp [runFlat]
  | cons r rs ih =>
    cases i with
    | zero => simp
    | succ i =>
      rw [runFlat, List.flatMap_cons, ← runFlat, List.drop_succ_cons, ← ih i, show (i + 1) * 6 = 6 + i * 6 by omega, ← List.drop_drop]
      rfl
theorem runFlat_at {rs : List Rn} {i : Nat} {r : Rn} (h : rs[i]? = some r) (j : Nat) (hj : j < 6) : (runFlat rs)[i * 6 + j]? = (runCells r)[j]? := by
  obtain ⟨q, e⟩ := List.getElem?_eq_some_iff.1 h
  rw [← List.getElem?_drop, runFlat_drop, List.drop_eq_getElem_cons q, e, runFlat, List.flatMap_cons, List.getElem?_append_left (by simpa [runCells] using hj)]
def OwnRn (w : World) (base : Nat) (v : Value) (rs : List Rn) : Prop := w.ownsRow base 168 6 v rs.length (runFlat rs)
theorem OwnRn.nil (w : World) (base : Nat) : OwnRn w base (.slice none 0 0) [] := World.ownsRow_nil _ _ _ _
theorem OwnRn.form {w : World} {base : Nat} {v : Value} {rs : List Rn} (h : OwnRn w base v rs) : ∃ ao cap, v = .slice ao rs.length cap := owns_form h
def SlRn (w : World) (v : Value) (rs : List Rn) : Prop :=
  ∃ ao cap, v = .slice ao rs.length cap ∧ (ao = none → rs = []) ∧ rs.length ≤ cap ∧ ∀ a, ao = some a → ∃ g, a = ⟨g, 0, none⟩ ∧ ∀ i r, rs[i]? = some r → ∀ j, j < 6 → w.cell? ⟨g, i * 6 + j, none⟩ = (runCells r)[j]?
theorem OwnRn.sl {w : World} {base : Nat} {v : Value} {rs : List Rn} (h : OwnRn w base v rs) : SlRn w v rs := by
  rcases h.2 with ⟨rfl, h0⟩ | ⟨g, cap, cur, rfl, r⟩
  · have : rs = [] := List.eq_nil_of_length_eq_zero h0
    subst this
    exact ⟨none, 0, rfl, fun _ => rfl, Nat.le_refl _, fun a h => by cases h⟩
  · refine ⟨some ⟨g, 0, none⟩, cap, rfl, (fun h => by cases h), r.2.2.1, fun a ha => ?_⟩
    cases ha
    refine ⟨g, rfl, fun i x hx j hj => ?_⟩
    have e := runFlat_at hx j hj
    have hl : j < (runCells x).length := by simpa [runCells] using hj
    have := h.cells rfl (i * 6 + j) (runCells x)[j] (by rw [e, List.getElem?_eq_getElem hl])
    rw [Addr.add_lit, Nat.zero_add] at this
    rw [this, List.getElem?_eq_getElem hl]
theorem SlRn.old {w w' : World} {v : Value} {rs : List Rn} (h : SlRn w v rs) (hk : Below w.heap.size w w') : SlRn w' v rs := by
  obtain ⟨ao, cap, rfl, hn, hcap, hc⟩ := h
  refine ⟨ao, cap, rfl, hn, hcap, fun a ha => ?_⟩
  obtain ⟨g, rfl, h⟩ := hc a ha
  refine ⟨g, rfl, fun i r hr j hj => ?_⟩
  have e := h i r hr j hj
  have hl : j < (runCells r).length := by simpa [runCells] using hj
  rw [List.getElem?_eq_getElem hl] at e ⊢
  exact (World.cell?_of_block (w := w) (hk.block _ (World.block_lt_of_cell? w _ e))).trans e
theorem SlRn.form {w : World} {v : Value} {rs : List Rn} (h : SlRn w v rs) : ∃ ao cap, v = .slice ao rs.length cap := by
  obtain ⟨ao, cap, rfl, _⟩ := h
  exact ⟨ao, cap, rfl⟩
theorem SlRn.at' {w : World} {ao : Option Addr} {n cap : Nat} {rs : List Rn} (h : SlRn w (.slice ao n cap) rs) {i : Nat} (hi : i < rs.length) :
    ∃ (g x1 x2 x3 y1 y2 y3 : Nat), ao = some ⟨g, 0, none⟩ ∧ rs[i]? = some ((x1, x2, x3), (y1, y2, y3)) ∧ w.cell? ⟨g, i * 6, none⟩ = some (.int .i64 x1) ∧ w.cell? ⟨g, i * 6 + 1, none⟩ = some (.int .i64 x2) ∧ w.cell? ⟨g, i * 6 + 2, none⟩ = some (.int .i64 x3) ∧
      w.cell? ⟨g, i * 6 + 3, none⟩ = some (.int .i64 y1) ∧ w.cell? ⟨g, i * 6 + 4, none⟩ = some (.int .i64 y2) ∧ w.cell? ⟨g, i * 6 + 5, none⟩ = some (.int .i64 y3) := by
  obtain ⟨ao', cap', hv, hn, _, hc⟩ := h
  obtain ⟨rfl, _, _⟩ := Value.slice.inj hv
  cases ao with
  | none => rw [hn rfl] at hi; cases hi
  | some a =>
    obtain ⟨g, rfl, h⟩ := hc _ rfl
    have := h i _ (List.getElem?_eq_getElem hi)
    exact ⟨g, _, _, _, _, _, _, rfl, List.getElem?_eq_getElem hi, this 0 (by omega), this 1 (by omega), this 2 (by omega), this 3 (by omega), this 4 (by omega), this 5 (by omega)⟩
theorem OwnRn.old {w w' : World} {base : Nat} {v : Value} {rs : List Rn} (h : OwnRn w base v rs) (hk : Below w.heap.size w w') : OwnRn w' base v rs := World.ownsRow.kept h (grown_of_below hk none) (by cases hv : v.ownBlock <;> simp)
theorem OwnRn.low {w : World} {b b' : Nat} {v : Value} {rs : List Rn} (h : OwnRn w b v rs) (hb : b' ≤ b) : OwnRn w b' v rs := by
  refine ⟨h.1, ?_⟩
  rcases h.2 with hn | ⟨g, cap, cur, rfl, hbg, rest⟩
  · exact .inl hn
  · exact .inr ⟨g, cap, cur, rfl, Nat.le_trans hb hbg, rest⟩
theorem OwnRn.last {w : World} {base : Nat} {v : Value} {L : List Rn} {r : Rn} (h : OwnRn w base v (L ++ [r])) : ∃ g cap, v = .slice (some ⟨g, 0, none⟩) (L.length + 1) cap ∧ base ≤ g ∧ g < w.heap.size := by
  rcases h.2 with ⟨_, h0⟩ | ⟨g, cap, cur, rfl, r1, r2, _⟩
  · simp at h0
  · exact ⟨g, cap, by rw [List.length_append, List.length_singleton], r1, (Array.getElem?_eq_some_iff.1 r2).1⟩
theorem Tryz.infoRn : (Tryz.prog.info? 168).map (fun i => (i.zero, i.size, i.bytes)) = some (some (.agg #[.int .i64 0, .int .i64 0, .int .i64 0, .int .i64 0, .int .i64 0, .int .i64 0]), 6, 48) := by kernel_rfl
theorem Tryz.sizeCor : (Tryz.prog.info? 164).map (·.size) = some 3 := by kernel_rfl
section
variable {w : World}
theorem wpList_append_rn {ops : Array Oper} {rest : List Oper} {o : Oper} {a : Act} {Q : Exit → Act → World → Prop} (hgd : o.guard = none) (s sx : Operand)
    (ho : o.op = .call { callee := .builtin .append, args := #[s, sx], argTypes := #[165, 165] })
    (base : Nat) (v : Value) (rs : List Rn) (r : Rn) (he : a.eval s = v) (hown : OwnRn w base v rs) (hx : a.eval sx = .slice (some ⟨w.heap.size, 0, none⟩) 1 1) (hlen : rs.length ≤ 4000000) (hbase : base ≤ w.heap.size)
    (h : ∀ v' w', OwnRn w' base v' (rs ++ [r]) → Below base w w' → (∀ b, b < w.heap.size → v.ownBlock ≠ some b → w'.heap[b]? = w.heap[b]?) → wpList Tryz.prog ops Q rest (a.put o.dst v') w') : wpList Tryz.prog ops Q (o :: rest) a (w.alloc (.cells #[.int .i64 r.1.1, .int .i64 r.1.2.1, .int .i64 r.1.2.2, .int .i64 r.2.1, .int .i64 r.2.2.1, .int .i64 r.2.2.2] 168)) := by
  obtain ⟨i0, hi0, hi1, hi2, hi3⟩ := info_parts Tryz.infoRn
  have hz : (w.alloc (.cells #[.int .i64 r.1.1, .int .i64 r.1.2.1, .int .i64 r.1.2.2, .int .i64 r.2.1, .int .i64 r.2.2.1, .int .i64 r.2.2.2] 168)).heap.size = w.heap.size + 1 := by simp
  refine wpList_plain hgd fun _ hK => wp_append_any _ s sx _ _ ho base 168 i0 _ 6 48 Tryz.underlying165 hi0 hi1 hi2 hi3 rfl (by omega) v _ _ he (World.ownsRow.alloc hown _) _ 1 (runCells r) hx
    (Src.ofSlice _ Tryz.underlying165 ⟨w.heap.size, 0, none⟩ 1 1 (runCells r) (by rfl) (World.news_of_block (cs := #[.int .i64 r.1.1, .int .i64 r.1.2.1, .int .i64 r.1.2.2, .int .i64 r.2.1, .int .i64 r.2.2.1, .int .i64 r.2.2.2]) (t := 168) (fr := (0, 0)) (heap_alloc_new w _)) (fun u hu => ?_)) (by unfold maxLen; omega) (by omega) (by omega) fun v' w' q1 q2 q3 => hK _ _ (h v' w' ?_ ?_ fun b hb hne => (q2.block b (by omega) (fun e => hne e.symm)).trans (Below.heap_alloc w _ b hb))
  · simp only [runCells, List.mem_cons, List.not_mem_nil, or_false] at hu
    rcases hu with rfl | rfl | rfl | rfl | rfl | rfl <;> rfl
  · unfold OwnRn
    rw [runFlat_append, List.length_append]
    simpa [runFlat] using q1
  · exact ((Below.refl base w).alloc hbase _).grown q2 (by omega) (fun j hj => (World.ownsRow.lt hown j hj).1)
theorem wpList_store_in {P : Program} {ops : Array Oper} {rest : List Oper} {o : Oper} {a : Act} {Q : Exit → Act → World → Prop} (hgd : o.guard = none) (ty : TypeId) (x y : Operand) (ho : o.op = .store ty x y)
    (g off : Nat) (cells : Array Value) (hx : a.eval x = .pointer (some ⟨g, off, none⟩)) (hy : a.eval y = .agg cells)
    (t : TypeId) (old : Array Value) (hg : w.heap[g]? = some (.cells old t (0, 0))) (hi : (P.info? ty).map (·.size) = some cells.size)
    (hold : off + cells.size ≤ old.size) (h1 : cells.all (·.oneCell') = true)
    (h : ∀ w', w'.heap[g]? = some (.cells (old.toList.take off ++ cells.toList ++ old.toList.drop (off + cells.size)).toArray t (0, 0)) → Keep (· = g) w w' → wpList P ops Q rest (a.put o.dst undef) w') : wpList P ops Q (o :: rest) a w := by
  refine wpList_plain hgd fun _ hK => ?_
  have hst := run_storeCells_at P g off t cells.toList 0 old w hg (by simpa using hold) (fun v hv => (Array.all_eq_true_iff_forall_mem.1 h1) v (by simpa using hv))
  have hrun : (storeVar ty ⟨g, off, none⟩ (.agg cells)).run P w = .ok () (w.setRow g (old.toList.take off ++ cells.toList ++ old.toList.drop (off + cells.size)).toArray) := by
    cases hq : P.info? ty with
    | none => simp [hq] at hi
    | some i =>
      have hs : cells.size = i.size := by simp [hq] at hi; omega
      simp [storeVar, sizeOf, typeInfo, hq, Value.cells, hs] at hst ⊢
      rw [← hs] at hst ⊢
      exact hst
  unfold Oper.wp execOp
  simp only [ho, hx, hy, Instr.storeAt, Instr.sureAddr, Sem.run_bind, Sem.run_pure, Result.andThen_ok, hrun]
  exact hK _ _ (h _ (setRow_heap w g old _ t _ hg) ⟨rfl, rfl, rfl, by simp [World.setRow], fun k _ hk => setRow_other w g k _ hk⟩)
theorem wpList_store_end {ops : Array Oper} {rest : List Oper} {o : Oper} {a : Act} {Q : Exit → Act → World → Prop} (hgd : o.guard = none) (x y : Operand) (ho : o.op = .store 164 x y)
    (base g n cap : Nat) (rs : List Rn) (r : Rn) (c : Cor) (hown : OwnRn w base (.slice (some ⟨g, 0, none⟩) n cap) (rs ++ [r])) (off : Nat) (hoff : off = rs.length * 6 + 3) (hx : a.eval x = .pointer (some ⟨g, off, none⟩)) (hy : a.eval y = .agg #[.int .i64 c.1, .int .i64 c.2.1, .int .i64 c.2.2])
    (h : ∀ w', OwnRn w' base (.slice (some ⟨g, 0, none⟩) n cap) (rs ++ [(r.1, c)]) → Keep (· = g) w w' → wpList Tryz.prog ops Q rest (a.put o.dst undef) w') : wpList Tryz.prog ops Q (o :: rest) a w := by
  subst hoff
  rcases hown.2 with ⟨hv, _⟩ | ⟨g', cap', cur, hv, q1, q2, q3, q4, q5, q6⟩
  · cases hv
  · cases hv
    rw [List.length_append, List.length_singleton] at q3 q6 hown
    have hcs : rs.length * 6 + 6 ≤ cur.size := by rw [q5]; omega
    refine wpList_store_in hgd 164 x y ho g (rs.length * 6 + 3) #[.int .i64 c.1, .int .i64 c.2.1, .int .i64 c.2.2] hx hy 168 cur q2 Tryz.sizeCor (by simp; omega) (by simp [Value.oneCell']) fun w' hg hk => h w' ?_ hk
    refine ⟨by rw [runFlat_length], .inr ⟨g, cap, _, by rw [List.length_append, List.length_append]; rfl, q1, hg, by simpa using q3, q4, by simp; omega, ?_⟩⟩
    have e : cur.toList.take (rs.length * 6 + 3) = runFlat rs ++ [.int .i64 r.1.1, .int .i64 r.1.2.1, .int .i64 r.1.2.2] := by
      have := congrArg (List.take (rs.length * 6 + 3)) q6
      rw [List.take_take, Nat.min_eq_left (by omega)] at this
      rw [this, runFlat_append, List.take_append, runFlat_length, List.take_of_length_le (by rw [runFlat_length]; omega), show rs.length * 6 + 3 - rs.length * 6 = 3 by omega]
      rfl
    simp only [List.length_append, List.length_singleton]
    rw [e, List.take_append_of_le_length (by simp [runFlat_length]; omega), runFlat_append, List.take_of_length_le (by simp [runFlat_length]; omega), List.append_assoc]
    rfl
end
end Go.Proofs.YtbnafihigoekeaaGreatDoor
namespace Go.Proofs.YtbnafihigoekeaaGreatDoor
open Go.RowKit
theorem runs_at {X Y : List Int} {k : Nat} {p q : Int} (hx : X[k]? = some p) (hy : Y[k]? = some q) (rs : List Rn) : runsUp k rs (X.drop k) (Y.drop k) = runsUp (k + 1) (runStep rs k p q) (X.drop (k + 1)) (Y.drop (k + 1)) := by
  obtain ⟨l1, e1⟩ := List.getElem?_eq_some_iff.1 hx
  obtain ⟨l2, e2⟩ := List.getElem?_eq_some_iff.1 hy
  rw [List.drop_eq_getElem_cons l1, List.drop_eq_getElem_cons l2, e1, e2, runsUp]
theorem runStep_no {p q : Int} (h : p < 0 ∨ q < 0) (rs : List Rn) (k : Nat) : runStep rs k p q = rs := by rw [runStep, if_pos h]
theorem runStep_nil (k P Q : Nat) : runStep [] k (P : Int) (Q : Int) = [((k, P, Q), (k + 1, P + 1, Q + 1))] := by rw [runStep, if_neg (by omega)]; rfl
theorem runStep_on (rs : List Rn) (f : Cor) (k P Q : Nat) : runStep (rs ++ [(f, (k, P, Q))]) k (P : Int) (Q : Int) = rs ++ [(f, (k + 1, P + 1, Q + 1))] := by
  rw [runStep, if_neg (by omega), List.getLast?_concat, List.dropLast_concat]
  simp [nextC]
theorem runStep_new (rs : List Rn) (f : Cor) (t : Cor) (k P Q : Nat) (h : t ≠ (k, P, Q)) : runStep (rs ++ [(f, t)]) k (P : Int) (Q : Int) = rs ++ [(f, t)] ++ [((k, P, Q), (k + 1, P + 1, Q + 1))] := by
  rw [runStep, if_neg (by omega), List.getLast?_concat]
  simp only [Int.toNat_natCast]
  rw [if_neg h]
  rfl
section
variable {w : World} {ops : Array Oper} {rest : List Oper} {o : Oper} {a : Act} {Q : Exit → Act → World → Prop}
theorem wpList_look_no (hg : o.guard = none) (m x : Operand) (hop : o.op = Op.lookup 199 m x true) (b n : Nat) (D : MD) (hm : a.eval m = .map (some b)) (hown : OwnM w b n D) (key : Value) (kl : Lit) (hx : a.eval x = key) (hkey : keyOf Tryz.prog 203 key = some kl)
    (hh : Maps.has D kl = false) (hK : wpList Tryz.prog ops Q rest (a.put o.dst (.tuple #[.int .i64 0, .bool false])) w) : wpList Tryz.prog ops Q (o :: rest) a w := by
  refine wpList_lookup_own_ok_int w hg m x 199 hop 203 3 .i64 Tryz.spotLaw Tryz.underlying199 Tryz.underlying3 (Tryz.zeroInt _) b n D hm hown key kl hx hkey fun c hat _ => ?_
  rw [Maps.atKey_of_not_has hh] at hat
  cases hat
  rw [hh]
  exact hK
theorem wpList_look_yes (hg : o.guard = none) (m x : Operand) (hop : o.op = Op.lookup 199 m x true) (b n : Nat) (D : MD) (hm : a.eval m = .map (some b)) (hown : OwnM w b n D) (key : Value) (kl : Lit) (hx : a.eval x = key) (hkey : keyOf Tryz.prog 203 key = some kl)
    (p : Int) (hh : Maps.has D kl = true) (hp : ∀ z, D.atKey kl z = .lit (.int .i64 p)) (hK : wpList Tryz.prog ops Q rest (a.put o.dst (.tuple #[.int .i64 p, .bool true])) w) : wpList Tryz.prog ops Q (o :: rest) a w := by
  refine wpList_lookup_own_ok_int w hg m x 199 hop 203 3 .i64 Tryz.spotLaw Tryz.underlying199 Tryz.underlying3 (Tryz.zeroInt _) b n D hm hown key kl hx hkey fun c hat _ => ?_
  rw [hp] at hat
  cases hat
  rw [hh]
  exact hK
end
section
set_option maxRecDepth 100000
set_option maxHeartbeats 4000000
theorem DNext_any (x y z : Nat) (w : World) (hx : x ≤ 1000000) (hy : y ≤ 1000000) (hz : z ≤ 1000000) :
    Calls Tryz.prog 148 #[.agg #[.int .i64 x, .int .i64 y, .int .i64 z]] w fun e w' => e = .returned (.agg #[.int .i64 ((x + 1 : Nat) : Int), .int .i64 ((y + 1 : Nat) : Int), .int .i64 ((z + 1 : Nat) : Int)]) ∧ Below w.heap.size w w' := by
  have xw : IntKind.i64.wrap ((x : Int) + 1) = (x : Int) + 1 := IntWalk.i64_in _ (by omega)
  have yw : IntKind.i64.wrap ((y : Int) + 1) = (y : Int) + 1 := IntWalk.i64_in _ (by omega)
  have zw : IntKind.i64.wrap ((z : Int) + 1) = (z : Int) + 1 := IntWalk.i64_in _ (by omega)
  have hb1 : ∀ o, ((w.alloc (.cells #[.int .i64 x, .int .i64 y, .int .i64 z] 164)).alloc o).heap[w.heap.size]? = some (.cells #[.int .i64 x, .int .i64 y, .int .i64 z] 164 (0, 0)) := fun o => (Below.heap_alloc _ _ _ (by simp)).trans (heap_alloc_new w _)
  have hb2 := heap_alloc_new (w.alloc (.cells #[.int .i64 x, .int .i64 y, .int .i64 z] 164)) (.cells #[.int .i64 0, .int .i64 0, .int .i64 0] 164)
  have c0 := blk_cell (i := 0) (hb1 (.cells #[.int .i64 0, .int .i64 0, .int .i64 0] 164)) rfl
  have c1 := blk_cell (i := 1) (hb1 (.cells #[.int .i64 0, .int .i64 0, .int .i64 0] 164)) rfl
  have c2 := blk_cell (i := 2) (hb1 (.cells #[.int .i64 0, .int .i64 0, .int .i64 0] 164)) rfl
  have HB2 := hid hb2
  clear hb1 hb2
  go_enter Tryz.func148, Tryz.ntmps148
  go_wp2
  refine bodyPost_ret (results_cell_row rfl _ _ (w.heap.size + 1) 164 #[.int .i64 ((x : Int) + 1), .int .i64 ((y : Int) + 1), .int .i64 ((z : Int) + 1)] (0, 0) _ rfl (by simpa using heap_alloc_new (w.alloc (.cells #[.int .i64 x, .int .i64 y, .int .i64 z] 164)) (.cells #[.int .i64 ((x : Int) + 1), .int .i64 ((y : Int) + 1), .int .i64 ((z : Int) + 1)] 164)) Tryz.underlying164 rfl Tryz.sizeCor) rfl ?_
  exact ⟨rfl, ((Below.refl _ w).alloc (Nat.le_refl _) _).alloc (by simp) _⟩
theorem DEnd_any (va vb vc : Value) (a b c : List (List UInt8)) (w : World) (ha : Sl w va (strCells a)) (hb : Sl w vb (strCells b)) (hc : Sl w vc (strCells c)) :
    Calls Tryz.prog 125 #[.agg #[va, vb, vc]] w fun e w' => e = .returned (.agg #[.int .i64 a.length, .int .i64 b.length, .int .i64 c.length]) ∧ Below w.heap.size w w' := by
  obtain ⟨aa, ca, rfl⟩ := ha.form
  obtain ⟨ab, cb, rfl⟩ := hb.form
  obtain ⟨ac, cc, rfl⟩ := hc.form
  rw [strCells_length, strCells_length, strCells_length]
  clear ha hb hc
  have hb1 : ∀ o, ((w.alloc (.cells #[.slice aa a.length ca, .slice ab b.length cb, .slice ac c.length cc] 162)).alloc o).heap[w.heap.size]? = some (.cells #[.slice aa a.length ca, .slice ab b.length cb, .slice ac c.length cc] 162 (0, 0)) := fun o => (Below.heap_alloc _ _ _ (by simp)).trans (heap_alloc_new w _)
  have c0 := blk_cell (i := 0) (hb1 (.cells #[.int .i64 0, .int .i64 0, .int .i64 0] 164)) rfl
  have c1 := blk_cell (i := 1) (hb1 (.cells #[.int .i64 0, .int .i64 0, .int .i64 0] 164)) rfl
  have c2 := blk_cell (i := 2) (hb1 (.cells #[.int .i64 0, .int .i64 0, .int .i64 0] 164)) rfl
  clear hb1
  go_enter Tryz.func125, Tryz.ntmps125
  go_wp2
  refine bodyPost_ret (results_cell_row rfl _ _ (w.heap.size + 1) 164 #[.int .i64 a.length, .int .i64 b.length, .int .i64 c.length] (0, 0) _ rfl (by simpa using heap_alloc_new (w.alloc (.cells #[.slice aa a.length ca, .slice ab b.length cb, .slice ac c.length cc] 162)) (.cells #[.int .i64 a.length, .int .i64 b.length, .int .i64 c.length] 164)) Tryz.underlying164 rfl Tryz.sizeCor) rfl ?_
  exact ⟨rfl, ((Below.refl _ w).alloc (Nat.le_refl _) _).alloc (by simp) _⟩
end
section
set_option maxRecDepth 100000
set_option maxHeartbeats 4000000
theorem DRuns_any (va vb vc : Value) (a b c : List (List UInt8)) (w : World) (ha : Sl w va (strCells a)) (hb : Sl w vb (strCells b)) (hc : Sl w vc (strCells c)) (la : a.length ≤ 3000) (lb : b.length ≤ 3000) (lc : c.length ≤ 3000) :
    Calls Tryz.prog 122 #[.agg #[va, vb, vc]] w fun e w' => ∃ u, e = .returned u ∧ OwnRn w' w.heap.size u (runsUp 0 [] (placesS a b) (placesS a c)) ∧ (runsUp 0 [] (placesS a b) (placesS a c)).length ≤ a.length ∧ Below w.heap.size w w' := by
  have hb0 := heap_alloc_new w (.cells #[va, vb, vc] 162)
  have B0 : Below w.heap.size w (w.alloc (.cells #[va, vb, vc] 162)) := (Below.refl _ w).alloc (Nat.le_refl _) _
  have HKP := hid (DKept_any va vb vc a b c _ (Sl.old ha B0) (Sl.old hb B0) (Sl.old hc B0) la lb lc)
  obtain ⟨aa, ca, rfl⟩ := ha.form
  obtain ⟨ab, cb, rfl⟩ := hb.form
  obtain ⟨ac, cc, rfl⟩ := hc.form
  have HXL := hid (placesS_len a b)
  have HYL := hid (placesS_len a c)
  have HXA := hid (placesS_rise a b)
  have HYA := hid (placesS_rise a c)
  obtain ⟨X, hX⟩ : ∃ X, placesS a b = X := ⟨_, rfl⟩
  obtain ⟨Y, hY⟩ : ∃ Y, placesS a c = Y := ⟨_, rfl⟩
  rw [hX] at HKP HXL HXA ⊢
  rw [hY] at HKP HYL HYA ⊢
  simp only [strCells_length] at HKP hb0 B0 ⊢
  have HBL := hid hb0
  have HB0 := hid B0
  have HL := hid (And.intro la (And.intro lb lc))
  have c0 := blk_cell (i := 0) hb0 rfl
  clear ha hb hc la lb lc hX hY hb0 B0
  go_enter Tryz.func122, Tryz.ntmps122
  go_wp2_with (go_at_call 147; refine HKP.out.mono ?_; rintro e w1 ⟨g, n, D, rfl, hg1, hg2, hm, hsx, hsy, hb1⟩; have d0 := blk_cell (i := 0) ((hb1.block w.heap.size (by simp)).trans HBL.out) rfl)
  have HB1 := hid (below_step HB0.out hb1 HB0.out.size)
  have HM := hid hm
  have HSX := hid hsx
  have HSY := hid hsy
  clear hb1 hm hsx hsy HKP HB0 HBL c0 hg1 hg2
  clear d0
  go_loopg [4, 16] a.length (fun gh l i wx => ∃ (k : Nat) (rs : List Rn), k ≤ a.length ∧ gh = a.length - k ∧ i = .int .i64 k ∧ Hid (rs.length ≤ k) ∧ Hid (runsUp k rs (X.drop k) (Y.drop k) = runsUp 0 [] X Y) ∧ Hid (OwnRn wx w1.heap.size l rs) ∧ Below w1.heap.size w1 wx)
  case atStart => exact ⟨0, [], Nat.zero_le _, rfl, rfl, hid (Nat.le_refl _), hid (by rw [List.drop_zero, List.drop_zero]), hid (OwnRn.nil _ _), Below.refl _ _⟩
  case round =>
    obtain ⟨k, rs, hk, rfl, rfl, HRL, HRU, HO, hbx⟩ := hrel
    have hzx := hbx.size
    obtain ⟨lo, lcap, rfl⟩ := HO.out.form
    have k0 : (0 : Int) ≤ (k : Int) := Int.natCast_nonneg _
    by_cases hlt : k < a.length
    · have k1 : (k : Int) < (a.length : Int) := by omega
      have kw : IntKind.i64.wrap ((k : Int) + 1) = (k : Int) + 1 := IntWalk.i64_in _ (by have := HL.out; omega)
      obtain ⟨p, hp⟩ : ∃ p, X[k]? = some p := ⟨_, List.getElem?_eq_getElem (by have := HXL.out; omega)⟩
      obtain ⟨q, hq⟩ : ∃ q, Y[k]? = some q := ⟨_, List.getElem?_eq_getElem (by have := HYL.out; omega)⟩
      have HST := hid (runs_at hp hq rs)
      have HPX := hid (HSX.out k p hp)
      have HPY := hid (HSY.out k q hq)
      have HK0 := hid (spot_key (i := k) (s := 0) (by have := HL.out; omega) (by omega))
      have HK1 := hid (spot_key (i := k) (s := 1) (by have := HL.out; omega) (by omega))
      have HMX := hid (OwnM.old HM.out hbx)
      have HPB := hid (show p < 1000000 ∧ q < 1000000 by
        have h1 := HXA.out
        have h2 := HYA.out
        have h3 := HL.out
        constructor
        · by_cases h : p < 0
          · omega
          · obtain ⟨P, rfl⟩ := Int.eq_ofNat_of_zero_le (show 0 ≤ p by omega)
            have := asc_bound h1 hp
            omega
        · by_cases h : q < 0
          · omega
          · obtain ⟨P, rfl⟩ := Int.eq_ofNat_of_zero_le (show 0 ≤ q by omega)
            have := asc_bound h2 hq
            omega)
      clear hp hq
      by_cases hpq : p < 0 ∨ q < 0
      · have HN := hid (show runsUp (k + 1) rs (X.drop (k + 1)) (Y.drop (k + 1)) = runsUp 0 [] X Y by rw [← HRU.out, HST.out, runStep_no hpq])
        clear HST HRU
        rcases (show (p < 0 ∧ q < 0) ∨ (p < 0 ∧ ¬ q < 0) ∨ (¬ p < 0 ∧ q < 0) by omega) with ⟨h1, h2⟩ | ⟨h1, h2⟩ | ⟨h1, h2⟩
        · have N0 := hid (HPX.out.1 h1)
          have N1 := hid (HPY.out.1 h2)
          clear hpq h1 h2
          go_wp2_with (first
            | (at_lookup; refine wpList_look_no rfl _ _ rfl g n D rfl HMX.out _ _ rfl HK0.out N0.out ?_)
            | (at_lookup; refine wpList_look_no rfl _ _ rfl g n D rfl HMX.out _ _ rfl HK1.out N1.out ?_))
          go_roundg (a.length - (k + 1))
          case measure => omega
          case rel => exact ⟨k + 1, rs, by omega, rfl, by go_num, hid (by have := HRL.out; omega), HN, HO, hbx⟩
        · have N0 := hid (HPX.out.1 h1)
          have Y1 := hid (HPY.out.2 h2)
          clear hpq h1 h2
          go_wp2_with (first
            | (at_lookup; refine wpList_look_no rfl _ _ rfl g n D rfl HMX.out _ _ rfl HK0.out N0.out ?_)
            | (at_lookup; refine wpList_look_yes rfl _ _ rfl g n D rfl HMX.out _ _ rfl HK1.out q Y1.out.1 Y1.out.2 ?_))
          go_roundg (a.length - (k + 1))
          case measure => omega
          case rel => exact ⟨k + 1, rs, by omega, rfl, by go_num, hid (by have := HRL.out; omega), HN, HO, hbx⟩
        · have Y0 := hid (HPX.out.2 h1)
          have N1 := hid (HPY.out.1 h2)
          clear hpq h1 h2
          go_wp2_with (first
            | (at_lookup; refine wpList_look_yes rfl _ _ rfl g n D rfl HMX.out _ _ rfl HK0.out p Y0.out.1 Y0.out.2 ?_)
            | (at_lookup; refine wpList_look_no rfl _ _ rfl g n D rfl HMX.out _ _ rfl HK1.out N1.out ?_))
          go_roundg (a.length - (k + 1))
          case measure => omega
          case rel => exact ⟨k + 1, rs, by omega, rfl, by go_num, hid (by have := HRL.out; omega), HN, HO, hbx⟩
      · have Y0 := hid (HPX.out.2 (by omega))
        have Y1 := hid (HPY.out.2 (by omega))
        obtain ⟨P, rfl⟩ := Int.eq_ofNat_of_zero_le (show 0 ≤ p by omega)
        obtain ⟨Q, rfl⟩ := Int.eq_ofNat_of_zero_le (show 0 ≤ q by omega)
        have P0 : (0 : Int) ≤ (P : Int) := Int.natCast_nonneg _
        have Q0 : (0 : Int) ≤ (Q : Int) := Int.natCast_nonneg _
        clear hpq
        go_wp2_with (first
            | (at_lookup; refine wpList_look_yes rfl _ _ rfl g n D rfl HMX.out _ _ rfl HK0.out P Y0.out.1 Y0.out.2 ?_)
            | (at_lookup; refine wpList_look_yes rfl _ _ rfl g n D rfl HMX.out _ _ rfl HK1.out Q Y1.out.1 Y1.out.2 ?_))
        have HB2 := hid (hbx.alloc hzx (.cells #[.int .i64 k, .int .i64 P, .int .i64 Q] 164))
        have HG2 := hid (heap_alloc_new wr (.cells #[.int .i64 k, .int .i64 P, .int .i64 Q] 164))
        have HO2 := hid (show OwnRn (wr.alloc (.cells #[.int .i64 k, .int .i64 P, .int .i64 Q] 164)) w1.heap.size (.slice lo rs.length lcap) rs from World.ownsRow.alloc HO.out _)
        have HZ2 := hid (show wr.heap.size < (wr.alloc (.cells #[.int .i64 k, .int .i64 P, .int .i64 Q] 164)).heap.size by simp)
        have HLT := hid (fun j (hj : (Value.slice lo rs.length lcap).ownBlock = some j) => (World.ownsRow.lt HO.out j hj).2)
        generalize wr.alloc (.cells #[.int .i64 k, .int .i64 P, .int .i64 Q] 164) = W2 at HB2 HG2 HO2 HZ2 ⊢
        obtain ⟨gc, hgc⟩ : ∃ z, wr.heap.size = z := ⟨_, rfl⟩
        rw [hgc] at hzx HG2 HZ2 HLT ⊢
        clear hgc HO HMX Y0 Y1 HPX HPY HK0 HK1 hbx
        have hcase : rs = [] ∨ ∃ L f t, rs = L ++ [((f, t) : Rn)] := by
          rcases List.eq_nil_or_concat rs with h | ⟨L, r, h⟩
          · exact .inl h
          · exact .inr ⟨L, r.1, r.2, by rw [h, List.concat_eq_append]⟩
        rcases hcase with rfl | ⟨L, f, t, rfl⟩
        · have HN := hid (show runsUp (k + 1) ([] ++ [((k, P, Q), (k + 1, P + 1, Q + 1))]) (X.drop (k + 1)) (Y.drop (k + 1)) = runsUp 0 [] X Y by rw [← HRU.out, HST.out, runStep_nil]; rfl)
          have HLB := hid (show ([] : List Rn).length ≤ 400 from Nat.zero_le _)
          have HNE := hid (show (Value.slice lo ([] : List Rn).length lcap).ownBlock ≠ some gc from fun e => Nat.lt_irrefl _ (HLT.out gc e))
          clear HST HRU
          go_quiet (fail)
          have HB3 := hid (show Below w1.heap.size w1 (W2.drewN nq) from HB2.out.trans ⟨rfl, rfl, rfl, Nat.le_refl _, fun _ _ => rfl⟩)
          have HG3 := hid (show (W2.drewN nq).heap[gc]? = _ from HG2.out)
          have HO3 := hid (show OwnRn (W2.drewN nq) w1.heap.size _ _ from HO2.out)
          have HZ3 := hid (show gc < (W2.drewN nq).heap.size from HZ2.out)
          clear HO2 HB2 HG2 HZ2
          generalize W2.drewN nq = W3 at HB3 HG3 HO3 HZ3 ⊢
          have f0 := blk_cell (i := 0) HG3.out rfl
          have f1 := blk_cell (i := 1) HG3.out rfl
          have f2 := blk_cell (i := 2) HG3.out rfl
          go_wp2_with (first
            | (refine wpList_append_rn rfl (.tmp 57) (.tmp 60) rfl w1.heap.size _ [] ((k, P, Q), (0, 0, 0)) rfl HO3.out rfl (by have h1 := HL.out; have h2 := HRL.out; omega) (by have := HB3.out.size; omega) ?_; intro v4 W4 hO4 hb4 hK4
               have hG4 := (hK4 gc HZ3.out HNE.out).trans HG3.out
               have hB4 := HB3.out.trans hb4
               clear hb4 hK4
               obtain ⟨g4, cap4, rfl, hg4, hl4⟩ := hO4.last
               obtain ⟨m4, hm4⟩ : ∃ z, ([] : List Rn).length + 1 = z := ⟨_, rfl⟩
               obtain ⟨j4, hj4⟩ : ∃ z, ([] : List Rn).length = z := ⟨_, rfl⟩
               have HJ4 := hid hj4
               have HL4 := hid hg4
               have b0 : (0 : Int) ≤ (j4 : Int) := Int.natCast_nonneg _
               have b1 : (j4 : Int) < (m4 : Int) := by omega
               have b2 : IntKind.i64.wrap ((m4 : Int) - 1) = (j4 : Int) := (IntWalk.i64_in _ (by have h1 := HL.out; have h2 := HRL.out; omega)).trans (by omega)
               rw [hm4] at hO4 ⊢
               have HO4 := hid hO4
               have HB4 := hid hB4
               have HG4 := hid hG4
               have c0 := blk_cell (i := 0) hG4 rfl
               have c1 := blk_cell (i := 1) hG4 rfl
               have c2 := blk_cell (i := 2) hG4 rfl
               have HNX := hid (DNext_any k P Q W4 (by have := HL.out; omega) (by have := HPB.out; omega) (by have := HPB.out; omega))
               clear hm4 hj4 hO4 hB4 hG4 hg4 hl4)
            | (go_at_call 148; with_reducible refine HNX.out.mono ?_; rintro e w5 ⟨rfl, hb5⟩
               have HO5 := hid (OwnRn.old HO4.out hb5)
               have HB5 := hid (below_step HB4.out hb5 HB4.out.size)
               clear hb5)
            | (refine wpList_store_end rfl _ _ rfl w1.heap.size g4 m4 cap4 _ _ (k + 1, P + 1, Q + 1) HO5.out (j4 * 6 + 3) (by rw [HJ4.out]) rfl rfl ?_; intro w6 hO6 hk6
               have HO6 := hid hO6
               have HB6 := hid (HB5.out.trans (hk6.below (by have := HB5.out.size; omega) (fun b hb e => by have := HL4.out; omega)))
               clear hO6 hk6))
          go_roundg (a.length - (k + 1))
          case measure => omega
          case rel => exact ⟨k + 1, _, by omega, rfl, by go_num, hid (by simp), HN, HO6, HB6.out⟩
        · obtain ⟨lo', lcap', hv, hlo, hlz⟩ := HO2.out.last
          obtain ⟨g', r1, r2, r3, r4, r5, r6, hlo', he, -, -, -, e3, e4, e5⟩ := HO2.out.sl.at' (i := L.length) (by simp)
          rw [List.getElem?_concat_length] at he
          cases he
          rw [List.length_append, List.length_singleton] at hv
          cases hv
          cases hlo'
          rw [List.length_append, List.length_singleton] at HO2 HLT HRL ⊢
          obtain ⟨m, hm⟩ : ∃ m, L.length + 1 = m := ⟨_, rfl⟩
          obtain ⟨j, hj⟩ : ∃ j, L.length = j := ⟨_, rfl⟩
          have HJ := hid hj
          have HMJ := hid hm
          rw [hm] at HO2 HLT HRL ⊢
          rw [hj] at e3 e4 e5
          have m0 : (0 : Int) ≤ (m : Int) := Int.natCast_nonneg _
          have j0 : (0 : Int) ≤ (j : Int) := Int.natCast_nonneg _
          have jm : (j : Int) < (m : Int) := by omega
          have mne : ((m : Int) == 0) = false := by simp; omega
          have mw : IntKind.i64.wrap ((m : Int) - 1) = (j : Int) := (IntWalk.i64_in _ (by have h1 := HL.out; have h2 := HRL.out; omega)).trans (by omega)
          clear hm hj
          have f0 := blk_cell (i := 0) HG2.out rfl
          have f1 := blk_cell (i := 1) HG2.out rfl
          have f2 := blk_cell (i := 2) HG2.out rfl
          by_cases ht : (r4, r5, r6) = (k, P, Q)
          · cases ht
            have HN := hid (show runsUp (k + 1) (L ++ [((r1, r2, r3), (k + 1, P + 1, Q + 1))]) (X.drop (k + 1)) (Y.drop (k + 1)) = runsUp 0 [] X Y by rw [← HRU.out, HST.out, runStep_on])
            clear HST HRU
            go_quiet (fail)
            have HB3 := hid (show Below w1.heap.size w1 (W2.drewN nq) from HB2.out.trans ⟨rfl, rfl, rfl, Nat.le_refl _, fun _ _ => rfl⟩)
            have HG3 := hid (show (W2.drewN nq).heap[gc]? = _ from HG2.out)
            have HO3 := hid (show OwnRn (W2.drewN nq) w1.heap.size _ _ from HO2.out)
            have HZ3 := hid (show gc < (W2.drewN nq).heap.size from HZ2.out)
            clear HO2 HB2 HG2 HZ2 e3 e4 e5 f0 f1 f2
            generalize W2.drewN nq = W3 at HB3 HG3 HO3 HZ3 ⊢
            have HJ4 := HJ
            have HL4 := hid hlo
            have HO4 := HO3
            have HB4 := HB3
            have f0 := blk_cell (i := 0) HG3.out rfl
            have f1 := blk_cell (i := 1) HG3.out rfl
            have f2 := blk_cell (i := 2) HG3.out rfl
            have HNX := hid (DNext_any k P Q W3 (by have := HL.out; omega) (by have := HPB.out; omega) (by have := HPB.out; omega))
            go_wp2_with (first
              | (go_at_call 148; with_reducible refine HNX.out.mono ?_; rintro e w5 ⟨rfl, hb5⟩
                 have HO5 := hid (OwnRn.old HO4.out hb5)
                 have HB5 := hid (below_step HB4.out hb5 HB4.out.size)
                 clear hb5)
              | (refine wpList_store_end rfl _ _ rfl w1.heap.size lo' m lcap _ _ (k + 1, P + 1, Q + 1) HO5.out (j * 6 + 3) (by rw [HJ4.out]) rfl rfl ?_; intro w6 hO6 hk6
                 have HO6 := hid hO6
                 have HB6 := hid (HB5.out.trans (hk6.below (by have := HB5.out.size; omega) (fun b hb e => by have := HL4.out; omega)))
                 clear hO6 hk6))
            go_roundg (a.length - (k + 1))
            case measure => omega
            case rel => exact ⟨k + 1, _, by omega, rfl, by go_num, hid (by have h1 := HRL.out; have h2 := HMJ.out; simp; omega), HN, HO6, HB6.out⟩
          · have hnn : r4 ≠ k ∨ (k = r4 ∧ r5 ≠ P) ∨ (k = r4 ∧ P = r5 ∧ r6 ≠ Q) := by
              apply Classical.byContradiction
              intro h
              apply ht
              have : r4 = k ∧ r5 = P ∧ r6 = Q := by omega
              rw [this.1, this.2.1, this.2.2]
            have HT := hid ht
            clear ht
            rcases hnn with h4 | ⟨rfl, h5⟩ | ⟨rfl, rfl, h6⟩
            · have n4 : ((r4 : Int) == (k : Int)) = false := by simp; omega
              have n4' : (r4 == k) = false := by simpa using h4
              have HN := hid (show runsUp (k + 1) (L ++ [((r1, r2, r3), (r4, r5, r6))] ++ [((k, P, Q), (k + 1, P + 1, Q + 1))]) (X.drop (k + 1)) (Y.drop (k + 1)) = runsUp 0 [] X Y by rw [← HRU.out, HST.out, runStep_new _ _ _ _ _ _ HT.out])
              have HLB := hid (show (L ++ [((r1, r2, r3), (r4, r5, r6))]).length ≤ k ∧ k ≤ 3000 by have h1 := HRL.out; have h2 := HMJ.out; have h3 := HL.out; simp; omega)
              have HNE := hid (show (Value.slice (some ⟨lo', 0, none⟩) m lcap).ownBlock ≠ some gc from fun e => Nat.lt_irrefl _ (HLT.out gc e))
              clear HST HRU
              go_quiet (fail)
              have HB3 := hid (show Below w1.heap.size w1 (W2.drewN nq) from HB2.out.trans ⟨rfl, rfl, rfl, Nat.le_refl _, fun _ _ => rfl⟩)
              have HG3 := hid (show (W2.drewN nq).heap[gc]? = _ from HG2.out)
              have HO3 := hid (show OwnRn (W2.drewN nq) w1.heap.size _ _ from HO2.out)
              have HZ3 := hid (show gc < (W2.drewN nq).heap.size from HZ2.out)
              clear HO2 HB2 HG2 HZ2 e3 e4 e5 f0 f1 f2
              generalize W2.drewN nq = W3 at HB3 HG3 HO3 HZ3 ⊢
              have f0 := blk_cell (i := 0) HG3.out rfl
              have f1 := blk_cell (i := 1) HG3.out rfl
              have f2 := blk_cell (i := 2) HG3.out rfl
              go_wp2_with (first
                | (refine wpList_append_rn rfl (.tmp 57) (.tmp 60) rfl w1.heap.size _ (L ++ [((r1, r2, r3), (r4, r5, r6))]) ((k, P, Q), (0, 0, 0)) rfl HO3.out rfl (by have h2 := HLB.out; omega) (by have := HB3.out.size; omega) ?_; intro v4 W4 hO4 hb4 hK4
                   have hG4 := (hK4 gc HZ3.out HNE.out).trans HG3.out
                   have hB4 := HB3.out.trans hb4
                   clear hb4 hK4
                   obtain ⟨g4, cap4, rfl, hg4, hl4⟩ := hO4.last
                   obtain ⟨m4, hm4⟩ : ∃ z, (L ++ [((r1, r2, r3), (r4, r5, r6))]).length + 1 = z := ⟨_, rfl⟩
                   obtain ⟨j4, hj4⟩ : ∃ z, (L ++ [((r1, r2, r3), (r4, r5, r6))]).length = z := ⟨_, rfl⟩
                   have HJ4 := hid hj4
                   have HL4 := hid hg4
                   have b0 : (0 : Int) ≤ (j4 : Int) := Int.natCast_nonneg _
                   have b1 : (j4 : Int) < (m4 : Int) := by omega
                   have b2 : IntKind.i64.wrap ((m4 : Int) - 1) = (j4 : Int) := (IntWalk.i64_in _ (by have h1 := HL.out; have h2 := HLB.out; omega)).trans (by omega)
                   rw [hm4] at hO4 ⊢
                   have HO4 := hid hO4
                   have HB4 := hid hB4
                   have HG4 := hid hG4
                   have c0 := blk_cell (i := 0) hG4 rfl
                   have c1 := blk_cell (i := 1) hG4 rfl
                   have c2 := blk_cell (i := 2) hG4 rfl
                   have HNX := hid (DNext_any k P Q W4 (by have := HL.out; omega) (by have := HPB.out; omega) (by have := HPB.out; omega))
                   clear hm4 hj4 hO4 hB4 hG4 hg4 hl4)
                | (go_at_call 148; with_reducible refine HNX.out.mono ?_; rintro e w5 ⟨rfl, hb5⟩
                   have HO5 := hid (OwnRn.old HO4.out hb5)
                   have HB5 := hid (below_step HB4.out hb5 HB4.out.size)
                   clear hb5)
                | (refine wpList_store_end rfl _ _ rfl w1.heap.size g4 m4 cap4 _ _ (k + 1, P + 1, Q + 1) HO5.out (j4 * 6 + 3) (by rw [HJ4.out]) rfl rfl ?_; intro w6 hO6 hk6
                   have HO6 := hid hO6
                   have HB6 := hid (HB5.out.trans (hk6.below (by have := HB5.out.size; omega) (fun b hb e => by have := HL4.out; omega)))
                   clear hO6 hk6))
              go_roundg (a.length - (k + 1))
              case measure => omega
              case rel => exact ⟨k + 1, _, by omega, rfl, by go_num, hid (by have h1 := HLB.out; rw [List.length_append, List.length_singleton]; omega), HN, HO6, HB6.out⟩
            · have n5 : ((r5 : Int) == (P : Int)) = false := by simp; omega
              have n5' : (r5 == P) = false := by simpa using h5
              have HN := hid (show runsUp (k + 1) (L ++ [((r1, r2, r3), (k, r5, r6))] ++ [((k, P, Q), (k + 1, P + 1, Q + 1))]) (X.drop (k + 1)) (Y.drop (k + 1)) = runsUp 0 [] X Y by rw [← HRU.out, HST.out, runStep_new _ _ _ _ _ _ HT.out])
              have HLB := hid (show (L ++ [((r1, r2, r3), (k, r5, r6))]).length ≤ k ∧ k ≤ 3000 by have h1 := HRL.out; have h2 := HMJ.out; have h3 := HL.out; simp; omega)
              have HNE := hid (show (Value.slice (some ⟨lo', 0, none⟩) m lcap).ownBlock ≠ some gc from fun e => Nat.lt_irrefl _ (HLT.out gc e))
              clear HST HRU
              go_quiet (fail)
              have HB3 := hid (show Below w1.heap.size w1 (W2.drewN nq) from HB2.out.trans ⟨rfl, rfl, rfl, Nat.le_refl _, fun _ _ => rfl⟩)
              have HG3 := hid (show (W2.drewN nq).heap[gc]? = _ from HG2.out)
              have HO3 := hid (show OwnRn (W2.drewN nq) w1.heap.size _ _ from HO2.out)
              have HZ3 := hid (show gc < (W2.drewN nq).heap.size from HZ2.out)
              clear HO2 HB2 HG2 HZ2 e3 e4 e5 f0 f1 f2
              generalize W2.drewN nq = W3 at HB3 HG3 HO3 HZ3 ⊢
              have f0 := blk_cell (i := 0) HG3.out rfl
              have f1 := blk_cell (i := 1) HG3.out rfl
              have f2 := blk_cell (i := 2) HG3.out rfl
              go_wp2_with (first
                | (refine wpList_append_rn rfl (.tmp 57) (.tmp 60) rfl w1.heap.size _ (L ++ [((r1, r2, r3), (k, r5, r6))]) ((k, P, Q), (0, 0, 0)) rfl HO3.out rfl (by have h2 := HLB.out; omega) (by have := HB3.out.size; omega) ?_; intro v4 W4 hO4 hb4 hK4
                   have hG4 := (hK4 gc HZ3.out HNE.out).trans HG3.out
                   have hB4 := HB3.out.trans hb4
                   clear hb4 hK4
                   obtain ⟨g4, cap4, rfl, hg4, hl4⟩ := hO4.last
                   obtain ⟨m4, hm4⟩ : ∃ z, (L ++ [((r1, r2, r3), (k, r5, r6))]).length + 1 = z := ⟨_, rfl⟩
                   obtain ⟨j4, hj4⟩ : ∃ z, (L ++ [((r1, r2, r3), (k, r5, r6))]).length = z := ⟨_, rfl⟩
                   have HJ4 := hid hj4
                   have HL4 := hid hg4
                   have b0 : (0 : Int) ≤ (j4 : Int) := Int.natCast_nonneg _
                   have b1 : (j4 : Int) < (m4 : Int) := by omega
                   have b2 : IntKind.i64.wrap ((m4 : Int) - 1) = (j4 : Int) := (IntWalk.i64_in _ (by have h1 := HL.out; have h2 := HLB.out; omega)).trans (by omega)
                   rw [hm4] at hO4 ⊢
                   have HO4 := hid hO4
                   have HB4 := hid hB4
                   have HG4 := hid hG4
                   have c0 := blk_cell (i := 0) hG4 rfl
                   have c1 := blk_cell (i := 1) hG4 rfl
                   have c2 := blk_cell (i := 2) hG4 rfl
                   have HNX := hid (DNext_any k P Q W4 (by have := HL.out; omega) (by have := HPB.out; omega) (by have := HPB.out; omega))
                   clear hm4 hj4 hO4 hB4 hG4 hg4 hl4)
                | (go_at_call 148; with_reducible refine HNX.out.mono ?_; rintro e w5 ⟨rfl, hb5⟩
                   have HO5 := hid (OwnRn.old HO4.out hb5)
                   have HB5 := hid (below_step HB4.out hb5 HB4.out.size)
                   clear hb5)
                | (refine wpList_store_end rfl _ _ rfl w1.heap.size g4 m4 cap4 _ _ (k + 1, P + 1, Q + 1) HO5.out (j4 * 6 + 3) (by rw [HJ4.out]) rfl rfl ?_; intro w6 hO6 hk6
                   have HO6 := hid hO6
                   have HB6 := hid (HB5.out.trans (hk6.below (by have := HB5.out.size; omega) (fun b hb e => by have := HL4.out; omega)))
                   clear hO6 hk6))
              go_roundg (a.length - (k + 1))
              case measure => omega
              case rel => exact ⟨k + 1, _, by omega, rfl, by go_num, hid (by have h1 := HLB.out; rw [List.length_append, List.length_singleton]; omega), HN, HO6, HB6.out⟩
            · have n6 : ((r6 : Int) == (Q : Int)) = false := by simp; omega
              have n6' : (r6 == Q) = false := by simpa using h6
              have HN := hid (show runsUp (k + 1) (L ++ [((r1, r2, r3), (k, P, r6))] ++ [((k, P, Q), (k + 1, P + 1, Q + 1))]) (X.drop (k + 1)) (Y.drop (k + 1)) = runsUp 0 [] X Y by rw [← HRU.out, HST.out, runStep_new _ _ _ _ _ _ HT.out])
              have HLB := hid (show (L ++ [((r1, r2, r3), (k, P, r6))]).length ≤ k ∧ k ≤ 3000 by have h1 := HRL.out; have h2 := HMJ.out; have h3 := HL.out; simp; omega)
              have HNE := hid (show (Value.slice (some ⟨lo', 0, none⟩) m lcap).ownBlock ≠ some gc from fun e => Nat.lt_irrefl _ (HLT.out gc e))
              clear HST HRU
              go_quiet (fail)
              have HB3 := hid (show Below w1.heap.size w1 (W2.drewN nq) from HB2.out.trans ⟨rfl, rfl, rfl, Nat.le_refl _, fun _ _ => rfl⟩)
              have HG3 := hid (show (W2.drewN nq).heap[gc]? = _ from HG2.out)
              have HO3 := hid (show OwnRn (W2.drewN nq) w1.heap.size _ _ from HO2.out)
              have HZ3 := hid (show gc < (W2.drewN nq).heap.size from HZ2.out)
              clear HO2 HB2 HG2 HZ2 e3 e4 e5 f0 f1 f2
              generalize W2.drewN nq = W3 at HB3 HG3 HO3 HZ3 ⊢
              have f0 := blk_cell (i := 0) HG3.out rfl
              have f1 := blk_cell (i := 1) HG3.out rfl
              have f2 := blk_cell (i := 2) HG3.out rfl
              go_wp2_with (first
                | (refine wpList_append_rn rfl (.tmp 57) (.tmp 60) rfl w1.heap.size _ (L ++ [((r1, r2, r3), (k, P, r6))]) ((k, P, Q), (0, 0, 0)) rfl HO3.out rfl (by have h2 := HLB.out; omega) (by have := HB3.out.size; omega) ?_; intro v4 W4 hO4 hb4 hK4
                   have hG4 := (hK4 gc HZ3.out HNE.out).trans HG3.out
                   have hB4 := HB3.out.trans hb4
                   clear hb4 hK4
                   obtain ⟨g4, cap4, rfl, hg4, hl4⟩ := hO4.last
                   obtain ⟨m4, hm4⟩ : ∃ z, (L ++ [((r1, r2, r3), (k, P, r6))]).length + 1 = z := ⟨_, rfl⟩
                   obtain ⟨j4, hj4⟩ : ∃ z, (L ++ [((r1, r2, r3), (k, P, r6))]).length = z := ⟨_, rfl⟩
                   have HJ4 := hid hj4
                   have HL4 := hid hg4
                   have b0 : (0 : Int) ≤ (j4 : Int) := Int.natCast_nonneg _
                   have b1 : (j4 : Int) < (m4 : Int) := by omega
                   have b2 : IntKind.i64.wrap ((m4 : Int) - 1) = (j4 : Int) := (IntWalk.i64_in _ (by have h1 := HL.out; have h2 := HLB.out; omega)).trans (by omega)
                   rw [hm4] at hO4 ⊢
                   have HO4 := hid hO4
                   have HB4 := hid hB4
                   have HG4 := hid hG4
                   have c0 := blk_cell (i := 0) hG4 rfl
                   have c1 := blk_cell (i := 1) hG4 rfl
                   have c2 := blk_cell (i := 2) hG4 rfl
                   have HNX := hid (DNext_any k P Q W4 (by have := HL.out; omega) (by have := HPB.out; omega) (by have := HPB.out; omega))
                   clear hm4 hj4 hO4 hB4 hG4 hg4 hl4)
                | (go_at_call 148; with_reducible refine HNX.out.mono ?_; rintro e w5 ⟨rfl, hb5⟩
                   have HO5 := hid (OwnRn.old HO4.out hb5)
                   have HB5 := hid (below_step HB4.out hb5 HB4.out.size)
                   clear hb5)
                | (refine wpList_store_end rfl _ _ rfl w1.heap.size g4 m4 cap4 _ _ (k + 1, P + 1, Q + 1) HO5.out (j4 * 6 + 3) (by rw [HJ4.out]) rfl rfl ?_; intro w6 hO6 hk6
                   have HO6 := hid hO6
                   have HB6 := hid (HB5.out.trans (hk6.below (by have := HB5.out.size; omega) (fun b hb e => by have := HL4.out; omega)))
                   clear hO6 hk6))
              go_roundg (a.length - (k + 1))
              case measure => omega
              case rel => exact ⟨k + 1, _, by omega, rfl, by go_num, hid (by have h1 := HLB.out; rw [List.length_append, List.length_singleton]; omega), HN, HO6, HB6.out⟩
    · obtain rfl : k = a.length := by omega
      have hneg : ¬ (a.length : Int) < (a.length : Int) := by omega
      have HX : Hid (rs = runsUp 0 [] X Y) := hid (by
        rw [← HRU.out, List.drop_of_length_le (by have := HXL.out; omega), runsUp]
        simp)
      have HSL := hid (HO.out.low HB1.out.size)
      go_wp2_with fail
      go_ret
      rw [← HX.out]
      exact ⟨_, rfl, HSL.out, HRL.out, below_step HB1.out hbx HB1.out.size⟩
end
end Go.Proofs.YtbnafihigoekeaaGreatDoor
namespace Go.Proofs.YtbnafihigoekeaaGreatDoor
open Go.RowKit
theorem run_neq_cor {x1 x2 x3 y1 y2 y3 : Nat} (h : (x1, x2, x3) ≠ (y1, y2, y3)) (wx : World) : (binOp .neq 164 (.agg #[.int .i64 x1, .int .i64 x2, .int .i64 x3]) (.agg #[.int .i64 y1, .int .i64 y2, .int .i64 y3])).run Tryz.prog wx = .ok (.bool true) wx := by
  have hnn : x1 ≠ y1 ∨ (x1 = y1 ∧ x2 ≠ y2) ∨ (x1 = y1 ∧ x2 = y2 ∧ x3 ≠ y3) := by
    apply Classical.byContradiction
    intro hc
    apply h
    have : x1 = y1 ∧ x2 = y2 ∧ x3 = y3 := by omega
    rw [this.1, this.2.1, this.2.2]
  clear h
  rcases hnn with h4 | ⟨rfl, h5⟩ | ⟨rfl, rfl, h6⟩
  · have n4 : ((x1 : Int) == (y1 : Int)) = false := by simp; omega
    clear h4
    go_simp
  · have n4 : ((x2 : Int) == (y2 : Int)) = false := by simp; omega
    clear h5
    go_simp
  · have n4 : ((x3 : Int) == (y3 : Int)) = false := by simp; omega
    clear h6
    go_simp
end Go.Proofs.YtbnafihigoekeaaGreatDoor
