/-
  Lists of structs of any one shape: what a slice of them shows, rows of the call's own, and what append makes of them.
-/
import Derived.Test.YtbcpfakdmnccmaaDoorHelpS
import Derived.Test.YtbcpfakdmnccmaaDoorLaw3
namespace Go.Proofs.YtbcpfakdmnccmaaDoor
open Go.RowKit

/-- how a thing lies in k cells -/
structure Enc (α : Type) where
  k : Nat
  pos : 0 < k
  enc : α → List Value
  len : ∀ x, (enc x).length = k
  one : ∀ x, ∀ u ∈ enc x, u.oneCell' = true
section
variable {α : Type} (E : Enc α)
def flatR (xs : List α) : List Value := xs.flatMap E.enc
theorem flatR_length (xs : List α) : (flatR E xs).length = xs.length * E.k := by
  induction xs with
  | nil => simp [flatR]
  | cons x xs ih => rw [flatR, List.flatMap_cons, List.length_append, ← flatR, ih, E.len, List.length_cons, Nat.succ_mul]; omega
theorem flatR_append (xs ys : List α) : flatR E (xs ++ ys) = flatR E xs ++ flatR E ys := by simp [flatR]
theorem flatR_one (x : α) : flatR E [x] = E.enc x := by simp [flatR]
theorem flatR_cells (xs : List α) : ∀ u ∈ flatR E xs, u.oneCell' = true := fun u hu => by
  obtain ⟨x, _, hx⟩ := List.mem_flatMap.1 hu
  exact E.one x u hx
theorem flatR_at {xs : List α} {i : Nat} {x : α} (h : xs[i]? = some x) {j : Nat} (hj : j < E.k) : (flatR E xs)[i * E.k + j]? = (E.enc x)[j]? := by
  induction xs generalizing i with
  | nil => simp at h
  | cons y xs ih =>
    cases i with
    | zero =>
      simp at h
      subst h
      rw [flatR, List.flatMap_cons, Nat.zero_mul, Nat.zero_add, List.getElem?_append_left (by rw [E.len]; exact hj)]
    | succ i =>
      have := ih (i := i) (by simpa using h)
      rw [flatR, List.flatMap_cons, ← flatR, List.getElem?_append_right (by rw [E.len, Nat.succ_mul]; omega), E.len, ← this]
      congr 1
      rw [Nat.succ_mul]
      omega
/-- what a slice of them shows -/
def SlR (w : World) (v : Value) (xs : List α) : Prop :=
  ∃ ao cap, v = .slice ao xs.length cap ∧ (ao = none → xs = []) ∧ xs.length ≤ cap ∧ ∀ a, ao = some a → ∀ i x, xs[i]? = some x → ∀ j u, (E.enc x)[j]? = some u → w.cell? (a.add (i * E.k + j)) = some u
variable {E}
theorem SlR.nil (w : World) : SlR E w (.slice none 0 0) [] := ⟨none, 0, rfl, fun _ => rfl, Nat.le_refl _, fun a h => by cases h⟩
theorem SlR.form {w : World} {v : Value} {xs : List α} (h : SlR E w v xs) : ∃ ao cap, v = .slice ao xs.length cap := by
  obtain ⟨ao, cap, rfl, _⟩ := h
  exact ⟨ao, cap, rfl⟩
theorem SlR.kept {w w' : World} {v : Value} {xs : List α} (h : SlR E w v xs) (hk : ∀ a n c, v = .slice (some a) n c → a.block < w.heap.size → w'.heap[a.block]? = w.heap[a.block]?) : SlR E w' v xs := by
  obtain ⟨ao, cap, rfl, hn, hcap, hc⟩ := h
  refine ⟨ao, cap, rfl, hn, hcap, fun a ha i x hx j u hu => ?_⟩
  have h1 := hc a ha i x hx j u hu
  have hb : (a.add (i * E.k + j)).block = a.block := by unfold Addr.add; split <;> rfl
  have hlt := World.block_lt_of_cell? w _ h1
  rw [hb] at hlt
  refine (World.cell?_of_block (w := w) ?_).trans h1
  rw [hb]
  exact hk a _ _ (by rw [ha]) hlt
theorem SlR.old {w w' : World} {v : Value} {xs : List α} (h : SlR E w v xs) (hk : Below w.heap.size w w') : SlR E w' v xs := h.kept fun _ _ _ _ hlt => hk.block _ hlt
theorem SlR.alloc {w : World} {v : Value} {xs : List α} (h : SlR E w v xs) (o : Obj) : SlR E (w.alloc o) v xs := h.old ((Below.refl _ w).alloc (Nat.le_refl _) o)
theorem SlR.ofOwns {w : World} {base : Nat} {e : TypeId} {v : Value} {xs : List α} (h : w.ownsRow base e E.k v xs.length (flatR E xs)) : SlR E w v xs := by
  rcases h.2 with ⟨rfl, h0⟩ | ⟨g, cap, cur, rfl, r⟩
  · have : xs = [] := List.eq_nil_of_length_eq_zero h0
    subst this
    exact SlR.nil w
  · refine ⟨some ⟨g, 0, none⟩, cap, rfl, (fun h => by cases h), r.2.2.1, fun a ha i x hx j u hu => ?_⟩
    cases ha
    have hj : j < E.k := by have := (List.getElem?_eq_some_iff.1 hu).1; rw [E.len] at this; exact this
    exact h.cells rfl _ _ ((flatR_at E hx hj).trans hu)
theorem SlR.src {P : Program} {w : World} {tx e' : TypeId} {v : Value} {xs : List α} (h : SlR E w v xs) (hk : P.underlying tx = some (.slice e')) : Src P E.k tx v xs.length (flatR E xs) w := by
  obtain ⟨ao, cap, rfl, hn, hcap, hc⟩ := h
  cases ao with
  | none =>
    obtain rfl := hn rfl
    exact Src.ofNil w hk cap
  | some a =>
    refine Src.ofSlice w hk a xs.length cap (flatR E xs) (flatR_length E xs) (fun j u hu => ?_) (flatR_cells E xs)
    have hlt := (List.getElem?_eq_some_iff.1 hu).1
    rw [flatR_length] at hlt
    have hi : j / E.k < xs.length := Nat.div_lt_of_lt_mul (by rw [Nat.mul_comm]; exact hlt)
    have hx := List.getElem?_eq_getElem hi
    have hm : j % E.k < E.k := Nat.mod_lt _ E.pos
    have hj : j = j / E.k * E.k + j % E.k := by rw [Nat.mul_comm]; exact (Nat.div_add_mod j E.k).symm
    rw [hj, flatR_at E hx hm] at hu
    rw [hj]
    exact hc a rfl _ _ hx _ _ hu
/-- a thing of it, in the walk's words -/
theorem SlR.at' {w : World} {ao : Option Addr} {n cap : Nat} {xs : List α} (h : SlR E w (.slice ao n cap) xs) {i : Nat} (hi : i < xs.length) :
    ∃ b o x, ao = some ⟨b, o, none⟩ ∧ xs[i]? = some x ∧ ∀ j u, (E.enc x)[j]? = some u → w.cell? ⟨b, o + i * E.k + j, none⟩ = some u := by
  obtain ⟨ao', cap', hv, hn, _, hc⟩ := h
  obtain ⟨rfl, _, _⟩ := Value.slice.inj hv
  cases ao with
  | none => rw [hn rfl] at hi; cases hi
  | some a =>
    obtain ⟨b, o, sp⟩ := a
    have h0 := hc _ rfl i _ (List.getElem?_eq_getElem hi)
    have hz := hc _ rfl 0 _ (List.getElem?_eq_getElem (show 0 < xs.length by omega)) 0 _ (List.getElem?_eq_getElem (show 0 < (E.enc (xs[0]'(by omega))).length by rw [E.len]; exact E.pos))
    rw [Nat.zero_mul, Nat.zero_add, show (⟨b, o, sp⟩ : Addr).add 0 = ⟨b, o, sp⟩ from rfl] at hz
    have hsp : sp = none := World.cell?_spot hz
    subst hsp
    refine ⟨b, o, _, rfl, List.getElem?_eq_getElem hi, fun j u hu => ?_⟩
    have := h0 j u hu
    rw [Addr.add_lit, ← Nat.add_assoc] at this
    exact this
/-- some of it -/
theorem SlR.cut {P : Program} {w : World} {t e : TypeId} {ti : TypeInfo} (ht : P.underlying t = some (.slice e)) (hi : P.info? e = some ti) (hs : ti.size = E.k) {ao : Option Addr} {n cap : Nat} {xs : List α} (h : SlR E w (.slice ao n cap) xs) {i j : Nat} (hij : i ≤ j) (hj : j ≤ xs.length) :
    ∃ ao' c', (∀ wx, (Instr.slice t (.slice ao n cap) (some (.int .i64 (i : Nat))) (some (.int .i64 (j : Nat))) none).run P wx = .ok (.slice ao' (j - i) c') wx) ∧ SlR E w (.slice ao' (j - i) c') ((xs.take j).drop i) := by
  obtain ⟨ao', cap', hv, hnone, hcap, hc⟩ := h
  obtain ⟨rfl, rfl, rfl⟩ := Value.slice.inj hv
  have hl : ((xs.take j).drop i).length = j - i := by rw [List.length_drop, List.length_take]; omega
  refine ⟨if cap = i then ao else ao.map (·.add (i * E.k)), cap - i, fun wx => ?_, ⟨_, cap - i, by rw [hl], fun h => ?_, by rw [hl]; omega, fun a ha m x hx m' u hu => ?_⟩⟩
  · have h1 : (i : Int) ≤ (j : Int) := by omega
    have h2 : (j : Int) ≤ cap := by omega
    simp [Instr.slice, run_underlying ht, Instr.sliceBounds, run_sliceBound, sizeOf, typeInfo, hi, hs, h1, h2]
  · have : ao = none := by
      split at h
      · exact h
      · simpa using h
    rw [hnone this]
    simp
  · have hm := (List.getElem?_eq_some_iff.1 hx).1
    rw [hl] at hm
    rw [if_neg (by omega)] at ha
    cases ao with
    | none => cases ha
    | some b =>
      cases ha
      have hx' : xs[i + m]? = some x := by
        rw [List.getElem?_drop, List.getElem?_take] at hx
        split at hx
        · exact hx
        · cases hx
      have := hc b rfl (i + m) x hx' m' u hu
      rw [addr_add_add, show i * E.k + (m * E.k + m') = (i + m) * E.k + m' by rw [Nat.add_mul]; omega]
      exact this
theorem SlR.cut_to {P : Program} {w : World} {t e : TypeId} {ti : TypeInfo} (ht : P.underlying t = some (.slice e)) (hi : P.info? e = some ti) {ao : Option Addr} {n cap : Nat} {xs : List α} (h : SlR E w (.slice ao n cap) xs) {j : Nat} (hj : j ≤ xs.length) :
    (∀ wx, (Instr.slice t (.slice ao n cap) none (some (.int .i64 (j : Nat))) none).run P wx = .ok (.slice ao j cap) wx) ∧ SlR E w (.slice ao j cap) (xs.take j) := by
  obtain ⟨ao', cap', hv, hnone, hcap, hc⟩ := h
  obtain ⟨rfl, rfl, rfl⟩ := Value.slice.inj hv
  have hl : (xs.take j).length = j := by rw [List.length_take]; omega
  refine ⟨fun wx => ?_, ⟨ao, cap, by rw [hl], fun h => by rw [hnone h]; simp, by rw [hl]; omega, fun a ha m x hx m' u hu => ?_⟩⟩
  · have h1 : (0 : Int) ≤ (j : Int) := by omega
    have h2 : (j : Int) ≤ cap := by omega
    cases ao <;> simp [Instr.slice, run_underlying ht, Instr.sliceBounds, run_sliceBound, sizeOf, typeInfo, hi, h1, h2, Addr.add] <;> (try split) <;> simp_all
  · rw [List.getElem?_take] at hx
    split at hx
    · exact hc a ha m x hx m' u hu
    · cases hx
theorem SlR.cut_from {P : Program} {w : World} {t e : TypeId} {ti : TypeInfo} (ht : P.underlying t = some (.slice e)) (hi : P.info? e = some ti) (hs : ti.size = E.k) {ao : Option Addr} {n cap : Nat} {xs : List α} (h : SlR E w (.slice ao n cap) xs) {i : Nat} (hij : i ≤ xs.length) :
    ∃ ao' c', (∀ wx, (Instr.slice t (.slice ao n cap) (some (.int .i64 (i : Nat))) none none).run P wx = .ok (.slice ao' (xs.length - i) c') wx) ∧ SlR E w (.slice ao' (xs.length - i) c') (xs.drop i) := by
  obtain ⟨ao', cap', hv, hnone, hcap, hc⟩ := h
  obtain ⟨rfl, rfl, rfl⟩ := Value.slice.inj hv
  have hl : (xs.drop i).length = xs.length - i := by rw [List.length_drop]
  refine ⟨if cap = i then ao else ao.map (·.add (i * E.k)), cap - i, fun wx => ?_, ⟨_, cap - i, by rw [hl], fun h => ?_, by rw [hl]; omega, fun a ha m x hx m' u hu => ?_⟩⟩
  · have h1 : (i : Int) ≤ (xs.length : Int) := by omega
    simp [Instr.slice, run_underlying ht, Instr.sliceBounds, run_sliceBound, sizeOf, typeInfo, hi, hs, h1]
  · have : ao = none := by
      split at h
      · exact h
      · simpa using h
    rw [hnone this]
    simp
  · have hm := (List.getElem?_eq_some_iff.1 hx).1
    rw [hl] at hm
    rw [if_neg (by omega)] at ha
    cases ao with
    | none => cases ha
    | some b =>
      cases ha
      rw [List.getElem?_drop] at hx
      have := hc b rfl (i + m) x hx m' u hu
      rw [addr_add_add, show i * E.k + (m * E.k + m') = (i + m) * E.k + m' by rw [Nat.add_mul]; omega]
      exact this
/-- one thing in a block of its own -/
theorem SlR.one {w : World} {q : Nat} {e : TypeId} {fr : Nat × Nat} {cs : Array Value} {x : α} (h : w.heap[q]? = some (.cells cs e fr)) (hcs : cs.toList = E.enc x) : SlR E w (.slice (some ⟨q, 0, none⟩) 1 1) [x] := by
  refine ⟨some ⟨q, 0, none⟩, 1, rfl, (fun h => by cases h), Nat.le_refl _, fun a ha i y hy j u hu => ?_⟩
  cases ha
  cases i with
  | zero =>
    have : y = x := by simpa using hy.symm
    subst this
    rw [Nat.zero_mul, Nat.zero_add, Addr.add_lit, Nat.zero_add]
    rw [← hcs] at hu
    have hu' : cs[j]? = some u := by simpa using hu
    simp only [World.cell?, h]
    exact hu'
  | succ i => simp at hy
theorem owns_lower {w : World} {b b' : Nat} {e : TypeId} {size : Nat} {v : Value} {n : Nat} {xs : List Value} (h : w.ownsRow b e size v n xs) (hb : b' ≤ b) : w.ownsRow b' e size v n xs := by
  refine ⟨h.1, ?_⟩
  rcases h.2 with hn | ⟨g, cap, cur, rfl, hbg, rest⟩
  · exact .inl hn
  · exact .inr ⟨g, cap, cur, rfl, Nat.le_trans hb hbg, rest⟩
end
section
variable {α : Type} {E : Enc α} {P : Program} {w : World}
/-- one more, behind a row of the call's own -/
theorem wpList_append_r1 {ops : Array Oper} {rest : List Oper} {o : Oper} {a : Act} {Q : Exit → Act → World → Prop} (hgd : o.guard = none) (s sx : Operand) (t e : TypeId)
    (ho : o.op = .call { callee := .builtin .append, args := #[s, sx], argTypes := #[t, t] })
    (ht : P.underlying t = some (.slice e)) {ti : TypeInfo} (hi : P.info? e = some ti) {z : Value} (hz : ti.zero = some z) (hs : ti.size = E.k) (hby : ti.bytes ≤ 1000) (hzs : z.cells.size = E.k)
    (base : Nat) (v : Value) (xs : List α) (x : α) (he : a.eval s = v) (hown : w.ownsRow base e E.k v xs.length (flatR E xs)) (q : Nat) (hx : a.eval sx = .slice (some ⟨q, 0, none⟩) 1 1) (hq : w.heap.size = q)
    (hlen : xs.length ≤ 100000000) (hbase : base ≤ w.heap.size) (cs : Array Value) (hcs : cs.toList = E.enc x)
    (h : ∀ v' w', w'.ownsRow base e E.k v' (xs ++ [x]).length (flatR E (xs ++ [x])) → Below base w w' → wpList P ops Q rest (a.put o.dst v') w') : wpList P ops Q (o :: rest) a (w.alloc (.cells cs e)) := by
  subst hq
  have hcz : cs.size = E.k := by rw [← Array.length_toList, hcs, E.len]
  have hsrc : Src P E.k t (.slice (some ⟨w.heap.size, 0, none⟩) 1 1) 1 (E.enc x) (w.alloc (.cells cs e)) := by
    refine Src.ofSlice _ ht ⟨w.heap.size, 0, none⟩ 1 1 (E.enc x) (by rw [E.len]; omega) (fun j u hu => ?_) (E.one x)
    rw [Addr.add_lit, Nat.zero_add]
    refine blk_cell (heap_alloc_new w _) ?_
    rw [← hcs] at hu
    simpa using hu
  have hb : (xs.length + 1) * ti.bytes ≤ 140737488355328 := Nat.le_trans (Nat.mul_le_mul_left _ hby) (by omega)
  refine wpList_append_any _ hgd s sx _ _ ho base e ti z E.k ti.bytes ht hi hz hs rfl hzs E.pos v _ _ he (hown.alloc _) _ 1 _ hx hsrc (by unfold maxLen; omega) hb (by simp; omega) fun v' w' h2 h3 h4 => h v' w' ?_ ?_
  · rw [List.length_append, flatR_append, flatR_one]
    exact h2
  · exact ((Below.refl base w).alloc hbase _).grown h3 (by simp; omega) (fun j hj => (hown.lt j hj).1)
/-- some more, behind a row of the call's own -/
theorem wpList_append_rs {ops : Array Oper} {rest : List Oper} {o : Oper} {a : Act} {Q : Exit → Act → World → Prop} (hgd : o.guard = none) (s sx : Operand) (t e : TypeId)
    (ho : o.op = .call { callee := .builtin .append, args := #[s, sx], argTypes := #[t, t] })
    (ht : P.underlying t = some (.slice e)) {ti : TypeInfo} (hi : P.info? e = some ti) {z : Value} (hz : ti.zero = some z) (hs : ti.size = E.k) (hby : ti.bytes ≤ 1000) (hzs : z.cells.size = E.k)
    (base : Nat) (v : Value) (xs ys : List α) (he : a.eval s = v) (hown : w.ownsRow base e E.k v xs.length (flatR E xs)) (u : Value) (hx : a.eval sx = u) (hu : SlR E w u ys)
    (hlen : xs.length + ys.length ≤ 100000000) (hbase : base ≤ w.heap.size)
    (h : ∀ v' w', w'.ownsRow base e E.k v' (xs ++ ys).length (flatR E (xs ++ ys)) → Below base w w' → wpList P ops Q rest (a.put o.dst v') w') : wpList P ops Q (o :: rest) a w := by
  have hb : (xs.length + ys.length) * ti.bytes ≤ 140737488355328 := Nat.le_trans (Nat.mul_le_mul_left _ hby) (by omega)
  refine wpList_append_any w hgd s sx _ _ ho base e ti z E.k ti.bytes ht hi hz hs rfl hzs E.pos v _ _ he hown u ys.length _ hx (hu.src ht) (by unfold maxLen; omega) hb hbase fun v' w' h2 h3 h4 => h v' w' ?_ ?_
  · rw [List.length_append, flatR_append]
    exact h2
  · exact (Below.refl base w).grown h3 hbase (fun j hj => (hown.lt j hj).1)
/-- the same two in a drawn region -/
theorem step_append_r1 {ops : Array Oper} {o : Oper} {a : Act} {K : Act → World → Prop} {Q : Exit → Act → World → Prop} {X : Prop} (hgd : o.guard = none) (s sx : Operand) (t e : TypeId)
    (ho : o.op = .call { callee := .builtin .append, args := #[s, sx], argTypes := #[t, t] })
    (ht : P.underlying t = some (.slice e)) {ti : TypeInfo} (hi : P.info? e = some ti) {z : Value} (hz : ti.zero = some z) (hs : ti.size = E.k) (hby : ti.bytes ≤ 1000) (hzs : z.cells.size = E.k)
    (base : Nat) (v : Value) (xs : List α) (x : α) (he : a.eval s = v) (hown : w.ownsRow base e E.k v xs.length (flatR E xs)) (u : Value) (hx : a.eval sx = u) (hu : SlR E w u [x])
    (hlen : xs.length ≤ 100000000) (hbase : base ≤ w.heap.size)
    (h : ∀ v' w', w'.ownsRow base e E.k v' (xs ++ [x]).length (flatR E (xs ++ [x])) → Below base w w' → K (a.put o.dst v') w') : if Region.wanted o (yielded ops a.tmps) = true then Oper.wp P o a w K Q else X := by
  have hb : (xs.length + 1) * ti.bytes ≤ 140737488355328 := Nat.le_trans (Nat.mul_le_mul_left _ hby) (by omega)
  refine step_append_any w hgd s sx _ _ ho base e ti z E.k ti.bytes ht hi hz hs rfl hzs E.pos v _ _ he hown u 1 _ hx (hu.src ht) (by unfold maxLen; omega) hb hbase fun v' w' h2 h3 h4 => h v' w' ?_ ?_
  · rw [List.length_append, flatR_append]
    exact h2
  · exact (Below.refl base w).grown h3 hbase (fun j hj => (hown.lt j hj).1)
theorem step_append_rs {ops : Array Oper} {o : Oper} {a : Act} {K : Act → World → Prop} {Q : Exit → Act → World → Prop} {X : Prop} (hgd : o.guard = none) (s sx : Operand) (t e : TypeId)
    (ho : o.op = .call { callee := .builtin .append, args := #[s, sx], argTypes := #[t, t] })
    (ht : P.underlying t = some (.slice e)) {ti : TypeInfo} (hi : P.info? e = some ti) {z : Value} (hz : ti.zero = some z) (hs : ti.size = E.k) (hby : ti.bytes ≤ 1000) (hzs : z.cells.size = E.k)
    (base : Nat) (v : Value) (xs ys : List α) (he : a.eval s = v) (hown : w.ownsRow base e E.k v xs.length (flatR E xs)) (u : Value) (hx : a.eval sx = u) (hu : SlR E w u ys)
    (hlen : xs.length + ys.length ≤ 100000000) (hbase : base ≤ w.heap.size)
    (h : ∀ v' w', w'.ownsRow base e E.k v' (xs ++ ys).length (flatR E (xs ++ ys)) → Below base w w' → K (a.put o.dst v') w') : if Region.wanted o (yielded ops a.tmps) = true then Oper.wp P o a w K Q else X := by
  have hb : (xs.length + ys.length) * ti.bytes ≤ 140737488355328 := Nat.le_trans (Nat.mul_le_mul_left _ hby) (by omega)
  refine step_append_any w hgd s sx _ _ ho base e ti z E.k ti.bytes ht hi hz hs rfl hzs E.pos v _ _ he hown u ys.length _ hx (hu.src ht) (by unfold maxLen; omega) hb hbase fun v' w' h2 h3 h4 => h v' w' ?_ ?_
  · rw [List.length_append, flatR_append]
    exact h2
  · exact (Below.refl base w).grown h3 hbase (fun j hj => (hown.lt j hj).1)
end
end Go.Proofs.YtbcpfakdmnccmaaDoor
