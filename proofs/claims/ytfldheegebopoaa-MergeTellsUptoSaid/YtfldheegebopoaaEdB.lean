/-
  Lists of edits, cut; lists of texts, one appended to the other.
-/
import Derived.Test.YtfldheegebopoaaEdit
import Derived.Test.YtfldheegebopoaaLaw2
namespace Go.Proofs.Ytfldheegebopoaa
open Go.RowKit

/-- 's[n:]', of edits. -/
theorem run_slice_edits {P : Program} {w : World} {v : Value} {es : List (Int × List UInt8)} (t e : TypeId) {i : TypeInfo} (ht : P.underlying t = some (.slice e)) (hi : P.info? e = some i) (hsz : i.size = 2) (h : SlE w v es) (n : Nat) (hn : n ≤ es.length) :
    ∃ ao c, (∀ wx, (Instr.slice t v (some (.int .i64 n)) none none).run P wx = .ok (.slice ao (es.length - n) c) wx) ∧ SlE w (.slice ao (es.length - n) c) (es.drop n) := by
  obtain ⟨ao, cap, rfl, hnone, hcap, hc⟩ := h
  refine ⟨if cap = n then ao else ao.map (·.add (n * 2)), cap - n, fun wx => ?_, ⟨_, cap - n, by rw [List.length_drop], fun h => ?_, by rw [List.length_drop]; omega, fun a ha j u hu => ?_⟩⟩
  · have h2 : (n : Int) ≤ es.length := by omega
    simp [Instr.slice, run_underlying ht, Instr.sliceBounds, run_sliceBound, sizeOf, typeInfo, hi, hsz, h2]
  · have : ao = none := by
      split at h
      · exact h
      · simpa using h
    simp [hnone this]
  · rw [List.getElem?_drop] at hu
    have hlt := (List.getElem?_eq_some_iff.1 hu).1
    rw [if_neg (by omega)] at ha
    cases ao with
    | none => cases ha
    | some b =>
      cases ha
      rw [addr_add_add, addr_add_add, show n * 2 + j * 2 = (n + j) * 2 by omega, show n * 2 + (j * 2 + 1) = (n + j) * 2 + 1 by omega]
      exact hc b rfl _ u hu

theorem owns_less {w : World} {b b' : Nat} {e : TypeId} {size : Nat} {v : Value} {n : Nat} {xs : List Value} (h : w.ownsRow b e size v n xs) (hb : b' ≤ b) : w.ownsRow b' e size v n xs := by
  refine ⟨h.1, ?_⟩
  rcases h.2 with hn | ⟨g, cap, cur, rfl, hbg, rest⟩
  · exact .inl hn
  · exact .inr ⟨g, cap, cur, rfl, Nat.le_trans hb hbg, rest⟩
section
variable {w : World}
/-- a list of texts, appended to a list of texts of the call's own -/
theorem step_append_ss {ops : Array Oper} {o : Oper} {a : Act} {K : Act → World → Prop} {Q : Exit → Act → World → Prop} {E : Prop} (hgd : o.guard = none) (s sx : Operand)
    (ho : o.op = .call { callee := .builtin .append, args := #[s, sx], argTypes := #[32, 32] })
    (base : Nat) (v : Value) (xs ys : List (List UInt8)) (he : a.eval s = v) (hown : w.ownsRow base 9 1 v xs.length (strCells xs)) (u : Value) (hx : a.eval sx = u) (hu : Sl w u (strCells ys))
    (hlen : xs.length + ys.length ≤ 4000000000) (hbase : base ≤ w.heap.size)
    (h : ∀ v' w', w'.ownsRow base 9 1 v' (xs ++ ys).length (strCells (xs ++ ys)) → Below base w w' → K (a.put o.dst v') w') :
    if Region.wanted o (yielded ops a.tmps) = true then Oper.wp Try.prog o a w K Q else E := by
  obtain ⟨i0, hi0, hi1, hi2, hi3⟩ := info_parts Try.infoStr
  have hs := hu.src (P := Try.prog) Try.underlying32 (str_one _)
  rw [strCells_length] at hs
  refine step_append_any w hgd s sx _ _ ho base 9 i0 _ 1 16 Try.underlying32 hi0 hi1 hi2 hi3 rfl (by omega) v _ _ he hown u _ _ hx hs (by unfold maxLen; omega) (by omega) hbase fun v' w' h2 h3 h4 => h v' w' ?_ ?_
  · rw [List.length_append, strCells_append]
    exact h2
  · exact (Below.refl base w).grown h3 hbase (fun j hj => (hown.lt j hj).1)
theorem wpList_append_ss {ops : Array Oper} {rest : List Oper} {o : Oper} {a : Act} {Q : Exit → Act → World → Prop} (hgd : o.guard = none) (s sx : Operand)
    (ho : o.op = .call { callee := .builtin .append, args := #[s, sx], argTypes := #[32, 32] })
    (base : Nat) (v : Value) (xs ys : List (List UInt8)) (he : a.eval s = v) (hown : w.ownsRow base 9 1 v xs.length (strCells xs)) (u : Value) (hx : a.eval sx = u) (hu : Sl w u (strCells ys))
    (hlen : xs.length + ys.length ≤ 4000000000) (hbase : base ≤ w.heap.size)
    (h : ∀ v' w', w'.ownsRow base 9 1 v' (xs ++ ys).length (strCells (xs ++ ys)) → Below base w w' → wpList Try.prog ops Q rest (a.put o.dst v') w') : wpList Try.prog ops Q (o :: rest) a w := by
  obtain ⟨i0, hi0, hi1, hi2, hi3⟩ := info_parts Try.infoStr
  have hs := hu.src (P := Try.prog) Try.underlying32 (str_one _)
  rw [strCells_length] at hs
  refine wpList_append_any w hgd s sx _ _ ho base 9 i0 _ 1 16 Try.underlying32 hi0 hi1 hi2 hi3 rfl (by omega) v _ _ he hown u _ _ hx hs (by unfold maxLen; omega) (by omega) hbase fun v' w' h2 h3 h4 => h v' w' ?_ ?_
  · rw [List.length_append, strCells_append]
    exact h2
  · exact (Below.refl base w).grown h3 hbase (fun j hj => (hown.lt j hj).1)

/-- Two lists of texts of the call's own, in blocks apart. -/
structure TwoS (w : World) (base : Nat) (v u : Value) (xs ys : List (List UInt8)) : Prop where
  one : w.ownsRow base 9 1 v xs.length (strCells xs)
  two : w.ownsRow base 9 1 u ys.length (strCells ys)
  apart : ∀ g, v.ownBlock = some g → u.ownBlock ≠ some g
theorem TwoS.nil (w : World) (base : Nat) : TwoS w base (.slice none 0 0) (.slice none 0 0) [] [] := ⟨World.ownsRow_nil _ _ _ _, World.ownsRow_nil _ _ _ _, fun g h => by cases h⟩
theorem TwoS.turn {w : World} {base : Nat} {v u : Value} {xs ys : List (List UInt8)} (h : TwoS w base v u xs ys) : TwoS w base u v ys xs := ⟨h.two, h.one, fun g h1 h2 => h.apart g h2 h1⟩
theorem owns_kept {w w' : World} {base : Nat} {e : TypeId} {size : Nat} {v : Value} {n : Nat} {xs : List Value} (h : w.ownsRow base e size v n xs) (hk : ∀ g, v.ownBlock = some g → g < w.heap.size → w'.heap[g]? = w.heap[g]?) : w'.ownsRow base e size v n xs := by
  refine ⟨h.1, ?_⟩
  rcases h.2 with hn | ⟨g, cap, cur, rfl, hb, hg, rest⟩
  · exact .inl hn
  · exact .inr ⟨g, cap, cur, rfl, hb, (hk g rfl (lt_of_block hg)).trans hg, rest⟩

/-- A slice literal of texts, appended to the one of the two. -/
theorem wpList_append_two {ops : Array Oper} {rest : List Oper} {o : Oper} {a : Act} {Q : Exit → Act → World → Prop} (hgd : o.guard = none) (s sx : Operand)
    (ho : o.op = .call { callee := .builtin .append, args := #[s, sx], argTypes := #[32, 32] })
    (base : Nat) (v u : Value) (xs ys news : List (List UInt8)) (he : a.eval s = v) (hown : TwoS w base v u xs ys) (hx : a.eval sx = .slice (some ⟨w.heap.size, 0, none⟩) news.length news.length)
    (hlen : xs.length + news.length ≤ 4000000000) (hbase : base ≤ w.heap.size)
    (h : ∀ v' w', TwoS w' base v' u (xs ++ news) ys → Below base w w' → wpList Try.prog ops Q rest (a.put o.dst v') w') : wpList Try.prog ops Q (o :: rest) a (w.alloc (.cells (strCells news).toArray 9)) := by
  obtain ⟨i0, hi0, hi1, hi2, hi3⟩ := info_parts Try.infoStr
  have hs : Src Try.prog 1 32 (.slice (some ⟨w.heap.size, 0, none⟩) news.length news.length) news.length (strCells news) (w.alloc (.cells (strCells news).toArray 9)) := by
    have := Src.ofSlice (P := Try.prog) (size := 1) (w.alloc (.cells (strCells news).toArray 9)) Try.underlying32 ⟨w.heap.size, 0, none⟩ news.length news.length (strCells news) (by rw [strCells_length]; omega) (by simpa using World.news_of_block (heap_alloc_new w (.cells (strCells news).toArray 9))) (str_one _)
    exact this
  have hsz : (w.alloc (.cells (strCells news).toArray 9)).heap.size = w.heap.size + 1 := by simp
  have two' := owns_kept hown.two (w' := w.alloc (.cells (strCells news).toArray 9)) (fun g _ hg => Below.heap_alloc w _ g hg)
  refine wpList_append_any _ hgd s sx _ _ ho base 9 i0 _ 1 16 Try.underlying32 hi0 hi1 hi2 hi3 rfl (by omega) v _ _ he (hown.one.alloc _) _ _ _ hx hs (by unfold maxLen; omega) (by omega) (by omega) fun v' w' h2 h3 h4 => h v' w' ⟨?_, ?_, fun g h5 h6 => ?_⟩ ?_
  · rw [List.length_append, strCells_append]
    exact h2
  · exact owns_kept two' fun g hg hlt => h3.block g hlt fun e => hown.apart g e.symm hg
  · have hlt := (hown.two.lt g h6).2
    rcases h4 with h4 | h4
    · exact hown.apart g (h4 ▸ h5) h6
    · rw [h4] at h5
      cases h5
      omega
  · exact ((Below.refl base w).alloc hbase _).grown h3 (by omega) (fun j hj => (hown.one.lt j hj).1)
end
end Go.Proofs.Ytfldheegebopoaa
