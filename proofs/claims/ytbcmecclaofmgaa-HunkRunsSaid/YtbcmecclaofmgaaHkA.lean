/-
  A list of hunks of the call's own; a hunk appended to it; a list of texts appended to nothing, as one step.
-/
import Derived.Test.YtbcmecclaofmgaaHk
namespace Go.Proofs.Ytbcmecclaofmgaa
open Go.RowKit

/-- A list of texts that lies apart from v's own block. -/
def Nest (w : World) (v u : Value) (xs : List (List UInt8)) : Prop := Sl w u (strCells xs) ∧ ∀ a n c, u = .slice (some a) n c → a.block < w.heap.size ∧ v.ownBlock ≠ some a.block
theorem Nest.kept {w w' : World} {v v' u : Value} {xs : List (List UInt8)} (h : Nest w v u xs) (hk : ∀ b, b < w.heap.size → v.ownBlock ≠ some b → w'.heap[b]? = w.heap[b]?) (hz : w.heap.size ≤ w'.heap.size) (hv : v'.ownBlock = v.ownBlock ∨ ∃ f, v'.ownBlock = some f ∧ w.heap.size ≤ f) : Nest w' v' u xs := by
  refine ⟨h.1.kept fun a n c e hlt => hk _ hlt (h.2 a n c e).2, fun a n c e => ⟨Nat.lt_of_lt_of_le (h.2 a n c e).1 hz, ?_⟩⟩
  rcases hv with hv | ⟨f, hv, hf⟩
  · rw [hv]
    exact (h.2 a n c e).2
  · rw [hv]
    intro e'
    have := (h.2 a n c e).1
    cases e'
    omega
def OwnHk (w : World) (base : Nat) (v : Value) (hs : List HkS) : Prop :=
  ∃ flat, w.ownsRow base 36 3 v hs.length flat ∧ ∀ i h, hs[i]? = some h → ∃ vo vn, flat[i * 3]? = some (.int .i64 h.1) ∧ flat[i * 3 + 1]? = some vo ∧ flat[i * 3 + 2]? = some vn ∧ Nest w v vo h.2.1 ∧ Nest w v vn h.2.2
theorem OwnHk.nil (w : World) (base : Nat) : OwnHk w base (.slice none 0 0) [] := ⟨[], World.ownsRow_nil _ _ _ _, fun i h hi => by simp at hi⟩
theorem OwnHk.form {w : World} {base : Nat} {v : Value} {hs : List HkS} (h : OwnHk w base v hs) : ∃ ao cap, v = .slice ao hs.length cap := by
  obtain ⟨flat, h, _⟩ := h
  exact owns_form h
theorem OwnHk.lt {w : World} {base : Nat} {v : Value} {hs : List HkS} (h : OwnHk w base v hs) : ∀ j, v.ownBlock = some j → base ≤ j ∧ j < w.heap.size := by
  obtain ⟨flat, h, _⟩ := h
  exact h.lt
theorem OwnHk.slH {w : World} {base : Nat} {v : Value} {hs : List HkS} (h : OwnHk w base v hs) : SlH w v hs := by
  obtain ⟨flat, h1, h2⟩ := h
  have hl := h1.1
  rcases h1.2 with ⟨rfl, hn⟩ | ⟨g, cap, cur, rfl, r⟩
  · have : hs = [] := List.eq_nil_of_length_eq_zero hn
    subst this
    exact SlH.nil w
  · refine ⟨some ⟨g, 0, none⟩, cap, rfl, (fun h => by cases h), r.2.2.1, fun a ha i x hx => ?_⟩
    cases ha
    obtain ⟨vo, vn, e1, e2, e3, n1, n2⟩ := h2 i x hx
    exact ⟨vo, vn, h1.cells rfl _ _ e1, h1.cells rfl _ _ e2, h1.cells rfl _ _ e3, n1.1, n2.1⟩
/-- what keeps all that was there keeps the list -/
theorem OwnHk.old {w w' : World} {base : Nat} {v : Value} {hs : List HkS} (h : OwnHk w base v hs) (hk : Below w.heap.size w w') : OwnHk w' base v hs := by
  obtain ⟨flat, h1, h2⟩ := h
  refine ⟨flat, ?_, fun i x hx => ?_⟩
  · rcases h1.2 with ⟨rfl, h0⟩ | ⟨g, cap, cur, rfl, r1, r2, r3⟩
    · exact ⟨h1.1, .inl ⟨rfl, h0⟩⟩
    · exact ⟨h1.1, .inr ⟨g, cap, cur, rfl, r1, (hk.block g (h1.lt g rfl).2).trans r2, r3⟩⟩
  · obtain ⟨vo, vn, e1, e2, e3, n1, n2⟩ := h2 i x hx
    exact ⟨vo, vn, e1, e2, e3, n1.kept (fun b hb _ => hk.block b hb) hk.size (.inl rfl), n2.kept (fun b hb _ => hk.block b hb) hk.size (.inl rfl)⟩
theorem Try.infoHk : (Try.prog.info? 36).map (fun i => (i.zero, i.size, i.bytes)) = some (some (.agg #[.int .i64 0, .slice none 0 0, .slice none 0 0]), 3, 56) := by kernel_rfl

section
variable {w : World}
theorem hk_appended {base : Nat} {v : Value} {hs : List HkS} {k : Int} {old new : List (List UInt8)} {vo vn : Value} {flat : List Value} (h1 : w.ownsRow base 36 3 v hs.length flat)
    (h2 : ∀ i h, hs[i]? = some h → ∃ vo vn, flat[i * 3]? = some (.int .i64 h.1) ∧ flat[i * 3 + 1]? = some vo ∧ flat[i * 3 + 2]? = some vn ∧ Nest w v vo h.2.1 ∧ Nest w v vn h.2.2) (hn1 : Nest w v vo old) (hn2 : Nest w v vn new)
    {o : Obj} {v' : Value} {w' : World} (q1 : w'.ownsRow base 36 3 v' (hs.length + 1) (flat ++ [.int .i64 k, vo, vn])) (q2 : (w.alloc o).grownBy w' v.ownBlock) (q3 : v'.ownBlock = v.ownBlock ∨ v'.ownBlock = some (w.alloc o).heap.size) :
    OwnHk w' base v' (hs ++ [(k, old, new)]) := by
  have hl := h1.1
  have hz : (w.alloc o).heap.size = w.heap.size + 1 := by simp
  have keep : ∀ b, b < w.heap.size → v.ownBlock ≠ some b → w'.heap[b]? = w.heap[b]? := fun b hb hne => (q2.block b (by omega) (fun e => hne e.symm)).trans (Below.heap_alloc w _ b hb)
  have hv : v'.ownBlock = v.ownBlock ∨ ∃ f, v'.ownBlock = some f ∧ w.heap.size ≤ f := by
    rcases q3 with e | e
    · exact .inl e
    · exact .inr ⟨_, e, by omega⟩
  have hsz : w.heap.size ≤ w'.heap.size := by have := q2.size; omega
  refine ⟨flat ++ [.int .i64 k, vo, vn], by rw [List.length_append]; exact q1, fun i x hx => ?_⟩
  by_cases hi : i < hs.length
  · rw [List.getElem?_append_left hi] at hx
    obtain ⟨a, b, e1, e2, e3, n1, n2⟩ := h2 i x hx
    refine ⟨a, b, ?_, ?_, ?_, n1.kept keep hsz hv, n2.kept keep hsz hv⟩
    · rw [List.getElem?_append_left (by omega)]; exact e1
    · rw [List.getElem?_append_left (by omega)]; exact e2
    · rw [List.getElem?_append_left (by omega)]; exact e3
  · have hlt := (List.getElem?_eq_some_iff.1 hx).1
    rw [List.length_append, List.length_singleton] at hlt
    obtain rfl : i = hs.length := by omega
    rw [List.getElem?_append_right (Nat.le_refl _), Nat.sub_self] at hx
    cases hx
    refine ⟨vo, vn, ?_, ?_, ?_, hn1.kept keep hsz hv, hn2.kept keep hsz hv⟩
    · rw [List.getElem?_append_right (by omega), show hs.length * 3 - flat.length = 0 by omega]; rfl
    · rw [List.getElem?_append_right (by omega), show hs.length * 3 + 1 - flat.length = 1 by omega]; rfl
    · rw [List.getElem?_append_right (by omega), show hs.length * 3 + 2 - flat.length = 2 by omega]; rfl
theorem wp_append_hk {o : Oper} {a : Act} {K : Act → World → Prop} {Q : Exit → Act → World → Prop} (s sx : Operand)
    (ho : o.op = .call { callee := .builtin .append, args := #[s, sx], argTypes := #[24, 24] })
    (base : Nat) (v : Value) (hs : List HkS) (k : Int) (old new : List (List UInt8)) (vo vn : Value) (he : a.eval s = v) (hown : OwnHk w base v hs) (hn1 : Nest w v vo old) (hn2 : Nest w v vn new)
    (hx : a.eval sx = .slice (some ⟨w.heap.size, 0, none⟩) 1 1) (c1 : vo.oneCell' = true) (c2 : vn.oneCell' = true) (hlen : hs.length ≤ 4000000) (hbase : base ≤ w.heap.size)
    (h : ∀ v' w', OwnHk w' base v' (hs ++ [(k, old, new)]) → Below base w w' → K (a.put o.dst v') w') : o.wp Try.prog a (w.alloc (.cells #[.int .i64 k, vo, vn] 36)) K Q := by
  obtain ⟨flat, h1, h2⟩ := hown
  obtain ⟨i0, hi0, hi1, hi2, hi3⟩ := info_parts Try.infoHk
  have hz : (w.alloc (.cells #[.int .i64 k, vo, vn] 36)).heap.size = w.heap.size + 1 := by simp
  refine wp_append_any _ s sx _ _ ho base 36 i0 _ 3 56 Try.underlying24 hi0 hi1 hi2 hi3 rfl (by omega) v _ _ he (h1.alloc _) _ 1 [.int .i64 k, vo, vn] hx
    (Src.ofSlice _ Try.underlying24 ⟨w.heap.size, 0, none⟩ 1 1 [.int .i64 k, vo, vn] (by rfl) (World.news_of_block (cs := #[.int .i64 k, vo, vn]) (t := 36) (fr := (0, 0)) (heap_alloc_new w _)) (fun u hu => ?_)) (by unfold maxLen; omega) (by omega) (by omega) fun v' w' q1 q2 q3 => h v' w' (hk_appended h1 h2 hn1 hn2 q1 q2 q3) ?_
  · rcases List.mem_cons.1 hu with rfl | hu
    · rfl
    rcases List.mem_cons.1 hu with rfl | hu
    · exact c1
    rcases List.mem_cons.1 hu with rfl | hu
    · exact c2
    cases hu
  · exact ((Below.refl base w).alloc hbase _).grown q2 (by omega) (fun j hj => (h1.lt j hj).1)
theorem step_append_hk {ops : Array Oper} {o : Oper} {a : Act} {K : Act → World → Prop} {Q : Exit → Act → World → Prop} {E : Prop} (hgd : o.guard = none) (s sx : Operand)
    (ho : o.op = .call { callee := .builtin .append, args := #[s, sx], argTypes := #[24, 24] })
    (base : Nat) (v : Value) (hs : List HkS) (k : Int) (old new : List (List UInt8)) (vo vn : Value) (he : a.eval s = v) (hown : OwnHk w base v hs) (hn1 : Nest w v vo old) (hn2 : Nest w v vn new)
    (hx : a.eval sx = .slice (some ⟨w.heap.size, 0, none⟩) 1 1) (c1 : vo.oneCell' = true) (c2 : vn.oneCell' = true) (hlen : hs.length ≤ 4000000) (hbase : base ≤ w.heap.size)
    (h : ∀ v' w', OwnHk w' base v' (hs ++ [(k, old, new)]) → Below base w w' → K (a.put o.dst v') w') :
    if Region.wanted o (yielded ops a.tmps) = true then Oper.wp Try.prog o a (w.alloc (.cells #[.int .i64 k, vo, vn] 36)) K Q else E := by
  have hw : Region.wanted o (yielded ops a.tmps) = true := by simp [Region.wanted, hgd]
  rw [if_pos hw]
  exact wp_append_hk s sx ho base v hs k old new vo vn he hown hn1 hn2 hx c1 c2 hlen hbase h
theorem wpList_append_hk {ops : Array Oper} {rest : List Oper} {o : Oper} {a : Act} {Q : Exit → Act → World → Prop} (hgd : o.guard = none) (s sx : Operand)
    (ho : o.op = .call { callee := .builtin .append, args := #[s, sx], argTypes := #[24, 24] })
    (base : Nat) (v : Value) (hs : List HkS) (k : Int) (old new : List (List UInt8)) (vo vn : Value) (he : a.eval s = v) (hown : OwnHk w base v hs) (hn1 : Nest w v vo old) (hn2 : Nest w v vn new)
    (hx : a.eval sx = .slice (some ⟨w.heap.size, 0, none⟩) 1 1) (c1 : vo.oneCell' = true) (c2 : vn.oneCell' = true) (hlen : hs.length ≤ 4000000) (hbase : base ≤ w.heap.size)
    (h : ∀ v' w', OwnHk w' base v' (hs ++ [(k, old, new)]) → Below base w w' → wpList Try.prog ops Q rest (a.put o.dst v') w') : wpList Try.prog ops Q (o :: rest) a (w.alloc (.cells #[.int .i64 k, vo, vn] 36)) :=
  wpList_plain hgd fun _ hK => wp_append_hk s sx ho base v hs k old new vo vn he hown hn1 hn2 hx c1 c2 hlen hbase fun v' w' h2 h3 => hK _ _ (h v' w' h2 h3)
/-- a list of texts, appended to a list of texts of the call's own -/
theorem step_append_ss {ops : Array Oper} {o : Oper} {a : Act} {K : Act → World → Prop} {Q : Exit → Act → World → Prop} {E : Prop} (hgd : o.guard = none) (s sx : Operand)
    (ho : o.op = .call { callee := .builtin .append, args := #[s, sx], argTypes := #[23, 23] })
    (base : Nat) (v : Value) (xs ys : List (List UInt8)) (he : a.eval s = v) (hown : w.ownsRow base 9 1 v xs.length (strCells xs)) (u : Value) (hx : a.eval sx = u) (hu : Sl w u (strCells ys))
    (hlen : xs.length + ys.length ≤ 4000000000) (hbase : base ≤ w.heap.size)
    (h : ∀ v' w', w'.ownsRow base 9 1 v' (xs ++ ys).length (strCells (xs ++ ys)) → Below base w w' → K (a.put o.dst v') w') :
    if Region.wanted o (yielded ops a.tmps) = true then Oper.wp Try.prog o a w K Q else E := by
  obtain ⟨i0, hi0, hi1, hi2, hi3⟩ := info_parts Try.infoStr
  have hs := hu.src (P := Try.prog) Try.underlying23 (str_one _)
  rw [strCells_length] at hs
  refine step_append_any w hgd s sx _ _ ho base 9 i0 _ 1 16 Try.underlying23 hi0 hi1 hi2 hi3 rfl (by omega) v _ _ he hown u _ _ hx hs (by unfold maxLen; omega) (by omega) hbase fun v' w' h2 h3 h4 => h v' w' ?_ ?_
  · rw [List.length_append, strCells_append]
    exact h2
  · exact (Below.refl base w).grown h3 hbase (fun j hj => (hown.lt j hj).1)
/-- what is owned from where the world ends on is apart from all that lay there -/
theorem nest_new {w0 : World} {v u : Value} {xs : List (List UInt8)} (h : w.ownsRow w0.heap.size 9 1 u xs.length (strCells xs)) (hv : ∀ j, v.ownBlock = some j → j < w0.heap.size) : Nest w v u xs := by
  refine ⟨Sl.ofOwns h, fun a n c e => ?_⟩
  rcases h.2 with ⟨rfl, _⟩ | ⟨g, cap, cur, rfl, r1, r2, r3⟩
  · cases e
  · cases e
    refine ⟨lt_of_block r2, fun e => ?_⟩
    have := hv _ e
    simp only at this
    omega
end
end Go.Proofs.Ytbcmecclaofmgaa
