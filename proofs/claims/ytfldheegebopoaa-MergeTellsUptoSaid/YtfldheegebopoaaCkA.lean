/-
  A list of chunks of the call's own; a chunk appended to it.
-/
import Derived.Test.YtfldheegebopoaaCk
import Derived.Test.YtfldheegebopoaaNest
namespace Go.Proofs.Ytfldheegebopoaa
open Go.RowKit

def CkFlat (w : World) (v : Value) (cs : List CkS) (flat : List Value) : Prop :=
  ∀ i c, cs[i]? = some c → ∃ vb vo vt, flat[i * 4]? = some (.int .i64 c.1) ∧ flat[i * 4 + 1]? = some vb ∧ flat[i * 4 + 2]? = some vo ∧ flat[i * 4 + 3]? = some vt ∧ NestL w v vb c.2.1 ∧ NestL w v vo c.2.2.1 ∧ NestL w v vt c.2.2.2
def OwnCk (w : World) (base : Nat) (v : Value) (cs : List CkS) : Prop := ∃ flat, w.ownsRow base 34 4 v cs.length flat ∧ CkFlat w v cs flat
theorem OwnCk.nil (w : World) (base : Nat) : OwnCk w base (.slice none 0 0) [] := ⟨[], World.ownsRow_nil _ _ _ _, fun i h hi => by simp at hi⟩
theorem OwnCk.form {w : World} {base : Nat} {v : Value} {cs : List CkS} (h : OwnCk w base v cs) : ∃ ao cap, v = .slice ao cs.length cap := by
  obtain ⟨flat, h, _⟩ := h
  exact owns_form h
theorem OwnCk.lt {w : World} {base : Nat} {v : Value} {cs : List CkS} (h : OwnCk w base v cs) : ∀ j, v.ownBlock = some j → base ≤ j ∧ j < w.heap.size := by
  obtain ⟨flat, h, _⟩ := h
  exact h.lt
theorem OwnCk.slC {w : World} {base : Nat} {v : Value} {cs : List CkS} (h : OwnCk w base v cs) : SlC w v cs := by
  obtain ⟨flat, h1, h2⟩ := h
  rcases h1.2 with ⟨rfl, hn⟩ | ⟨g, cap, cur, rfl, r⟩
  · have : cs = [] := List.eq_nil_of_length_eq_zero hn
    subst this
    exact SlC.nil w
  · refine ⟨some ⟨g, 0, none⟩, cap, rfl, (fun h => by cases h), r.2.2.1, fun a ha i x hx => ?_⟩
    cases ha
    obtain ⟨vb, vo, vt, e1, e2, e3, e4, n1, n2, n3⟩ := h2 i x hx
    exact ⟨vb, vo, vt, h1.cells rfl _ _ e1, h1.cells rfl _ _ e2, h1.cells rfl _ _ e3, h1.cells rfl _ _ e4, n1.1, n2.1, n3.1⟩
/-- what keeps all that was there keeps the list -/
theorem OwnCk.old {w w' : World} {base : Nat} {v : Value} {cs : List CkS} (h : OwnCk w base v cs) (hk : Below w.heap.size w w') : OwnCk w' base v cs := by
  obtain ⟨flat, h1, h2⟩ := h
  refine ⟨flat, ?_, fun i x hx => ?_⟩
  · rcases h1.2 with ⟨rfl, h0⟩ | ⟨g, cap, cur, rfl, r1, r2, r3⟩
    · exact ⟨h1.1, .inl ⟨rfl, h0⟩⟩
    · exact ⟨h1.1, .inr ⟨g, cap, cur, rfl, r1, (hk.block g (h1.lt g rfl).2).trans r2, r3⟩⟩
  · obtain ⟨vb, vo, vt, e1, e2, e3, e4, n1, n2, n3⟩ := h2 i x hx
    have k : ∀ {u xs}, NestL w v u xs → NestL w' v u xs := fun n => n.kept (fun b hb _ => hk.block b hb) hk.size (.inl rfl)
    exact ⟨vb, vo, vt, e1, e2, e3, e4, k n1, k n2, k n3⟩
theorem Try.infoCk : (Try.prog.info? 34).map (fun i => (i.zero, i.size, i.bytes)) = some (some (.agg #[.int .i64 0, .slice none 0 0, .slice none 0 0, .slice none 0 0]), 4, 80) := by kernel_rfl

section
variable {w : World}
theorem ck_appended {base : Nat} {v : Value} {cs : List CkS} {k : Int} {xb xo xt : List (List UInt8)} {vb vo vt : Value} {flat : List Value} (h1 : w.ownsRow base 34 4 v cs.length flat)
    (h2 : CkFlat w v cs flat) (hn1 : NestL w v vb xb) (hn2 : NestL w v vo xo) (hn3 : NestL w v vt xt)
    {o : Obj} {v' : Value} {w' : World} (q1 : w'.ownsRow base 34 4 v' (cs.length + 1) (flat ++ [.int .i64 k, vb, vo, vt])) (q2 : (w.alloc o).grownBy w' v.ownBlock) (q3 : v'.ownBlock = v.ownBlock ∨ v'.ownBlock = some (w.alloc o).heap.size) :
    OwnCk w' base v' (cs ++ [(k, xb, xo, xt)]) := by
  have hl := h1.1
  have hz : (w.alloc o).heap.size = w.heap.size + 1 := by simp
  have keep : ∀ b, b < w.heap.size → v.ownBlock ≠ some b → w'.heap[b]? = w.heap[b]? := fun b hb hne => (q2.block b (by omega) (fun e => hne e.symm)).trans (Below.heap_alloc w _ b hb)
  have hv : v'.ownBlock = v.ownBlock ∨ ∃ f, v'.ownBlock = some f ∧ w.heap.size ≤ f := by
    rcases q3 with e | e
    · exact .inl e
    · exact .inr ⟨_, e, by omega⟩
  have hsz : w.heap.size ≤ w'.heap.size := by have := q2.size; omega
  have kk : ∀ {u xs}, NestL w v u xs → NestL w' v' u xs := fun n => n.kept keep hsz hv
  refine ⟨flat ++ [.int .i64 k, vb, vo, vt], by rw [List.length_append]; exact q1, fun i x hx => ?_⟩
  by_cases hi : i < cs.length
  · rw [List.getElem?_append_left hi] at hx
    obtain ⟨a, b, c, e1, e2, e3, e4, n1, n2, n3⟩ := h2 i x hx
    refine ⟨a, b, c, ?_, ?_, ?_, ?_, kk n1, kk n2, kk n3⟩
    · rw [List.getElem?_append_left (by omega)]; exact e1
    · rw [List.getElem?_append_left (by omega)]; exact e2
    · rw [List.getElem?_append_left (by omega)]; exact e3
    · rw [List.getElem?_append_left (by omega)]; exact e4
  · have hlt := (List.getElem?_eq_some_iff.1 hx).1
    rw [List.length_append, List.length_singleton] at hlt
    obtain rfl : i = cs.length := by omega
    rw [List.getElem?_append_right (Nat.le_refl _), Nat.sub_self] at hx
    cases hx
    refine ⟨vb, vo, vt, ?_, ?_, ?_, ?_, kk hn1, kk hn2, kk hn3⟩
    · rw [List.getElem?_append_right (by omega), show cs.length * 4 - flat.length = 0 by omega]; rfl
    · rw [List.getElem?_append_right (by omega), show cs.length * 4 + 1 - flat.length = 1 by omega]; rfl
    · rw [List.getElem?_append_right (by omega), show cs.length * 4 + 2 - flat.length = 2 by omega]; rfl
    · rw [List.getElem?_append_right (by omega), show cs.length * 4 + 3 - flat.length = 3 by omega]; rfl
theorem wp_append_ck {o : Oper} {a : Act} {K : Act → World → Prop} {Q : Exit → Act → World → Prop} (s sx : Operand)
    (ho : o.op = .call { callee := .builtin .append, args := #[s, sx], argTypes := #[22, 22] })
    (base : Nat) (v : Value) (cs : List CkS) (k : Int) (xb xo xt : List (List UInt8)) (vb vo vt : Value) (he : a.eval s = v) (hown : OwnCk w base v cs) (hn1 : NestL w v vb xb) (hn2 : NestL w v vo xo) (hn3 : NestL w v vt xt)
    (hx : a.eval sx = .slice (some ⟨w.heap.size, 0, none⟩) 1 1) (c1 : vb.oneCell' = true) (c2 : vo.oneCell' = true) (c3 : vt.oneCell' = true) (hlen : cs.length ≤ 4000000) (hbase : base ≤ w.heap.size)
    (h : ∀ v' w', OwnCk w' base v' (cs ++ [(k, xb, xo, xt)]) → Below base w w' → (∀ b, b < w.heap.size → v.ownBlock ≠ some b → w'.heap[b]? = w.heap[b]?) → K (a.put o.dst v') w') : o.wp Try.prog a (w.alloc (.cells #[.int .i64 k, vb, vo, vt] 34)) K Q := by
  obtain ⟨flat, h1, h2⟩ := hown
  obtain ⟨i0, hi0, hi1, hi2, hi3⟩ := info_parts Try.infoCk
  have hz : (w.alloc (.cells #[.int .i64 k, vb, vo, vt] 34)).heap.size = w.heap.size + 1 := by simp
  refine wp_append_any _ s sx _ _ ho base 34 i0 _ 4 80 Try.underlying22 hi0 hi1 hi2 hi3 rfl (by omega) v _ _ he (h1.alloc _) _ 1 [.int .i64 k, vb, vo, vt] hx
    (Src.ofSlice _ Try.underlying22 ⟨w.heap.size, 0, none⟩ 1 1 [.int .i64 k, vb, vo, vt] (by rfl) (World.news_of_block (cs := #[.int .i64 k, vb, vo, vt]) (t := 34) (fr := (0, 0)) (heap_alloc_new w _)) (fun u hu => ?_)) (by unfold maxLen; omega) (by omega) (by omega) fun v' w' q1 q2 q3 => h v' w' (ck_appended h1 h2 hn1 hn2 hn3 q1 q2 q3) ?_ fun b hb hne => (q2.block b (by omega) (fun e => hne e.symm)).trans (Below.heap_alloc w _ b hb)
  · rcases List.mem_cons.1 hu with rfl | hu
    · rfl
    rcases List.mem_cons.1 hu with rfl | hu
    · exact c1
    rcases List.mem_cons.1 hu with rfl | hu
    · exact c2
    rcases List.mem_cons.1 hu with rfl | hu
    · exact c3
    cases hu
  · exact ((Below.refl base w).alloc hbase _).grown q2 (by omega) (fun j hj => (h1.lt j hj).1)
theorem step_append_ck {ops : Array Oper} {o : Oper} {a : Act} {K : Act → World → Prop} {Q : Exit → Act → World → Prop} {E : Prop} (hgd : o.guard = none) (s sx : Operand)
    (ho : o.op = .call { callee := .builtin .append, args := #[s, sx], argTypes := #[22, 22] })
    (base : Nat) (v : Value) (cs : List CkS) (k : Int) (xb xo xt : List (List UInt8)) (vb vo vt : Value) (he : a.eval s = v) (hown : OwnCk w base v cs) (hn1 : NestL w v vb xb) (hn2 : NestL w v vo xo) (hn3 : NestL w v vt xt)
    (hx : a.eval sx = .slice (some ⟨w.heap.size, 0, none⟩) 1 1) (c1 : vb.oneCell' = true) (c2 : vo.oneCell' = true) (c3 : vt.oneCell' = true) (hlen : cs.length ≤ 4000000) (hbase : base ≤ w.heap.size)
    (h : ∀ v' w', OwnCk w' base v' (cs ++ [(k, xb, xo, xt)]) → Below base w w' → (∀ b, b < w.heap.size → v.ownBlock ≠ some b → w'.heap[b]? = w.heap[b]?) → K (a.put o.dst v') w') :
    if Region.wanted o (yielded ops a.tmps) = true then Oper.wp Try.prog o a (w.alloc (.cells #[.int .i64 k, vb, vo, vt] 34)) K Q else E := by
  have hw : Region.wanted o (yielded ops a.tmps) = true := by simp [Region.wanted, hgd]
  rw [if_pos hw]
  exact wp_append_ck s sx ho base v cs k xb xo xt vb vo vt he hown hn1 hn2 hn3 hx c1 c2 c3 hlen hbase h
theorem wpList_append_ck {ops : Array Oper} {rest : List Oper} {o : Oper} {a : Act} {Q : Exit → Act → World → Prop} (hgd : o.guard = none) (s sx : Operand)
    (ho : o.op = .call { callee := .builtin .append, args := #[s, sx], argTypes := #[22, 22] })
    (base : Nat) (v : Value) (cs : List CkS) (k : Int) (xb xo xt : List (List UInt8)) (vb vo vt : Value) (he : a.eval s = v) (hown : OwnCk w base v cs) (hn1 : NestL w v vb xb) (hn2 : NestL w v vo xo) (hn3 : NestL w v vt xt)
    (hx : a.eval sx = .slice (some ⟨w.heap.size, 0, none⟩) 1 1) (c1 : vb.oneCell' = true) (c2 : vo.oneCell' = true) (c3 : vt.oneCell' = true) (hlen : cs.length ≤ 4000000) (hbase : base ≤ w.heap.size)
    (h : ∀ v' w', OwnCk w' base v' (cs ++ [(k, xb, xo, xt)]) → Below base w w' → (∀ b, b < w.heap.size → v.ownBlock ≠ some b → w'.heap[b]? = w.heap[b]?) → wpList Try.prog ops Q rest (a.put o.dst v') w') : wpList Try.prog ops Q (o :: rest) a (w.alloc (.cells #[.int .i64 k, vb, vo, vt] 34)) :=
  wpList_plain hgd fun _ hK => wp_append_ck s sx ho base v cs k xb xo xt vb vo vt he hown hn1 hn2 hn3 hx c1 c2 c3 hlen hbase fun v' w' h2 h3 h4 => hK _ _ (h v' w' h2 h3 h4)
/-- .. the slice's address written otherwise -/
theorem wpList_append_ckg {ops : Array Oper} {rest : List Oper} {o : Oper} {a : Act} {Q : Exit → Act → World → Prop} (hgd : o.guard = none) (s sx : Operand)
    (ho : o.op = .call { callee := .builtin .append, args := #[s, sx], argTypes := #[22, 22] })
    (base : Nat) (v : Value) (cs : List CkS) (k : Int) (xb xo xt : List (List UInt8)) (vb vo vt : Value) (he : a.eval s = v) (hown : OwnCk w base v cs) (hn1 : NestL w v vb xb) (hn2 : NestL w v vo xo) (hn3 : NestL w v vt xt)
    (g : Nat) (hg : w.heap.size = g) (hx : a.eval sx = .slice (some ⟨g, 0, none⟩) 1 1) (c1 : vb.oneCell' = true) (c2 : vo.oneCell' = true) (c3 : vt.oneCell' = true) (hlen : cs.length ≤ 4000000) (hbase : base ≤ w.heap.size)
    (h : ∀ v' w', OwnCk w' base v' (cs ++ [(k, xb, xo, xt)]) → Below base w w' → wpList Try.prog ops Q rest (a.put o.dst v') w') : wpList Try.prog ops Q (o :: rest) a (w.alloc (.cells #[.int .i64 k, vb, vo, vt] 34)) := by
  subst hg
  exact wpList_append_ck hgd s sx ho base v cs k xb xo xt vb vo vt he hown hn1 hn2 hn3 hx c1 c2 c3 hlen hbase fun v' w' h1 h2 _ => h v' w' h1 h2
end
end Go.Proofs.Ytfldheegebopoaa
