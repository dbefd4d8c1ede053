/-
  A hunk appended to a list of the call's own: what else stays.
-/
import Derived.Test.YtbcmecclaofmgaaHkA
namespace Go.Proofs.Ytbcmecclaofmgaa
open Go.RowKit

section
variable {w : World}
theorem wp_append_hk2 {o : Oper} {a : Act} {K : Act → World → Prop} {Q : Exit → Act → World → Prop} (s sx : Operand)
    (ho : o.op = .call { callee := .builtin .append, args := #[s, sx], argTypes := #[24, 24] })
    (base : Nat) (v : Value) (hs : List HkS) (k : Int) (old new : List (List UInt8)) (vo vn : Value) (he : a.eval s = v) (hown : OwnHk w base v hs) (hn1 : Nest w v vo old) (hn2 : Nest w v vn new)
    (hx : a.eval sx = .slice (some ⟨w.heap.size, 0, none⟩) 1 1) (c1 : vo.oneCell' = true) (c2 : vn.oneCell' = true) (hlen : hs.length ≤ 4000000) (hbase : base ≤ w.heap.size)
    (h : ∀ v' w', OwnHk w' base v' (hs ++ [(k, old, new)]) → Below base w w' → (∀ b, b < w.heap.size → v.ownBlock ≠ some b → w'.heap[b]? = w.heap[b]?) → K (a.put o.dst v') w') : o.wp Try.prog a (w.alloc (.cells #[.int .i64 k, vo, vn] 36)) K Q := by
  obtain ⟨flat, h1, h2⟩ := hown
  obtain ⟨i0, hi0, hi1, hi2, hi3⟩ := info_parts Try.infoHk
  have hz : (w.alloc (.cells #[.int .i64 k, vo, vn] 36)).heap.size = w.heap.size + 1 := by simp
  refine wp_append_any _ s sx _ _ ho base 36 i0 _ 3 56 Try.underlying24 hi0 hi1 hi2 hi3 rfl (by omega) v _ _ he (h1.alloc _) _ 1 [.int .i64 k, vo, vn] hx
    (Src.ofSlice _ Try.underlying24 ⟨w.heap.size, 0, none⟩ 1 1 [.int .i64 k, vo, vn] (by rfl) (World.news_of_block (cs := #[.int .i64 k, vo, vn]) (t := 36) (fr := (0, 0)) (heap_alloc_new w _)) (fun u hu => ?_)) (by unfold maxLen; omega) (by omega) (by omega) fun v' w' q1 q2 q3 => h v' w' (hk_appended h1 h2 hn1 hn2 q1 q2 q3) ?_ fun b hb hne => (q2.block b (by omega) (fun e => hne e.symm)).trans (Below.heap_alloc w _ b hb)
  · rcases List.mem_cons.1 hu with rfl | hu
    · rfl
    rcases List.mem_cons.1 hu with rfl | hu
    · exact c1
    rcases List.mem_cons.1 hu with rfl | hu
    · exact c2
    cases hu
  · exact ((Below.refl base w).alloc hbase _).grown q2 (by omega) (fun j hj => (h1.lt j hj).1)
theorem step_append_hk2 {ops : Array Oper} {o : Oper} {a : Act} {K : Act → World → Prop} {Q : Exit → Act → World → Prop} {E : Prop} (hgd : o.guard = none) (s sx : Operand)
    (ho : o.op = .call { callee := .builtin .append, args := #[s, sx], argTypes := #[24, 24] })
    (base : Nat) (v : Value) (hs : List HkS) (k : Int) (old new : List (List UInt8)) (vo vn : Value) (he : a.eval s = v) (hown : OwnHk w base v hs) (hn1 : Nest w v vo old) (hn2 : Nest w v vn new)
    (hx : a.eval sx = .slice (some ⟨w.heap.size, 0, none⟩) 1 1) (c1 : vo.oneCell' = true) (c2 : vn.oneCell' = true) (hlen : hs.length ≤ 4000000) (hbase : base ≤ w.heap.size)
    (h : ∀ v' w', OwnHk w' base v' (hs ++ [(k, old, new)]) → Below base w w' → (∀ b, b < w.heap.size → v.ownBlock ≠ some b → w'.heap[b]? = w.heap[b]?) → K (a.put o.dst v') w') :
    if Region.wanted o (yielded ops a.tmps) = true then Oper.wp Try.prog o a (w.alloc (.cells #[.int .i64 k, vo, vn] 36)) K Q else E := by
  have hw : Region.wanted o (yielded ops a.tmps) = true := by simp [Region.wanted, hgd]
  rw [if_pos hw]
  exact wp_append_hk2 s sx ho base v hs k old new vo vn he hown hn1 hn2 hx c1 c2 hlen hbase h
theorem wpList_append_hk2 {ops : Array Oper} {rest : List Oper} {o : Oper} {a : Act} {Q : Exit → Act → World → Prop} (hgd : o.guard = none) (s sx : Operand)
    (ho : o.op = .call { callee := .builtin .append, args := #[s, sx], argTypes := #[24, 24] })
    (base : Nat) (v : Value) (hs : List HkS) (k : Int) (old new : List (List UInt8)) (vo vn : Value) (he : a.eval s = v) (hown : OwnHk w base v hs) (hn1 : Nest w v vo old) (hn2 : Nest w v vn new)
    (hx : a.eval sx = .slice (some ⟨w.heap.size, 0, none⟩) 1 1) (c1 : vo.oneCell' = true) (c2 : vn.oneCell' = true) (hlen : hs.length ≤ 4000000) (hbase : base ≤ w.heap.size)
    (h : ∀ v' w', OwnHk w' base v' (hs ++ [(k, old, new)]) → Below base w w' → (∀ b, b < w.heap.size → v.ownBlock ≠ some b → w'.heap[b]? = w.heap[b]?) → wpList Try.prog ops Q rest (a.put o.dst v') w') : wpList Try.prog ops Q (o :: rest) a (w.alloc (.cells #[.int .i64 k, vo, vn] 36)) :=
  wpList_plain hgd fun _ hK => wp_append_hk2 s sx ho base v hs k old new vo vn he hown hn1 hn2 hx c1 c2 hlen hbase fun v' w' h2 h3 h4 => hK _ _ (h v' w' h2 h3 h4)
end
end Go.Proofs.Ytbcmecclaofmgaa
