/-
  Three lists of texts that grow side by side, and a block beside them.
-/
import Derived.Test.YtgmopmlhggdefaaEdB
import Derived.Deep.RegionLaw
namespace Go.Proofs.Ytgmopmlhggdefaa
open Go.RowKit

structure Rows3 (w : World) (base : Nat) (v1 v2 v3 : Value) (x y z : List (List UInt8)) : Prop where
  o1 : w.ownsRow base 9 1 v1 x.length (strCells x)
  o2 : w.ownsRow base 9 1 v2 y.length (strCells y)
  o3 : w.ownsRow base 9 1 v3 z.length (strCells z)
  a12 : ∀ g, v1.ownBlock = some g → v2.ownBlock ≠ some g
  a13 : ∀ g, v1.ownBlock = some g → v3.ownBlock ≠ some g
  a23 : ∀ g, v2.ownBlock = some g → v3.ownBlock ≠ some g
theorem Rows3.nil (w : World) (base : Nat) : Rows3 w base (.slice none 0 0) (.slice none 0 0) (.slice none 0 0) [] [] [] :=
  ⟨World.ownsRow_nil _ _ _ _, World.ownsRow_nil _ _ _ _, World.ownsRow_nil _ _ _ _, fun _ h => (by cases h), fun _ h => (by cases h), fun _ h => (by cases h)⟩
theorem Rows3.turn {w : World} {base : Nat} {v1 v2 v3 : Value} {x y z : List (List UInt8)} (h : Rows3 w base v1 v2 v3 x y z) : Rows3 w base v2 v3 v1 y z x :=
  ⟨h.o2, h.o3, h.o1, h.a23, fun g e1 e2 => h.a12 g e2 e1, fun g e1 e2 => h.a13 g e2 e1⟩
theorem Rows3.old {w w' : World} {base : Nat} {v1 v2 v3 : Value} {x y z : List (List UInt8)} (h : Rows3 w base v1 v2 v3 x y z) (hk : Below w.heap.size w w') : Rows3 w' base v1 v2 v3 x y z :=
  ⟨owns_kept h.o1 fun g _ hg => hk.block g hg, owns_kept h.o2 fun g _ hg => hk.block g hg, owns_kept h.o3 fun g _ hg => hk.block g hg, h.a12, h.a13, h.a23⟩
/-- .. with a block g beside them, which holds H -/
structure R3 (w : World) (base g : Nat) (H : Obj) (v1 v2 v3 : Value) (x y z : List (List UInt8)) : Prop where
  rows : Rows3 w base v1 v2 v3 x y z
  blk : w.heap[g]? = some H
  g1 : v1.ownBlock ≠ some g
  g2 : v2.ownBlock ≠ some g
  g3 : v3.ownBlock ≠ some g
theorem R3.turn {w : World} {base g : Nat} {H : Obj} {v1 v2 v3 : Value} {x y z : List (List UInt8)} (h : R3 w base g H v1 v2 v3 x y z) : R3 w base g H v2 v3 v1 y z x := ⟨h.rows.turn, h.blk, h.g2, h.g3, h.g1⟩
section
variable {w : World}
theorem step_append_r3 {ops : Array Oper} {o : Oper} {a : Act} {K : Act → World → Prop} {Q : Exit → Act → World → Prop} {E : Prop} (hgd : o.guard = none) (s sx : Operand)
    (ho : o.op = .call { callee := .builtin .append, args := #[s, sx], argTypes := #[22, 22] })
    (base g : Nat) (H : Obj) (v1 v2 v3 : Value) (x y z ys : List (List UInt8)) (he : a.eval s = v1) (hown : R3 w base g H v1 v2 v3 x y z) (u : Value) (hx : a.eval sx = u) (hu : Sl w u (strCells ys))
    (hlen : x.length + ys.length ≤ 4000000000) (hbase : base ≤ w.heap.size)
    (h : ∀ v' w', R3 w' base g H v' v2 v3 (x ++ ys) y z → Below base w w' → K (a.put o.dst v') w') :
    if Region.wanted o (yielded ops a.tmps) = true then Oper.wp Try.prog o a w K Q else E := by
  obtain ⟨i0, hi0, hi1, hi2, hi3⟩ := info_parts Try.infoStr
  have hs := hu.src (P := Try.prog) Try.underlying22 (str_one _)
  rw [strCells_length] at hs
  refine step_append_any w hgd s sx _ _ ho base 9 i0 _ 1 16 Try.underlying22 hi0 hi1 hi2 hi3 rfl (by omega) v1 _ _ he hown.rows.o1 u _ _ hx hs (by unfold maxLen; omega) (by omega) hbase fun v' w' h2 h3 h4 => h v' w' ?_ ?_
  · have hlt : ∀ {v : Value} {n : Nat} {cs : List Value} {gg : Nat}, w.ownsRow base 9 1 v n cs → v.ownBlock = some gg → gg < w.heap.size := fun ho e => (ho.lt _ e).2
    have hne : ∀ gg, gg < w.heap.size → v1.ownBlock ≠ some gg → v'.ownBlock ≠ some gg := fun gg hg hn e => by
      rcases h4 with h4 | h4
      · exact hn (h4 ▸ e)
      · rw [h4] at e
        cases e
        omega
    have hb : w.heap[g]? = some H := hown.blk
    have hgl : g < w.heap.size := by
      rcases Nat.lt_or_ge g w.heap.size with h | h
      · exact h
      · rw [Array.getElem?_eq_none h] at hb
        cases hb
    refine ⟨⟨?_, owns_kept hown.rows.o2 fun gg hg hl => h3.block gg hl (fun e => hown.rows.a12 gg e.symm hg), owns_kept hown.rows.o3 fun gg hg hl => h3.block gg hl (fun e => hown.rows.a13 gg e.symm hg), ?_, ?_, hown.rows.a23⟩, ?_, hne g hgl hown.g1, hown.g2, hown.g3⟩
    · rw [List.length_append, strCells_append]
      exact h2
    · exact fun gg e1 e2 => hne gg (hlt hown.rows.o2 e2) (fun e => hown.rows.a12 gg e e2) e1
    · exact fun gg e1 e2 => hne gg (hlt hown.rows.o3 e2) (fun e => hown.rows.a13 gg e e2) e1
    · exact (h3.block g hgl (fun e => hown.g1 e.symm)).trans hb
  · exact (Below.refl base w).grown h3 hbase (fun j hj => (hown.rows.o1.lt j hj).1)
end
end Go.Proofs.Ytgmopmlhggdefaa
