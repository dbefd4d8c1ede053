/-
  Lists of texts, as lists of records of one cell.
-/
import Derived.Test.YtnpgfbgnbonhfaaFil
import Derived.Test.YtnpgfbgnbonhfaaHelpS
namespace Go.Proofs.Ytnpgfbgnbonhfaa
open Go.RowKit

abbrev Txt := List UInt8
def encT : Enc Txt := ⟨1, by omega, fun f => [strV f], fun _ => rfl, fun f u hu => by
  simp only [List.mem_cons, List.not_mem_nil, or_false] at hu
  subst hu
  rfl⟩
abbrev SlT (w : World) (v : Value) (fs : List Txt) : Prop := SlR encT w v fs
abbrev OwnT (w : World) (base : Nat) (v : Value) (fs : List Txt) : Prop := w.ownsRow base 9 1 v fs.length (flatR encT fs)
theorem OwnT.sl {w : World} {base : Nat} {v : Value} {fs : List Txt} (h : OwnT w base v fs) : SlT w v fs := SlR.ofOwns (E := encT) h
theorem flatT (l : List Txt) : flatR encT l = strCells l := by
  unfold flatR strCells
  induction l with
  | nil => rfl
  | cons x l ih => rw [List.flatMap_cons, List.map_cons, ih]; rfl
theorem SlT.at {w : World} {ao : Option Addr} {n cap : Nat} {fs : List Txt} (h : SlT w (.slice ao n cap) fs) {i : Nat} (hi : i < fs.length) :
    ∃ b o p, ao = some ⟨b, o, none⟩ ∧ fs[i]? = some p ∧ w.cell? ⟨b, o + i, none⟩ = some (.string ⟨List.toArray p⟩) := by
  obtain ⟨b, o, p, ha, hx, hc⟩ := SlR.at' h hi
  have h0 := hc 0 _ rfl
  exact ⟨b, o, p, ha, hx, by simpa [encT, strV] using h0⟩
section
variable {w : World}
theorem wpList_append_t1 {ops : Array Oper} {rest : List Oper} {o : Oper} {a : Act} {Q : Exit → Act → World → Prop} (hgd : o.guard = none) (s sx : Operand)
    (ho : o.op = .call { callee := .builtin .append, args := #[s, sx], argTypes := #[47, 47] })
    (base : Nat) (v : Value) (xs : List Txt) (x : Txt) (he : a.eval s = v) (hown : OwnT w base v xs) (q : Nat) (hx : a.eval sx = .slice (some ⟨q, 0, none⟩) 1 1) (hq : w.heap.size = q)
    (hlen : xs.length ≤ 100000000) (hbase : base ≤ w.heap.size)
    (h : ∀ v' w', OwnT w' base v' (xs ++ [x]) → Below base w w' → wpList Try.prog ops Q rest (a.put o.dst v') w') : wpList Try.prog ops Q (o :: rest) a (w.alloc (.cells #[.string ⟨x.toArray⟩] 9)) := by
  obtain ⟨i0, hi0, hi1, hi2, hi3⟩ := info_parts Try.infoStr
  exact wpList_append_r1 (E := encT) hgd s sx 47 9 ho Try.underlying47 hi0 hi1 hi2 (by rw [hi3]; omega) rfl base v xs x he hown q hx hq hlen hbase _ rfl h
theorem wpList_append_ts {ops : Array Oper} {rest : List Oper} {o : Oper} {a : Act} {Q : Exit → Act → World → Prop} (hgd : o.guard = none) (s sx : Operand)
    (ho : o.op = .call { callee := .builtin .append, args := #[s, sx], argTypes := #[47, 47] })
    (base : Nat) (v : Value) (xs ys : List Txt) (he : a.eval s = v) (hown : OwnT w base v xs) (u : Value) (hx : a.eval sx = u) (hu : SlT w u ys)
    (hlen : xs.length + ys.length ≤ 100000000) (hbase : base ≤ w.heap.size)
    (h : ∀ v' w', OwnT w' base v' (xs ++ ys) → Below base w w' → wpList Try.prog ops Q rest (a.put o.dst v') w') : wpList Try.prog ops Q (o :: rest) a w := by
  obtain ⟨i0, hi0, hi1, hi2, hi3⟩ := info_parts Try.infoStr
  exact wpList_append_rs (E := encT) hgd s sx 47 9 ho Try.underlying47 hi0 hi1 hi2 (by rw [hi3]; omega) rfl base v xs ys he hown u hx hu hlen hbase h
theorem step_append_t1 {ops : Array Oper} {o : Oper} {a : Act} {K : Act → World → Prop} {Q : Exit → Act → World → Prop} {X : Prop} (hgd : o.guard = none) (s sx : Operand)
    (ho : o.op = .call { callee := .builtin .append, args := #[s, sx], argTypes := #[47, 47] })
    (base : Nat) (v : Value) (xs : List Txt) (x : Txt) (he : a.eval s = v) (hown : OwnT w base v xs) (u : Value) (hx : a.eval sx = u) (hu : SlT w u [x])
    (hlen : xs.length ≤ 100000000) (hbase : base ≤ w.heap.size)
    (h : ∀ v' w', OwnT w' base v' (xs ++ [x]) → Below base w w' → K (a.put o.dst v') w') : if Region.wanted o (yielded ops a.tmps) = true then Oper.wp Try.prog o a w K Q else X := by
  obtain ⟨i0, hi0, hi1, hi2, hi3⟩ := info_parts Try.infoStr
  exact step_append_r1 (E := encT) hgd s sx 47 9 ho Try.underlying47 hi0 hi1 hi2 (by rw [hi3]; omega) rfl base v xs x he hown u hx hu hlen hbase h
theorem step_append_ts {ops : Array Oper} {o : Oper} {a : Act} {K : Act → World → Prop} {Q : Exit → Act → World → Prop} {X : Prop} (hgd : o.guard = none) (s sx : Operand)
    (ho : o.op = .call { callee := .builtin .append, args := #[s, sx], argTypes := #[47, 47] })
    (base : Nat) (v : Value) (xs ys : List Txt) (he : a.eval s = v) (hown : OwnT w base v xs) (u : Value) (hx : a.eval sx = u) (hu : SlT w u ys)
    (hlen : xs.length + ys.length ≤ 100000000) (hbase : base ≤ w.heap.size)
    (h : ∀ v' w', OwnT w' base v' (xs ++ ys) → Below base w w' → K (a.put o.dst v') w') : if Region.wanted o (yielded ops a.tmps) = true then Oper.wp Try.prog o a w K Q else X := by
  obtain ⟨i0, hi0, hi1, hi2, hi3⟩ := info_parts Try.infoStr
  exact step_append_rs (E := encT) hgd s sx 47 9 ho Try.underlying47 hi0 hi1 hi2 (by rw [hi3]; omega) rfl base v xs ys he hown u hx hu hlen hbase h
end
end Go.Proofs.Ytnpgfbgnbonhfaa
