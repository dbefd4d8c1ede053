/-
  Changes, in memory.
-/
import Derived.Test.YtndmblelkeepjaaGreatDoorFil
namespace Go.Proofs.YtndmblelkeepjaaGreatDoor
open Go.RowKit

/-- a change: its path, whether it is a deletion, whether the file may be run, its text -/
abbrev ChangeS := List UInt8 × Bool × Bool × List UInt8
def encH : Enc ChangeS := ⟨4, by omega, fun f => [strV f.1, .bool f.2.1, .bool f.2.2.1, strV f.2.2.2], fun _ => rfl, fun f u hu => by
  simp only [List.mem_cons, List.not_mem_nil, or_false] at hu
  rcases hu with rfl | rfl | rfl | rfl <;> rfl⟩
def changeV (f : ChangeS) : Value := .agg #[strV f.1, .bool f.2.1, .bool f.2.2.1, strV f.2.2.2]
theorem Tryz.infoChange : (Tryz.prog.info? 29).map (fun i => (i.zero, i.size, i.bytes)) = some (some (.agg #[strV [], .bool false, .bool false, strV []]), 4, 40) := by kernel_rfl
theorem Tryz.sizeChange : (Tryz.prog.info? 29).map (·.size) = some 4 := by kernel_rfl
abbrev SlH (w : World) (v : Value) (fs : List ChangeS) : Prop := SlR encH w v fs
abbrev OwnH (w : World) (base : Nat) (v : Value) (fs : List ChangeS) : Prop := w.ownsRow base 29 4 v fs.length (flatR encH fs)
theorem OwnH.sl {w : World} {base : Nat} {v : Value} {fs : List ChangeS} (h : OwnH w base v fs) : SlH w v fs := SlR.ofOwns (E := encH) h
theorem SlH.at {w : World} {ao : Option Addr} {n cap : Nat} {fs : List ChangeS} (h : SlH w (.slice ao n cap) fs) {i : Nat} (hi : i < fs.length) :
    ∃ b o p d x t, ao = some ⟨b, o, none⟩ ∧ fs[i]? = some (p, d, x, t) ∧ w.cell? ⟨b, o + i * 4, none⟩ = some (.string ⟨List.toArray p⟩) ∧ w.cell? ⟨b, o + i * 4 + 1, none⟩ = some (.bool d) ∧ w.cell? ⟨b, o + i * 4 + 2, none⟩ = some (.bool x) ∧ w.cell? ⟨b, o + i * 4 + 3, none⟩ = some (.string ⟨List.toArray t⟩) := by
  obtain ⟨b, o, ⟨p, d, x, t⟩, ha, hx, hc⟩ := SlR.at' h hi
  exact ⟨b, o, p, d, x, t, ha, hx, hc 0 _ rfl, hc 1 _ rfl, hc 2 _ rfl, hc 3 _ rfl⟩
section
variable {w : World}
theorem wpList_append_h1 {ops : Array Oper} {rest : List Oper} {o : Oper} {a : Act} {Q : Exit → Act → World → Prop} (hgd : o.guard = none) (s sx : Operand)
    (ho : o.op = .call { callee := .builtin .append, args := #[s, sx], argTypes := #[23, 23] })
    (base : Nat) (v : Value) (xs : List ChangeS) (x : ChangeS) (he : a.eval s = v) (hown : OwnH w base v xs) (q : Nat) (hx : a.eval sx = .slice (some ⟨q, 0, none⟩) 1 1) (hq : w.heap.size = q)
    (hlen : xs.length ≤ 100000000) (hbase : base ≤ w.heap.size)
    (h : ∀ v' w', OwnH w' base v' (xs ++ [x]) → Below base w w' → wpList Tryz.prog ops Q rest (a.put o.dst v') w') : wpList Tryz.prog ops Q (o :: rest) a (w.alloc (.cells #[.string ⟨x.1.toArray⟩, .bool x.2.1, .bool x.2.2.1, .string ⟨x.2.2.2.toArray⟩] 29)) := by
  obtain ⟨i0, hi0, hi1, hi2, hi3⟩ := info_parts Tryz.infoChange
  exact wpList_append_r1 (E := encH) hgd s sx 23 29 ho Tryz.underlying23 hi0 hi1 hi2 (by rw [hi3]; omega) rfl base v xs x he hown q hx hq hlen hbase _ rfl h
theorem wpList_append_hs {ops : Array Oper} {rest : List Oper} {o : Oper} {a : Act} {Q : Exit → Act → World → Prop} (hgd : o.guard = none) (s sx : Operand)
    (ho : o.op = .call { callee := .builtin .append, args := #[s, sx], argTypes := #[23, 23] })
    (base : Nat) (v : Value) (xs ys : List ChangeS) (he : a.eval s = v) (hown : OwnH w base v xs) (u : Value) (hx : a.eval sx = u) (hu : SlH w u ys)
    (hlen : xs.length + ys.length ≤ 100000000) (hbase : base ≤ w.heap.size)
    (h : ∀ v' w', OwnH w' base v' (xs ++ ys) → Below base w w' → wpList Tryz.prog ops Q rest (a.put o.dst v') w') : wpList Tryz.prog ops Q (o :: rest) a w := by
  obtain ⟨i0, hi0, hi1, hi2, hi3⟩ := info_parts Tryz.infoChange
  exact wpList_append_rs (E := encH) hgd s sx 23 29 ho Tryz.underlying23 hi0 hi1 hi2 (by rw [hi3]; omega) rfl base v xs ys he hown u hx hu hlen hbase h
theorem step_append_h1 {ops : Array Oper} {o : Oper} {a : Act} {K : Act → World → Prop} {Q : Exit → Act → World → Prop} {X : Prop} (hgd : o.guard = none) (s sx : Operand)
    (ho : o.op = .call { callee := .builtin .append, args := #[s, sx], argTypes := #[23, 23] })
    (base : Nat) (v : Value) (xs : List ChangeS) (x : ChangeS) (he : a.eval s = v) (hown : OwnH w base v xs) (u : Value) (hx : a.eval sx = u) (hu : SlH w u [x])
    (hlen : xs.length ≤ 100000000) (hbase : base ≤ w.heap.size)
    (h : ∀ v' w', OwnH w' base v' (xs ++ [x]) → Below base w w' → K (a.put o.dst v') w') : if Region.wanted o (yielded ops a.tmps) = true then Oper.wp Tryz.prog o a w K Q else X := by
  obtain ⟨i0, hi0, hi1, hi2, hi3⟩ := info_parts Tryz.infoChange
  exact step_append_r1 (E := encH) hgd s sx 23 29 ho Tryz.underlying23 hi0 hi1 hi2 (by rw [hi3]; omega) rfl base v xs x he hown u hx hu hlen hbase h
theorem step_append_hs {ops : Array Oper} {o : Oper} {a : Act} {K : Act → World → Prop} {Q : Exit → Act → World → Prop} {X : Prop} (hgd : o.guard = none) (s sx : Operand)
    (ho : o.op = .call { callee := .builtin .append, args := #[s, sx], argTypes := #[23, 23] })
    (base : Nat) (v : Value) (xs ys : List ChangeS) (he : a.eval s = v) (hown : OwnH w base v xs) (u : Value) (hx : a.eval sx = u) (hu : SlH w u ys)
    (hlen : xs.length + ys.length ≤ 100000000) (hbase : base ≤ w.heap.size)
    (h : ∀ v' w', OwnH w' base v' (xs ++ ys) → Below base w w' → K (a.put o.dst v') w') : if Region.wanted o (yielded ops a.tmps) = true then Oper.wp Tryz.prog o a w K Q else X := by
  obtain ⟨i0, hi0, hi1, hi2, hi3⟩ := info_parts Tryz.infoChange
  exact step_append_rs (E := encH) hgd s sx 23 29 ho Tryz.underlying23 hi0 hi1 hi2 (by rw [hi3]; omega) rfl base v xs ys he hown u hx hu hlen hbase h
end
end Go.Proofs.YtndmblelkeepjaaGreatDoor
