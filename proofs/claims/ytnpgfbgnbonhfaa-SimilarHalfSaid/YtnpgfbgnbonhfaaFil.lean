/-
  Files, in memory.
-/
import Derived.Test.YtnpgfbgnbonhfaaEnc
import Derived.Deep.LoopGhost
namespace Go.Proofs.Ytnpgfbgnbonhfaa
open Go.RowKit

/-- a file: its path, whether it may be run, its text -/
abbrev FileS := List UInt8 × Bool × List UInt8
def encF : Enc FileS := ⟨3, by omega, fun f => [strV f.1, .bool f.2.1, strV f.2.2], fun _ => rfl, fun f u hu => by
  simp only [List.mem_cons, List.not_mem_nil, or_false] at hu
  rcases hu with rfl | rfl | rfl <;> rfl⟩
def fileV (f : FileS) : Value := .agg #[strV f.1, .bool f.2.1, strV f.2.2]
def fileZ : FileS := ([], false, [])
theorem Try.infoFile : (Try.prog.info? 31).map (fun i => (i.zero, i.size, i.bytes)) = some (some (.agg #[strV [], .bool false, strV []]), 3, 40) := by kernel_rfl
theorem Try.sizeFile : (Try.prog.info? 31).map (·.size) = some 3 := by kernel_rfl
abbrev SlF (w : World) (v : Value) (fs : List FileS) : Prop := SlR encF w v fs
abbrev OwnF (w : World) (base : Nat) (v : Value) (fs : List FileS) : Prop := w.ownsRow base 31 3 v fs.length (flatR encF fs)
theorem OwnF.sl {w : World} {base : Nat} {v : Value} {fs : List FileS} (h : OwnF w base v fs) : SlF w v fs := SlR.ofOwns (E := encF) h
theorem SlF.at {w : World} {ao : Option Addr} {n cap : Nat} {fs : List FileS} (h : SlF w (.slice ao n cap) fs) {i : Nat} (hi : i < fs.length) :
    ∃ b o p x t, ao = some ⟨b, o, none⟩ ∧ fs[i]? = some (p, x, t) ∧ w.cell? ⟨b, o + i * 3, none⟩ = some (.string ⟨List.toArray p⟩) ∧ w.cell? ⟨b, o + i * 3 + 1, none⟩ = some (.bool x) ∧ w.cell? ⟨b, o + i * 3 + 2, none⟩ = some (.string ⟨List.toArray t⟩) := by
  obtain ⟨b, o, ⟨p, x, t⟩, ha, hx, hc⟩ := SlR.at' h hi
  exact ⟨b, o, p, x, t, ha, hx, hc 0 _ rfl, hc 1 _ rfl, hc 2 _ rfl⟩
theorem file_store {P : Program} {ops : Array Oper} {rest : List Oper} {o : Oper} {a : Act} {w : World} {Q : Exit → Act → World → Prop} (hgd : o.guard = none) (ty : TypeId) (x y : Operand) (ho : o.op = .store ty x y)
    (g : Nat) (cells : Array Value) (hx : a.eval x = .pointer (some ⟨g, 0, none⟩)) (hy : a.eval y = .agg cells)
    (t : TypeId) (old : Array Value) (hg : w.heap[g]? = some (.cells old t (0, 0))) (n : Nat) (hi : (P.info? ty).map (·.size) = some n) (hn : cells.size = n)
    (hold : old.size = n) (h1 : cells.all (·.oneCell') = true)
    (h : ∀ w', w'.heap[g]? = some (.cells cells t (0, 0)) → Keep (· = g) w w' → wpList P ops Q rest (a.put o.dst undef) w') : wpList P ops Q (o :: rest) a w :=
  wpList_store_row hgd ty x y ho g cells hx hy t old hg (by rw [hi, hn]) (by rw [hold, hn]) h1 (h _ (setRow_heap w g old cells t _ hg) ⟨rfl, rfl, rfl, by simp [World.setRow], fun k _ hk => setRow_other w g k _ hk⟩)
theorem file_results {P : Program} {fn : Func} {p q : Tmp} {ty : TypeId} (h : fn.results = #[.cell p ty, .tmp q]) (tmps : Array Value) (w : World) (g : Nat) (t : TypeId) (cs : Array Value) (fr : Nat × Nat) (d : TypeDesc) (v : Value)
    (hp : tmps.getD p undef = .pointer (some ⟨g, 0, none⟩)) (hv : tmps.getD q undef = v) (hg : w.heap[g]? = some (.cells cs t fr))
    (hu : P.underlying ty = some d) (hd : (match d with | .struct _ | .array _ _ => true | _ => false) = true) (hi : (P.info? ty).map (·.size) = some cs.size) :
    (results fn tmps).run P w = .ok (.tuple #[.agg cs, v]) w := by
  have hp' : tmps[p]?.getD undef = .pointer (some ⟨g, 0, none⟩) := by simpa using hp
  have hv' : tmps[q]?.getD undef = v := by simpa using hv
  simp [results, h, hp', hv', asAddr, run_loadVar_row w g t ty cs fr d hg hu hd hi]
section
variable {w : World}
theorem wpList_append_f1 {ops : Array Oper} {rest : List Oper} {o : Oper} {a : Act} {Q : Exit → Act → World → Prop} (hgd : o.guard = none) (s sx : Operand)
    (ho : o.op = .call { callee := .builtin .append, args := #[s, sx], argTypes := #[25, 25] })
    (base : Nat) (v : Value) (xs : List FileS) (x : FileS) (he : a.eval s = v) (hown : OwnF w base v xs) (q : Nat) (hx : a.eval sx = .slice (some ⟨q, 0, none⟩) 1 1) (hq : w.heap.size = q)
    (hlen : xs.length ≤ 100000000) (hbase : base ≤ w.heap.size)
    (h : ∀ v' w', OwnF w' base v' (xs ++ [x]) → Below base w w' → wpList Try.prog ops Q rest (a.put o.dst v') w') : wpList Try.prog ops Q (o :: rest) a (w.alloc (.cells #[.string ⟨x.1.toArray⟩, .bool x.2.1, .string ⟨x.2.2.toArray⟩] 31)) := by
  obtain ⟨i0, hi0, hi1, hi2, hi3⟩ := info_parts Try.infoFile
  exact wpList_append_r1 (E := encF) hgd s sx 25 31 ho Try.underlying25 hi0 hi1 hi2 (by rw [hi3]; omega) rfl base v xs x he hown q hx hq hlen hbase _ rfl h
theorem wpList_append_fs {ops : Array Oper} {rest : List Oper} {o : Oper} {a : Act} {Q : Exit → Act → World → Prop} (hgd : o.guard = none) (s sx : Operand)
    (ho : o.op = .call { callee := .builtin .append, args := #[s, sx], argTypes := #[25, 25] })
    (base : Nat) (v : Value) (xs ys : List FileS) (he : a.eval s = v) (hown : OwnF w base v xs) (u : Value) (hx : a.eval sx = u) (hu : SlF w u ys)
    (hlen : xs.length + ys.length ≤ 100000000) (hbase : base ≤ w.heap.size)
    (h : ∀ v' w', OwnF w' base v' (xs ++ ys) → Below base w w' → wpList Try.prog ops Q rest (a.put o.dst v') w') : wpList Try.prog ops Q (o :: rest) a w := by
  obtain ⟨i0, hi0, hi1, hi2, hi3⟩ := info_parts Try.infoFile
  exact wpList_append_rs (E := encF) hgd s sx 25 31 ho Try.underlying25 hi0 hi1 hi2 (by rw [hi3]; omega) rfl base v xs ys he hown u hx hu hlen hbase h
theorem step_append_f1 {ops : Array Oper} {o : Oper} {a : Act} {K : Act → World → Prop} {Q : Exit → Act → World → Prop} {X : Prop} (hgd : o.guard = none) (s sx : Operand)
    (ho : o.op = .call { callee := .builtin .append, args := #[s, sx], argTypes := #[25, 25] })
    (base : Nat) (v : Value) (xs : List FileS) (x : FileS) (he : a.eval s = v) (hown : OwnF w base v xs) (u : Value) (hx : a.eval sx = u) (hu : SlF w u [x])
    (hlen : xs.length ≤ 100000000) (hbase : base ≤ w.heap.size)
    (h : ∀ v' w', OwnF w' base v' (xs ++ [x]) → Below base w w' → K (a.put o.dst v') w') : if Region.wanted o (yielded ops a.tmps) = true then Oper.wp Try.prog o a w K Q else X := by
  obtain ⟨i0, hi0, hi1, hi2, hi3⟩ := info_parts Try.infoFile
  exact step_append_r1 (E := encF) hgd s sx 25 31 ho Try.underlying25 hi0 hi1 hi2 (by rw [hi3]; omega) rfl base v xs x he hown u hx hu hlen hbase h
theorem step_append_fs {ops : Array Oper} {o : Oper} {a : Act} {K : Act → World → Prop} {Q : Exit → Act → World → Prop} {X : Prop} (hgd : o.guard = none) (s sx : Operand)
    (ho : o.op = .call { callee := .builtin .append, args := #[s, sx], argTypes := #[25, 25] })
    (base : Nat) (v : Value) (xs ys : List FileS) (he : a.eval s = v) (hown : OwnF w base v xs) (u : Value) (hx : a.eval sx = u) (hu : SlF w u ys)
    (hlen : xs.length + ys.length ≤ 100000000) (hbase : base ≤ w.heap.size)
    (h : ∀ v' w', OwnF w' base v' (xs ++ ys) → Below base w w' → K (a.put o.dst v') w') : if Region.wanted o (yielded ops a.tmps) = true then Oper.wp Try.prog o a w K Q else X := by
  obtain ⟨i0, hi0, hi1, hi2, hi3⟩ := info_parts Try.infoFile
  exact step_append_rs (E := encF) hgd s sx 25 31 ho Try.underlying25 hi0 hi1 hi2 (by rw [hi3]; omega) rfl base v xs ys he hown u hx hu hlen hbase h
end
end Go.Proofs.Ytnpgfbgnbonhfaa
