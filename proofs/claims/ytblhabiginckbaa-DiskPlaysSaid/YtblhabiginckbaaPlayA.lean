/-
  DiskPlays: what comes in; a disk and the document's disk side by side, beside what the round itself has laid.
-/
import Derived.Test.YtblhabiginckbaaRdsD
import Derived.Test.YtblhabiginckbaaAlike
import Derived.Test.YtblhabiginckbaaHelp
import Derived.Test.YtblhabiginckbaaOpen2
namespace Go.Proofs.Ytblhabiginckbaa.diskPlays
open Go.ChangeShapes Go.WideShapes Go.ChangeAt Go.RowKit

/-- One thing that is done. -/
structure Opx where
  k : Int
  f : Int
  n : Int
  bv : Value
  b : List UInt8
  kv : Value
  zs : List Int
def Opx.cells (x : Opx) : List Value := [.int .i64 x.k, .int .i64 x.f, .int .i64 x.n, x.bv, x.kv]
structure Opx.Ok (w : World) (x : Opx) : Prop where
  n : (Lit.int .i64 x.n).wf = true
  b : Sl w x.bv (Lib.byteCells x.b)
  bl : x.b.length ≤ maxLen
  z : Sl w x.kv (x.zs.map (Value.int .i64))
  zl : x.zs.length ≤ maxLen
theorem cellsOp : Try.prog.cellsOf 31 = 5 := by kernel_rfl
theorem cellsI : Try.prog.cellsOf 3 = 1 := by kernel_rfl
theorem cellsB : Try.prog.cellsOf 28 = 1 := by kernel_rfl
theorem cellsZ : Try.prog.cellsOf 29 = 1 := by kernel_rfl
section
variable {H : Type} {enc : TypeId × Value → H} {w : World} {base : Nat} {spare : Nat → Bool} {held : Bool}
theorem op_of {fuel : Nat} {cs : List Value} {y : DataW H × List MemPlace} (h : DataW.trod enc Try.prog w base spare held fuel 31 cs = some y) : ∃ x : Opx, cs = x.cells ∧ x.Ok w := by
  obtain ⟨ys, n, _, _, hl, hlen, hf⟩ := DataW.trod_struct Try.underlying31 h
  rw [cellsOp] at hl
  match cs, hl, ys, hlen with
  | [c0, c1, c2, c3, c4], _, [y0, y1, y2, y3, y4], _ =>
    have f0 : DataW.trod enc Try.prog w base spare held n 3 [c0] = some y0 := by simpa [cellsI] using hf 0 _ rfl
    have f1 : DataW.trod enc Try.prog w base spare held n 3 [c1] = some y1 := by simpa [cellsI] using hf 1 _ rfl
    have f2 : DataW.trod enc Try.prog w base spare held n 3 [c2] = some y2 := by simpa [cellsI] using hf 2 _ rfl
    have f3 : DataW.trod enc Try.prog w base spare held n 28 [c3] = some y3 := by simpa [cellsB] using hf 3 _ rfl
    have f4 : DataW.trod enc Try.prog w base spare held n 29 [c4] = some y4 := by simpa [cellsZ] using hf 4 _ rfl
    obtain ⟨k0, e0, _, _⟩ := DataW.trod_int Try.underlying3 f0
    obtain ⟨k1, e1, _, _⟩ := DataW.trod_int Try.underlying3 f1
    obtain ⟨k2, e2, _, w2⟩ := DataW.trod_int Try.underlying3 f2
    obtain ⟨v3, b, e3, s3, l3⟩ := open_bytes Try.underlying28 Try.underlying5 (by kernel_rfl) f3
    obtain ⟨v4, zs, e4, s4, l4, _⟩ := open_intList Try.underlying29 Try.underlying3 cellsI f4
    simp at e0 e1 e2 e3 e4
    exact ⟨⟨k0, k1, k2, v3, b, v4, zs⟩, by simp [Opx.cells, e0, e1, e2, e3, e4], ⟨w2, s3, l3, s4, l4⟩⟩
end
def FactOps (w : World) (v : Value) (l : List Opx) : Prop := SlN 5 w v (l.map Opx.cells) ∧ l.length ≤ maxLen ∧ ∀ x ∈ l, x.Ok w
theorem open_ops {H : Type} {enc : TypeId × Value → H} {w : World} {base : Nat} {spare : Nat → Bool} {held : Bool} {fuel : Nat} {cs : List Value} {x : DataW H × List MemPlace} (h : DataW.trod enc Try.prog w base spare held fuel 22 cs = some x) :
    ∃ v l, cs = [v] ∧ FactOps w v l := by
  obtain ⟨v, css, n, rfl, hs, hl, hu⟩ := open_slN Try.underlying22 cellsOp h
  obtain ⟨l, rfl, hok⟩ : ∃ l : List Opx, css = l.map Opx.cells ∧ ∀ x ∈ l, x.Ok w := by
    clear hs hl
    induction css with
    | nil => exact ⟨[], rfl, fun x hx => by cases hx⟩
    | cons c css ih =>
      obtain ⟨y, hy⟩ := hu c (List.mem_cons_self ..)
      obtain ⟨x, rfl, hx⟩ := op_of hy
      obtain ⟨l, rfl, hl⟩ := ih fun u hu' => hu u (List.mem_cons_of_mem _ hu')
      exact ⟨x :: l, rfl, fun z hz => by rcases List.mem_cons.1 hz with rfl | hz; exact hx; exact hl z hz⟩
  exact ⟨v, l, rfl, hs, by simpa using hl, hok⟩

/-! ### Side by side -/
structure Two (w wr : World) (dp : Nat) (v0 v1 : Value) (D : Dk) (rp : Nat) (u0 u1 kv : Value) (E : Dk) : Prop where
  disk : DiskOk w wr dp v0 v1 D
  ref : RefIn wr w.heap.size rp u0 u1 kv E
  sep : ∀ j, feet dp v0 v1 j → ¬ rfeet rp u0 u1 kv j
theorem Two.on {w wr w' : World} {dp rp : Nat} {v0 v1 u0 u1 kv : Value} {D E : Dk} (h : Two w wr dp v0 v1 D rp u0 u1 kv E) (hb : Below wr.heap.size wr w') : Two w w' dp v0 v1 D rp u0 u1 kv E := ⟨h.disk.on hb, h.ref.below hb, h.sep⟩
theorem Two.dcall {w wr w' : World} {dp rp : Nat} {v0 v1 x0 x1 u0 u1 kv : Value} {D D' E : Dk} (h : Two w wr dp v0 v1 D rp u0 u1 kv E) (hd : DiskOk w w' dp x0 x1 D') (k : Did wr w' dp v0 v1 x0 x1) : Two w w' dp x0 x1 D' rp u0 u1 kv E :=
  ⟨hd, h.ref.kept k.keep fun j e e' => h.sep j e' e, fun j e e' => (k.new j e).elim (fun e2 => h.sep j e2 e') (fun e2 => by have := (h.ref.foot_lt e').2; omega)⟩
theorem Two.rcall {w wr w' : World} {dp rp : Nat} {v0 v1 u0 u1 kv x0 x1 xk : Value} {D E E' : Dk} (h : Two w wr dp v0 v1 D rp u0 u1 kv E) (hr : RefIn w' w.heap.size rp x0 x1 xk E') (k : RDid wr w' rp u0 u1 kv x0 x1 xk) : Two w w' dp v0 v1 D rp x0 x1 xk E' := by
  have hb := h.ref.base
  refine ⟨⟨h.disk.at_.kept k.keep fun j e e' => h.sep j e (.inl e'), h.disk.ok, h.disk.foot, h.disk.below.trans (k.keep.below h.disk.size fun i hi e => by omega)⟩, hr, fun j e e' => ?_⟩
  rcases k.new j e' with e2 | e2
  · exact h.sep j e e2
  · have := h.disk.at_.foot_lt e; omega

/-- .. and what the round has laid, from lo on, as it was in W. -/
structure Tri (w W : World) (lo : Nat) (wr : World) (dp : Nat) (v0 v1 : Value) (D : Dk) (rp : Nat) (u0 u1 kv : Value) (E : Dk) : Prop where
  two : Two w wr dp v0 v1 D rp u0 u1 kv E
  size : W.heap.size ≤ wr.heap.size
  laid : ∀ j, lo ≤ j → j < W.heap.size → wr.heap[j]? = W.heap[j]? ∧ ¬ feet dp v0 v1 j ∧ ¬ rfeet rp u0 u1 kv j
theorem Two.tri {w wr W : World} {dp rp : Nat} {v0 v1 u0 u1 kv : Value} {D E : Dk} (h : Two w wr dp v0 v1 D rp u0 u1 kv E) (hb : Below wr.heap.size wr W) : Tri w W wr.heap.size W dp v0 v1 D rp u0 u1 kv E :=
  ⟨h.on hb, Nat.le_refl _, fun j hj _ => ⟨rfl, fun e => by have := h.disk.at_.foot_lt e; omega, fun e => by have := (h.ref.foot_lt e).2; omega⟩⟩
theorem Tri.on {w W wr w' : World} {lo dp rp : Nat} {v0 v1 u0 u1 kv : Value} {D E : Dk} (h : Tri w W lo wr dp v0 v1 D rp u0 u1 kv E) (hb : Below wr.heap.size wr w') : Tri w W lo w' dp v0 v1 D rp u0 u1 kv E :=
  ⟨h.two.on hb, Nat.le_trans h.size hb.size, fun j hj hj2 => ⟨(hb.block j (Nat.lt_of_lt_of_le hj2 h.size)).trans (h.laid j hj hj2).1, (h.laid j hj hj2).2⟩⟩
theorem Tri.dcall {w W wr w' : World} {lo dp rp : Nat} {v0 v1 x0 x1 u0 u1 kv : Value} {D D' E : Dk} (h : Tri w W lo wr dp v0 v1 D rp u0 u1 kv E) (hd : DiskOk w w' dp x0 x1 D') (k : Did wr w' dp v0 v1 x0 x1) : Tri w W lo w' dp x0 x1 D' rp u0 u1 kv E :=
  ⟨h.two.dcall hd k, Nat.le_trans h.size k.keep.size, fun j hj hj2 => by
    have hl := h.laid j hj hj2
    have hs := h.size
    exact ⟨(k.keep.block j (by omega) hl.2.1).trans hl.1, fun e => (k.new j e).elim hl.2.1 (fun e2 => by omega), hl.2.2⟩⟩
theorem Tri.rcall {w W wr w' : World} {lo dp rp : Nat} {v0 v1 u0 u1 kv x0 x1 xk : Value} {D E E' : Dk} (h : Tri w W lo wr dp v0 v1 D rp u0 u1 kv E) (hr : RefIn w' w.heap.size rp x0 x1 xk E') (k : RDid wr w' rp u0 u1 kv x0 x1 xk) : Tri w W lo w' dp v0 v1 D rp x0 x1 xk E' :=
  ⟨h.two.rcall hr k, Nat.le_trans h.size k.keep.size, fun j hj hj2 => by
    have hl := h.laid j hj hj2
    have hs := h.size
    exact ⟨(k.keep.block j (by omega) (fun e => hl.2.2 (.inl e))).trans hl.1, hl.2.1, fun e => (k.new j e).elim hl.2.2 (fun e2 => by omega)⟩⟩
/-- A cell of the round's own. -/
theorem Tri.cell {w W wr : World} {lo dp rp : Nat} {v0 v1 u0 u1 kv : Value} {D E : Dk} (h : Tri w W lo wr dp v0 v1 D rp u0 u1 kv E) {j i : Nat} {v : Value} (hj : lo ≤ j) (hc : W.cell? ⟨j, i, none⟩ = some v) : wr.cell? ⟨j, i, none⟩ = some v :=
  (World.cell?_of_block (w := W) (w' := wr) (h.laid j hj (World.block_lt_of_cell? W _ hc)).1).trans hc
theorem Tri.copy {w W wr : World} {lo dp rp : Nat} {v0 v1 u0 u1 kv : Value} {D E : Dk} (h : Tri w W lo wr dp v0 v1 D rp u0 u1 kv E) {g : Nat} {bs : List UInt8} {f : UInt8} (hg : lo ≤ g) (ho : OwnCopy W g bs f) : OwnCopy wr g bs f :=
  ⟨(h.laid g hg (lt_of_block ho.block)).1.trans ho.block⟩
theorem Tri.below {w W wr : World} {lo dp rp : Nat} {v0 v1 u0 u1 kv : Value} {D E : Dk} (h : Tri w W lo wr dp v0 v1 D rp u0 u1 kv E) : Below w.heap.size w wr := h.two.disk.below
/-- Both of new disks that stand apart. -/
theorem Two.fresh {w w1 w2 : World} {dp rp : Nat} {v0 v1 u0 u1 kv : Value} {D E : Dk} (hd : DiskOk w w1 dp v0 v1 D) (hb : Below w1.heap.size w1 w2) (hw : w.heap.size ≤ w1.heap.size) (hr : RefIn w2 w1.heap.size rp u0 u1 kv E) : Two w w2 dp v0 v1 D rp u0 u1 kv E := by
  refine ⟨hd.on hb, ?_, fun j e e' => by have := hd.at_.foot_lt e; have := (hr.foot_lt e').1; omega⟩
  obtain ⟨zs, hz, hzk⟩ := hr.keep
  exact ⟨hr.block, hr.own0.below_base _ hw, hr.own1.below_base _ hw, ⟨zs, hz.below_base _ hw, hzk⟩, Nat.le_trans hw hr.base, hr.ne0, hr.ne1, hr.nek⟩
end Go.Proofs.Ytblhabiginckbaa.diskPlays
