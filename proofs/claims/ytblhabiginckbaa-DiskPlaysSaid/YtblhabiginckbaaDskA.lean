/-
  Package disk: what a disk is, as plain mathematics; how it lies in memory; the calls that only read.
-/
import Derived.Test.YtblhabiginckbaaRows
import Derived.Test.YtblhabiginckbaaLaw3
import Derived.Deep.RegionHeld3
import Derived.Deep.AppendLies
import Derived.Deep.DrawnRows
import Derived.Deep.QuietTactic
import Derived.BigQuiet
namespace Go.Proofs.Ytblhabiginckbaa
open Go.RowKit

theorem Try.info5 : (Try.prog.info? 5).map (fun i => (i.zero, i.size, i.bytes)) = some (some (.int .u8 0), 1, 1) := by kernel_rfl

/-! ### A disk, as mathematics -/
/-- A file: its bytes, and how many of them are synced. -/
structure Fl where
  b : List UInt8
  s : Nat
structure Dk where
  room : Nat
  f0 : Fl
  f1 : Fl
  armed : Bool
  left : Nat
  k0 : Int
  k1 : Int
def Dk.down (D : Dk) : Bool := D.armed && D.left == 0
def Dk.free (D : Dk) : Nat := D.room - D.f0.b.length - D.f1.b.length
/-- The file of a number, if there is one. -/
def Dk.file (D : Dk) (n : Int) : Option Fl := if n = 0 then some D.f0 else if n = 1 then some D.f1 else none
def Dk.setFile (D : Dk) (n : Int) (f : Fl) : Dk := if n = 0 then { D with f0 := f } else { D with f1 := f }
def Dk.step (D : Dk) : Dk := if D.armed then { D with left := D.left - 1 } else D
/-- What is wrong with a call; 0 is nothing. -/
def Dk.ask (D : Dk) (n : Int) : Int := if D.down then 7 else if n = 0 ∨ n = 1 then 0 else 1
structure Dk.Wf (D : Dk) : Prop where
  s0 : D.f0.s ≤ D.f0.b.length
  s1 : D.f1.s ≤ D.f1.b.length
  room : D.f0.b.length + D.f1.b.length ≤ D.room
  most : D.room ≤ 1000000
  calm : D.armed = false → D.k0 = 0 ∧ D.k1 = 0
/-- 'held(n, most)'. -/
def heldI (n most : Int) : Int := min (max n 0) most

/-! ### In memory -/
def dkCells (D : Dk) (v0 v1 : Value) : Array Value := #[.int .i64 (D.room : Int), v0, .int .i64 (D.f0.s : Int), v1, .int .i64 (D.f1.s : Int), .bool D.armed, .int .i64 (D.left : Int), .int .i64 D.k0, .int .i64 D.k1]
structure DiskIn (w : World) (dp : Nat) (v0 v1 : Value) (D : Dk) : Prop where
  block : w.heap[dp]? = some (.cells (dkCells D v0 v1) 61 (0, 0))
  own0 : w.ownsRow 0 5 1 v0 D.f0.b.length (Lib.byteCells D.f0.b)
  own1 : w.ownsRow 0 5 1 v1 D.f1.b.length (Lib.byteCells D.f1.b)
  ne0 : v0.ownBlock ≠ some dp
  ne1 : v1.ownBlock ≠ some dp
  apart : ∀ k, v0.ownBlock = some k → v1.ownBlock ≠ some k
/-- The blocks of a disk. -/
def feet (dp : Nat) (v0 v1 : Value) (k : Nat) : Prop := k = dp ∨ v0.ownBlock = some k ∨ v1.ownBlock = some k
/-- A disk lies at dp, its blocks are those of S. -/
def DiskAt (w : World) (S : Nat → Prop) (dp : Nat) (D : Dk) : Prop := ∃ v0 v1, DiskIn w dp v0 v1 D ∧ D.Wf ∧ ∀ k, feet dp v0 v1 k → S k

theorem own_lt {w : World} {v : Value} {n : Nat} {xs : List Value} {e : TypeId} {size base : Nat} (h : w.ownsRow base e size v n xs) {k : Nat} (hk : v.ownBlock = some k) : k < w.heap.size := (h.lt k hk).2
theorem DiskIn.kept {w w' : World} {dp : Nat} {v0 v1 : Value} {D : Dk} (h : DiskIn w dp v0 v1 D) {S : Nat → Prop} (hk : Keep S w w') (hS : ∀ k, feet dp v0 v1 k → ¬ S k) : DiskIn w' dp v0 v1 D :=
  ⟨(hk.block dp (lt_of_block h.block) (hS dp (.inl rfl))).trans h.block, hk.owns h.own0 fun k e => hS k (.inr (.inl e)), hk.owns h.own1 fun k e => hS k (.inr (.inr e)), h.ne0, h.ne1, h.apart⟩
theorem DiskIn.foot_lt {w : World} {dp : Nat} {v0 v1 : Value} {D : Dk} (h : DiskIn w dp v0 v1 D) {k : Nat} (hk : feet dp v0 v1 k) : k < w.heap.size := by
  rcases hk with rfl | e | e
  · exact lt_of_block h.block
  · exact own_lt h.own0 e
  · exact own_lt h.own1 e

theorem DiskIn.cell {w : World} {dp : Nat} {v0 v1 : Value} {D : Dk} (h : DiskIn w dp v0 v1 D) (i : Nat) (v : Value) (hv : (dkCells D v0 v1)[i]? = some v) : w.cell? ⟨dp, i, none⟩ = some v := blk_cell h.block hv
theorem DiskIn.free {w : World} {dp : Nat} {v0 v1 : Value} {D : Dk} (h : DiskIn w dp v0 v1 D) (i : Nat) : w.frozen? ⟨dp, i, none⟩ = false := blk_free h.block

section
variable {w : World} {dp : Nat} {v0 v1 : Value} {D : Dk} (h : DiskIn w dp v0 v1 D)
include h
theorem DiskIn.c0 : w.cell? ⟨dp, 0, none⟩ = some (.int .i64 (D.room : Int)) := h.cell 0 _ rfl
theorem DiskIn.c1 : w.cell? ⟨dp, 1, none⟩ = some v0 := h.cell 1 _ rfl
theorem DiskIn.c2 : w.cell? ⟨dp, 2, none⟩ = some (.int .i64 (D.f0.s : Int)) := h.cell 2 _ rfl
theorem DiskIn.c3 : w.cell? ⟨dp, 3, none⟩ = some v1 := h.cell 3 _ rfl
theorem DiskIn.c4 : w.cell? ⟨dp, 4, none⟩ = some (.int .i64 (D.f1.s : Int)) := h.cell 4 _ rfl
theorem DiskIn.c5 : w.cell? ⟨dp, 5, none⟩ = some (.bool D.armed) := h.cell 5 _ rfl
theorem DiskIn.c6 : w.cell? ⟨dp, 6, none⟩ = some (.int .i64 (D.left : Int)) := h.cell 6 _ rfl
theorem DiskIn.c7 : w.cell? ⟨dp, 7, none⟩ = some (.int .i64 D.k0) := h.cell 7 _ rfl
theorem DiskIn.c8 : w.cell? ⟨dp, 8, none⟩ = some (.int .i64 D.k1) := h.cell 8 _ rfl
end

/-! ### held, keyOf -/
set_option maxHeartbeats 400000 in
theorem dheld_any (n m : Int) (w : World) :
    Calls Try.prog 31 #[.int .i64 n, .int .i64 m] w fun e w' => e = .returned (.int .i64 (heldI n m)) ∧ w = w' := by
  go_enter Try.func31, Try.ntmps31
  go_wp2
  all_goals
    go_ret
    exact ⟨ret_int (by unfold heldI; omega), rfl⟩
theorem keyOf_ok (n : Nat) (h : n < 2) (w : World) :
    Calls Try.prog 47 #[.int .i64 (n : Int)] w fun e w' => e = .returned (.tuple #[.int .u8 (n : Int), .bool true]) ∧ w = w' := by
  have h0 : (0 : Int) ≤ (n : Int) := Int.natCast_nonneg _
  have h1 : (n : Int) < 2 := by omega
  go_enter Try.func47, Try.ntmps47
  go_wp2
  go_ret2
  exact ⟨rfl, rfl⟩
theorem keyOf_bad (n : Int) (h : ¬ (n = 0 ∨ n = 1)) (w : World) :
    Calls Try.prog 47 #[.int .i64 n] w fun e w' => e = .returned (.tuple #[.int .u8 0, .bool false]) ∧ w = w' := by
  by_cases h0 : n < 0
  · go_enter Try.func47, Try.ntmps47
    go_wp2
    go_ret2
    exact ⟨rfl, rfl⟩
  · have h1 : 2 ≤ n := by omega
    clear h
    go_enter Try.func47, Try.ntmps47
    go_wp2
    go_ret2
    exact ⟨rfl, rfl⟩

/-! ### Down -/
theorem Down_nil (w : World) : Calls Try.prog 27 #[.pointer none] w fun e w' => e = .returned (.bool false) ∧ w = w' := by
  go_enter Try.func27, Try.ntmps27
  go_wp2
  go_ret
  exact ⟨rfl, rfl⟩
set_option maxHeartbeats 400000 in
theorem Down_at (dp : Nat) (a : Bool) (l : Nat) (x : Bool) (hx : (a && l == 0) = x) (w : World) (h5 : w.cell? ⟨dp, 5, none⟩ = some (.bool a)) (h6 : w.cell? ⟨dp, 6, none⟩ = some (.int .i64 (l : Int))) :
    Calls Try.prog 27 #[.pointer (some ⟨dp, 0, none⟩)] w fun e w' => e = .returned (.bool x) ∧ w = w' := by
  cases a
  · have hx' : x = false := by rw [← hx]; rfl
    subst hx'
    clear hx
    go_enter Try.func27, Try.ntmps27
    go_wp2
    go_ret
    exact ⟨rfl, rfl⟩
  · by_cases hl : l = 0
    · subst hl
      have hx' : x = true := by rw [← hx]; rfl
      subst hx'
      clear hx
      go_enter Try.func27, Try.ntmps27
      go_wp2
      go_ret
      exact ⟨rfl, rfl⟩
    · have hx' : x = false := by rw [← hx]; simpa using hl
      subst hx'
      have hc : ((l : Int) == 0) = false := by simpa using hl
      clear hx hl
      go_enter Try.func27, Try.ntmps27
      go_wp2
      go_ret
      exact ⟨rfl, rfl⟩
theorem Down_any {dp : Nat} {v0 v1 : Value} {D : Dk} (w : World) (h : DiskIn w dp v0 v1 D) :
    Calls Try.prog 27 #[.pointer (some ⟨dp, 0, none⟩)] w fun e w' => e = .returned (.bool D.down) ∧ w = w' :=
  Down_at dp D.armed D.left D.down rfl w (h.cell 5 _ rfl) (h.cell 6 _ rfl)

/-! ### find -/
theorem find_nil (n : Int) (w : World) : Calls Try.prog 32 #[.pointer none, .int .i64 n] w fun e w' => e = .returned (.tuple #[.int .u8 0, .int .i64 2]) ∧ w = w' := by
  go_enter Try.func32, Try.ntmps32
  go_wp2
  go_ret2
  exact ⟨rfl, rfl⟩
theorem find_down {dp : Nat} {v0 v1 : Value} {D : Dk} (n : Int) (w : World) (h : DiskIn w dp v0 v1 D) (hd : D.down = true) :
    Calls Try.prog 32 #[.pointer (some ⟨dp, 0, none⟩), .int .i64 n] w fun e w' => e = .returned (.tuple #[.int .u8 0, .int .i64 7]) ∧ w = w' := by
  go_enter Try.func32, Try.ntmps32
  go_wp2_with fail
  refine (Down_any w h).mono ?_
  rw [hd]
  rintro e w' ⟨rfl, rfl⟩
  clear hd
  go_wp2
  go_ret2
  exact ⟨rfl, rfl⟩
theorem find_ok {dp : Nat} {v0 v1 : Value} {D : Dk} (n : Nat) (hn : n < 2) (w : World) (h : DiskIn w dp v0 v1 D) (hd : D.down = false) :
    Calls Try.prog 32 #[.pointer (some ⟨dp, 0, none⟩), .int .i64 (n : Int)] w fun e w' => e = .returned (.tuple #[.int .u8 (n : Int), .int .i64 0]) ∧ w = w' := by
  go_enter Try.func32, Try.ntmps32
  go_wp2_with fail
  refine (Down_any w h).mono ?_
  rw [hd]
  rintro e w' ⟨rfl, rfl⟩
  clear hd
  go_wp2_with fail
  refine (keyOf_ok n hn _).mono ?_
  rintro e w' ⟨rfl, rfl⟩
  go_wp2
  go_ret2
  exact ⟨rfl, rfl⟩
theorem find_bad {dp : Nat} {v0 v1 : Value} {D : Dk} (n : Int) (hn : ¬ (n = 0 ∨ n = 1)) (w : World) (h : DiskIn w dp v0 v1 D) (hd : D.down = false) :
    Calls Try.prog 32 #[.pointer (some ⟨dp, 0, none⟩), .int .i64 n] w fun e w' => e = .returned (.tuple #[.int .u8 0, .int .i64 1]) ∧ w = w' := by
  go_enter Try.func32, Try.ntmps32
  go_wp2_with fail
  refine (Down_any w h).mono ?_
  rw [hd]
  rintro e w' ⟨rfl, rfl⟩
  clear hd
  go_wp2_with fail
  refine (keyOf_bad n hn _).mono ?_
  rintro e w' ⟨rfl, rfl⟩
  go_wp2
  go_ret2
  exact ⟨rfl, rfl⟩
end Go.Proofs.Ytblhabiginckbaa
