/-
  The document's own disk (rickref03): how it lies in memory; the calls that only read; step, Sync, Append, Cut.
-/
import Derived.Test.YtblhabiginckbaaDskV
import Derived.BigRegion
namespace Go.Proofs.Ytblhabiginckbaa
open Go.RowKit

def rkCells (D : Dk) (u0 u1 kv : Value) : Array Value := #[.int .i64 (D.room : Int), u0, .int .i64 (D.f0.s : Int), u1, .int .i64 (D.f1.s : Int), .bool D.armed, .int .i64 (D.left : Int), kv]
/-- A list of integers that is its own, or nil: what Keep holds. -/
def KeepIs (w : World) (B : Nat) (kv : Value) (D : Dk) : Prop := ∃ zs : List Int, w.ownsRow B 3 1 kv zs.length (zs.map (Value.int .i64)) ∧ (D.armed = true → D.k0 = zs.getD 0 0 ∧ D.k1 = zs.getD 1 0)
/-- The document's disk at rp; its rows lie at B or above, apart from rp. -/
structure RefIn (w : World) (B rp : Nat) (u0 u1 kv : Value) (D : Dk) : Prop where
  block : w.heap[rp]? = some (.cells (rkCells D u0 u1 kv) 66 (0, 0))
  own0 : w.ownsRow B 5 1 u0 D.f0.b.length (Lib.byteCells D.f0.b)
  own1 : w.ownsRow B 5 1 u1 D.f1.b.length (Lib.byteCells D.f1.b)
  keep : KeepIs w B kv D
  base : B ≤ rp
  ne0 : u0.ownBlock ≠ some rp
  ne1 : u1.ownBlock ≠ some rp
  nek : kv.ownBlock ≠ some rp
/-- All blocks of it. -/
def rfeet (rp : Nat) (u0 u1 kv : Value) (k : Nat) : Prop := k = rp ∨ u0.ownBlock = some k ∨ u1.ownBlock = some k ∨ kv.ownBlock = some k
theorem RefIn.kept {w w' : World} {B rp : Nat} {u0 u1 kv : Value} {D : Dk} (h : RefIn w B rp u0 u1 kv D) {S : Nat → Prop} (hk : Keep S w w') (hS : ∀ k, rfeet rp u0 u1 kv k → ¬ S k) : RefIn w' B rp u0 u1 kv D := by
  obtain ⟨zs, hz, hzk⟩ := h.keep
  exact ⟨(hk.block rp (lt_of_block h.block) (hS rp (.inl rfl))).trans h.block, hk.owns h.own0 fun k e => hS k (.inr (.inl e)), hk.owns h.own1 fun k e => hS k (.inr (.inr (.inl e))), ⟨zs, hk.owns hz fun k e => hS k (.inr (.inr (.inr e))), hzk⟩, h.base, h.ne0, h.ne1, h.nek⟩
theorem RefIn.below {w w' : World} {B rp : Nat} {u0 u1 kv : Value} {D : Dk} (h : RefIn w B rp u0 u1 kv D) (hb : Below w.heap.size w w') : RefIn w' B rp u0 u1 kv D :=
  h.kept (S := fun _ => False) (Keep.ofBelow hb) fun _ _ h => h
theorem RefIn.foot_lt {w : World} {B rp : Nat} {u0 u1 kv : Value} {D : Dk} (h : RefIn w B rp u0 u1 kv D) {k : Nat} (hk : rfeet rp u0 u1 kv k) : B ≤ k ∧ k < w.heap.size := by
  obtain ⟨zs, hz, _⟩ := h.keep
  rcases hk with rfl | e | e | e
  · exact ⟨h.base, lt_of_block h.block⟩
  · exact h.own0.lt k e
  · exact h.own1.lt k e
  · exact hz.lt k e
/-- What a call leaves. -/
structure RDid (w w' : World) (rp : Nat) (u0 u1 kv u0' u1' kv' : Value) : Prop where
  keep : Keep (· = rp) w w'
  new : ∀ k, rfeet rp u0' u1' kv' k → rfeet rp u0 u1 kv k ∨ w.heap.size ≤ k
theorem RDid.refl (w : World) (rp : Nat) (u0 u1 kv : Value) : RDid w w rp u0 u1 kv u0 u1 kv := ⟨Keep.refl _ _, fun _ h => .inl h⟩
theorem RDid.trans {a b c : World} {rp : Nat} {u0 u1 uk x0 x1 xk y0 y1 yk : Value} (h : RDid a b rp u0 u1 uk x0 x1 xk) (k : RDid b c rp x0 x1 xk y0 y1 yk) : RDid a c rp u0 u1 uk y0 y1 yk :=
  ⟨h.keep.trans k.keep, fun i hi => (k.new i hi).elim (h.new i) (fun e => .inr (Nat.le_trans h.keep.size e))⟩
theorem RDid.put {w : World} {rp : Nat} {u0 u1 kv : Value} (i : Nat) (u : Value) : RDid w (w.setCell ⟨rp, i, none⟩ u) rp u0 u1 kv u0 u1 kv :=
  ⟨(Keep.refl (fun x => x = rp) w).setCell (p := ⟨rp, i, none⟩) rfl u, fun _ h => .inl h⟩
theorem RDid.ofBelow {w w' : World} {rp : Nat} {u0 u1 kv : Value} (h : Below w.heap.size w w') : RDid w w' rp u0 u1 kv u0 u1 kv := ⟨Keep.ofBelow h, fun _ h => .inl h⟩
section
variable {w : World} {B rp : Nat} {u0 u1 kv : Value} {D : Dk} (h : RefIn w B rp u0 u1 kv D)
include h
theorem RefIn.cell (i : Nat) (v : Value) (hv : (rkCells D u0 u1 kv)[i]? = some v) : w.cell? ⟨rp, i, none⟩ = some v := blk_cell h.block hv
theorem RefIn.free (i : Nat) : w.frozen? ⟨rp, i, none⟩ = false := blk_free h.block
theorem RefIn.c0 : w.cell? ⟨rp, 0, none⟩ = some (.int .i64 (D.room : Int)) := h.cell 0 _ rfl
theorem RefIn.c1 : w.cell? ⟨rp, 1, none⟩ = some u0 := h.cell 1 _ rfl
theorem RefIn.c2 : w.cell? ⟨rp, 2, none⟩ = some (.int .i64 (D.f0.s : Int)) := h.cell 2 _ rfl
theorem RefIn.c3 : w.cell? ⟨rp, 3, none⟩ = some u1 := h.cell 3 _ rfl
theorem RefIn.c4 : w.cell? ⟨rp, 4, none⟩ = some (.int .i64 (D.f1.s : Int)) := h.cell 4 _ rfl
theorem RefIn.c5 : w.cell? ⟨rp, 5, none⟩ = some (.bool D.armed) := h.cell 5 _ rfl
theorem RefIn.c6 : w.cell? ⟨rp, 6, none⟩ = some (.int .i64 (D.left : Int)) := h.cell 6 _ rfl
theorem RefIn.c7 : w.cell? ⟨rp, 7, none⟩ = some kv := h.cell 7 _ rfl
end
theorem RefIn.put {w : World} {B rp : Nat} {u0 u1 kv : Value} {D D' : Dk} (h : RefIn w B rp u0 u1 kv D) (i : Nat) (u : Value) (hc : (rkCells D u0 u1 kv).setIfInBounds i u = rkCells D' u0 u1 kv) (h0 : D'.f0.b = D.f0.b) (h1 : D'.f1.b = D.f1.b) (hk : D'.armed = D.armed ∧ D'.k0 = D.k0 ∧ D'.k1 = D.k1) : RefIn (w.setCell ⟨rp, i, none⟩ u) B rp u0 u1 kv D' := by
  obtain ⟨zs, hz, hzk⟩ := h.keep
  exact ⟨by rw [blk_set h.block, hc], by rw [h0]; exact ownsRow_setCell_other h.own0 (a := ⟨rp, i, none⟩) h.ne0 _, by rw [h1]; exact ownsRow_setCell_other h.own1 (a := ⟨rp, i, none⟩) h.ne1 _, ⟨zs, ownsRow_setCell_other hz (a := ⟨rp, i, none⟩) h.nek _, by rw [hk.1, hk.2.1, hk.2.2]; exact hzk⟩, h.base, h.ne0, h.ne1, h.nek⟩

/-! ### Down, ask, step -/
set_option maxHeartbeats 400000 in
theorem RDown_at (dp : Nat) (a : Bool) (l : Nat) (x : Bool) (hx : (a && l == 0) = x) (w : World) (h5 : w.cell? ⟨dp, 5, none⟩ = some (.bool a)) (h6 : w.cell? ⟨dp, 6, none⟩ = some (.int .i64 (l : Int))) :
    Calls Try.prog 38 #[.pointer (some ⟨dp, 0, none⟩)] w fun e w' => e = .returned (.bool x) ∧ w = w' := by
  cases a
  · have hx' : x = false := by rw [← hx]; rfl
    subst hx'
    clear hx
    go_enter Try.func38, Try.ntmps38
    go_wp2
    go_ret
    exact ⟨rfl, rfl⟩
  · by_cases hl : l = 0
    · subst hl
      have hx' : x = true := by rw [← hx]; rfl
      subst hx'
      clear hx
      go_enter Try.func38, Try.ntmps38
      go_wp2
      go_ret
      exact ⟨rfl, rfl⟩
    · have hx' : x = false := by rw [← hx]; simpa using hl
      subst hx'
      have hc : ((l : Int) == 0) = false := by simpa using hl
      clear hx hl
      go_enter Try.func38, Try.ntmps38
      go_wp2
      go_ret
      exact ⟨rfl, rfl⟩
theorem RDown_any {B rp : Nat} {u0 u1 kv : Value} {D : Dk} (w : World) (h : RefIn w B rp u0 u1 kv D) :
    Calls Try.prog 38 #[.pointer (some ⟨rp, 0, none⟩)] w fun e w' => e = .returned (.bool D.down) ∧ w = w' :=
  RDown_at rp D.armed D.left D.down rfl w h.c5 h.c6
theorem Rask_any {B rp : Nat} {u0 u1 kv : Value} {D : Dk} (n : Int) (w : World) (h : RefIn w B rp u0 u1 kv D) :
    Calls Try.prog 35 #[.pointer (some ⟨rp, 0, none⟩), .int .i64 n] w fun e w' => e = .returned (.int .i64 (D.ask n)) ∧ w = w' := by
  rcases D.ask_cases n with ⟨hd, ha⟩ | ⟨hd, hn, ha⟩ | ⟨hd, hn, ha⟩ | ⟨hd, hn, ha⟩
  · rw [ha]
    go_enter Try.func35, Try.ntmps35
    go_wp2_with fail
    refine (RDown_any w h).mono ?_
    rw [hd]
    rintro e w' ⟨rfl, rfl⟩
    clear hd ha
    go_wp2
    go_ret
    exact ⟨rfl, rfl⟩
  · rw [ha]
    subst hn
    go_enter Try.func35, Try.ntmps35
    go_wp2_with fail
    refine (RDown_any w h).mono ?_
    rw [hd]
    rintro e w' ⟨rfl, rfl⟩
    clear hd ha
    go_wp2
    go_ret
    exact ⟨rfl, rfl⟩
  · rw [ha]
    subst hn
    go_enter Try.func35, Try.ntmps35
    go_wp2_with fail
    refine (RDown_any w h).mono ?_
    rw [hd]
    rintro e w' ⟨rfl, rfl⟩
    clear hd ha
    go_wp2
    go_ret
    exact ⟨rfl, rfl⟩
  · rw [ha]
    by_cases hneg : n < 0
    · clear hn
      go_enter Try.func35, Try.ntmps35
      go_wp2_with fail
      refine (RDown_any w h).mono ?_
      rw [hd]
      rintro e w' ⟨rfl, rfl⟩
      clear hd ha
      go_wp2
      go_ret
      exact ⟨rfl, rfl⟩
    · have h2 : 2 ≤ n := by omega
      have h0 : 0 ≤ n := by omega
      clear hn hneg
      go_enter Try.func35, Try.ntmps35
      go_wp2_with fail
      refine (RDown_any w h).mono ?_
      rw [hd]
      rintro e w' ⟨rfl, rfl⟩
      clear hd ha
      go_wp2
      go_ret
      exact ⟨rfl, rfl⟩
theorem Rstep_any {B rp : Nat} {u0 u1 kv : Value} {D : Dk} (w : World) (h : RefIn w B rp u0 u1 kv D) (hd : D.down = false) (hl : D.left ≤ 9223372036854775807) :
    Calls Try.prog 36 #[.pointer (some ⟨rp, 0, none⟩)] w fun e w' => e = .returned (.int .i64 0) ∧ RefIn w' B rp u0 u1 kv D.step ∧ RDid w w' rp u0 u1 kv u0 u1 kv := by
  have h5 := h.c5
  have h6 := h.c6
  have f6 := h.free 6
  cases ha : D.armed
  · rw [ha] at h5
    rw [show D.step = D by unfold Dk.step; rw [ha]; rfl]
    clear ha
    go_enter Try.func36, Try.ntmps36
    go_wp2
    go_ret
    exact ⟨rfl, h, RDid.refl _ _ _ _ _⟩
  · rw [ha] at h5
    rw [show D.step = { D with left := D.left - 1 } by unfold Dk.step; rw [ha]; rfl]
    obtain ⟨m, hm⟩ : ∃ m : Nat, D.left = m + 1 := by
      unfold Dk.down at hd
      rw [ha] at hd
      have : D.left ≠ 0 := by simpa using hd
      exact ⟨D.left - 1, by omega⟩
    have hP := h.put (D' := { D with left := D.left - 1 }) 6 (.int .i64 (m : Int)) (by rw [hm]; rfl) rfl rfl ⟨rfl, rfl, rfl⟩
    have HP := hid hP
    have hx : ((D.left : Nat) : Int) = (m : Int) + 1 := by omega
    rw [hx] at h6
    have hmb : (m : Int) ≤ 9223372036854775806 := by omega
    clear ha hd hl hm hx hP
    go_enter Try.func36, Try.ntmps36
    go_wp2
    go_ret
    refine ⟨rfl, ?_, ?_⟩
    · have := HP.out
      simpa using this
    · exact RDid.put _ _
end Go.Proofs.Ytblhabiginckbaa
