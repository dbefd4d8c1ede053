/-
  What package octets' Writer does: each call by a contract.
-/
import Derived.Test.YtjnhgoedhggocaaDoorBase
import Derived.Deep.RegionHeld3
import Derived.Deep.AppendLies
import Derived.Deep.DrawnRows
namespace Go.Proofs.YtjnhgoedhggocaaDoor
open Go.RowKit

set_option maxHeartbeats 400000 in
theorem held_any (n : Int) (w : World) :
    Calls Tryd.prog 36 #[.int .i64 n] w fun e w' => e = .returned (.int .i64 (heldN n : Int)) ∧ w = w' := by
  go_enter Tryd.func36, Tryd.ntmps36
  go_wp2
  all_goals
    go_ret
    exact ⟨ret_int (by unfold heldN; omega), rfl⟩

/-- A Writer: its one cell holds the slice v, which owns bs. -/
structure Wr (w : World) (B bw : Nat) (v : Value) (bs : List UInt8) : Prop where
  block : w.heap[bw]? = some (.cells #[v] 51 (0, 0))
  own : w.ownsRow B 5 1 v bs.length (Lib.byteCells bs)

theorem Wr.ne {w : World} {B bw : Nat} {v : Value} {bs : List UInt8} (h : Wr w B bw v bs) : some bw ≠ v.ownBlock := by
  rcases h.own.2 with ⟨hv, _⟩ | ⟨g, cap, cur, hv, _, hg, _⟩
  · subst hv; simp [Value.ownBlock]
  · subst hv
    intro e
    simp [Value.ownBlock] at e
    subst e
    have := h.block.symm.trans hg
    simp at this

theorem Wr.far' {w wx w1 : World} {B bw : Nat} {v : Value} {bs : List UInt8} (h : Wr w B bw v bs) (hx : Keep (fun _ => False) w wx) (hg : wx.grownBy w1 v.ownBlock) :
    w1.heap[bw]? = some (.cells #[v] 51 (0, 0)) := by
  have hlt := lt_of_block h.block
  have := hx.size
  rw [hg.block bw (by omega) h.ne, hx.block bw hlt (fun h => h)]
  exact h.block
theorem Wr.far {w w1 : World} {B bw : Nat} {v : Value} {bs : List UInt8} (h : Wr w B bw v bs) {c : Array Value} {t : TypeId} (hg : ((w.alloc (.cells c t)).drew).grownBy w1 v.ownBlock) :
    w1.heap[bw]? = some (.cells #[v] 51 (0, 0)) := h.far' ((Keep.refl _ _).alloc _).drew hg

/-- What a Writer's call leaves: all blocks but its own two stay; its row is the old one, or new. -/
structure Foot (w w' : World) (bw : Nat) (v v' : Value) : Prop where
  keep : Keep (fun k => k = bw ∨ v.ownBlock = some k) w w'
  row : v'.ownBlock = v.ownBlock ∨ ∃ g, v'.ownBlock = some g ∧ w.heap.size ≤ g

theorem Foot.refl (w : World) (bw : Nat) (v : Value) : Foot w w bw v v := ⟨Keep.refl _ _, .inl rfl⟩
theorem Foot.trans {a b c : World} {bw : Nat} {u v x : Value} (h : Foot a b bw u v) (k : Foot b c bw v x) : Foot a c bw u x := by
  have hs := h.keep.size
  refine ⟨⟨k.keep.os.trans h.keep.os, k.keep.tape.trans h.keep.tape, k.keep.output.trans h.keep.output, Nat.le_trans hs k.keep.size, fun i hi hb => ?_⟩, ?_⟩
  · have hv : ¬ (i = bw ∨ v.ownBlock = some i) := by
      rintro (e | e)
      · exact hb (.inl e)
      · rcases h.row with e' | ⟨g, e', hg⟩
        · exact hb (.inr (e'.symm.trans e))
        · rw [e'] at e; simp at e; omega
    exact (k.keep.block i (Nat.lt_of_lt_of_le hi hs) hv).trans (h.keep.block i hi hb)
  · rcases k.row with e | ⟨g, e, hg⟩
    · rcases h.row with e' | ⟨g, e', hg⟩
      · exact .inl (e.trans e')
      · exact .inr ⟨g, e.trans e', hg⟩
    · exact .inr ⟨g, e, Nat.le_trans hs hg⟩

/-- Some bytes more are written: an append, and the store of what it came to. -/
theorem Wr.put {w wx w1 : World} {B bw : Nat} {v0 v v1 : Value} {bs cs : List UInt8} (h : Wr w B bw v bs) (hx : Keep (fun _ => False) w wx) (hg : wx.grownBy w1 v.ownBlock)
    {n : Nat} {xs : List Value} (hown : w1.ownsRow B 5 1 v1 n xs) (hn : n = bs.length + cs.length) (hxs : xs = Lib.byteCells bs ++ Lib.byteCells cs) (hat : v1.ownBlock = v.ownBlock ∨ v1.ownBlock = some wx.heap.size) {w0 : World} (hf : Foot w0 w bw v0 v) :
    Wr (w1.setCell ⟨bw, 0, none⟩ v1) B bw v1 (bs ++ cs) ∧ Foot w0 (w1.setCell ⟨bw, 0, none⟩ v1) bw v0 v1 := by
  have hlt := lt_of_block h.block
  have hsx := hx.size
  have hfar := h.far' hx hg
  have hne : v1.ownBlock ≠ some bw := by
    rcases hat with e | e
    · rw [e]; exact fun e => h.ne e.symm
    · rw [e]; simp; omega
  refine ⟨⟨one_setCell hfar, ?_⟩, hf.trans ⟨⟨hg.os.trans hx.os, hg.tape.trans hx.tape, hg.output.trans hx.output, ?_, fun k hk hkb => ?_⟩, ?_⟩⟩
  · subst hn hxs
    rw [List.length_append, Lib.byteCells_append]
    exact ownsRow_setCell_other hown (a := ⟨bw, 0, none⟩) hne _
  · have := hg.size
    simp [World.setCell]
    omega
  · rw [Below.heap_setCell _ _ _ _ (fun e => hkb (.inl e)), hg.block k (by omega) (fun e => hkb (.inr e.symm))]
    exact hx.block k hk (fun h => h)
  · rcases hat with e | e
    · exact .inl e
    · exact .inr ⟨_, e, hsx⟩

set_option maxRecDepth 100000 in
set_option maxHeartbeats 400000 in
theorem Num_any (B bw : Nat) (v : Value) (bs : List UInt8) (x n : Int) (h0 : 0 ≤ x) (w : World) (hw : Wr w B bw v bs) (hB : B ≤ w.heap.size) (hlen : bs.length + 8 ≤ 70368744177664) :
    Calls Tryd.prog 23 #[.pointer (some ⟨bw, 0, none⟩), .int .u64 x, .int .i64 n] w fun e w' => e = .returned (.tuple #[]) ∧
      ∃ v', Wr w' B bw v' (bs ++ lowBytes x.toNat (heldN n)) ∧ Foot w w' bw v v' := by
  go_enter Tryd.func23, Tryd.ntmps23
  have hh := heldN_bd n
  go_wp2_with (go_at_call 36; refine (held_any _ _).mono ?_; rintro e w' ⟨rfl, rfl⟩)
  obtain ⟨i0, hi0, hz0, hz1, hz2⟩ := info_parts Tryd.info5
  go_loopw [11] (fun i wr => ∃ k : Nat, k ≤ heldN n ∧ i = .int .i64 k ∧ ∃ v', Wr wr B bw v' (bs ++ lowBytes x.toNat k) ∧ Foot w wr bw v v')
    (fun i _ => heldN n - (intOf i).toNat)
  case atStart => exact ⟨0, Nat.zero_le _, rfl, v, by simpa [lowBytes] using hw, Foot.refl _ _ _⟩
  case round =>
    obtain ⟨k, hk, rfl, v', hw', hf⟩ := hrel
    by_cases hlt : k < heldN n
    · have hc := cell_of_one hw'.block
      have hfr := free_of_one hw'.block
      have hk8 : k < 8 := by omega
      have hbw := lt_of_block hw'.block
      have hsz := hf.keep.size
      have h47 : ((bs ++ lowBytes x.toNat k).length + 1) * 1 ≤ 140737488355328 := by simp [lowBytes_length]; omega
      have h63 : (bs ++ lowBytes x.toNat k).length + 1 ≤ maxLen := by unfold maxLen; omega
      have hwr : IntKind.i64.wrap (8 * (k : Int)) = 8 * (k : Int) := IntWalk.i64_in _ (by omega)
      have h80 : (0 : Int) ≤ 8 * (k : Int) := by omega
      have h81 : (8 : Int) * (k : Int) ≤ 64 := by omega
      have h82 : (8 * (k : Int)).toNat = 8 * k := by omega
      have hnew := World.new_ne wr _ hc
      have hfz := fun (c : Array Value) (t : TypeId) => frozen?_alloc_cells wr c t ⟨bw, 0, none⟩
      go_wp2_with fail
      go_region_law
        ((refine step_append_any _ (by rfl) _ _ _ _ (by rfl) B 5 i0 _ 1 1 Tryd.underlying22 hi0 hz0 hz1 hz2 rfl (by omega) v' _ _ (by rfl) ((hw'.own.alloc _).drew) _ 1 [_] (by rfl) (Src.ofSlice _ Tryd.underlying22 ⟨wr.heap.size, 0, none⟩ 1 1 [_] (by rfl) (World.news_of_block (cs := #[_]) (t := 5) (fr := (0, 0)) (heap_alloc_new wr _)) (by simp [Value.oneCell'])) h63 h47 (by simp; omega) ?_; intro v1 w1 hown1 hgrow hat; obtain ⟨ao, cp, rfl⟩ := owns_form hown1; have q1 := cell_of_one (hw'.far hgrow); have q2 := free_of_one (hw'.far hgrow)))
      all_goals
        have R := hw'.put (cs := [UInt8.ofNat (x.toNat / 2 ^ (8 * k))]) ((Keep.refl _ _).alloc _).drew hgrow hown1 rfl (by rw [byteCells_snoc_int _ _ h0, Lib.byteCells_append]) hat hf
        rw [List.append_assoc, ← lowBytes_snoc] at R
        clear hown1 hgrow hat q1 q2
        simp only [List.length_append] at R
        go_wp2
        go_roundw
        case rel => exact ⟨k + 1, by omega, by go_num, _, by simpa using R.1, by simpa using R.2⟩
        case measure => simp [intOf]; omega
    · obtain rfl : k = heldN n := by omega
      go_wp2
      go_end0
      exact ⟨rfl, v', hw', hf⟩
end Go.Proofs.YtjnhgoedhggocaaDoor
