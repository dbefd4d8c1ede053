/-
  What package octets' Writer does: each call by a contract. slices.Clone at bytes. The Writer's Bytes. What package octets' Reader does: each call by a contract. What is read of bytes, what is left, what is wrong: plain mathematics. What package octets' Reader does, said once for all states: what is read, what is left, what is wrong. Package octets' Read. What package octets' Writer does, the rest: Int, Text, Bool, Bytes; and all of them at nil. What package octets' Reader does, the rest: Text, Bool, at nil; Read; and 'two texts of bytes' (rickhelp.Bytes). Writers and Readers that stay. What is written is read: the plain mathematics of numbers in bytes. The document's own reader (rickref01): take, Num. What the document's own Reader (rickref01) does: each call by a contract, in the words that package octets' Reader has: what is taken, left, wrong. The document's own writer (rickref01): Num. What the document's own writers (rickref01 Num, Int, Text, Bool) do: each call by a contract: new memory that owns the bytes.
-/
import Derived.Test.YtbcpfakdmnccmaaDoorBase
import Derived.Deep.RegionHeld3
import Derived.Deep.AppendLies
import Derived.Deep.DrawnRows
import Derived.Test.YtbcpfakdmnccmaaDoorLaw2
import Derived.Test.YtbcpfakdmnccmaaDoorLaw3
import Derived.Deep.QuietTactic
import Derived.BigQuiet
namespace Go.Proofs.YtbcpfakdmnccmaaDoor
open Go.RowKit

set_option maxHeartbeats 400000 in
theorem held_any (n : Int) (w : World) :
    Calls Tryd.prog 53 #[.int .i64 n] w fun e w' => e = .returned (.int .i64 (heldN n : Int)) ∧ w = w' := by
  go_enter Tryd.func53, Tryd.ntmps53
  go_wp2
  all_goals
    go_ret
    exact ⟨ret_int (by unfold heldN; omega), rfl⟩

/-- A Writer: its one cell holds the slice v, which owns bs. -/
structure Wr (w : World) (B bw : Nat) (v : Value) (bs : List UInt8) : Prop where
  block : w.heap[bw]? = some (.cells #[v] 82 (0, 0))
  own : w.ownsRow B 5 1 v bs.length (Lib.byteCells bs)

theorem Wr.ne {w : World} {B bw : Nat} {v : Value} {bs : List UInt8} (h : Wr w B bw v bs) : some bw ≠ v.ownBlock := by
  rcases h.own.2 with ⟨hv, _⟩ | ⟨g, cap, cur, hv, _, hg, _⟩
  · subst hv; simp [Value.ownBlock]
  · subst hv
    intro e
    simp [Value.ownBlock] at e
    subst e
    have := h.block.symm.trans hg
    simp at this

theorem Wr.far' {w wx w1 : World} {B bw : Nat} {v : Value} {bs : List UInt8} (h : Wr w B bw v bs) (hx : Keep (fun _ => False) w wx) (hg : wx.grownBy w1 v.ownBlock) :
    w1.heap[bw]? = some (.cells #[v] 82 (0, 0)) := by
  have hlt := lt_of_block h.block
  have := hx.size
  rw [hg.block bw (by omega) h.ne, hx.block bw hlt (fun h => h)]
  exact h.block
theorem Wr.far {w w1 : World} {B bw : Nat} {v : Value} {bs : List UInt8} (h : Wr w B bw v bs) {c : Array Value} {t : TypeId} (hg : ((w.alloc (.cells c t)).drew).grownBy w1 v.ownBlock) :
    w1.heap[bw]? = some (.cells #[v] 82 (0, 0)) := h.far' ((Keep.refl _ _).alloc _).drew hg

/-- What a Writer's call leaves: all blocks but its own two stay; its row is the old one, or new. -/
structure Foot (w w' : World) (bw : Nat) (v v' : Value) : Prop where
  keep : Keep (fun k => k = bw ∨ v.ownBlock = some k) w w'
  row : v'.ownBlock = v.ownBlock ∨ ∃ g, v'.ownBlock = some g ∧ w.heap.size ≤ g

theorem Foot.refl (w : World) (bw : Nat) (v : Value) : Foot w w bw v v := ⟨Keep.refl _ _, .inl rfl⟩
theorem Foot.trans {a b c : World} {bw : Nat} {u v x : Value} (h : Foot a b bw u v) (k : Foot b c bw v x) : Foot a c bw u x := by
  have hs := h.keep.size
  refine ⟨⟨k.keep.os.trans h.keep.os, k.keep.tape.trans h.keep.tape, k.keep.output.trans h.keep.output, Nat.le_trans hs k.keep.size, fun i hi hb => ?_⟩, ?_⟩
  · have hv : ¬ (i = bw ∨ v.ownBlock = some i) := by
      rintro (e | e)
      · exact hb (.inl e)
      · rcases h.row with e' | ⟨g, e', hg⟩
        · exact hb (.inr (e'.symm.trans e))
        · rw [e'] at e; simp at e; omega
    exact (k.keep.block i (Nat.lt_of_lt_of_le hi hs) hv).trans (h.keep.block i hi hb)
  · rcases k.row with e | ⟨g, e, hg⟩
    · rcases h.row with e' | ⟨g, e', hg⟩
      · exact .inl (e.trans e')
      · exact .inr ⟨g, e.trans e', hg⟩
    · exact .inr ⟨g, e, Nat.le_trans hs hg⟩

/-- Some bytes more are written: an append, and the store of what it came to. -/
theorem Wr.put {w wx w1 : World} {B bw : Nat} {v0 v v1 : Value} {bs cs : List UInt8} (h : Wr w B bw v bs) (hx : Keep (fun _ => False) w wx) (hg : wx.grownBy w1 v.ownBlock)
    {n : Nat} {xs : List Value} (hown : w1.ownsRow B 5 1 v1 n xs) (hn : n = bs.length + cs.length) (hxs : xs = Lib.byteCells bs ++ Lib.byteCells cs) (hat : v1.ownBlock = v.ownBlock ∨ v1.ownBlock = some wx.heap.size) {w0 : World} (hf : Foot w0 w bw v0 v) :
    Wr (w1.setCell ⟨bw, 0, none⟩ v1) B bw v1 (bs ++ cs) ∧ Foot w0 (w1.setCell ⟨bw, 0, none⟩ v1) bw v0 v1 := by
  have hlt := lt_of_block h.block
  have hsx := hx.size
  have hfar := h.far' hx hg
  have hne : v1.ownBlock ≠ some bw := by
    rcases hat with e | e
    · rw [e]; exact fun e => h.ne e.symm
    · rw [e]; simp; omega
  refine ⟨⟨one_setCell hfar, ?_⟩, hf.trans ⟨⟨hg.os.trans hx.os, hg.tape.trans hx.tape, hg.output.trans hx.output, ?_, fun k hk hkb => ?_⟩, ?_⟩⟩
  · subst hn hxs
    rw [List.length_append, Lib.byteCells_append]
    exact ownsRow_setCell_other hown (a := ⟨bw, 0, none⟩) hne _
  · have := hg.size
    simp [World.setCell]
    omega
  · rw [Below.heap_setCell _ _ _ _ (fun e => hkb (.inl e)), hg.block k (by omega) (fun e => hkb (.inr e.symm))]
    exact hx.block k hk (fun h => h)
  · rcases hat with e | e
    · exact .inl e
    · exact .inr ⟨_, e, hsx⟩

set_option maxRecDepth 100000 in
set_option maxHeartbeats 400000 in
theorem Num_any (B bw : Nat) (v : Value) (bs : List UInt8) (x n : Int) (h0 : 0 ≤ x) (w : World) (hw : Wr w B bw v bs) (hB : B ≤ w.heap.size) (hlen : bs.length + 8 ≤ 70368744177664) :
    Calls Tryd.prog 30 #[.pointer (some ⟨bw, 0, none⟩), .int .u64 x, .int .i64 n] w fun e w' => e = .returned (.tuple #[]) ∧
      ∃ v', Wr w' B bw v' (bs ++ lowBytes x.toNat (heldN n)) ∧ Foot w w' bw v v' := by
  go_enter Tryd.func30, Tryd.ntmps30
  have hh := heldN_bd n
  go_wp2_with (go_at_call 53; refine (held_any _ _).mono ?_; rintro e w' ⟨rfl, rfl⟩)
  obtain ⟨i0, hi0, hz0, hz1, hz2⟩ := info_parts Tryd.info5
  go_loopw [11] (fun i wr => ∃ k : Nat, k ≤ heldN n ∧ i = .int .i64 k ∧ ∃ v', Wr wr B bw v' (bs ++ lowBytes x.toNat k) ∧ Foot w wr bw v v')
    (fun i _ => heldN n - (intOf i).toNat)
  case atStart => exact ⟨0, Nat.zero_le _, rfl, v, by simpa [lowBytes] using hw, Foot.refl _ _ _⟩
  case round =>
    obtain ⟨k, hk, rfl, v', hw', hf⟩ := hrel
    by_cases hlt : k < heldN n
    · have hc := cell_of_one hw'.block
      have hfr := free_of_one hw'.block
      have hk8 : k < 8 := by omega
      have hbw := lt_of_block hw'.block
      have hsz := hf.keep.size
      have h47 : ((bs ++ lowBytes x.toNat k).length + 1) * 1 ≤ 140737488355328 := by simp [lowBytes_length]; omega
      have h63 : (bs ++ lowBytes x.toNat k).length + 1 ≤ maxLen := by unfold maxLen; omega
      have hwr : IntKind.i64.wrap (8 * (k : Int)) = 8 * (k : Int) := IntWalk.i64_in _ (by omega)
      have h80 : (0 : Int) ≤ 8 * (k : Int) := by omega
      have h81 : (8 : Int) * (k : Int) ≤ 64 := by omega
      have h82 : (8 * (k : Int)).toNat = 8 * k := by omega
      have hnew := World.new_ne wr _ hc
      have hfz := fun (c : Array Value) (t : TypeId) => frozen?_alloc_cells wr c t ⟨bw, 0, none⟩
      go_wp2_with fail
      go_region_law
        ((refine step_append_any _ (by rfl) _ _ _ _ (by rfl) B 5 i0 _ 1 1 Tryd.underlying32 hi0 hz0 hz1 hz2 rfl (by omega) v' _ _ (by rfl) ((hw'.own.alloc _).drew) _ 1 [_] (by rfl) (Src.ofSlice _ Tryd.underlying32 ⟨wr.heap.size, 0, none⟩ 1 1 [_] (by rfl) (World.news_of_block (cs := #[_]) (t := 5) (fr := (0, 0)) (heap_alloc_new wr _)) (by simp [Value.oneCell'])) h63 h47 (by simp; omega) ?_; intro v1 w1 hown1 hgrow hat; obtain ⟨ao, cp, rfl⟩ := owns_form hown1; have q1 := cell_of_one (hw'.far hgrow); have q2 := free_of_one (hw'.far hgrow)))
      all_goals
        have R := hw'.put (cs := [UInt8.ofNat (x.toNat / 2 ^ (8 * k))]) ((Keep.refl _ _).alloc _).drew hgrow hown1 rfl (by rw [byteCells_snoc_int _ _ h0, Lib.byteCells_append]) hat hf
        rw [List.append_assoc, ← lowBytes_snoc] at R
        clear hown1 hgrow hat q1 q2
        simp only [List.length_append] at R
        go_wp2
        go_roundw
        case rel => exact ⟨k + 1, by omega, by go_num, _, by simpa using R.1, by simpa using R.2⟩
        case measure => simp [intOf]; omega
    · obtain rfl : k = heldN n := by omega
      go_wp2
      go_end0
      exact ⟨rfl, v', hw', hf⟩
end Go.Proofs.YtbcpfakdmnccmaaDoor

namespace Go.Proofs.YtbcpfakdmnccmaaDoor
open Go.RowKit

set_option maxHeartbeats 400000 in
/-- slices.Clone, of a slice that can be read. -/
theorem Clone_any (v : Value) (bs : List UInt8) (w : World) (hv : Sl w v (Lib.byteCells bs)) (hlen : bs.length ≤ 70368744177664) :
    Calls Tryd.prog 55 #[v] w fun e w' => ∃ v', e = .returned v' ∧ w'.ownsRow w.heap.size 5 1 v' bs.length (Lib.byteCells bs) ∧ Below w.heap.size w w' := by
  obtain ⟨ao, cap, rfl, hn, hcap, hc⟩ := hv
  obtain ⟨i0, hi0, hz0, hz1, hz2⟩ := info_parts Tryd.info5
  have hbl : (Lib.byteCells bs).length = bs.length := Lib.byteCells_length bs
  cases ao with
  | none =>
    have hb : Lib.byteCells bs = [] := hn rfl
    have hb' : bs = [] := by simpa [Lib.byteCells] using hb
    subst hb'
    show Calls Tryd.prog 55 #[.slice none 0 cap] w _
    have he := fun wx => Lib.run_eql_slice_nil (P := Tryd.prog) wx 32 5 none 0 cap 0 0 Tryd.underlying32
    go_enter Tryd.func55, Tryd.ntmps55
    go_wp2
    go_ret
    exact ⟨_, rfl, World.ownsRow_nil _ _ _ _, Below.refl _ _⟩
  | some a =>
    have hv : Sl w (.slice (some a) (Lib.byteCells bs).length cap) (Lib.byteCells bs) := ⟨some a, cap, rfl, hn, hcap, hc⟩
    have he := fun wx => Lib.run_eql_slice_nil (P := Tryd.prog) wx 32 5 (some a) (Lib.byteCells bs).length cap 0 0 Tryd.underlying32
    have hbs := run_buildSlice_none (P := Tryd.prog) w 32 5 Tryd.underlying32 hi0
    have H := hid hbl
    have h63 : 0 + (Lib.byteCells bs).length ≤ maxLen := by unfold maxLen; omega
    have h47 : (0 + (Lib.byteCells bs).length) * 1 ≤ 140737488355328 := by omega
    clear hbl hlen hc hn hcap
    go_enter Tryd.func55, Tryd.ntmps55
    go_wp2_with (refine wpList_append_any _ rfl _ _ _ _ rfl w.heap.size 5 i0 _ 1 1 Tryd.underlying32 hi0 hz0 hz1 hz2 rfl (by omega) (.slice (some ⟨w.heap.size, 0, none⟩) 0 0) 0 [] rfl (World.ownsRow_made w #[] 0 (Nat.le_refl _) (by unfold maxLen; omega) rfl) _ _ _ rfl ((hv.alloc _).src Tryd.underlying32 (byte_one bs)) h63 h47 (by simp) ?_; intro v1 w1 hown hgrow hat; have hbel := ((Below.refl w.heap.size w).alloc (Nat.le_refl _) (.cells #[] 5)).grown hgrow (by simp) (by simp [Value.ownBlock]))
    go_ret
    rw [Nat.zero_add, List.nil_append, H.out] at hown
    exact ⟨v1, rfl, hown, hbel⟩
end Go.Proofs.YtbcpfakdmnccmaaDoor

namespace Go.Proofs.YtbcpfakdmnccmaaDoor
open Go.RowKit

theorem Bytes_nil (w : World) : Calls Tryd.prog 34 #[.pointer none] w fun e w' => e = .returned (.slice none 0 0) ∧ w = w' := by
  go_enter Tryd.func34, Tryd.ntmps34
  go_wp2
  go_ret
  exact ⟨rfl, rfl⟩

set_option maxHeartbeats 400000 in
/-- Bytes: new memory. -/
theorem Bytes_any (B bw : Nat) (v : Value) (bs : List UInt8) (w : World) (hw : Wr w B bw v bs) (hlen : bs.length ≤ 70368744177664) :
    Calls Tryd.prog 34 #[.pointer (some ⟨bw, 0, none⟩)] w fun e w' => ∃ v', e = .returned v' ∧ w'.ownsRow w.heap.size 5 1 v' bs.length (Lib.byteCells bs) ∧ Below w.heap.size w w' := by
  have hc := cell_of_one hw.block
  go_enter Tryd.func34, Tryd.ntmps34
  go_wp2_with fail
  refine (Clone_any v bs w (Sl.ofOwns hw.own) hlen).mono ?_
  rintro e w' ⟨v', rfl, hown, hbel⟩
  go_wp2
  go_ret
  exact ⟨v', rfl, hown, hbel⟩
end Go.Proofs.YtbcpfakdmnccmaaDoor

namespace Go.Proofs.YtbcpfakdmnccmaaDoor
open Go.RowKit

/-- A Reader: what is left, and what went wrong. -/
structure Rd (w : World) (br : Nat) (l : List UInt8) (e : Int) : Prop where
  ex : ∃ v, w.heap[br]? = some (.cells #[v, .int .i64 e] 99 (0, 0)) ∧ Sl w v (Lib.byteCells l) ∧ ∀ a n c, v = .slice (some a) n c → a.block < br

theorem Rd.kept {w w' : World} {br : Nat} {l : List UInt8} {e : Int} {S : Nat → Prop} (h : Rd w br l e) (hk : Keep S w w') (hb : ¬ S br) (hs : ∀ v, w.heap[br]? = some (.cells #[v, .int .i64 e] 99 (0, 0)) → ∀ a n c, v = .slice (some a) n c → ¬ S a.block) : Rd w' br l e := by
  obtain ⟨v, h1, h2, h3⟩ := h.ex
  exact ⟨v, (hk.block br (lt_of_block h1) hb).trans h1, h2.kept (fun a n c e hlt => hk.block _ hlt (hs v h1 a n c e)), h3⟩


/-- What a later block does leaves a Reader as it was. -/
theorem Rd.far {w w' : World} {br rr : Nat} {l : List UInt8} {e : Int} (h : Rd w br l e) (hk : Keep (· = rr) w w') (hr : br < rr) : Rd w' br l e := by
  obtain ⟨v, h1, h2, h3⟩ := h.ex
  exact ⟨v, (hk.block br (lt_of_block h1) (by show ¬ br = rr; omega)).trans h1, h2.kept (fun a n c e hlt => hk.block _ hlt (by have := h3 a n c e; show ¬ _ = rr; omega)), h3⟩

section
set_option maxRecDepth 100000
set_option maxHeartbeats 400000

theorem Err_any (br : Nat) (l : List UInt8) (c : Int) (w : World) (h : Rd w br l c) :
    Calls Tryd.prog 61 #[.pointer (some ⟨br, 0, none⟩)] w fun e w' => e = .returned (.int .i64 c) ∧ w = w' := by
  obtain ⟨v, hb, _, _⟩ := h.ex
  have hc := blk_cell (i := 1) hb rfl
  go_enter Tryd.func61, Tryd.ntmps61
  go_wp2
  go_ret
  exact ⟨rfl, rfl⟩
theorem Err_nil (w : World) : Calls Tryd.prog 61 #[.pointer none] w fun e w' => e = .returned (.int .i64 2) ∧ w = w' := by
  go_enter Tryd.func61, Tryd.ntmps61
  go_wp2
  go_ret
  exact ⟨rfl, rfl⟩

theorem Left_any (br : Nat) (l : List UInt8) (c : Int) (w : World) (h : Rd w br l c) :
    Calls Tryd.prog 65 #[.pointer (some ⟨br, 0, none⟩)] w fun e w' => e = .returned (.int .i64 l.length) ∧ w = w' := by
  obtain ⟨v, hb, ⟨ao, cap, rfl, hn, hcap, _⟩, _⟩ := h.ex
  have hc := blk_cell (i := 0) hb rfl
  rw [Lib.byteCells_length] at hc
  go_enter Tryd.func65, Tryd.ntmps65
  go_wp2
  go_ret
  exact ⟨rfl, rfl⟩
theorem Left_nil (w : World) : Calls Tryd.prog 65 #[.pointer none] w fun e w' => e = .returned (.int .i64 0) ∧ w = w' := by
  go_enter Tryd.func65, Tryd.ntmps65
  go_wp2
  go_ret
  exact ⟨rfl, rfl⟩

theorem fail_any (br : Nat) (l : List UInt8) (c d : Int) (w : World) (h : Rd w br l c) :
    Calls Tryd.prog 79 #[.pointer (some ⟨br, 0, none⟩), .int .i64 d] w fun e w' => e = .returned (.tuple #[]) ∧ Rd w' br [] d ∧ Keep (· = br) w w' := by
  obtain ⟨v, hb, hs, _⟩ := h.ex
  have hc := blk_cell (i := 0) hb rfl
  have hc1 := blk_cell (i := 1) hb rfl
  have hf := blk_free (i := 0) hb
  have hf1 := blk_free (i := 1) hb
  go_enter Tryd.func79, Tryd.ntmps79
  go_wp2
  go_end0
  refine ⟨rfl, ⟨.slice none 0 0, ?_, Sl.nil _, fun a n c e => by cases e⟩, ((Keep.refl (· = br) w).setCell rfl _).setCell rfl _⟩
  exact blk_set (blk_set hb)

theorem take_bad (br : Nat) (l : List UInt8) (c n : Int) (w : World) (h : Rd w br l c) (hc : c ≠ 0) :
    Calls Tryd.prog 77 #[.pointer (some ⟨br, 0, none⟩), .int .i64 n] w fun e w' => e = .returned (.slice none 0 0) ∧ w = w' := by
  go_enter Tryd.func77, Tryd.ntmps77
  go_wp2_with fail
  refine (Err_any br l c _ h).mono ?_
  rintro e w' ⟨rfl, rfl⟩
  go_wp2
  go_ret
  exact ⟨rfl, rfl⟩

theorem take_short (br : Nat) (l : List UInt8) (n : Int) (w : World) (h : Rd w br l 0) (hn : (l.length : Int) < n) :
    Calls Tryd.prog 77 #[.pointer (some ⟨br, 0, none⟩), .int .i64 n] w fun e w' => e = .returned (.slice none 0 0) ∧ Rd w' br [] 4 ∧ Keep (· = br) w w' := by
  obtain ⟨v, hb, ⟨ao, cap, rfl, _, hcap, _⟩, _⟩ := h.ex
  have hc := blk_cell (i := 0) hb rfl
  rw [Lib.byteCells_length] at hc
  go_enter Tryd.func77, Tryd.ntmps77
  go_wp2_with fail
  refine (Err_any br l 0 _ h).mono ?_
  rintro e w' ⟨rfl, rfl⟩
  go_wp2_with fail
  refine (fail_any br l 0 4 _ h).mono ?_
  rintro e w' ⟨rfl, hr, hk⟩
  go_wp2
  go_ret
  exact ⟨rfl, hr, hk⟩

theorem take_ok (br : Nat) (l : List UInt8) (n : Nat) (w : World) (h : Rd w br l 0) (hn : n ≤ l.length) :
    Calls Tryd.prog 77 #[.pointer (some ⟨br, 0, none⟩), .int .i64 n] w fun e w' => ∃ v ao cap, v = .slice ao n cap ∧ e = .returned v ∧ Sl w' v (Lib.byteCells (l.take n)) ∧ Rd w' br (l.drop n) 0 ∧ Keep (· = br) w w' := by
  obtain ⟨i0, hi0, hz0, hz1, hz2⟩ := info_parts Tryd.info5
  obtain ⟨v, hb, hs, hfar⟩ := h.ex
  obtain ⟨v1, r1, s1, f1, ao1, c1, rfl⟩ := run_slice_to (P := Tryd.prog) 32 5 Tryd.underlying32 hi0 hs n (by simpa [Lib.byteCells_length] using hn)
  obtain ⟨v2, r2, s2, f2, ao2, c2, rfl⟩ := run_slice_from (P := Tryd.prog) 32 5 Tryd.underlying32 hi0 hz1 hs n (by simpa [Lib.byteCells_length] using hn)
  obtain ⟨ao, cap, rfl, _, hcap, _⟩ := hs
  have hc := blk_cell (i := 0) hb rfl
  have hf := blk_free (i := 0) hb
  rw [Lib.byteCells_length] at hc r1 r2
  have hle : (n : Int) ≤ (l.length : Int) := by omega
  go_enter Tryd.func77, Tryd.ntmps77
  go_wp2_with fail
  refine (Err_any br l 0 _ h).mono ?_
  rintro e w' ⟨rfl, rfl⟩
  go_wp2
  go_ret
  have g1 : ∀ a k c, Value.slice ao1 n c1 = .slice (some a) k c → a.block < br := fun a k c e => by
    obtain ⟨a', k', c', e', hb'⟩ := f1 a k c e
    rw [hb']
    exact hfar a' k' c' e'
  have g2 : ∀ a k c, Value.slice ao2 ((Lib.byteCells l).length - n) c2 = .slice (some a) k c → a.block < br := fun a k c e => by
    obtain ⟨a', k', c', e', hb'⟩ := f2 a k c e
    rw [hb']
    exact hfar a' k' c' e'
  rw [Lib.byteCells_length] at g2 s2
  rw [← byteCells_take] at s1
  rw [← byteCells_drop] at s2
  refine ⟨_, ao1, c1, rfl, rfl, s1.kept fun a k c e _ => Below.heap_setCell _ _ _ _ (Nat.ne_of_lt (g1 a k c e)), ⟨_, blk_set hb, s2.kept fun a k c e _ => Below.heap_setCell _ _ _ _ (Nat.ne_of_lt (g2 a k c e)), g2⟩, (Keep.refl (· = br) w).setCell rfl _⟩

theorem Num_ok (br : Nat) (l : List UInt8) (n : Int) (w : World) (h : Rd w br l 0) (hn : heldN n ≤ l.length) :
    Calls Tryd.prog 60 #[.pointer (some ⟨br, 0, none⟩), .int .i64 n] w fun e w' => e = .returned (.int .u64 (numOf (l.take (heldN n)) : Nat)) ∧ Rd w' br (l.drop (heldN n)) 0 ∧ Keep (· = br) w w' := by
  go_enter Tryd.func60, Tryd.ntmps60
  go_wp2_with fail
  refine (held_any n _).mono ?_
  rintro e w' ⟨rfl, rfl⟩
  go_wp2_with fail
  refine (take_ok br l (heldN n) _ h hn).mono ?_
  rintro e w' ⟨v, ao, cap, rfl, rfl, hs, hr, hkk⟩
  have hh := heldN_bd n
  obtain ⟨m, hm⟩ : ∃ m, m = l.take (heldN n) := ⟨_, rfl⟩
  have hml : Hid (m.length = heldN n) := by show m.length = heldN n; rw [hm, List.length_take]; omega
  rw [← hm] at hs
  have hm' := hid hm
  clear hm
  go_wp2
  go_loop [5, 13] (fun x i => ∃ k : Nat, k ≤ heldN n ∧ i = .int .i64 k ∧ x = .int .u64 (numOf (m.take k) : Nat)) (fun _ i => heldN n - (intOf i).toNat)
  case atStart => exact ⟨0, Nat.zero_le _, rfl, rfl⟩
  case round =>
    obtain ⟨k, hk, rfl, rfl⟩ := hrel
    by_cases hlt : k < heldN n
    · obtain ⟨a, b, rfl, hcell, hb⟩ := hs.byteAt' (i := k) (by rw [hml.out]; exact hlt)
      have hwr : IntKind.i64.wrap (8 * (k : Int)) = 8 * (k : Int) := IntWalk.i64_in _ (by omega)
      have h80 : (0 : Int) ≤ 8 * (k : Int) := by omega
      have h81 : (8 : Int) * (k : Int) ≤ 64 := by omega
      have h82 : (8 * (k : Int)).toNat = 8 * k := by omega
      have HB := hid hb
      clear hb
      have hor := or_step (numOf (m.take k)) b.toNat k (by
        have h1 := numOf_lt (m.take k)
        have h2 : (m.take k).length = k := by rw [List.length_take, hml.out]; omega
        rwa [h2] at h1) b.toNat_lt (by omega)
      have h2 : (m.take k).length = k := by rw [List.length_take, hml.out]; omega
      have hs2 := numOf_snoc (m.take k) b
      rw [h2, ← take_snoc HB.out] at hs2
      rw [← hs2] at hor
      have HO := hid hor
      clear hor hs2 h2
      go_wp2
      go_round
      case rel => exact ⟨k + 1, by omega, by go_num, by rw [HO.out]⟩
      case measure => simp [intOf]; omega
    · obtain rfl : k = heldN n := by omega
      have hk0 := hid (show heldN n = m.length from hml.out.symm)
      go_wp2
      go_ret
      refine ⟨?_, hr, hkk⟩
      rw [← hm'.out, hk0.out, List.take_length]
      rfl
end
end Go.Proofs.YtbcpfakdmnccmaaDoor

namespace Go.Proofs.YtbcpfakdmnccmaaDoor
open Go.RowKit

/-- h bytes are asked for: what is taken, what is left, what is wrong then. -/
def stV (h : Nat) (l : List UInt8) (c : Int) : List UInt8 := if c ≠ 0 then [] else if l.length < h then [] else l.take h
def stL (h : Nat) (l : List UInt8) (c : Int) : List UInt8 := if c ≠ 0 then l else if l.length < h then [] else l.drop h
def stE (h : Nat) (l : List UInt8) (c : Int) : Int := if c ≠ 0 then c else if l.length < h then 4 else 0

theorem st_bad {h : Nat} {l : List UInt8} {c : Int} (hc : c ≠ 0) : stV h l c = [] ∧ stL h l c = l ∧ stE h l c = c := by simp [stV, stL, stE, hc]
theorem st_short {h : Nat} {l : List UInt8} (hl : l.length < h) : stV h l 0 = [] ∧ stL h l 0 = [] ∧ stE h l 0 = 4 := by simp [stV, stL, stE, hl]
theorem st_ok {h : Nat} {l : List UInt8} (hl : h ≤ l.length) : stV h l 0 = l.take h ∧ stL h l 0 = l.drop h ∧ stE h l 0 = 0 := by simp [stV, stL, stE, Nat.not_lt.2 hl]

/-- What Int answers. -/
def intV (l : List UInt8) (c : Int) : Int := if stE 4 l c = 0 then (numOf (stV 4 l c) : Int) - 1 else 0
theorem intV_ok {l : List UInt8} {c : Int} (h : stE 4 l c = 0) : intV l c = (numOf (stV 4 l c) : Int) - 1 := by simp [intV, h]
theorem intV_bad {l : List UInt8} {c : Int} (h : stE 4 l c ≠ 0) : intV l c = 0 := by simp [intV, h]
theorem stV_lt (h : Nat) (l : List UInt8) (c : Int) : numOf (stV h l c) < 2 ^ (8 * h) := by
  refine Nat.lt_of_lt_of_le (numOf_lt _) (Nat.pow_le_pow_right (by omega) ?_)
  unfold stV
  split
  · simp
  · split
    · simp
    · rw [List.length_take]; omega
/-- What a number's low bytes make. -/
theorem numOf_lowBytes (v n : Nat) : numOf (lowBytes v n) = v % 2 ^ (8 * n) := by
  induction n generalizing v with
  | zero => simp [lowBytes, numOf, Nat.mod_one]
  | succ n ih =>
    rw [lowBytes, numOf, ih, UInt8.toNat_ofNat', show 8 * (n + 1) = 8 + 8 * n from by omega, Nat.pow_add, Nat.mod_mul]
end Go.Proofs.YtbcpfakdmnccmaaDoor

namespace Go.Proofs.YtbcpfakdmnccmaaDoor
open Go.RowKit

section
set_option maxRecDepth 100000
set_option maxHeartbeats 400000

theorem take_all (br : Nat) (l : List UInt8) (c : Int) (n : Nat) (w : World) (h : Rd w br l c) :
    Calls Tryd.prog 77 #[.pointer (some ⟨br, 0, none⟩), .int .i64 n] w fun e w' => ∃ v, e = .returned v ∧ Sl w' v (Lib.byteCells (stV n l c)) ∧ Rd w' br (stL n l c) (stE n l c) ∧ Keep (· = br) w w' := by
  by_cases hc : c = 0
  · subst hc
    by_cases hl : n ≤ l.length
    · obtain ⟨e1, e2, e3⟩ := st_ok hl
      rw [e1, e2, e3]
      exact (take_ok br l n w h hl).mono fun e w' ⟨v, _, _, _, h1, h2, h3, h4⟩ => ⟨v, h1, h2, h3, h4⟩
    · obtain ⟨e1, e2, e3⟩ := st_short (Nat.lt_of_not_le hl)
      rw [e1, e2, e3]
      exact (take_short br l n w h (by omega)).mono fun e w' ⟨h1, h3, h4⟩ => ⟨_, h1, Sl.nil _, h3, h4⟩
  · obtain ⟨e1, e2, e3⟩ := st_bad (h := n) (l := l) hc
    rw [e1, e2, e3]
    exact (take_bad br l c n w h hc).mono fun e w' ⟨h1, h2⟩ => by subst h2; exact ⟨_, h1, Sl.nil _, h, Keep.refl _ _⟩

theorem Num_bad (br : Nat) (l : List UInt8) (c n : Int) (w : World) (h : Rd w br l c) (hc : c ≠ 0) :
    Calls Tryd.prog 60 #[.pointer (some ⟨br, 0, none⟩), .int .i64 n] w fun e w' => e = .returned (.int .u64 0) ∧ w = w' := by
  go_enter Tryd.func60, Tryd.ntmps60
  go_wp2_with fail
  refine (held_any n _).mono ?_
  rintro e w' ⟨rfl, rfl⟩
  go_wp2_with fail
  refine (take_bad br l c _ _ h hc).mono ?_
  rintro e w' ⟨rfl, rfl⟩
  go_wp2
  refine wp_loop_rounds 1 ?_
  rw [rounds_succ]
  go_wp2
  go_ret
  exact ⟨rfl, rfl⟩
theorem Num_short (br : Nat) (l : List UInt8) (n : Int) (w : World) (h : Rd w br l 0) (hn : l.length < heldN n) :
    Calls Tryd.prog 60 #[.pointer (some ⟨br, 0, none⟩), .int .i64 n] w fun e w' => e = .returned (.int .u64 0) ∧ Rd w' br [] 4 ∧ Keep (· = br) w w' := by
  go_enter Tryd.func60, Tryd.ntmps60
  go_wp2_with fail
  refine (held_any n _).mono ?_
  rintro e w' ⟨rfl, rfl⟩
  go_wp2_with fail
  refine (take_short br l _ _ h (by omega)).mono ?_
  rintro e w' ⟨rfl, hr, hk⟩
  go_wp2
  refine wp_loop_rounds 1 ?_
  rw [rounds_succ]
  go_wp2
  go_ret
  exact ⟨rfl, hr, hk⟩

theorem Num_all (br : Nat) (l : List UInt8) (c n : Int) (w : World) (h : Rd w br l c) :
    Calls Tryd.prog 60 #[.pointer (some ⟨br, 0, none⟩), .int .i64 n] w fun e w' => e = .returned (.int .u64 (numOf (stV (heldN n) l c) : Nat)) ∧ Rd w' br (stL (heldN n) l c) (stE (heldN n) l c) ∧ Keep (· = br) w w' := by
  by_cases hc : c = 0
  · subst hc
    by_cases hl : heldN n ≤ l.length
    · obtain ⟨e1, e2, e3⟩ := st_ok hl
      rw [e1, e2, e3]
      exact Num_ok br l n w h hl
    · obtain ⟨e1, e2, e3⟩ := st_short (Nat.lt_of_not_le hl)
      rw [e1, e2, e3]
      exact Num_short br l n w h (by omega)
  · obtain ⟨e1, e2, e3⟩ := st_bad (h := heldN n) (l := l) hc
    rw [e1, e2, e3]
    exact (Num_bad br l c n w h hc).mono fun e w' ⟨h1, h2⟩ => by subst h2; exact ⟨h1, h, Keep.refl _ _⟩

theorem RInt_all (br : Nat) (l : List UInt8) (c : Int) (w : World) (h : Rd w br l c) :
    Calls Tryd.prog 78 #[.pointer (some ⟨br, 0, none⟩)] w fun e w' => e = .returned (.int .i64 (intV l c)) ∧ Rd w' br (stL 4 l c) (stE 4 l c) ∧ Keep (· = br) w w' := by
  have hlt := stV_lt 4 l c
  go_enter Tryd.func78, Tryd.ntmps78
  go_wp2_with fail
  refine (Num_all br l c 4 w h).mono ?_
  rw [show heldN 4 = 4 from rfl]
  rintro e w1 ⟨rfl, hr, hk⟩
  go_wp2_with fail
  refine (Err_any br _ _ w1 hr).mono ?_
  rintro e w' ⟨rfl, rfl⟩
  by_cases he : stE 4 l c = 0
  · have hi := hid (intV_ok he)
    have h1 : ((numOf (stV 4 l c) : Nat) : Int) < 4294967296 := by omega
    have h0 : (0 : Int) ≤ ((numOf (stV 4 l c) : Nat) : Int) := by omega
    have he' : (stE 4 l c == 0) = true := by simp [he]
    have he2 : (stE 4 l c != 0) = false := by simp [he]
    clear he hlt
    go_wp2
    go_ret
    refine ⟨?_, hr, hk⟩
    rw [hi.out]
    rfl
  · have hi := hid (intV_bad he)
    have he' : (stE 4 l c == 0) = false := by simp [he]
    have he2 : (stE 4 l c != 0) = true := by simp [he]
    clear he hlt
    go_wp2
    go_ret
    refine ⟨?_, hr, hk⟩
    rw [hi.out]
    rfl
end
end Go.Proofs.YtbcpfakdmnccmaaDoor

namespace Go.Proofs.YtbcpfakdmnccmaaDoor
open Go.RowKit

set_option maxRecDepth 100000 in
set_option maxHeartbeats 400000 in
/-! ### Read -/
theorem Read_any (v : Value) (bs : List UInt8) (w : World) (hv : Sl w v (Lib.byteCells bs)) (hlen : bs.length ≤ 70368744177664) :
    Calls Tryd.prog 59 #[v] w fun e w' => ∃ br, e = .returned (.pointer (some ⟨br, 0, none⟩)) ∧ Rd w' br bs 0 ∧ w.heap.size ≤ br ∧ br < w'.heap.size ∧ Below w.heap.size w w' := by
  go_enter Tryd.func59, Tryd.ntmps59
  go_wp2_with fail
  refine (Clone_any v bs w hv hlen).mono ?_
  rintro e w1 ⟨v', rfl, hown, hbel⟩
  obtain ⟨ao, cap, rfl⟩ := owns_form hown
  have hz := hbel.size
  go_wp2
  go_ret
  refine ⟨w1.heap.size, rfl, ⟨_, heap_alloc_new w1 _, (Sl.ofOwns hown).alloc _, fun a n c e => ?_⟩, hz, by simp, hbel.alloc hz _⟩
  have := (hown.lt a.block (by rw [e]; rfl)).2
  omega
end Go.Proofs.YtbcpfakdmnccmaaDoor

namespace Go.Proofs.YtbcpfakdmnccmaaDoor
open Go.RowKit

/-- v and 1, as 64 bits. -/
def incr (v : Int) : Int := IntKind.u64.wrap (IntKind.u64.wrap v + 1)
theorem incr_nonneg (v : Int) : 0 ≤ incr v := by unfold incr; simp only [IntKind.wrap, IntKind.signed, IntKind.bits]; simp; omega
def intBytes (v : Int) : List UInt8 := lowBytes (incr v).toNat 4
theorem intBytes_length (v : Int) : (intBytes v).length = 4 := lowBytes_length _ _

set_option maxHeartbeats 400000 in
theorem Int_any (B bw : Nat) (v : Value) (bs : List UInt8) (x : Int) (w : World) (hw : Wr w B bw v bs) (hB : B ≤ w.heap.size) (hlen : bs.length + 8 ≤ 70368744177664) :
    Calls Tryd.prog 54 #[.pointer (some ⟨bw, 0, none⟩), .int .i64 x] w fun e w' => e = .returned (.tuple #[]) ∧
      ∃ v', Wr w' B bw v' (bs ++ intBytes x) ∧ Foot w w' bw v v' := by
  go_enter Tryd.func54, Tryd.ntmps54
  have h4 : heldN 4 = 4 := rfl
  go_wp2_with fail
  refine (Num_any B bw v bs _ 4 (incr_nonneg x) w hw hB hlen).mono ?_
  rintro e w' ⟨rfl, v', hw', hf⟩
  rw [h4] at hw'
  clear h4
  go_wp2
  go_end0
  exact ⟨rfl, v', hw', hf⟩

theorem Num_nil (x n : Int) (w : World) : Calls Tryd.prog 30 #[.pointer none, .int .u64 x, .int .i64 n] w fun e w' => e = .returned (.tuple #[]) ∧ w = w' := by
  go_enter Tryd.func30, Tryd.ntmps30
  go_wp2
  exact ret0 rfl rfl ⟨rfl, rfl⟩
theorem Int_nil (x : Int) (w : World) : Calls Tryd.prog 54 #[.pointer none, .int .i64 x] w fun e w' => e = .returned (.tuple #[]) ∧ w = w' := by
  go_enter Tryd.func54, Tryd.ntmps54
  go_wp2_with fail
  refine (Num_nil _ _ _).mono ?_
  rintro e w' ⟨rfl, rfl⟩
  go_wp2
  go_end0
  exact ⟨rfl, rfl⟩
theorem Text_nil (s : ByteArray) (w : World) : Calls Tryd.prog 31 #[.pointer none, .string s] w fun e w' => e = .returned (.tuple #[]) ∧ w = w' := by
  go_enter Tryd.func31, Tryd.ntmps31
  go_wp2
  exact ret0 rfl rfl ⟨rfl, rfl⟩
theorem Bool_nil (b : Bool) (w : World) : Calls Tryd.prog 32 #[.pointer none, .bool b] w fun e w' => e = .returned (.tuple #[]) ∧ w = w' := by
  go_enter Tryd.func32, Tryd.ntmps32
  cases b
  all_goals
    go_wp2_with (go_at_call 30; refine (Num_nil _ _ _).mono ?_; rintro e w' ⟨rfl, rfl⟩)
    go_end0
    exact ⟨rfl, rfl⟩
set_option maxHeartbeats 400000 in
theorem Bool_any (B bw : Nat) (v : Value) (bs : List UInt8) (b : Bool) (w : World) (hw : Wr w B bw v bs) (hB : B ≤ w.heap.size) (hlen : bs.length + 8 ≤ 70368744177664) :
    Calls Tryd.prog 32 #[.pointer (some ⟨bw, 0, none⟩), .bool b] w fun e w' => e = .returned (.tuple #[]) ∧
      ∃ v', Wr w' B bw v' (bs ++ [if b then 1 else 0]) ∧ Foot w w' bw v v' := by
  cases b
  all_goals
    go_enter Tryd.func32, Tryd.ntmps32
    go_wp2_with fail
    refine (Num_any B bw v bs _ 1 (by omega) w hw hB hlen).mono ?_
    rintro e w' ⟨rfl, v', hw', hf⟩
    go_wp2
    go_end0
    exact ⟨rfl, v', hw', hf⟩

set_option maxHeartbeats 400000 in
theorem Text_any (B bw : Nat) (v : Value) (bs : List UInt8) (s : ByteArray) (w : World) (hw : Wr w B bw v bs) (hB : B ≤ w.heap.size) (hlen : bs.length + s.size + 8 ≤ 70368744177664) :
    Calls Tryd.prog 31 #[.pointer (some ⟨bw, 0, none⟩), .string s] w fun e w' => e = .returned (.tuple #[]) ∧
      ∃ v', Wr w' B bw v' (bs ++ intBytes s.size ++ s.data.toList) ∧ Foot w w' bw v v' := by
  obtain ⟨i0, hi0, hz0, hz1, hz2⟩ := info_parts Tryd.info5
  go_enter Tryd.func31, Tryd.ntmps31
  go_wp2_with fail
  refine (Int_any B bw v bs _ w hw hB (by omega)).mono ?_
  rintro e w1 ⟨rfl, v1, hw1, hf1⟩
  have hc := cell_of_one hw1.block
  have hB1 := hf1.keep.size
  have hl : (bs ++ intBytes s.size).length = bs.length + 4 := by simp [intBytes_length]
  have h63 : (bs ++ intBytes s.size).length + s.size ≤ maxLen := by unfold maxLen; omega
  have h47 : ((bs ++ intBytes s.size).length + s.size) * 1 ≤ 140737488355328 := by omega
  clear hl
  go_wp2_with (refine wpList_append_any _ rfl _ _ _ _ rfl B 5 i0 _ 1 1 Tryd.underlying32 hi0 hz0 hz1 hz2 rfl (by omega) v1 _ _ rfl hw1.own _ _ _ rfl (Src.ofString _ Tryd.underlying9 s) h63 h47 (by omega) ?_; intro v2 w2 hown hgrow hat; obtain ⟨ao, cp, rfl⟩ := owns_form hown; have R := hw1.put (cs := s.data.toList) (Keep.refl _ _) hgrow hown rfl rfl hat hf1; have q1 := cell_of_one (hw1.far' (Keep.refl _ _) hgrow); have q2 := free_of_one (hw1.far' (Keep.refl _ _) hgrow))
  go_end0
  simp only [List.length_append] at R
  exact ⟨rfl, _, R.1, R.2⟩
end Go.Proofs.YtbcpfakdmnccmaaDoor

namespace Go.Proofs.YtbcpfakdmnccmaaDoor
open Go.RowKit

/-- Text: what is read, left, wrong. -/
def txV (l : List UInt8) (c : Int) : List UInt8 := if intV l c < 0 then [] else stV (intV l c).toNat (stL 4 l c) (stE 4 l c)
def txL (l : List UInt8) (c : Int) : List UInt8 := if intV l c < 0 then [] else stL (intV l c).toNat (stL 4 l c) (stE 4 l c)
def txE (l : List UInt8) (c : Int) : Int := if intV l c < 0 then 5 else stE (intV l c).toNat (stL 4 l c) (stE 4 l c)
/-- Bool. -/
def blX (l : List UInt8) (c : Int) : Nat := numOf (stV 1 l c)
def blL (l : List UInt8) (c : Int) : List UInt8 := if 1 < blX l c then [] else stL 1 l c
def blE (l : List UInt8) (c : Int) : Int := if 1 < blX l c then 5 else stE 1 l c
def blV (l : List UInt8) (c : Int) : Bool := blX l c == 1

section
set_option maxRecDepth 100000
set_option maxHeartbeats 400000

theorem RText_all (br : Nat) (l : List UInt8) (c : Int) (w : World) (h : Rd w br l c) :
    Calls Tryd.prog 62 #[.pointer (some ⟨br, 0, none⟩)] w fun e w' => e = .returned (.string ⟨(txV l c).toArray⟩) ∧ Rd w' br (txL l c) (txE l c) ∧ Keep (· = br) w w' := by
  by_cases hn : intV l c < 0
  · have h1 : Hid (txV l c = [] ∧ txL l c = [] ∧ txE l c = 5) := hid (by simp [txV, txL, txE, hn])
    go_enter Tryd.func62, Tryd.ntmps62
    go_wp2_with fail
    refine (RInt_all br l c w h).mono ?_
    rintro e w1 ⟨rfl, hr, hk⟩
    go_wp2_with fail
    refine (fail_any br _ _ 5 w1 hr).mono ?_
    rintro e w2 ⟨rfl, hr2, hk2⟩
    go_wp2
    go_ret
    obtain ⟨e1, e2, e3⟩ := h1.out
    rw [e1, e2, e3]
    exact ⟨rfl, hr2, hk.trans hk2⟩
  · obtain ⟨m, hm⟩ := Int.eq_ofNat_of_zero_le (Int.not_lt.1 hn)
    have h1 : Hid (txV l c = stV m (stL 4 l c) (stE 4 l c) ∧ txL l c = stL m (stL 4 l c) (stE 4 l c) ∧ txE l c = stE m (stL 4 l c) (stE 4 l c)) := hid (by
      have : ¬ ((m : Int) < 0) := by omega
      simp [txV, txL, txE, hm, this])
    have hm' := hid hm
    clear hm hn
    have hm0 : (0 : Int) ≤ (m : Int) := Int.natCast_nonneg _
    go_enter Tryd.func62, Tryd.ntmps62
    go_wp2_with fail
    refine (RInt_all br l c w h).mono ?_
    rw [hm'.out]
    rintro e w1 ⟨rfl, hr, hk⟩
    go_wp2_with fail
    refine (take_all br _ _ m w1 hr).mono ?_
    rintro e w2 ⟨v, rfl, hs, hr2, hk2⟩
    have hcv := run_string_of (P := Tryd.prog) 32 9 5 Tryd.underlying32 Tryd.underlying5 Tryd.underlying9 hs
    go_wp2
    go_ret
    obtain ⟨e1, e2, e3⟩ := h1.out
    rw [e1, e2, e3]
    exact ⟨rfl, hr2, hk.trans hk2⟩

theorem RBool_all (br : Nat) (l : List UInt8) (c : Int) (w : World) (h : Rd w br l c) :
    Calls Tryd.prog 63 #[.pointer (some ⟨br, 0, none⟩)] w fun e w' => e = .returned (.bool (blV l c)) ∧ Rd w' br (blL l c) (blE l c) ∧ Keep (· = br) w w' := by
  by_cases hx : 1 < blX l c
  · have h1 : Hid (blV l c = false ∧ blL l c = [] ∧ blE l c = 5) := hid (by simp [blV, blL, blE, hx]; omega)
    unfold blX at hx
    go_enter Tryd.func63, Tryd.ntmps63
    go_wp2_with fail
    refine (Num_all br l c 1 w h).mono ?_
    rw [show heldN 1 = 1 from rfl]
    rintro e w1 ⟨rfl, hr, hk⟩
    go_wp2_with fail
    refine (fail_any br _ _ 5 w1 hr).mono ?_
    rintro e w2 ⟨rfl, hr2, hk2⟩
    go_wp2
    go_ret
    obtain ⟨e1, e2, e3⟩ := h1.out
    rw [e1, e2, e3]
    exact ⟨rfl, hr2, hk.trans hk2⟩
  · have h1 : Hid (blL l c = stL 1 l c ∧ blE l c = stE 1 l c) := hid (by simp [blL, blE, hx])
    have h2 : Hid (blV l c = (((numOf (stV 1 l c) : Nat) : Int) == 1)) := hid (by
      unfold blV blX
      rw [Bool.eq_iff_iff]
      simp
      omega)
    unfold blX at hx
    go_enter Tryd.func63, Tryd.ntmps63
    go_wp2_with fail
    refine (Num_all br l c 1 w h).mono ?_
    rw [show heldN 1 = 1 from rfl]
    rintro e w1 ⟨rfl, hr, hk⟩
    go_wp2
    go_ret
    obtain ⟨e2, e3⟩ := h1.out
    rw [e2, e3, h2.out]
    exact ⟨rfl, hr, hk⟩

/-! ### At nil -/
theorem RNum_nil (n : Int) (w : World) : Calls Tryd.prog 60 #[.pointer none, .int .i64 n] w fun e w' => e = .returned (.int .u64 0) ∧ w = w' := by
  have ht : Calls Tryd.prog 77 #[.pointer none, .int .i64 (heldN n : Int)] w fun e w' => e = .returned (.slice none 0 0) ∧ w = w' := by
    go_enter Tryd.func77, Tryd.ntmps77
    go_wp2_with fail
    refine (Err_nil _).mono ?_
    rintro e w' ⟨rfl, rfl⟩
    go_wp2
    go_ret
    exact ⟨rfl, rfl⟩
  have HT := hid ht
  clear ht
  go_enter Tryd.func60, Tryd.ntmps60
  go_wp2_with fail
  refine (held_any n _).mono ?_
  rintro e w' ⟨rfl, rfl⟩
  go_wp2_with fail
  refine HT.out.mono ?_
  rintro e w' ⟨rfl, rfl⟩
  go_wp2
  refine wp_loop_rounds 1 ?_
  rw [rounds_succ]
  go_wp2
  go_ret
  exact ⟨rfl, rfl⟩
theorem RInt_nil (w : World) : Calls Tryd.prog 78 #[.pointer none] w fun e w' => e = .returned (.int .i64 0) ∧ w = w' := by
  go_enter Tryd.func78, Tryd.ntmps78
  go_wp2_with fail
  refine (RNum_nil _ _).mono ?_
  rintro e w' ⟨rfl, rfl⟩
  go_wp2_with fail
  refine (Err_nil _).mono ?_
  rintro e w' ⟨rfl, rfl⟩
  go_wp2
  go_ret
  exact ⟨rfl, rfl⟩
theorem RBool_nil (w : World) : Calls Tryd.prog 63 #[.pointer none] w fun e w' => e = .returned (.bool false) ∧ w = w' := by
  go_enter Tryd.func63, Tryd.ntmps63
  go_wp2_with fail
  refine (RNum_nil _ _).mono ?_
  rintro e w' ⟨rfl, rfl⟩
  go_wp2
  go_ret
  exact ⟨rfl, rfl⟩
theorem RText_nil (w : World) : Calls Tryd.prog 62 #[.pointer none] w fun e w' => e = .returned (.string ⟨#[]⟩) ∧ w = w' := by
  have ht : Calls Tryd.prog 77 #[.pointer none, .int .i64 0] w fun e w' => e = .returned (.slice none 0 0) ∧ w = w' := by
    go_enter Tryd.func77, Tryd.ntmps77
    go_wp2_with fail
    refine (Err_nil _).mono ?_
    rintro e w' ⟨rfl, rfl⟩
    go_wp2
    go_ret
    exact ⟨rfl, rfl⟩
  have hcv := run_string_of (P := Tryd.prog) (w := w) (bs := []) 32 9 5 Tryd.underlying32 Tryd.underlying5 Tryd.underlying9 (Sl.nil w)
  have HT := hid ht
  clear ht
  go_enter Tryd.func62, Tryd.ntmps62
  go_wp2_with fail
  refine (RInt_nil _).mono ?_
  rintro e w' ⟨rfl, rfl⟩
  go_wp2_with fail
  refine HT.out.mono ?_
  rintro e w' ⟨rfl, rfl⟩
  go_wp2
  go_ret
  exact ⟨rfl, rfl⟩

theorem Same_bytes (a b : Value) (x y : List UInt8) (w : World) (ha : Sl w a (Lib.byteCells x)) (hb : Sl w b (Lib.byteCells y)) :
    Calls Tryd.prog 15 #[a, b] w fun e w' => e = .returned (.bool (x == y)) ∧ w = w' := by
  have h1 := run_string_of (P := Tryd.prog) 32 9 5 Tryd.underlying32 Tryd.underlying5 Tryd.underlying9 ha
  have h2 := run_string_of (P := Tryd.prog) 32 9 5 Tryd.underlying32 Tryd.underlying5 Tryd.underlying9 hb
  go_enter Tryd.func15, Tryd.ntmps15
  go_wp2
  go_ret
  exact ⟨rfl, rfl⟩
end
end Go.Proofs.YtbcpfakdmnccmaaDoor

namespace Go.Proofs.YtbcpfakdmnccmaaDoor
open Go.RowKit

theorem Wr.new (w : World) : Wr (w.alloc (.cells #[.slice none 0 0] 82)) w.heap.size w.heap.size (.slice none 0 0) [] :=
  ⟨heap_alloc_new w _, World.ownsRow_nil _ _ _ _⟩

/-- What a Writer's call does to blocks that were there before the Writer. -/
theorem Foot.below {w0 w w' : World} {B bw : Nat} {v v' : Value} {bs : List UInt8} (h : Foot w w' bw v v') (hw : Wr w B bw v bs) (hb : Below B w0 w) (hB : B ≤ w.heap.size) (hbw : B ≤ bw) : Below B w0 w' :=
  hb.trans (h.keep.below hB fun k hk => by
    rintro (e | e)
    · omega
    · have := (hw.own.lt k e).1; omega)

theorem Wr.kept {w w' : World} {B bw : Nat} {v : Value} {bs : List UInt8} {S : Nat → Prop} (h : Wr w B bw v bs) (hk : Keep S w w') (h1 : ¬ S bw) (h2 : ∀ k, v.ownBlock = some k → ¬ S k) : Wr w' B bw v bs :=
  ⟨(hk.block bw (lt_of_block h.block) h1).trans h.block, hk.owns h.own h2⟩
theorem Wr.old {w w' : World} {B bw : Nat} {v : Value} {bs : List UInt8} (h : Wr w B bw v bs) (hk : Below w.heap.size w w') : Wr w' B bw v bs :=
  h.kept (Keep.ofBelow (S := fun _ => False) hk) (fun h => h) (fun _ _ h => h)
theorem Rd.old {w w' : World} {br : Nat} {l : List UInt8} {e : Int} (h : Rd w br l e) (hk : Below w.heap.size w w') : Rd w' br l e :=
  h.kept (Keep.ofBelow (S := fun _ => False) hk) (fun h => h) (fun _ _ _ _ _ _ h => h)
theorem Rd.drew {w : World} {br : Nat} {l : List UInt8} {e : Int} (h : Rd w br l e) : Rd w.drew br l e := ⟨h.ex⟩
end Go.Proofs.YtbcpfakdmnccmaaDoor

namespace Go.Proofs.YtbcpfakdmnccmaaDoor
open Go.RowKit

theorem st_app {xs r : List UInt8} {h : Nat} (hl : xs.length = h) : stV h (xs ++ r) 0 = xs ∧ stL h (xs ++ r) 0 = r ∧ stE h (xs ++ r) 0 = 0 := by
  obtain ⟨e1, e2, e3⟩ := st_ok (h := h) (l := xs ++ r) (by rw [List.length_append]; omega)
  subst hl
  exact ⟨by rw [e1, List.take_left], by rw [e2, List.drop_left], e3⟩

theorem incr_in {n : Int} (h0 : -1 ≤ n) (h1 : n ≤ 4294967294) : (incr n).toNat = (n + 1).toNat := by
  unfold incr
  rw [IntKind.wrap_u64, IntKind.wrap_u64]
  omega
theorem intV_app {n : Int} {r : List UInt8} (h0 : -1 ≤ n) (h1 : n ≤ 4294967294) : intV (intBytes n ++ r) 0 = n := by
  obtain ⟨e1, e2, e3⟩ := st_app (r := r) (intBytes_length n)
  rw [intV_ok e3, e1]
  unfold intBytes
  rw [numOf_lowBytes, incr_in h0 h1]
  have : (2 : Nat) ^ (8 * 4) = 4294967296 := by decide
  rw [this]
  omega
theorem int_app (n : Int) (r : List UInt8) : stL 4 (intBytes n ++ r) 0 = r ∧ stE 4 (intBytes n ++ r) 0 = 0 := (st_app (intBytes_length n)).2

theorem text_app {s : ByteArray} {r : List UInt8} (hs : s.size ≤ 300) : txV (intBytes s.size ++ s.data.toList ++ r) 0 = s.data.toList ∧ txL (intBytes s.size ++ s.data.toList ++ r) 0 = r ∧ txE (intBytes s.size ++ s.data.toList ++ r) 0 = 0 := by
  rw [List.append_assoc]
  have hi := intV_app (n := (s.size : Int)) (r := s.data.toList ++ r) (by omega) (by omega)
  obtain ⟨e1, e2⟩ := int_app (s.size : Int) (s.data.toList ++ r)
  have hl : s.data.toList.length = s.size := Array.length_toList
  obtain ⟨f1, f2, f3⟩ := st_app (r := r) hl
  have hn : ¬ ((s.size : Int) < 0) := by omega
  unfold txV txL txE
  rw [hi, e1, e2, if_neg hn, if_neg hn, if_neg hn, Int.toNat_natCast, f1, f2, f3]
  exact ⟨rfl, rfl, rfl⟩

theorem bool_app (b : Bool) (r : List UInt8) : blV ((if b then 1 else 0 : UInt8) :: r) 0 = b ∧ blL ((if b then 1 else 0 : UInt8) :: r) 0 = r ∧ blE ((if b then 1 else 0 : UInt8) :: r) 0 = 0 := by
  cases b <;> simp [blV, blL, blE, blX, stV, stL, stE, numOf]

/-- 'v << (64-8n) >> (64-8n)': the lowest n bytes. -/
theorem low_shift (v h : Nat) (h1 : 1 ≤ h) (h8 : h ≤ 8) : (v * 2 ^ (64 - 8 * h)) % 18446744073709551616 / 2 ^ (64 - 8 * h) = v % 2 ^ (8 * h) := by
  have e : (18446744073709551616 : Nat) = 2 ^ (8 * h) * 2 ^ (64 - 8 * h) := by
    rw [← Nat.pow_add, show 8 * h + (64 - 8 * h) = 64 from by omega]
  rw [e, Nat.mul_mod_mul_right, Nat.mul_div_cancel _ (Nat.two_pow_pos _)]
end Go.Proofs.YtbcpfakdmnccmaaDoor

namespace Go.Proofs.YtbcpfakdmnccmaaDoor
open Go.RowKit

/-- The document's Reader: its bytes, where it stands, what is wrong; and what is left of it. -/
structure Rf (w : World) (rr H : Nat) (bs : List UInt8) (l : List UInt8) (c : Int) : Prop where
  ex : ∃ v p, w.heap[rr]? = some (.cells #[v, .int .i64 (p : Nat), .int .i64 c] 73 (0, 0)) ∧ Sl w v (Lib.byteCells bs) ∧ ((∀ a n c, v = .slice (some a) n c → bs ≠ [] → a.block < H) ∧ H ≤ rr) ∧ p ≤ bs.length ∧ bs.length ≤ 140737488355328 ∧ (c = 0 → l = bs.drop p) ∧ (c ≠ 0 → l = [])

theorem lo_far {v : Value} {bs : List UInt8} {H rr : Nat} (h : (∀ a n c, v = .slice (some a) n c → bs ≠ [] → a.block < H) ∧ H ≤ rr) : ∀ a n c, v = .slice (some a) n c → bs ≠ [] → a.block ≠ rr := fun a n c e hb => Nat.ne_of_lt (Nat.lt_of_lt_of_le (h.1 a n c e hb) h.2)
/-- Nothing that was there has turned but one block. -/
theorem Rf.old {w w' : World} {rr H : Nat} {bs l : List UInt8} {c : Int} (h : Rf w rr H bs l c) (hk : Below w.heap.size w w') : Rf w' rr H bs l c := by
  obtain ⟨v, p, h1, h2, h3⟩ := h.ex
  exact ⟨v, p, (hk.block rr (lt_of_block h1)).trans h1, h2.old hk, h3⟩

/-- A slice of bytes that lies elsewhere stays. -/
theorem Sl.ownFar {w w' : World} {v : Value} {bs : List UInt8} {rr : Nat} (h : Sl w v (Lib.byteCells bs)) (hfar : ∀ a n c, v = .slice (some a) n c → bs ≠ [] → a.block ≠ rr) (hk : Keep (· = rr) w w') : Sl w' v (Lib.byteCells bs) := by
  obtain ⟨ao, cap, rfl, hn, hcap, hc⟩ := h
  refine ⟨ao, cap, rfl, hn, hcap, fun a ha j u hu => ?_⟩
  have hne : bs ≠ [] := by rintro rfl; simp [Lib.byteCells] at hu
  exact hk.cell (hc a ha j u hu) (hfar a _ _ (by rw [ha]) hne)

/-- What another new block does leaves it as it was. -/
theorem Rf.far {w w' : World} {rr H k : Nat} {bs l : List UInt8} {c : Int} (h : Rf w rr H bs l c) (hk : Keep (· = k) w w') (h1 : H ≤ k) (h2 : rr ≠ k) : Rf w' rr H bs l c := by
  obtain ⟨v, p, hb, hs, hlo, r⟩ := h.ex
  exact ⟨v, p, (hk.block rr (lt_of_block hb) h2).trans hb, hs.ownFar (lo_far ⟨hlo.1, h1⟩) hk, hlo, r⟩

section
set_option maxHeartbeats 1000000
set_option maxRecDepth 100000

theorem ftake_bad (rr H : Nat) (bs l : List UInt8) (c n : Int) (w : World) (h : Rf w rr H bs l c) (hc : c ≠ 0) :
    Calls Tryd.prog 66 #[.pointer (some ⟨rr, 0, none⟩), .int .i64 n] w fun e w' => e = .returned (.tuple #[.slice none 0 0, .bool false]) ∧ Rf w' rr H bs l c ∧ Keep (· = rr) w w' := by
  have hf := h
  obtain ⟨v, p, hb, hs, hlo, hp, hbl, h0, h1⟩ := h.ex
  have hfar := lo_far hlo
  have c0 := blk_cell (i := 0) hb rfl
  have c1 := blk_cell (i := 1) hb rfl
  have c2 := blk_cell (i := 2) hb rfl
  have hg : (c == 0) = false := by simp [hc]
  have hg2 : (c != 0) = true := by simp [hc]
  clear h0 h1 hfar hs hb hc
  go_enter Tryd.func66, Tryd.ntmps66
  go_wp2_with fail
  go_quiet (fail)
  go_wp2
  exact bodyPost_ret (results_tmp2 rfl _ _ _) rfl ⟨rfl, ⟨hf.ex⟩, (Keep.refl (· = rr) w).drewN _⟩

theorem ftake_short (rr H : Nat) (bs l : List UInt8) (n : Nat) (w : World) (h : Rf w rr H bs l 0) (hn : l.length < n) :
    Calls Tryd.prog 66 #[.pointer (some ⟨rr, 0, none⟩), .int .i64 n] w fun e w' => e = .returned (.tuple #[.slice none 0 0, .bool false]) ∧ Rf w' rr H bs [] 4 ∧ Keep (· = rr) w w' := by
  obtain ⟨v, p, hb, hs, hlo, hp, hbl, h0, h1⟩ := h.ex
  have hfar := lo_far hlo
  have hll : l.length = bs.length - p := by rw [h0 rfl, List.length_drop]
  obtain ⟨ao, cap, rfl⟩ := hs.form
  rw [Lib.byteCells_length] at hs hb hfar hlo
  have c0 := blk_cell (i := 0) hb rfl
  have c1 := blk_cell (i := 1) hb rfl
  have c2 := blk_cell (i := 2) hb rfl
  have f2 := blk_free (i := 2) hb
  have hwr : IntKind.i64.wrap ((bs.length : Int) - (p : Int)) = (l.length : Int) := (IntWalk.i64_in _ (by omega)).trans (by omega)
  have hg : ((0 : Int) == 0) = true := rfl
  have hlt : decide ((l.length : Int) < (n : Int)) = true := by simp; omega
  have HB := hid hb
  have HS := hid hs
  clear h0 h1 h hll hs hb
  go_enter Tryd.func66, Tryd.ntmps66
  go_wp2_with fail
  go_quiet (fail)
  go_wp2
  refine bodyPost_ret (results_tmp2 rfl _ _ _) rfl ⟨rfl, ⟨_, p, blk_set (w := w.drewN nq) HB.out, ?_, hlo, hp, hbl, (fun h => by cases h), fun _ => rfl⟩, ((Keep.refl (· = rr) w).drewN nq).setCell rfl _⟩
  exact HS.out.ownFar hfar (((Keep.refl (· = rr) w).drewN nq).setCell rfl _)

theorem ftake_ok (rr H : Nat) (bs l : List UInt8) (n : Nat) (w : World) (h : Rf w rr H bs l 0) (hn : n ≤ l.length) :
    Calls Tryd.prog 66 #[.pointer (some ⟨rr, 0, none⟩), .int .i64 n] w fun e w' => ∃ ao cap, e = .returned (.tuple #[.slice ao n cap, .bool true]) ∧ Sl w' (.slice ao n cap) (Lib.byteCells (l.take n)) ∧ Rf w' rr H bs (l.drop n) 0 ∧ Keep (· = rr) w w' := by
  obtain ⟨i0, hi0, hz0, hz1, hz2⟩ := info_parts Tryd.info5
  obtain ⟨v, p, hb, hs, hlo, hp, hbl, h0, h1⟩ := h.ex
  have hfar := lo_far hlo
  have hl := h0 rfl
  have hll : l.length = bs.length - p := by rw [hl, List.length_drop]
  obtain ⟨am, cm, rm, sm, fm⟩ := run_slice_mid (P := Tryd.prog) 32 5 Tryd.underlying32 hi0 hz1 hs p (p + n) (by omega) (by rw [Lib.byteCells_length]; omega)
  obtain ⟨ao, cap, rfl⟩ := hs.form
  rw [Lib.byteCells_length] at hs hb hfar hlo fm
  rw [Lib.byteCells_length, Nat.add_sub_cancel_left, Int.natCast_add] at rm
  rw [Nat.add_sub_cancel_left, ← byteCells_drop, ← hl, ← byteCells_take] at sm
  have c0 := blk_cell (i := 0) hb rfl
  have c1 := blk_cell (i := 1) hb rfl
  have c2 := blk_cell (i := 2) hb rfl
  have f1 := blk_free (i := 1) hb
  have hwr : IntKind.i64.wrap ((bs.length : Int) - (p : Int)) = (l.length : Int) := (IntWalk.i64_in _ (by omega)).trans (by omega)
  have hwr2 : IntKind.i64.wrap ((p : Int) + (n : Int)) = ((p + n : Nat) : Int) := (IntWalk.i64_in _ (by omega)).trans (by omega)
  have hwr3 : IntKind.i64.wrap (((p + n : Nat) : Int) - (n : Int)) = (p : Int) := (IntWalk.i64_in _ (by omega)).trans (by omega)
  have hg : ((0 : Int) == 0) = true := rfl
  have hlt : decide ((l.length : Int) < (n : Int)) = false := by simp; omega
  have HB := hid hb
  have HS := hid hs
  have HL := hid hl
  have HLL := hid hll
  have SM := hid sm
  clear h0 h1 h hll hs hb sm hl
  go_enter Tryd.func66, Tryd.ntmps66
  go_wp2_with fail
  go_quiet (fail)
  go_wp2_with fail
  have hb2 := blk_set (i := 1) (u := .int .i64 ((p : Int) + (n : Int))) (show (w.drewN nq).heap[rr]? = _ from HB.out)
  have hk2 : Keep (· = rr) w ((w.drewN nq).setCell ⟨rr, 1, none⟩ (.int .i64 ((p : Int) + (n : Int)))) := ((Keep.refl (· = rr) w).drewN nq).setCell rfl _
  generalize (w.drewN nq).setCell ⟨rr, 1, none⟩ (.int .i64 ((p : Int) + (n : Int))) = w2 at hb2 hk2 ⊢
  have d0 := blk_cell (i := 0) hb2 rfl
  have d1 := blk_cell (i := 1) hb2 rfl
  have HB2 := hid hb2
  clear hb2 c0 c1 c2 f1
  go_quiet (fail)
  go_wp2
  have hll := HLL.out
  refine bodyPost_ret (results_tmp2 rfl _ _ _) rfl ⟨am, cm, rfl, ?_, ⟨_, p + n, (show (w2.drewN _).heap[rr]? = _ from HB2.out), ?_, hlo, ?_, hbl, fun _ => ?_, fun h => absurd rfl h⟩, hk2.drewN _⟩
  · refine SM.out.ownFar (fun a k c e hne => ?_) (hk2.drewN _)
    obtain ⟨a', k', c', e', hb⟩ := fm a (by simpa using (Value.slice.inj e).1)
    rw [hb]
    refine hfar a' k' c' e' ?_
    rintro rfl
    rw [HL.out] at hne
    simp at hne
  · exact HS.out.ownFar hfar (hk2.drewN _)
  · omega
  · rw [HL.out, List.drop_drop]

theorem ftake_all (rr H : Nat) (bs l : List UInt8) (c : Int) (n : Nat) (w : World) (h : Rf w rr H bs l c) :
    Calls Tryd.prog 66 #[.pointer (some ⟨rr, 0, none⟩), .int .i64 n] w fun e w' => ∃ ao cap b, e = .returned (.tuple #[.slice ao (stV n l c).length cap, .bool b]) ∧ Sl w' (.slice ao (stV n l c).length cap) (Lib.byteCells (stV n l c)) ∧ Rf w' rr H bs (stL n l c) (stE n l c) ∧ Keep (· = rr) w w' := by
  by_cases hc : c = 0
  · subst hc
    by_cases hl : n ≤ l.length
    · obtain ⟨e1, e2, e3⟩ := st_ok hl
      rw [e1, e2, e3, List.length_take, Nat.min_eq_left hl]
      exact (ftake_ok rr H bs l n w h hl).mono fun e w' ⟨ao, cap, h1, h2, h3, h4⟩ => ⟨ao, cap, true, h1, h2, h3, h4⟩
    · obtain ⟨e1, e2, e3⟩ := st_short (Nat.lt_of_not_le hl)
      rw [e1, e2, e3]
      exact (ftake_short rr H bs l n w h (by omega)).mono fun e w' ⟨h1, h3, h4⟩ => ⟨none, 0, false, h1, Sl.nil _, h3, h4⟩
  · obtain ⟨e1, e2, e3⟩ := st_bad (h := n) (l := l) hc
    rw [e1, e2, e3]
    exact (ftake_bad rr H bs l c n w h hc).mono fun e w' ⟨h1, h3, h4⟩ => ⟨none, 0, false, h1, Sl.nil _, h3, h4⟩

theorem or_low (a b : Nat) (ha : a < 72057594037927936) (hb : b < 256) : bits .or .u64 (IntKind.u64.wrap ((a : Int) * 256)) (IntKind.u64.wrap (b : Int)) = ((b + 256 * a : Nat) : Int) := by
  have e1 : IntKind.u64.wrap (b : Int) = (b : Int) := by rw [IntKind.wrap_u64]; omega
  have e3 : IntKind.u64.wrap ((a : Int) * 256) = ((a * 256 : Nat) : Int) := by rw [IntKind.wrap_u64]; omega
  rw [e1, e3, u64_or_nat _ _ (by omega) (by omega), nat_join 8 _ _ (by omega) (by omega), Nat.add_comm, Nat.mul_comm]
theorem numOf_drop {m : List UInt8} {j : Nat} {b : UInt8} (h : m[j]? = some b) : numOf (m.drop j) = b.toNat + 256 * numOf (m.drop (j + 1)) := by
  obtain ⟨hj, rfl⟩ := List.getElem?_eq_some_iff.1 h
  rw [List.drop_eq_getElem_cons hj, numOf]
theorem numOf_drop_lt {m : List UInt8} {j : Nat} (hm : m.length ≤ 8) : numOf (m.drop (j + 1)) < 72057594037927936 := by
  refine Nat.lt_of_lt_of_le (numOf_lt _) (Nat.le_trans (Nat.pow_le_pow_right (by omega) (show _ ≤ 56 from ?_)) (by decide))
  rw [List.length_drop]
  omega

theorem held_ifs (n : Int) : ∃ x : Int, (if (8 : Int) < n then (8 : Int) else n) = x ∧ (if (1 : Int) < x then x else 1) = (heldN n : Int) := by
  refine ⟨_, rfl, ?_⟩
  unfold heldN
  split <;> split <;> omega

theorem FNum_all (rr H : Nat) (bs l : List UInt8) (c n : Int) (w : World) (h : Rf w rr H bs l c) :
    Calls Tryd.prog 43 #[.pointer (some ⟨rr, 0, none⟩), .int .i64 n] w fun e w' => e = .returned (.int .u64 (numOf (stV (heldN n) l c) : Nat)) ∧ Rf w' rr H bs (stL (heldN n) l c) (stE (heldN n) l c) ∧ Keep (· = rr) w w' := by
  obtain ⟨x, hx1, hx2⟩ := held_ifs n
  have hh := heldN_bd n
  have hml : (stV (heldN n) l c).length ≤ 8 := by
    unfold stV
    split
    · simp
    · split
      · simp
      · rw [List.length_take]; omega
  go_enter Tryd.func43, Tryd.ntmps43
  go_wp2_with fail
  refine (ftake_all rr H bs l c (heldN n) w h).mono ?_
  rintro e w' ⟨ao, cap, b, rfl, hs, hr, hk0⟩
  clear hx1 hx2
  obtain ⟨m, hm⟩ : ∃ m, m = stV (heldN n) l c := ⟨_, rfl⟩
  rw [← hm] at hs hml ⊢
  have HM := hid hm
  clear hm
  go_wp2
  go_loop [7, 8] (fun v i => ∃ k : Nat, k ≤ m.length ∧ i = .int .i64 ((k : Int) - 1) ∧ v = .int .u64 (numOf (m.drop k) : Nat)) (fun _ i => (intOf i + 1).toNat)
  case atStart => exact ⟨m.length, Nat.le_refl _, by go_num, by rw [List.drop_length]; rfl⟩
  case round =>
    obtain ⟨k, hk, rfl, rfl⟩ := hrel
    by_cases hlt : 0 < k
    · obtain ⟨j, rfl⟩ : ∃ j, k = j + 1 := ⟨k - 1, by omega⟩
      obtain ⟨a, b, rfl, hcell, hb⟩ := hs.byteAt' (i := j) (by omega)
      have hjj : ((j + 1 : Nat) : Int) - 1 = (j : Int) := by omega
      have hj1 : j < m.length := by omega
      rw [hjj]
      have hor := hid ((or_low _ _ (numOf_drop_lt (j := j) hml) b.toNat_lt).trans (congrArg (fun q : Nat => (q : Int)) (numOf_drop hb).symm))
      clear hb hjj
      go_wp2
      go_round
      case rel => exact ⟨j, by omega, rfl, by rw [hor.out]⟩
      case measure => simp [intOf]
    · obtain rfl : k = 0 := by omega
      go_wp2
      go_ret
      refine ⟨?_, hr, hk0⟩
      rw [← HM.out]
      rfl
end
end Go.Proofs.YtbcpfakdmnccmaaDoor

namespace Go.Proofs.YtbcpfakdmnccmaaDoor
open Go.RowKit

section
set_option maxHeartbeats 1000000
set_option maxRecDepth 100000

theorem FInt_all (rr H : Nat) (bs l : List UInt8) (c : Int) (w : World) (h : Rf w rr H bs l c) :
    Calls Tryd.prog 67 #[.pointer (some ⟨rr, 0, none⟩)] w fun e w' => e = .returned (.int .i64 (intV l c)) ∧ Rf w' rr H bs (stL 4 l c) (stE 4 l c) ∧ Keep (· = rr) w w' := by
  have hlt := stV_lt 4 l c
  go_enter Tryd.func67, Tryd.ntmps67
  go_wp2_with fail
  refine (FNum_all rr H bs l c 4 w h).mono ?_
  rw [show heldN 4 = 4 from rfl]
  rintro e w1 ⟨rfl, hr, hk⟩
  obtain ⟨v, p, hb, _⟩ := hr.ex
  have c2 := blk_cell (i := 2) hb rfl
  clear hb
  by_cases he : stE 4 l c = 0
  · have hi := hid (intV_ok he)
    have h1 : ((numOf (stV 4 l c) : Nat) : Int) < 4294967296 := by omega
    have h0 : (0 : Int) ≤ ((numOf (stV 4 l c) : Nat) : Int) := by omega
    have he' : (stE 4 l c == 0) = true := by simp [he]
    have he2 : (stE 4 l c != 0) = false := by simp [he]
    clear he hlt
    go_wp2
    go_ret
    refine ⟨?_, hr, hk⟩
    rw [hi.out]
    rfl
  · have hi := hid (intV_bad he)
    have he' : (stE 4 l c == 0) = false := by simp [he]
    have he2 : (stE 4 l c != 0) = true := by simp [he]
    clear he hlt
    go_wp2
    go_ret
    refine ⟨?_, hr, hk⟩
    rw [hi.out]
    rfl

/-- Another fault is told, and nothing is left. -/
theorem Rf.fault {w : World} {rr H : Nat} {bs l : List UInt8} {c : Int} (d : Int) (hd : d ≠ 0) (h : Rf w rr H bs l c) : Rf (w.setCell ⟨rr, 2, none⟩ (.int .i64 d)) rr H bs [] d := by
  obtain ⟨v, p, hb, hs, hlo, hp, hbl, h0, h1⟩ := h.ex
  have hfar := lo_far hlo
  exact ⟨_, p, blk_set hb, hs.ownFar hfar ((Keep.refl (· = rr) w).setCell rfl _), hlo, hp, hbl, (fun e => absurd e hd), fun _ => rfl⟩

theorem FText_all (rr H : Nat) (bs l : List UInt8) (c : Int) (w : World) (h : Rf w rr H bs l c) :
    Calls Tryd.prog 44 #[.pointer (some ⟨rr, 0, none⟩)] w fun e w' => e = .returned (.string ⟨(txV l c).toArray⟩) ∧ Rf w' rr H bs (txL l c) (txE l c) ∧ Keep (· = rr) w w' := by
  by_cases hn : intV l c < 0
  · have h1 : Hid (txV l c = [] ∧ txL l c = [] ∧ txE l c = 5) := hid (by simp [txV, txL, txE, hn])
    have he : stE 4 l c = 0 := by
      by_cases he : stE 4 l c = 0
      · exact he
      · rw [intV_bad he] at hn; omega
    have HE := hid he
    clear he
    have hn2 : decide (intV l c < 0) = true := by simpa using hn
    go_enter Tryd.func44, Tryd.ntmps44
    go_wp2_with fail
    refine (FInt_all rr H bs l c w h).mono ?_
    rw [HE.out]
    rintro e w1 ⟨rfl, hr, hk⟩
    obtain ⟨v, p, hb, _⟩ := hr.ex
    have c2 := blk_cell (i := 2) hb rfl
    have f2 := blk_free (i := 2) hb
    clear hb
    have hr2 := hr.fault 5 (by decide)
    have hk2 : Keep (· = rr) w (w1.setCell ⟨rr, 2, none⟩ (.int .i64 5)) := hk.setCell rfl _
    go_wp2_with fail
    refine (ftake_bad rr H bs _ 5 _ _ hr2 (by decide)).mono ?_
    rintro e w2 ⟨rfl, hr3, hk3⟩
    have hcv := run_string_of (P := Tryd.prog) (w := w2) (bs := []) 32 9 5 Tryd.underlying32 Tryd.underlying5 Tryd.underlying9 (Sl.nil w2)
    go_wp2
    go_ret
    obtain ⟨e1, e2, e3⟩ := h1.out
    rw [e1, e2, e3]
    exact ⟨rfl, hr3, hk2.trans hk3⟩
  · obtain ⟨m, hm⟩ := Int.eq_ofNat_of_zero_le (Int.not_lt.1 hn)
    have h1 : Hid (txV l c = stV m (stL 4 l c) (stE 4 l c) ∧ txL l c = stL m (stL 4 l c) (stE 4 l c) ∧ txE l c = stE m (stL 4 l c) (stE 4 l c)) := hid (by
      have : ¬ ((m : Int) < 0) := by omega
      simp [txV, txL, txE, hm, this])
    have hm' := hid hm
    clear hm hn
    have hm0 : (0 : Int) ≤ (m : Int) := Int.natCast_nonneg _
    have hm1 : decide ((m : Int) < 0) = false := by simp
    go_enter Tryd.func44, Tryd.ntmps44
    go_wp2_with fail
    refine (FInt_all rr H bs l c w h).mono ?_
    rw [hm'.out]
    rintro e w1 ⟨rfl, hr, hk⟩
    obtain ⟨v, p, hb, _⟩ := hr.ex
    have c2 := blk_cell (i := 2) hb rfl
    clear hb
    have hcase : (stE 4 l c == 0) = true ∨ (stE 4 l c == 0) = false := by cases (stE 4 l c == 0) <;> simp
    rcases hcase with hc | hc
    all_goals
      go_wp2_with fail
      refine (ftake_all rr H bs _ _ m w1 hr).mono ?_
      rintro e w2 ⟨ao, cap, b, rfl, hs, hr2, hk2⟩
      have hcv := run_string_of (P := Tryd.prog) 32 9 5 Tryd.underlying32 Tryd.underlying5 Tryd.underlying9 hs
      go_wp2
      go_ret
      obtain ⟨e1, e2, e3⟩ := h1.out
      rw [e1, e2, e3]
      exact ⟨rfl, hr2, hk.trans hk2⟩

theorem FBool_all (rr H : Nat) (bs l : List UInt8) (c : Int) (w : World) (h : Rf w rr H bs l c) :
    Calls Tryd.prog 45 #[.pointer (some ⟨rr, 0, none⟩)] w fun e w' => e = .returned (.bool (blV l c)) ∧ Rf w' rr H bs (blL l c) (blE l c) ∧ Keep (· = rr) w w' := by
  have hlow : stE 1 l c ≠ 0 → numOf (stV 1 l c) = 0 := by
    intro he
    have : stV 1 l c = [] := by
      unfold stE at he
      unfold stV
      by_cases hc : c ≠ 0
      · simp [hc]
      · by_cases hl : l.length < 1
        · simp [hl]
        · simp [hc, hl] at he
    rw [this]; rfl
  by_cases hx : 1 < blX l c
  · have h1 : Hid (blV l c = false ∧ blL l c = [] ∧ blE l c = 5) := hid (by simp [blV, blL, blE, hx]; omega)
    unfold blX at hx
    have he : stE 1 l c = 0 := by
      by_cases he : stE 1 l c = 0
      · exact he
      · have := hlow he; omega
    have HE := hid he
    clear he hlow
    have hx2 : decide ((1 : Int) < ((numOf (stV 1 l c) : Nat) : Int)) = true := by simp; omega
    have h50 : ((5 : Int) == 0) = false := by decide
    go_enter Tryd.func45, Tryd.ntmps45
    go_wp2_with fail
    refine (FNum_all rr H bs l c 1 w h).mono ?_
    rw [show heldN 1 = 1 from rfl, HE.out]
    rintro e w1 ⟨rfl, hr, hk⟩
    obtain ⟨v, p, hb, _⟩ := hr.ex
    have c2 := blk_cell (i := 2) hb rfl
    have f2 := blk_free (i := 2) hb
    clear hb
    have hr2 := hr.fault 5 (by decide)
    have hk2 : Keep (· = rr) w (w1.setCell ⟨rr, 2, none⟩ (.int .i64 5)) := hk.setCell rfl _
    go_wp2
    go_ret
    obtain ⟨e1, e2, e3⟩ := h1.out
    rw [e1, e2, e3]
    exact ⟨rfl, hr2, hk2⟩
  · have h1 : Hid (blL l c = stL 1 l c ∧ blE l c = stE 1 l c) := hid (by simp [blL, blE, hx])
    have h2 : Hid (blV l c = (((numOf (stV 1 l c) : Nat) : Int) == 1)) := hid (by
      unfold blV blX
      rw [Bool.eq_iff_iff]
      simp
      omega)
    unfold blX at hx
    have hx2 : decide ((1 : Int) < ((numOf (stV 1 l c) : Nat) : Int)) = false := by simp; omega
    have hcase : (stE 1 l c == 0) = true ∨ (stE 1 l c == 0) = false ∧ (((numOf (stV 1 l c) : Nat) : Int) == 1) = false := by
      by_cases he : stE 1 l c = 0
      · left; simp [he]
      · right; rw [hlow he]; simp [he]
    clear hlow hx
    rcases hcase with hc | ⟨hc, hv⟩
    all_goals
      go_enter Tryd.func45, Tryd.ntmps45
      go_wp2_with fail
      refine (FNum_all rr H bs l c 1 w h).mono ?_
      rw [show heldN 1 = 1 from rfl]
      rintro e w1 ⟨rfl, hr, hk⟩
      obtain ⟨v, p, hb, _⟩ := hr.ex
      have c2 := blk_cell (i := 2) hb rfl
      clear hb
      go_wp2
      go_ret
      obtain ⟨e2, e3⟩ := h1.out
      rw [e2, e3, h2.out]
      first
        | exact ⟨rfl, hr, hk⟩
        | exact ⟨by rw [hv]; rfl, hr, hk⟩

end
end Go.Proofs.YtbcpfakdmnccmaaDoor

namespace Go.Proofs.YtbcpfakdmnccmaaDoor
open Go.RowKit

section
set_option maxHeartbeats 1000000
set_option maxRecDepth 1000000

theorem u8_step (bs : List UInt8) (x : Int) (h0 : 0 ≤ x) (k : Nat) : Lib.byteCells bs ++ [Value.int .u8 (x / 2 ^ (8 * k) % 256)] = Lib.byteCells (bs ++ [UInt8.ofNat (x.toNat / 2 ^ (8 * k))]) := by
  rw [← byteCells_snoc_int bs x h0 k, IntKind.wrap_u8']

theorem WNum_any (v : Value) (bs : List UInt8) (x n : Int) (h0 : 0 ≤ x) (w : World) (hv : Sl w v (Lib.byteCells bs)) (hlen : bs.length + 8 ≤ 70368744177664) :
    Calls Tryd.prog 36 #[v, .int .u64 x, .int .i64 n] w fun e w' => ∃ v', e = .returned v' ∧ w'.ownsRow w.heap.size 5 1 v' (bs.length + heldN n) (Lib.byteCells (bs ++ lowBytes x.toNat (heldN n))) ∧ Below w.heap.size w w' := by
  obtain ⟨i0, hi0, hi1, hi2, hi3⟩ := info_parts Tryd.info5
  obtain ⟨y, hx1, hx2⟩ := held_ifs n
  have hh := heldN_bd n
  have hbl := hid (Lib.byteCells_length bs)
  have g1 : 0 + (Lib.byteCells bs).length ≤ maxLen := by rw [hbl.out]; unfold maxLen; omega
  have g2 : (0 + (Lib.byteCells bs).length) * 1 ≤ 140737488355328 := by rw [hbl.out]; omega
  obtain ⟨ao, cap, hvf⟩ := hv.form
  subst hvf
  rw [hbl.out] at hv ⊢
  go_enter Tryd.func36, Tryd.ntmps36
  go_wp2_with (refine wpList_append_any _ rfl (.const (.slice none 0 0)) (.tmp 9) _ _ rfl w.heap.size 5 i0 _ 1 1 Tryd.underlying32 hi0 hi1 hi2 hi3 rfl (by omega) (.slice none 0 0) 0 [] rfl (World.ownsRow_nil _ _ _ _) _ _ _ rfl (hv.src Tryd.underlying32 (byte_one _)) g1 g2 (Nat.le_refl _) ?_; intro v3 w3 hown3 hgrow3 hat3; have hb3 := (Below.refl w.heap.size w).grown hgrow3 (Nat.le_refl _) (by simp [Value.ownBlock]))
  rw [List.nil_append, Nat.zero_add, hbl.out] at hown3
  clear hgrow3 hat3 g1 g2
  go_loopw [7, 8] (fun o i wr => ∃ k : Nat, k ≤ heldN n ∧ i = .int .i64 k ∧ wr.ownsRow w.heap.size 5 1 o (bs.length + k) (Lib.byteCells (bs ++ lowBytes x.toNat k)) ∧ Below w.heap.size w wr) (fun _ i _ => heldN n - (intOf i).toNat)
  case atStart => exact ⟨0, Nat.zero_le _, rfl, by simpa [lowBytes] using hown3, hb3⟩
  case round =>
    obtain ⟨k, hk, rfl, hown, hbel⟩ := hrel
    by_cases hlt : k < heldN n
    · obtain ⟨s, hs'⟩ : ∃ s : Nat, s = 8 * k := ⟨_, rfl⟩
      have hk8 : k < 8 := by omega
      have hwr : IntKind.i64.wrap (8 * (k : Int)) = (s : Int) := by rw [hs']; exact (IntWalk.i64_in _ (by omega)).trans (by omega)
      have hwr2 : IntKind.u64.wrap (s : Int) = (s : Int) := by rw [IntKind.wrap_u64]; omega
      have h80 : (0 : Int) ≤ (s : Int) := by omega
      have h81 : (s : Int) ≤ 64 := by omega
      have HS := hid hs'
      have hsz := hbel.size
      have g3 : bs.length + k + 1 ≤ maxLen := by unfold maxLen; omega
      have g4 : (bs.length + k + 1) * 1 ≤ 140737488355328 := by omega
      clear hs'
      go_wp2_with (refine wpList_append_any _ rfl (.tmp 18) (.tmp 25) _ _ rfl w.heap.size 5 i0 _ 1 1 Tryd.underlying32 hi0 hi1 hi2 hi3 rfl (by omega) _ _ _ rfl (hown.alloc _) _ 1 [_] rfl (Src.ofSlice _ Tryd.underlying32 ⟨wr.heap.size, 0, none⟩ 1 1 [_] (by rfl) (World.news_of_block (cs := #[_]) (t := 5) (fr := (0, 0)) (heap_alloc_new wr _)) (by simp [Value.oneCell'])) g3 g4 (by simp; omega) ?_; intro v4 w4 hown4 hgrow4 hat4)
      have hb5 : Below w.heap.size w w4 := (hbel.alloc hsz _).grown hgrow4 (by simp; omega) (fun j hj => (hown.lt j hj).1)
      have R : w4.ownsRow w.heap.size 5 1 v4 (bs.length + (k + 1)) (Lib.byteCells (bs ++ lowBytes x.toNat (k + 1))) := by
        rw [lowBytes_snoc, ← List.append_assoc, ← u8_step _ _ h0, ← HS.out, ← Nat.add_assoc]
        exact hown4
      clear hown4 hgrow4 hat4 hown
      go_roundw
      case rel => exact ⟨k + 1, by omega, by go_num, R, hb5⟩
      case measure => simp [intOf]; omega
    · obtain rfl : k = heldN n := by omega
      go_wp2
      go_ret
      exact ⟨_, rfl, hown, hbel⟩
end
end Go.Proofs.YtbcpfakdmnccmaaDoor

namespace Go.Proofs.YtbcpfakdmnccmaaDoor
open Go.RowKit

section
set_option maxHeartbeats 1000000
set_option maxRecDepth 1000000

theorem WInt_any (v : Value) (bs : List UInt8) (x : Int) (w : World) (hv : Sl w v (Lib.byteCells bs)) (hlen : bs.length + 8 ≤ 70368744177664) :
    Calls Tryd.prog 58 #[v, .int .i64 x] w fun e w' => ∃ v', e = .returned v' ∧ w'.ownsRow w.heap.size 5 1 v' (bs.length + 4) (Lib.byteCells (bs ++ intBytes x)) ∧ Below w.heap.size w w' := by
  go_enter Tryd.func58, Tryd.ntmps58
  go_wp2_with fail
  refine (WNum_any v bs _ 4 (incr_nonneg x) w hv hlen).mono ?_
  rintro e w' ⟨v', rfl, hown, hb⟩
  rw [show heldN 4 = 4 from rfl] at hown
  go_wp2
  go_ret
  exact ⟨v', rfl, hown, hb⟩

theorem WBool_any (v : Value) (bs : List UInt8) (b : Bool) (w : World) (hv : Sl w v (Lib.byteCells bs)) (hlen : bs.length + 8 ≤ 70368744177664) :
    Calls Tryd.prog 37 #[v, .bool b] w fun e w' => ∃ v', e = .returned v' ∧ w'.ownsRow w.heap.size 5 1 v' (bs.length + 1) (Lib.byteCells (bs ++ [if b then 1 else 0])) ∧ Below w.heap.size w w' := by
  cases b
  all_goals
    go_enter Tryd.func37, Tryd.ntmps37
    go_wp2_with fail
    refine (WNum_any v bs _ 1 (by omega) w hv hlen).mono ?_
    rintro e w' ⟨v', rfl, hown, hb⟩
    go_wp2
    go_ret
    exact ⟨v', rfl, hown, hb⟩

theorem WText_any (v : Value) (bs : List UInt8) (s : ByteArray) (w : World) (hv : Sl w v (Lib.byteCells bs)) (hlen : bs.length + s.size + 8 ≤ 70368744177664) :
    Calls Tryd.prog 38 #[v, .string s] w fun e w' => ∃ v', e = .returned v' ∧ w'.ownsRow w.heap.size 5 1 v' (bs.length + 4 + s.size) (Lib.byteCells (bs ++ intBytes s.size ++ s.data.toList)) ∧ Below w.heap.size w w' := by
  obtain ⟨i0, hi0, hi1, hi2, hi3⟩ := info_parts Tryd.info5
  go_enter Tryd.func38, Tryd.ntmps38
  go_wp2_with fail
  refine (WInt_any v bs _ w hv (by omega)).mono ?_
  rintro e w2 ⟨v2, rfl, hown, hb⟩
  have hz := hb.size
  have g3 : bs.length + 4 + s.size ≤ maxLen := by unfold maxLen; omega
  have g4 : (bs.length + 4 + s.size) * 1 ≤ 140737488355328 := by omega
  go_wp2_with (refine wpList_append_any _ rfl (.tmp 8) (.tmp 9) _ _ rfl w.heap.size 5 i0 _ 1 1 Tryd.underlying32 hi0 hi1 hi2 hi3 rfl (by omega) v2 _ _ rfl hown _ _ _ rfl (Src.ofString _ Tryd.underlying9 s) g3 g4 hz ?_; intro v4 w4 hown4 hgrow4 hat4)
  have hb5 : Below w.heap.size w w4 := hb.grown hgrow4 hz (fun j hj => (hown.lt j hj).1)
  go_ret
  refine ⟨v4, rfl, ?_, hb5⟩
  rw [Lib.byteCells_append]
  exact hown4
end
end Go.Proofs.YtbcpfakdmnccmaaDoor
