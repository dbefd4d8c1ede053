/-
  The document's own writer (rickref01): Num.
-/
import Derived.Test.YtjnhgoedhggocaaDoorRefRA
namespace Go.Proofs.YtjnhgoedhggocaaDoor
open Go.RowKit

section
set_option maxHeartbeats 1000000
set_option maxRecDepth 1000000

theorem u8_step (bs : List UInt8) (x : Int) (h0 : 0 ≤ x) (k : Nat) : Lib.byteCells bs ++ [Value.int .u8 (x / 2 ^ (8 * k) % 256)] = Lib.byteCells (bs ++ [UInt8.ofNat (x.toNat / 2 ^ (8 * k))]) := by
  rw [← byteCells_snoc_int bs x h0 k, IntKind.wrap_u8']

theorem WNum_any (v : Value) (bs : List UInt8) (x n : Int) (h0 : 0 ≤ x) (w : World) (hv : Sl w v (Lib.byteCells bs)) (hlen : bs.length + 8 ≤ 70368744177664) :
    Calls Tryd.prog 25 #[v, .int .u64 x, .int .i64 n] w fun e w' => ∃ v', e = .returned v' ∧ w'.ownsRow w.heap.size 5 1 v' (bs.length + heldN n) (Lib.byteCells (bs ++ lowBytes x.toNat (heldN n))) ∧ Below w.heap.size w w' := by
  obtain ⟨i0, hi0, hi1, hi2, hi3⟩ := info_parts Tryd.info5
  obtain ⟨y, hx1, hx2⟩ := held_ifs n
  have hh := heldN_bd n
  have hbl := hid (Lib.byteCells_length bs)
  have g1 : 0 + (Lib.byteCells bs).length ≤ maxLen := by rw [hbl.out]; unfold maxLen; omega
  have g2 : (0 + (Lib.byteCells bs).length) * 1 ≤ 140737488355328 := by rw [hbl.out]; omega
  obtain ⟨ao, cap, hvf⟩ := hv.form
  subst hvf
  rw [hbl.out] at hv ⊢
  go_enter Tryd.func25, Tryd.ntmps25
  go_wp2_with (refine wpList_append_any _ rfl (.const (.slice none 0 0)) (.tmp 9) _ _ rfl w.heap.size 5 i0 _ 1 1 Tryd.underlying22 hi0 hi1 hi2 hi3 rfl (by omega) (.slice none 0 0) 0 [] rfl (World.ownsRow_nil _ _ _ _) _ _ _ rfl (hv.src Tryd.underlying22 (byte_one _)) g1 g2 (Nat.le_refl _) ?_; intro v3 w3 hown3 hgrow3 hat3; have hb3 := (Below.refl w.heap.size w).grown hgrow3 (Nat.le_refl _) (by simp [Value.ownBlock]))
  rw [List.nil_append, Nat.zero_add, hbl.out] at hown3
  clear hgrow3 hat3 g1 g2
  go_loopw [7, 8] (fun o i wr => ∃ k : Nat, k ≤ heldN n ∧ i = .int .i64 k ∧ wr.ownsRow w.heap.size 5 1 o (bs.length + k) (Lib.byteCells (bs ++ lowBytes x.toNat k)) ∧ Below w.heap.size w wr) (fun _ i _ => heldN n - (intOf i).toNat)
  case atStart => exact ⟨0, Nat.zero_le _, rfl, by simpa [lowBytes] using hown3, hb3⟩
  case round =>
    obtain ⟨k, hk, rfl, hown, hbel⟩ := hrel
    by_cases hlt : k < heldN n
    · obtain ⟨s, hs'⟩ : ∃ s : Nat, s = 8 * k := ⟨_, rfl⟩
      have hk8 : k < 8 := by omega
      have hwr : IntKind.i64.wrap (8 * (k : Int)) = (s : Int) := by rw [hs']; exact (IntWalk.i64_in _ (by omega)).trans (by omega)
      have hwr2 : IntKind.u64.wrap (s : Int) = (s : Int) := by rw [IntKind.wrap_u64]; omega
      have h80 : (0 : Int) ≤ (s : Int) := by omega
      have h81 : (s : Int) ≤ 64 := by omega
      have HS := hid hs'
      have hsz := hbel.size
      have g3 : bs.length + k + 1 ≤ maxLen := by unfold maxLen; omega
      have g4 : (bs.length + k + 1) * 1 ≤ 140737488355328 := by omega
      clear hs'
      go_wp2_with (refine wpList_append_any _ rfl (.tmp 18) (.tmp 25) _ _ rfl w.heap.size 5 i0 _ 1 1 Tryd.underlying22 hi0 hi1 hi2 hi3 rfl (by omega) _ _ _ rfl (hown.alloc _) _ 1 [_] rfl (Src.ofSlice _ Tryd.underlying22 ⟨wr.heap.size, 0, none⟩ 1 1 [_] (by rfl) (World.news_of_block (cs := #[_]) (t := 5) (fr := (0, 0)) (heap_alloc_new wr _)) (by simp [Value.oneCell'])) g3 g4 (by simp; omega) ?_; intro v4 w4 hown4 hgrow4 hat4)
      have hb5 : Below w.heap.size w w4 := (hbel.alloc hsz _).grown hgrow4 (by simp; omega) (fun j hj => (hown.lt j hj).1)
      have R : w4.ownsRow w.heap.size 5 1 v4 (bs.length + (k + 1)) (Lib.byteCells (bs ++ lowBytes x.toNat (k + 1))) := by
        rw [lowBytes_snoc, ← List.append_assoc, ← u8_step _ _ h0, ← HS.out, ← Nat.add_assoc]
        exact hown4
      clear hown4 hgrow4 hat4 hown
      go_roundw
      case rel => exact ⟨k + 1, by omega, by go_num, R, hb5⟩
      case measure => simp [intOf]; omega
    · obtain rfl : k = heldN n := by omega
      go_wp2
      go_ret
      exact ⟨_, rfl, hown, hbel⟩
end
end Go.Proofs.YtjnhgoedhggocaaDoor
