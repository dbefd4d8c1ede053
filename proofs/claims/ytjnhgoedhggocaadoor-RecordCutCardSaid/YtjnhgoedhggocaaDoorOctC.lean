/-
  What package octets' Reader does: each call by a contract.
-/
import Derived.Test.YtjnhgoedhggocaaDoorOctBy
import Derived.Test.YtjnhgoedhggocaaDoorLaw2
namespace Go.Proofs.YtjnhgoedhggocaaDoor
open Go.RowKit

/-- A Reader: what is left, and what went wrong. -/
structure Rd (w : World) (br : Nat) (l : List UInt8) (e : Int) : Prop where
  ex : ∃ v, w.heap[br]? = some (.cells #[v, .int .i64 e] 71 (0, 0)) ∧ Sl w v (Lib.byteCells l) ∧ ∀ a n c, v = .slice (some a) n c → a.block < br

theorem Rd.kept {w w' : World} {br : Nat} {l : List UInt8} {e : Int} {S : Nat → Prop} (h : Rd w br l e) (hk : Keep S w w') (hb : ¬ S br) (hs : ∀ v, w.heap[br]? = some (.cells #[v, .int .i64 e] 71 (0, 0)) → ∀ a n c, v = .slice (some a) n c → ¬ S a.block) : Rd w' br l e := by
  obtain ⟨v, h1, h2, h3⟩ := h.ex
  exact ⟨v, (hk.block br (lt_of_block h1) hb).trans h1, h2.kept (fun a n c e hlt => hk.block _ hlt (hs v h1 a n c e)), h3⟩


/-- What a later block does leaves a Reader as it was. -/
theorem Rd.far {w w' : World} {br rr : Nat} {l : List UInt8} {e : Int} (h : Rd w br l e) (hk : Keep (· = rr) w w') (hr : br < rr) : Rd w' br l e := by
  obtain ⟨v, h1, h2, h3⟩ := h.ex
  exact ⟨v, (hk.block br (lt_of_block h1) (by show ¬ br = rr; omega)).trans h1, h2.kept (fun a n c e hlt => hk.block _ hlt (by have := h3 a n c e; show ¬ _ = rr; omega)), h3⟩

section
set_option maxHeartbeats 400000

theorem Err_any (br : Nat) (l : List UInt8) (c : Int) (w : World) (h : Rd w br l c) :
    Calls Tryd.prog 42 #[.pointer (some ⟨br, 0, none⟩)] w fun e w' => e = .returned (.int .i64 c) ∧ w = w' := by
  obtain ⟨v, hb, _, _⟩ := h.ex
  have hc := blk_cell (i := 1) hb rfl
  go_enter Tryd.func42, Tryd.ntmps42
  go_wp2
  go_ret
  exact ⟨rfl, rfl⟩
theorem Err_nil (w : World) : Calls Tryd.prog 42 #[.pointer none] w fun e w' => e = .returned (.int .i64 2) ∧ w = w' := by
  go_enter Tryd.func42, Tryd.ntmps42
  go_wp2
  go_ret
  exact ⟨rfl, rfl⟩


theorem fail_any (br : Nat) (l : List UInt8) (c d : Int) (w : World) (h : Rd w br l c) :
    Calls Tryd.prog 43 #[.pointer (some ⟨br, 0, none⟩), .int .i64 d] w fun e w' => e = .returned (.tuple #[]) ∧ Rd w' br [] d ∧ Keep (· = br) w w' := by
  obtain ⟨v, hb, hs, _⟩ := h.ex
  have hc := blk_cell (i := 0) hb rfl
  have hc1 := blk_cell (i := 1) hb rfl
  have hf := blk_free (i := 0) hb
  have hf1 := blk_free (i := 1) hb
  go_enter Tryd.func43, Tryd.ntmps43
  go_wp2
  go_end0
  refine ⟨rfl, ⟨.slice none 0 0, ?_, Sl.nil _, fun a n c e => by cases e⟩, ((Keep.refl (· = br) w).setCell rfl _).setCell rfl _⟩
  exact blk_set (blk_set hb)

theorem take_bad (br : Nat) (l : List UInt8) (c n : Int) (w : World) (h : Rd w br l c) (hc : c ≠ 0) :
    Calls Tryd.prog 39 #[.pointer (some ⟨br, 0, none⟩), .int .i64 n] w fun e w' => e = .returned (.slice none 0 0) ∧ w = w' := by
  go_enter Tryd.func39, Tryd.ntmps39
  go_wp2_with fail
  refine (Err_any br l c _ h).mono ?_
  rintro e w' ⟨rfl, rfl⟩
  go_wp2
  go_ret
  exact ⟨rfl, rfl⟩

theorem take_short (br : Nat) (l : List UInt8) (n : Int) (w : World) (h : Rd w br l 0) (hn : (l.length : Int) < n) :
    Calls Tryd.prog 39 #[.pointer (some ⟨br, 0, none⟩), .int .i64 n] w fun e w' => e = .returned (.slice none 0 0) ∧ Rd w' br [] 4 ∧ Keep (· = br) w w' := by
  obtain ⟨v, hb, ⟨ao, cap, rfl, _, hcap, _⟩, _⟩ := h.ex
  have hc := blk_cell (i := 0) hb rfl
  rw [Lib.byteCells_length] at hc
  go_enter Tryd.func39, Tryd.ntmps39
  go_wp2_with fail
  refine (Err_any br l 0 _ h).mono ?_
  rintro e w' ⟨rfl, rfl⟩
  go_wp2_with fail
  refine (fail_any br l 0 4 _ h).mono ?_
  rintro e w' ⟨rfl, hr, hk⟩
  go_wp2
  go_ret
  exact ⟨rfl, hr, hk⟩

theorem take_ok (br : Nat) (l : List UInt8) (n : Nat) (w : World) (h : Rd w br l 0) (hn : n ≤ l.length) :
    Calls Tryd.prog 39 #[.pointer (some ⟨br, 0, none⟩), .int .i64 n] w fun e w' => ∃ v ao cap, v = .slice ao n cap ∧ e = .returned v ∧ Sl w' v (Lib.byteCells (l.take n)) ∧ Rd w' br (l.drop n) 0 ∧ Keep (· = br) w w' := by
  obtain ⟨i0, hi0, hz0, hz1, hz2⟩ := info_parts Tryd.info5
  obtain ⟨v, hb, hs, hfar⟩ := h.ex
  obtain ⟨v1, r1, s1, f1, ao1, c1, rfl⟩ := run_slice_to (P := Tryd.prog) 22 5 Tryd.underlying22 hi0 hs n (by simpa [Lib.byteCells_length] using hn)
  obtain ⟨v2, r2, s2, f2, ao2, c2, rfl⟩ := run_slice_from (P := Tryd.prog) 22 5 Tryd.underlying22 hi0 hz1 hs n (by simpa [Lib.byteCells_length] using hn)
  obtain ⟨ao, cap, rfl, _, hcap, _⟩ := hs
  have hc := blk_cell (i := 0) hb rfl
  have hf := blk_free (i := 0) hb
  rw [Lib.byteCells_length] at hc r1 r2
  have hle : (n : Int) ≤ (l.length : Int) := by omega
  go_enter Tryd.func39, Tryd.ntmps39
  go_wp2_with fail
  refine (Err_any br l 0 _ h).mono ?_
  rintro e w' ⟨rfl, rfl⟩
  go_wp2
  go_ret
  have g1 : ∀ a k c, Value.slice ao1 n c1 = .slice (some a) k c → a.block < br := fun a k c e => by
    obtain ⟨a', k', c', e', hb'⟩ := f1 a k c e
    rw [hb']
    exact hfar a' k' c' e'
  have g2 : ∀ a k c, Value.slice ao2 ((Lib.byteCells l).length - n) c2 = .slice (some a) k c → a.block < br := fun a k c e => by
    obtain ⟨a', k', c', e', hb'⟩ := f2 a k c e
    rw [hb']
    exact hfar a' k' c' e'
  rw [Lib.byteCells_length] at g2 s2
  rw [← byteCells_take] at s1
  rw [← byteCells_drop] at s2
  refine ⟨_, ao1, c1, rfl, rfl, s1.kept fun a k c e _ => Below.heap_setCell _ _ _ _ (Nat.ne_of_lt (g1 a k c e)), ⟨_, blk_set hb, s2.kept fun a k c e _ => Below.heap_setCell _ _ _ _ (Nat.ne_of_lt (g2 a k c e)), g2⟩, (Keep.refl (· = br) w).setCell rfl _⟩

theorem Num_ok (br : Nat) (l : List UInt8) (n : Int) (w : World) (h : Rd w br l 0) (hn : heldN n ≤ l.length) :
    Calls Tryd.prog 28 #[.pointer (some ⟨br, 0, none⟩), .int .i64 n] w fun e w' => e = .returned (.int .u64 (numOf (l.take (heldN n)) : Nat)) ∧ Rd w' br (l.drop (heldN n)) 0 ∧ Keep (· = br) w w' := by
  go_enter Tryd.func28, Tryd.ntmps28
  go_wp2_with fail
  refine (held_any n _).mono ?_
  rintro e w' ⟨rfl, rfl⟩
  go_wp2_with fail
  refine (take_ok br l (heldN n) _ h hn).mono ?_
  rintro e w' ⟨v, ao, cap, rfl, rfl, hs, hr, hkk⟩
  have hh := heldN_bd n
  obtain ⟨m, hm⟩ : ∃ m, m = l.take (heldN n) := ⟨_, rfl⟩
  have hml : Hid (m.length = heldN n) := by show m.length = heldN n; rw [hm, List.length_take]; omega
  rw [← hm] at hs
  have hm' := hid hm
  clear hm
  go_wp2
  go_loop [5, 13] (fun x i => ∃ k : Nat, k ≤ heldN n ∧ i = .int .i64 k ∧ x = .int .u64 (numOf (m.take k) : Nat)) (fun _ i => heldN n - (intOf i).toNat)
  case atStart => exact ⟨0, Nat.zero_le _, rfl, rfl⟩
  case round =>
    obtain ⟨k, hk, rfl, rfl⟩ := hrel
    by_cases hlt : k < heldN n
    · obtain ⟨a, b, rfl, hcell, hb⟩ := hs.byteAt' (i := k) (by rw [hml.out]; exact hlt)
      have hwr : IntKind.i64.wrap (8 * (k : Int)) = 8 * (k : Int) := IntWalk.i64_in _ (by omega)
      have h80 : (0 : Int) ≤ 8 * (k : Int) := by omega
      have h81 : (8 : Int) * (k : Int) ≤ 64 := by omega
      have h82 : (8 * (k : Int)).toNat = 8 * k := by omega
      have HB := hid hb
      clear hb
      have hor := or_step (numOf (m.take k)) b.toNat k (by
        have h1 := numOf_lt (m.take k)
        have h2 : (m.take k).length = k := by rw [List.length_take, hml.out]; omega
        rwa [h2] at h1) b.toNat_lt (by omega)
      have h2 : (m.take k).length = k := by rw [List.length_take, hml.out]; omega
      have hs2 := numOf_snoc (m.take k) b
      rw [h2, ← take_snoc HB.out] at hs2
      rw [← hs2] at hor
      have HO := hid hor
      clear hor hs2 h2
      go_wp2
      go_round
      case rel => exact ⟨k + 1, by omega, by go_num, by rw [HO.out]⟩
      case measure => simp [intOf]; omega
    · obtain rfl : k = heldN n := by omega
      have hk0 := hid (show heldN n = m.length from hml.out.symm)
      go_wp2
      go_ret
      refine ⟨?_, hr, hkk⟩
      rw [← hm'.out, hk0.out, List.take_length]
      rfl
end
end Go.Proofs.YtjnhgoedhggocaaDoor
