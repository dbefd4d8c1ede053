/-
  The document's own reader (rickref01): take, Num.
-/
import Derived.Test.YtjnhgoedhggocaaDoorOctM
import Derived.Test.YtjnhgoedhggocaaDoorLaw3
import Derived.Deep.QuietTactic
import Derived.BigQuiet
namespace Go.Proofs.YtjnhgoedhggocaaDoor
open Go.RowKit

/-- The document's Reader: its bytes, where it stands, what is wrong; and what is left of it. -/
structure Rf (w : World) (rr H : Nat) (bs : List UInt8) (l : List UInt8) (c : Int) : Prop where
  ex : ∃ v p, w.heap[rr]? = some (.cells #[v, .int .i64 (p : Nat), .int .i64 c] 43 (0, 0)) ∧ Sl w v (Lib.byteCells bs) ∧ ((∀ a n c, v = .slice (some a) n c → bs ≠ [] → a.block < H) ∧ H ≤ rr) ∧ p ≤ bs.length ∧ bs.length ≤ 140737488355328 ∧ (c = 0 → l = bs.drop p) ∧ (c ≠ 0 → l = [])

theorem lo_far {v : Value} {bs : List UInt8} {H rr : Nat} (h : (∀ a n c, v = .slice (some a) n c → bs ≠ [] → a.block < H) ∧ H ≤ rr) : ∀ a n c, v = .slice (some a) n c → bs ≠ [] → a.block ≠ rr := fun a n c e hb => Nat.ne_of_lt (Nat.lt_of_lt_of_le (h.1 a n c e hb) h.2)
/-- Nothing that was there has turned but one block. -/
theorem Rf.old {w w' : World} {rr H : Nat} {bs l : List UInt8} {c : Int} (h : Rf w rr H bs l c) (hk : Below w.heap.size w w') : Rf w' rr H bs l c := by
  obtain ⟨v, p, h1, h2, h3⟩ := h.ex
  exact ⟨v, p, (hk.block rr (lt_of_block h1)).trans h1, h2.old hk, h3⟩

/-- A slice of bytes that lies elsewhere stays. -/
theorem Sl.ownFar {w w' : World} {v : Value} {bs : List UInt8} {rr : Nat} (h : Sl w v (Lib.byteCells bs)) (hfar : ∀ a n c, v = .slice (some a) n c → bs ≠ [] → a.block ≠ rr) (hk : Keep (· = rr) w w') : Sl w' v (Lib.byteCells bs) := by
  obtain ⟨ao, cap, rfl, hn, hcap, hc⟩ := h
  refine ⟨ao, cap, rfl, hn, hcap, fun a ha j u hu => ?_⟩
  have hne : bs ≠ [] := by rintro rfl; simp [Lib.byteCells] at hu
  exact hk.cell (hc a ha j u hu) (hfar a _ _ (by rw [ha]) hne)

/-- What another new block does leaves it as it was. -/
theorem Rf.far {w w' : World} {rr H k : Nat} {bs l : List UInt8} {c : Int} (h : Rf w rr H bs l c) (hk : Keep (· = k) w w') (h1 : H ≤ k) (h2 : rr ≠ k) : Rf w' rr H bs l c := by
  obtain ⟨v, p, hb, hs, hlo, r⟩ := h.ex
  exact ⟨v, p, (hk.block rr (lt_of_block hb) h2).trans hb, hs.ownFar (lo_far ⟨hlo.1, h1⟩) hk, hlo, r⟩

section
set_option maxHeartbeats 1000000
set_option maxRecDepth 100000

theorem ftake_bad (rr H : Nat) (bs l : List UInt8) (c n : Int) (w : World) (h : Rf w rr H bs l c) (hc : c ≠ 0) :
    Calls Tryd.prog 29 #[.pointer (some ⟨rr, 0, none⟩), .int .i64 n] w fun e w' => e = .returned (.tuple #[.slice none 0 0, .bool false]) ∧ Rf w' rr H bs l c ∧ Keep (· = rr) w w' := by
  have hf := h
  obtain ⟨v, p, hb, hs, hlo, hp, hbl, h0, h1⟩ := h.ex
  have hfar := lo_far hlo
  have c0 := blk_cell (i := 0) hb rfl
  have c1 := blk_cell (i := 1) hb rfl
  have c2 := blk_cell (i := 2) hb rfl
  have hg : (c == 0) = false := by simp [hc]
  have hg2 : (c != 0) = true := by simp [hc]
  clear h0 h1 hfar hs hb hc
  go_enter Tryd.func29, Tryd.ntmps29
  go_wp2_with fail
  go_quiet (fail)
  go_wp2
  exact bodyPost_ret (results_tmp2 rfl _ _ _) rfl ⟨rfl, ⟨hf.ex⟩, (Keep.refl (· = rr) w).drewN _⟩

theorem ftake_short (rr H : Nat) (bs l : List UInt8) (n : Nat) (w : World) (h : Rf w rr H bs l 0) (hn : l.length < n) :
    Calls Tryd.prog 29 #[.pointer (some ⟨rr, 0, none⟩), .int .i64 n] w fun e w' => e = .returned (.tuple #[.slice none 0 0, .bool false]) ∧ Rf w' rr H bs [] 4 ∧ Keep (· = rr) w w' := by
  obtain ⟨v, p, hb, hs, hlo, hp, hbl, h0, h1⟩ := h.ex
  have hfar := lo_far hlo
  have hll : l.length = bs.length - p := by rw [h0 rfl, List.length_drop]
  obtain ⟨ao, cap, rfl⟩ := hs.form
  rw [Lib.byteCells_length] at hs hb hfar hlo
  have c0 := blk_cell (i := 0) hb rfl
  have c1 := blk_cell (i := 1) hb rfl
  have c2 := blk_cell (i := 2) hb rfl
  have f2 := blk_free (i := 2) hb
  have hwr : IntKind.i64.wrap ((bs.length : Int) - (p : Int)) = (l.length : Int) := (IntWalk.i64_in _ (by omega)).trans (by omega)
  have hg : ((0 : Int) == 0) = true := rfl
  have hlt : decide ((l.length : Int) < (n : Int)) = true := by simp; omega
  have HB := hid hb
  have HS := hid hs
  clear h0 h1 h hll hs hb
  go_enter Tryd.func29, Tryd.ntmps29
  go_wp2_with fail
  go_quiet (fail)
  go_wp2
  refine bodyPost_ret (results_tmp2 rfl _ _ _) rfl ⟨rfl, ⟨_, p, blk_set (w := w.drewN nq) HB.out, ?_, hlo, hp, hbl, (fun h => by cases h), fun _ => rfl⟩, ((Keep.refl (· = rr) w).drewN nq).setCell rfl _⟩
  exact HS.out.ownFar hfar (((Keep.refl (· = rr) w).drewN nq).setCell rfl _)

theorem ftake_ok (rr H : Nat) (bs l : List UInt8) (n : Nat) (w : World) (h : Rf w rr H bs l 0) (hn : n ≤ l.length) :
    Calls Tryd.prog 29 #[.pointer (some ⟨rr, 0, none⟩), .int .i64 n] w fun e w' => ∃ ao cap, e = .returned (.tuple #[.slice ao n cap, .bool true]) ∧ Sl w' (.slice ao n cap) (Lib.byteCells (l.take n)) ∧ Rf w' rr H bs (l.drop n) 0 ∧ Keep (· = rr) w w' := by
  obtain ⟨i0, hi0, hz0, hz1, hz2⟩ := info_parts Tryd.info5
  obtain ⟨v, p, hb, hs, hlo, hp, hbl, h0, h1⟩ := h.ex
  have hfar := lo_far hlo
  have hl := h0 rfl
  have hll : l.length = bs.length - p := by rw [hl, List.length_drop]
  obtain ⟨am, cm, rm, sm, fm⟩ := run_slice_mid (P := Tryd.prog) 22 5 Tryd.underlying22 hi0 hz1 hs p (p + n) (by omega) (by rw [Lib.byteCells_length]; omega)
  obtain ⟨ao, cap, rfl⟩ := hs.form
  rw [Lib.byteCells_length] at hs hb hfar hlo fm
  rw [Lib.byteCells_length, Nat.add_sub_cancel_left, Int.natCast_add] at rm
  rw [Nat.add_sub_cancel_left, ← byteCells_drop, ← hl, ← byteCells_take] at sm
  have c0 := blk_cell (i := 0) hb rfl
  have c1 := blk_cell (i := 1) hb rfl
  have c2 := blk_cell (i := 2) hb rfl
  have f1 := blk_free (i := 1) hb
  have hwr : IntKind.i64.wrap ((bs.length : Int) - (p : Int)) = (l.length : Int) := (IntWalk.i64_in _ (by omega)).trans (by omega)
  have hwr2 : IntKind.i64.wrap ((p : Int) + (n : Int)) = ((p + n : Nat) : Int) := (IntWalk.i64_in _ (by omega)).trans (by omega)
  have hwr3 : IntKind.i64.wrap (((p + n : Nat) : Int) - (n : Int)) = (p : Int) := (IntWalk.i64_in _ (by omega)).trans (by omega)
  have hg : ((0 : Int) == 0) = true := rfl
  have hlt : decide ((l.length : Int) < (n : Int)) = false := by simp; omega
  have HB := hid hb
  have HS := hid hs
  have HL := hid hl
  have HLL := hid hll
  have SM := hid sm
  clear h0 h1 h hll hs hb sm hl
  go_enter Tryd.func29, Tryd.ntmps29
  go_wp2_with fail
  go_quiet (fail)
  go_wp2_with fail
  have hb2 := blk_set (i := 1) (u := .int .i64 ((p : Int) + (n : Int))) (show (w.drewN nq).heap[rr]? = _ from HB.out)
  have hk2 : Keep (· = rr) w ((w.drewN nq).setCell ⟨rr, 1, none⟩ (.int .i64 ((p : Int) + (n : Int)))) := ((Keep.refl (· = rr) w).drewN nq).setCell rfl _
  generalize (w.drewN nq).setCell ⟨rr, 1, none⟩ (.int .i64 ((p : Int) + (n : Int))) = w2 at hb2 hk2 ⊢
  have d0 := blk_cell (i := 0) hb2 rfl
  have d1 := blk_cell (i := 1) hb2 rfl
  have HB2 := hid hb2
  clear hb2 c0 c1 c2 f1
  go_quiet (fail)
  go_wp2
  have hll := HLL.out
  refine bodyPost_ret (results_tmp2 rfl _ _ _) rfl ⟨am, cm, rfl, ?_, ⟨_, p + n, (show (w2.drewN _).heap[rr]? = _ from HB2.out), ?_, hlo, ?_, hbl, fun _ => ?_, fun h => absurd rfl h⟩, hk2.drewN _⟩
  · refine SM.out.ownFar (fun a k c e hne => ?_) (hk2.drewN _)
    obtain ⟨a', k', c', e', hb⟩ := fm a (by simpa using (Value.slice.inj e).1)
    rw [hb]
    refine hfar a' k' c' e' ?_
    rintro rfl
    rw [HL.out] at hne
    simp at hne
  · exact HS.out.ownFar hfar (hk2.drewN _)
  · omega
  · rw [HL.out, List.drop_drop]

theorem ftake_all (rr H : Nat) (bs l : List UInt8) (c : Int) (n : Nat) (w : World) (h : Rf w rr H bs l c) :
    Calls Tryd.prog 29 #[.pointer (some ⟨rr, 0, none⟩), .int .i64 n] w fun e w' => ∃ ao cap b, e = .returned (.tuple #[.slice ao (stV n l c).length cap, .bool b]) ∧ Sl w' (.slice ao (stV n l c).length cap) (Lib.byteCells (stV n l c)) ∧ Rf w' rr H bs (stL n l c) (stE n l c) ∧ Keep (· = rr) w w' := by
  by_cases hc : c = 0
  · subst hc
    by_cases hl : n ≤ l.length
    · obtain ⟨e1, e2, e3⟩ := st_ok hl
      rw [e1, e2, e3, List.length_take, Nat.min_eq_left hl]
      exact (ftake_ok rr H bs l n w h hl).mono fun e w' ⟨ao, cap, h1, h2, h3, h4⟩ => ⟨ao, cap, true, h1, h2, h3, h4⟩
    · obtain ⟨e1, e2, e3⟩ := st_short (Nat.lt_of_not_le hl)
      rw [e1, e2, e3]
      exact (ftake_short rr H bs l n w h (by omega)).mono fun e w' ⟨h1, h3, h4⟩ => ⟨none, 0, false, h1, Sl.nil _, h3, h4⟩
  · obtain ⟨e1, e2, e3⟩ := st_bad (h := n) (l := l) hc
    rw [e1, e2, e3]
    exact (ftake_bad rr H bs l c n w h hc).mono fun e w' ⟨h1, h3, h4⟩ => ⟨none, 0, false, h1, Sl.nil _, h3, h4⟩

theorem or_low (a b : Nat) (ha : a < 72057594037927936) (hb : b < 256) : bits .or .u64 (IntKind.u64.wrap ((a : Int) * 256)) (IntKind.u64.wrap (b : Int)) = ((b + 256 * a : Nat) : Int) := by
  have e1 : IntKind.u64.wrap (b : Int) = (b : Int) := by rw [IntKind.wrap_u64]; omega
  have e3 : IntKind.u64.wrap ((a : Int) * 256) = ((a * 256 : Nat) : Int) := by rw [IntKind.wrap_u64]; omega
  rw [e1, e3, u64_or_nat _ _ (by omega) (by omega), nat_join 8 _ _ (by omega) (by omega), Nat.add_comm, Nat.mul_comm]
theorem numOf_drop {m : List UInt8} {j : Nat} {b : UInt8} (h : m[j]? = some b) : numOf (m.drop j) = b.toNat + 256 * numOf (m.drop (j + 1)) := by
  obtain ⟨hj, rfl⟩ := List.getElem?_eq_some_iff.1 h
  rw [List.drop_eq_getElem_cons hj, numOf]
theorem numOf_drop_lt {m : List UInt8} {j : Nat} (hm : m.length ≤ 8) : numOf (m.drop (j + 1)) < 72057594037927936 := by
  refine Nat.lt_of_lt_of_le (numOf_lt _) (Nat.le_trans (Nat.pow_le_pow_right (by omega) (show _ ≤ 56 from ?_)) (by decide))
  rw [List.length_drop]
  omega

theorem held_ifs (n : Int) : ∃ x : Int, (if (8 : Int) < n then (8 : Int) else n) = x ∧ (if (1 : Int) < x then x else 1) = (heldN n : Int) := by
  refine ⟨_, rfl, ?_⟩
  unfold heldN
  split <;> split <;> omega

theorem FNum_all (rr H : Nat) (bs l : List UInt8) (c n : Int) (w : World) (h : Rf w rr H bs l c) :
    Calls Tryd.prog 20 #[.pointer (some ⟨rr, 0, none⟩), .int .i64 n] w fun e w' => e = .returned (.int .u64 (numOf (stV (heldN n) l c) : Nat)) ∧ Rf w' rr H bs (stL (heldN n) l c) (stE (heldN n) l c) ∧ Keep (· = rr) w w' := by
  obtain ⟨x, hx1, hx2⟩ := held_ifs n
  have hh := heldN_bd n
  have hml : (stV (heldN n) l c).length ≤ 8 := by
    unfold stV
    split
    · simp
    · split
      · simp
      · rw [List.length_take]; omega
  go_enter Tryd.func20, Tryd.ntmps20
  go_wp2_with fail
  refine (ftake_all rr H bs l c (heldN n) w h).mono ?_
  rintro e w' ⟨ao, cap, b, rfl, hs, hr, hk0⟩
  clear hx1 hx2
  obtain ⟨m, hm⟩ : ∃ m, m = stV (heldN n) l c := ⟨_, rfl⟩
  rw [← hm] at hs hml ⊢
  have HM := hid hm
  clear hm
  go_wp2
  go_loop [7, 8] (fun v i => ∃ k : Nat, k ≤ m.length ∧ i = .int .i64 ((k : Int) - 1) ∧ v = .int .u64 (numOf (m.drop k) : Nat)) (fun _ i => (intOf i + 1).toNat)
  case atStart => exact ⟨m.length, Nat.le_refl _, by go_num, by rw [List.drop_length]; rfl⟩
  case round =>
    obtain ⟨k, hk, rfl, rfl⟩ := hrel
    by_cases hlt : 0 < k
    · obtain ⟨j, rfl⟩ : ∃ j, k = j + 1 := ⟨k - 1, by omega⟩
      obtain ⟨a, b, rfl, hcell, hb⟩ := hs.byteAt' (i := j) (by omega)
      have hjj : ((j + 1 : Nat) : Int) - 1 = (j : Int) := by omega
      have hj1 : j < m.length := by omega
      rw [hjj]
      have hor := hid ((or_low _ _ (numOf_drop_lt (j := j) hml) b.toNat_lt).trans (congrArg (fun q : Nat => (q : Int)) (numOf_drop hb).symm))
      clear hb hjj
      go_wp2
      go_round
      case rel => exact ⟨j, by omega, rfl, by rw [hor.out]⟩
      case measure => simp [intOf]
    · obtain rfl : k = 0 := by omega
      go_wp2
      go_ret
      refine ⟨?_, hr, hk0⟩
      rw [← HM.out]
      rfl
end
end Go.Proofs.YtjnhgoedhggocaaDoor
