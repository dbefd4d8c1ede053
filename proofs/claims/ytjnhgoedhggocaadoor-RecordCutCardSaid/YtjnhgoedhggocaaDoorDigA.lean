/-
  Package digest and the document's own answer (rickref01): words turned.
-/
import Derived.Test.YtjnhgoedhggocaaDoorBase
import Derived.Test.YtjnhgoedhggocaaDoorLaw3
import Derived.Test.YtjnhgoedhggocaaDoorShaU
import Derived.Deep.RegionHeld3
import Derived.Deep.AppendLies
import Derived.Deep.DrawnRows
import Derived.Deep.QuietTactic
import Derived.BigQuiet
namespace Go.Proofs.YtjnhgoedhggocaaDoor
open Go.RowKit

/-! ### Words, as the walk spells them -/
def W32 (x : UInt32) : Value := .int .u32 (x.toNat : Int)
theorem wx (x y : UInt32) : bits .xor .u32 (x.toNat : Int) (y.toNat : Int) = ((Sha.u32.xor x y).toNat : Int) := by rw [u32_xor_nat _ _ (Sha.lt32 x) (Sha.lt32 y), Sha.u32_xor]
theorem wa (x y : UInt32) : bits .and .u32 (x.toNat : Int) (y.toNat : Int) = ((Sha.u32.and x y).toNat : Int) := by rw [u32_and_nat _ _ (Sha.lt32 x) (Sha.lt32 y), Sha.u32_and]
theorem wo (x y : UInt32) : bits .or .u32 (x.toNat : Int) (y.toNat : Int) = ((Sha.u32.or x y).toNat : Int) := by rw [u32_or_nat _ _ (Sha.lt32 x) (Sha.lt32 y), Sha.u32_or]
theorem wadd (x y : UInt32) : ((x.toNat : Int) + (y.toNat : Int)) % 4294967296 = ((Sha.u32.add x y).toNat : Int) := by rw [Sha.u32_add, Sha.mask_mod]; omega
theorem cast_shr (a r : Nat) : (a : Int) / 2 ^ r = ((a >>> r : Nat) : Int) := by
  rw [Nat.shiftRight_eq_div_pow]; simp
theorem cast_shl (a r : Nat) : (a : Int) * 2 ^ r % 4294967296 = (((a <<< r) &&& 4294967295 : Nat) : Int) := by
  rw [Sha.mask_mod, Nat.shiftLeft_eq]; simp
theorem mask_same {a : Nat} (h : a < 4294967296) : a &&& 4294967295 = a := by rw [Sha.mask_mod]; omega
theorem shr_lt {a : Nat} (h : a < 4294967296) (r : Nat) : a >>> r < 4294967296 := by
  rw [Nat.shiftRight_eq_div_pow]; exact Nat.lt_of_le_of_lt (Nat.div_le_self _ _) h
theorem wshr (x : UInt32) (r : Nat) : (x.toNat : Int) / 2 ^ r = ((Sha.u32.shr r x).toNat : Int) := by
  rw [Sha.u32_shr, cast_shr, mask_same (shr_lt (Sha.lt32 x) r)]
theorem wshl (x : UInt32) (r : Nat) : (x.toNat : Int) * 2 ^ r % 4294967296 = ((Sha.u32.shl r x).toNat : Int) := by
  rw [Sha.u32_shl, cast_shl]
theorem wrot (x : UInt32) (r : Nat) : bits .or .u32 ((x.toNat : Int) / 2 ^ r) ((x.toNat : Int) * 2 ^ (32 - r) % 4294967296) = ((Sha.u32.rot r x).toNat : Int) := by
  rw [cast_shr, cast_shl, u32_or_nat _ _ (shr_lt (Sha.lt32 x) r) Sha.lo, Sha.u32_rot, Nat.and_or_distrib_right, mask_same (shr_lt (Sha.lt32 x) r)]

set_option maxHeartbeats 400000 in
theorem turned_any (x : UInt32) (r : Nat) (h1 : 0 < r) (h2 : r < 32) (w : World) :
    Calls Tryd.prog 45 #[.int .u32 x.toNat, .int .u64 r] w fun e w' => e = .returned (.int .u32 (Sha.u32.rot r x).toNat) ∧ w = w' := by
  go_enter Tryd.func45, Tryd.ntmps45
  go_wp2
  go_ret
  exact ⟨ret_int (wrot x r), rfl⟩
set_option maxHeartbeats 400000 in
theorem turn_any (x : UInt32) (r : Nat) (h1 : 0 < r) (h2 : r < 32) (w : World) :
    Calls Tryd.prog 41 #[.int .u32 x.toNat, .int .u64 r] w fun e w' => e = .returned (.int .u32 (Sha.u32.rot r x).toNat) ∧ w = w' := by
  go_enter Tryd.func41, Tryd.ntmps41
  go_wp2
  go_ret
  exact ⟨ret_int (wrot x r), rfl⟩

/-! ### A block of words -/
theorem W32_def (x : UInt32) : W32 x = .int .u32 (x.toNat : Int) := rfl
theorem blk32_at {w : World} {b : Nat} {ws : List UInt32} {t : TypeId} (h : w.heap[b]? = some (.cells (ws.map W32).toArray t (0, 0))) {i : Nat} {x : UInt32} (hx : ws[i]? = some x) : w.cell? ⟨b, i, none⟩ = some (.int .u32 (x.toNat : Int)) :=
  blk_cell h (by simp [hx, W32])
theorem blk32_set {w : World} {b : Nat} {ws : List UInt32} {t : TypeId} (h : w.heap[b]? = some (.cells (ws.map W32).toArray t (0, 0))) (i : Nat) (x : UInt32) : (w.setCell ⟨b, i, none⟩ (.int .u32 (x.toNat : Int))).heap[b]? = some (.cells ((ws.set i x).map W32).toArray t (0, 0)) := by
  rw [blk_set h, List.setIfInBounds_toArray, List.map_set]
  rfl
theorem fill_set {α : Type} (L : List α) (z : α) (n k : Nat) {x : α} (hx : L[k]? = some x) (hn : k < n) : (L.take k ++ List.replicate (n - k) z).set k x = L.take (k + 1) ++ List.replicate (n - (k + 1)) z := by
  have hk := (List.getElem?_eq_some_iff.1 hx).1
  have hl : (L.take k).length = k := by rw [List.length_take]; omega
  rw [List.set_append_right _ _ (by omega), hl, Nat.sub_self, show n - k = (n - (k + 1)) + 1 by omega, List.replicate_succ, List.set_cons_zero, take_snoc hx, List.append_assoc]
  rfl
theorem Sl.cap {w : World} {ao : Option Addr} {n cap : Nat} {cs : List Value} (h : Sl w (.slice ao n cap) cs) : cs.length ≤ cap := by
  obtain ⟨_, c, hv, _, hc, _⟩ := h
  obtain ⟨_, _, rfl⟩ := Value.slice.inj hv
  exact hc
theorem Sl.byteIn {w : World} {a : Addr} {n cap : Nat} {l : List UInt8} (h : Sl w (.slice (some a) n cap) (Lib.byteCells l)) {i : Nat} (hi : i < l.length) :
    ∃ b, w.cell? (a.add i) = some (.int .u8 (UInt8.toNat b)) ∧ l[i]? = some b := by
  obtain ⟨a', b, e, h1, h2⟩ := h.byteAt' hi
  cases e
  exact ⟨b, h1, h2⟩
theorem add0 (a : Addr) : a.add 0 = a := by simp [Addr.add]
theorem addS (a : Addr) (n : Nat) (h : n ≠ 0) : a.add n = ⟨a.block, a.off + n, none⟩ := by simp [Addr.add, h]

/-- Four bytes as a word, as the walk spells it. -/
theorem wmod (x : UInt32) : (x.toNat : Int) % 4294967296 = (x.toNat : Int) := by have := Sha.lt32 x; omega
theorem wword (a b c d : UInt32) : bits .or .u32 (bits .or .u32 (bits .or .u32 ((a.toNat : Int) % 4294967296 * 16777216 % 4294967296) ((b.toNat : Int) % 4294967296 * 65536 % 4294967296)) ((c.toNat : Int) % 4294967296 * 256 % 4294967296)) ((d.toNat : Int) % 4294967296) = ((Sha.word Sha.u32 a b c d).toNat : Int) := by
  have e24 := wshl a 24
  have e16 := wshl b 16
  have e8 := wshl c 8
  rw [show (2 : Int) ^ 24 = 16777216 from rfl] at e24
  rw [show (2 : Int) ^ 16 = 65536 from rfl] at e16
  rw [show (2 : Int) ^ 8 = 256 from rfl] at e8
  rw [wmod, wmod, wmod, wmod, e24, e16, e8, wo, wo, wo]
  rfl

theorem Tryd.sizeW64 : (Tryd.prog.info? 64).map (·.size) = some 64 := by kernel_rfl
theorem Tryd.sizeW8 : (Tryd.prog.info? 58).map (·.size) = some 8 := by kernel_rfl
theorem Tryd.sizeSt : (Tryd.prog.info? 59).map (·.size) = some 8 := by kernel_rfl
theorem cells32_size (ws : List UInt32) : (ws.map W32).toArray.size = ws.length := by simp
theorem cells32_one (ws : List UInt32) : (ws.map W32).toArray.all (·.oneCell') = true := by
  rw [Array.all_eq_true_iff_forall_mem]
  intro v hv
  obtain ⟨x, _, rfl⟩ := List.mem_map.1 (by simpa using hv)
  rfl
theorem wlit0 (x : UInt32) : bits .xor .u32 (bits .xor .u32 ((Sha.u32.rot 7 x).toNat : Int) ((Sha.u32.rot 18 x).toNat : Int)) ((x.toNat : Int) / 8) = ((Sha.lit0 Sha.u32 x).toNat : Int) := by
  have e := wshr x 3
  rw [show (2 : Int) ^ 3 = 8 from rfl] at e
  rw [e, wx, wx]
  rfl
theorem wlit1 (x : UInt32) : bits .xor .u32 (bits .xor .u32 ((Sha.u32.rot 17 x).toNat : Int) ((Sha.u32.rot 19 x).toNat : Int)) ((x.toNat : Int) / 1024) = ((Sha.lit1 Sha.u32 x).toNat : Int) := by
  have e := wshr x 10
  rw [show (2 : Int) ^ 10 = 1024 from rfl] at e
  rw [e, wx, wx]
  rfl
theorem wadd4 (a b c d : UInt32) : ((a.toNat : Int) + (b.toNat : Int) + (c.toNat : Int) + (d.toNat : Int)) % 4294967296 = ((Sha.u32.add (Sha.u32.add (Sha.u32.add a b) c) d).toNat : Int) := by
  rw [Sha.u32_add, Sha.u32_add, Sha.u32_add, Sha.mask_mod, Sha.mask_mod, Sha.mask_mod]
  omega

theorem rev_get {α : Type} (r : List α) (d : α) (i j : Nat) (h : r.length = i + j + 1) (z : List α) : (r.reverse ++ z)[i]? = some (r.getD j d) := by
  have hl : r.reverse.length = i + j + 1 := by rw [List.length_reverse, h]
  rw [List.getElem?_append_left (by omega), List.getElem?_reverse (by omega), h, show i + j + 1 - 1 - i = j by omega, List.getD_eq_getElem?_getD, List.getElem?_eq_getElem (by omega)]
  rfl
theorem rev_set {α : Type} (r : List α) (x z : α) (i n : Nat) (h : r.length = i) : (r.reverse ++ List.replicate (n + 1) z).set i x = (x :: r).reverse ++ List.replicate n z := by
  have hl : r.reverse.length = i := by rw [List.length_reverse, h]
  rw [List.set_append_right _ _ (by omega), hl, Nat.sub_self, List.replicate_succ, List.set_cons_zero, List.reverse_cons, List.append_assoc]
  rfl

/-! ### schedule -/
set_option maxHeartbeats 2000000 in
theorem schedule_any (v : Value) (bs : List UInt8) (hl : bs.length = 64) (w : World) (hv : Sl w v (Lib.byteCells bs)) :
    Calls Tryd.prog 44 #[v] w fun e w' => e = .returned (.agg ((Sha.grow Sha.u32 48 (Sha.words Sha.u32 (bs.map Sha.inn)).reverse).reverse.map W32).toArray) ∧ Below w.heap.size w w' := by
  obtain ⟨ao, cap, rfl⟩ := hv.form
  rw [Lib.byteCells_length] at hv ⊢
  rw [hl] at hv ⊢
  have hcap := hv.cap
  rw [Lib.byteCells_length, hl] at hcap
  obtain ⟨a, _, rfl, _, _⟩ := hv.byteAt' (i := 0) (by omega)
  obtain ⟨L, hL⟩ : ∃ L, L = Sha.words Sha.u32 (bs.map Sha.inn) := ⟨_, rfl⟩
  have hLl : L.length = 16 := by rw [hL]; exact Sha.words_length _ 16 _ (by rw [List.length_map, hl])
  have HL := hid hL
  rw [← hL]
  clear hL
  obtain ⟨Z, hZ⟩ : ∃ Z : List UInt32, Z = List.replicate 64 0 := ⟨_, rfl⟩
  have HZ := hid hZ
  clear hZ
  go_enter Tryd.func44, Tryd.ntmps44
  go_wp2
  go_loopw [11] (fun i wr => ∃ k : Nat, k ≤ 16 ∧ i = .int .i64 (k : Int) ∧ wr.heap[w.heap.size]? = some (.cells (Z.map W32).toArray 64 (0, 0)) ∧ wr.heap[w.heap.size + 1]? = some (.cells ((L.take k ++ List.replicate (64 - k) 0).map W32).toArray 64 (0, 0)) ∧ Below w.heap.size w wr) (fun i _ => 16 - (intOf i).toNat)
  case atStart =>
    refine ⟨0, by omega, rfl, ?_, ?_, (Below.refl _ _).alloc (Nat.le_refl _) _ |>.alloc (by simp) _⟩
    · rw [HZ.out]
      exact heap_alloc2_old w _ _
    · exact heap_alloc2_new w _ _
  case round =>
    obtain ⟨k, hk, rfl, hb0, hb1, hbel⟩ := hrel
    by_cases hlt : k < 16
    · have hs := (hv.old hbel)
      obtain ⟨b0, hc0, hg0⟩ := hs.byteIn (i := 4 * k + 0) (by omega)
      obtain ⟨b1, hc1, hg1⟩ := hs.byteIn (i := 4 * k + 1) (by omega)
      obtain ⟨b2, hc2, hg2⟩ := hs.byteIn (i := 4 * k + 2) (by omega)
      obtain ⟨b3, hc3, hg3⟩ := hs.byteIn (i := 4 * k + 3) (by omega)
      rw [← Sha.inn_toNat, ← addr_add_add] at hc0 hc1 hc2 hc3
      rw [add0] at hc0
      rw [addS _ _ (by omega)] at hc1 hc2 hc3
      have i1 : (k : Int) < 16 := by omega
      have i0 : (0 : Int) ≤ (k : Int) := Int.natCast_nonneg _
      have i2 : 4 * (k : Int) + 4 ≤ (cap : Int) := by omega
      have i3 : ¬ cap = 4 * k := by omega
      have hG : L[k]? = some (Sha.word Sha.u32 (Sha.inn b0) (Sha.inn b1) (Sha.inn b2) (Sha.inn b3)) := by
        rw [HL.out]
        exact Sha.words_get Sha.u32 k _ (by rw [List.getElem?_map, show 4 * k = 4 * k + 0 from rfl, hg0]; rfl) (by rw [List.getElem?_map, hg1]; rfl) (by rw [List.getElem?_map, hg2]; rfl) (by rw [List.getElem?_map, hg3]; rfl)
      have hcs : wr.cell? ⟨w.heap.size + 1, k, none⟩ = some (.int .u32 (((0 : UInt32).toNat : Nat) : Int)) := blk32_at hb1 (by rw [List.getElem?_append_right (by rw [List.length_take]; omega), List.length_take, List.getElem?_replicate, if_pos (by omega)])
      have hfs := blk_free (i := k) hb1
      have hnew := blk32_set hb1 k (Sha.word Sha.u32 (Sha.inn b0) (Sha.inn b1) (Sha.inn b2) (Sha.inn b3))
      rw [fill_set L 0 64 k hG (by omega)] at hnew
      have hold := (Below.heap_setCell wr ⟨w.heap.size + 1, k, none⟩ (.int .u32 ((Sha.word Sha.u32 (Sha.inn b0) (Sha.inn b1) (Sha.inn b2) (Sha.inn b3)).toNat : Int)) w.heap.size (by show ¬ w.heap.size = w.heap.size + 1; omega)).trans hb0
      have HN := hid hnew
      have HO := hid hold
      clear hg0 hg1 hg2 hg3 hb1 hb0 hnew hold hG
      go_wp2
      go_region
      rw [wword]
      go_wp2
      go_roundw
      case rel => exact ⟨k + 1, by omega, by go_num, HO.out, HN.out, (hbel.setCell (p := ⟨w.heap.size + 1, k, none⟩) (by show _ ≤ w.heap.size + 1; omega) _).drew⟩
      case measure => simp [intOf]; omega
    · obtain rfl : k = 16 := by omega
      clear hk hlt
      rw [List.take_of_length_le (by omega)] at hb1
      rw [show ((16 : Nat) : Int) = 16 from rfl]
      go_wp2
      go_loopw [7] (fun i wr => ∃ k : Nat, k ≤ 48 ∧ i = .int .i64 ((k : Int) + 16) ∧ wr.heap[w.heap.size]? = some (.cells (Z.map W32).toArray 64 (0, 0)) ∧ wr.heap[w.heap.size + 1]? = some (.cells (((Sha.grow Sha.u32 k L.reverse).reverse ++ List.replicate (48 - k) 0).map W32).toArray 64 (0, 0)) ∧ Below w.heap.size w wr) (fun i _ => 64 - (intOf i).toNat)
      case atStart => exact ⟨0, by omega, rfl, hb0, by simpa [Sha.grow] using hb1, hbel⟩
      case round =>
        obtain ⟨k, hk, rfl, hb0, hb1, hbel⟩ := hrel
        by_cases hlt : k < 48
        · have i1 : (k : Int) < 48 := by omega
          have i0 : (0 : Int) ≤ (k : Int) := Int.natCast_nonneg _
          have hGl := Sha.grow_length Sha.u32 k L.reverse
          rw [List.length_reverse, hLl] at hGl
          have h16 := blk32_at hb1 (rev_get _ (Sha.u32.con 0) k 15 (by omega) _)
          have h15 := blk32_at hb1 (rev_get _ (Sha.u32.con 0) (k + 1) 14 (by omega) _)
          have h7 := blk32_at hb1 (rev_get _ (Sha.u32.con 0) (k + 9) 6 (by omega) _)
          have h2 := blk32_at hb1 (rev_get _ (Sha.u32.con 0) (k + 14) 1 (by omega) _)
          have hcs : wr.cell? ⟨w.heap.size + 1, k + 16, none⟩ = some (.int .u32 (((0 : UInt32).toNat : Nat) : Int)) := blk32_at hb1 (by rw [List.getElem?_append_right (by rw [List.length_reverse]; omega), List.length_reverse, List.getElem?_replicate, if_pos (by omega)])
          have hfs := blk_free (i := k + 16) hb1
          have hnew := blk32_set hb1 (k + 16) (Sha.nextW Sha.u32 (Sha.grow Sha.u32 k L.reverse))
          rw [show 48 - k = (48 - (k + 1)) + 1 by omega, rev_set _ _ _ _ _ hGl, ← Sha.grow_succ] at hnew
          have hold := (Below.heap_setCell wr ⟨w.heap.size + 1, k + 16, none⟩ (.int .u32 ((Sha.nextW Sha.u32 (Sha.grow Sha.u32 k L.reverse)).toNat : Int)) w.heap.size (by show ¬ w.heap.size = w.heap.size + 1; omega)).trans hb0
          have HN := hid hnew
          have HO := hid hold
          clear hb1 hb0 hnew hold
          obtain ⟨G, hG⟩ : ∃ G, G = Sha.grow Sha.u32 k L.reverse := ⟨_, rfl⟩
          rw [← hG] at h16 h15 h7 h2 hGl
          obtain ⟨x16, e16⟩ : ∃ x, x = G.getD 15 (Sha.u32.con 0) := ⟨_, rfl⟩
          obtain ⟨x15, e15⟩ : ∃ x, x = G.getD 14 (Sha.u32.con 0) := ⟨_, rfl⟩
          obtain ⟨x7, e7⟩ : ∃ x, x = G.getD 6 (Sha.u32.con 0) := ⟨_, rfl⟩
          obtain ⟨x2, e2⟩ : ∃ x, x = G.getD 1 (Sha.u32.con 0) := ⟨_, rfl⟩
          rw [← e16] at h16
          rw [← e15] at h15
          rw [← e7] at h7
          rw [← e2] at h2
          have HE := hid (show Sha.nextW Sha.u32 (Sha.grow Sha.u32 k L.reverse) = Sha.u32.add (Sha.u32.add (Sha.u32.add x16 (Sha.lit0 Sha.u32 x15)) x7) (Sha.lit1 Sha.u32 x2) by rw [← hG, e16, e15, e7, e2]; rfl)
          clear hG e16 e15 e7 e2 hGl
          go_wp2
          go_region
          go_wp2_with fail
          refine (turned_any x15 7 (by decide) (by decide) _).mono ?_
          rintro e w1 ⟨rfl, rfl⟩
          go_wp2_with fail
          refine (turned_any x15 18 (by decide) (by decide) _).mono ?_
          rintro e w1 ⟨rfl, rfl⟩
          go_wp2_with fail
          refine (turned_any x2 17 (by decide) (by decide) _).mono ?_
          rintro e w1 ⟨rfl, rfl⟩
          go_wp2_with fail
          refine (turned_any x2 19 (by decide) (by decide) _).mono ?_
          rintro e w1 ⟨rfl, rfl⟩
          go_wp2
          go_region
          rw [wlit0, wlit1, wadd4, ← HE.out]
          go_wp2
          go_roundw
          case rel => exact ⟨k + 1, by omega, by go_num, HO.out, HN.out, (hbel.setCell (p := ⟨w.heap.size + 1, k + 16, none⟩) (by show _ ≤ w.heap.size + 1; omega) _).drew.drew⟩
          case measure => simp [intOf]; omega
        · obtain rfl : k = 48 := by omega
          rw [Nat.sub_self, List.replicate_zero, List.append_nil] at hb1
          clear hlt hk
          have hGl : ((Sha.grow Sha.u32 48 L.reverse).reverse).length = 64 := by rw [List.length_reverse, Sha.grow_length, List.length_reverse, hLl]
          obtain ⟨G, hG⟩ : ∃ G, G = (Sha.grow Sha.u32 48 L.reverse).reverse := ⟨_, rfl⟩
          have hGs : (Tryd.prog.info? 64).map (·.size) = some (G.map W32).toArray.size := by rw [cells32_size, hG, hGl, Tryd.sizeW64]
          have hZs : (Z.map W32).toArray.size = (G.map W32).toArray.size := by rw [cells32_size, cells32_size, hG, hGl, HZ.out, List.length_replicate]
          have hfin : (wr.setRow w.heap.size (G.map W32).toArray).heap[w.heap.size]? = some (.cells (G.map W32).toArray 64 (0, 0)) := setRow_heap _ _ _ _ _ _ hb0
          have hbf : Below w.heap.size w (wr.setRow w.heap.size (G.map W32).toArray) := ⟨hbel.os, hbel.tape, hbel.output, by have := hbel.size; simpa [World.setRow] using this, fun k hk => (setRow_other _ _ _ _ (by omega)).trans (hbel.block k hk)⟩
          rw [← hG] at hb1
          go_wp2_with (first
            | refine wpList_load_row rfl 64 _ rfl (w.heap.size + 1) rfl _ _ _ _ hb1 Tryd.underlying64 rfl hGs ?_
            | refine wpList_store_row rfl 64 _ _ rfl w.heap.size _ rfl rfl _ _ hb0 hGs hZs (cells32_one G) ?_)
          exact bodyPost_ret (results_cell_row rfl _ _ w.heap.size _ _ _ _ rfl hfin Tryd.underlying64 rfl hGs) rfl ⟨by rw [hG], hbf⟩
end Go.Proofs.YtjnhgoedhggocaaDoor
