/-
  Package digest: all blocks mixed in (state.addAll), what stands behind the bytes (ending), the name's bytes (state.key).
-/
import Derived.Test.YtjnhgoedhggocaaDoorDigB
namespace Go.Proofs.YtjnhgoedhggocaaDoor
open Go.RowKit

theorem Sl.mid {w : World} {a : Addr} {n cap : Nat} {cs : List Value} (h : Sl w (.slice (some a) n cap) cs) (i j : Nat) (hij : i ≤ j) (hj : j ≤ cs.length) : Sl w (.slice (some (a.add i)) (j - i) (cap - i)) ((cs.drop i).take (j - i)) := by
  have hcap := h.cap
  have hl : ((cs.drop i).take (j - i)).length = j - i := by rw [List.length_take, List.length_drop]; omega
  obtain ⟨_, _, hv, _, _, hc⟩ := h
  obtain ⟨rfl, _, rfl⟩ := Value.slice.inj hv
  refine ⟨some (a.add i), cap - i, by rw [hl], (fun h => by cases h), by rw [hl]; omega, fun a' ha k u hu => ?_⟩
  cases ha
  rw [List.getElem?_take] at hu
  split at hu
  · rw [List.getElem?_drop] at hu
    rw [addr_add_add]
    exact hc a rfl _ u hu
  · cases hu

set_option maxRecDepth 100000 in
set_option maxHeartbeats 1000000 in
theorem addAll_any (b : Nat) (s : Sha.St UInt32) (v : Value) (bs : List UInt8) (hlen : bs.length ≤ 1125899906842624) (w : World) (hv : Sl w v (Lib.byteCells bs)) (hne : 0 < bs.length → ∀ a n c, v = .slice (some a) n c → a.block ≠ b) (ht : Tab w) (hb : b ≠ 0) (hs : StAt w b s) :
    Calls Tryd.prog 31 #[.pointer (some ⟨b, 0, none⟩), v] w fun e w' => e = .returned (.tuple #[]) ∧ StAt w' b (Sha.blocks Sha.u32 (bs.length / 64) s (bs.map Sha.inn)) ∧ Keep (· = b) w w' := by
  obtain ⟨ao, cap, rfl⟩ := hv.form
  rw [Lib.byteCells_length] at hv hne ⊢
  have hcap := hv.cap
  rw [Lib.byteCells_length] at hcap
  go_enter Tryd.func31, Tryd.ntmps31
  go_wp2
  go_loopw [4] (fun i wr => ∃ j : Nat, 64 * j ≤ bs.length ∧ i = .int .i64 (64 * (j : Int)) ∧ StAt wr b (Sha.blocks Sha.u32 j s (bs.map Sha.inn)) ∧ Keep (· = b) w wr) (fun i _ => bs.length - (intOf i).toNat)
  case atStart => exact ⟨0, by omega, rfl, hs, Keep.refl _ _⟩
  case round =>
    obtain ⟨j, hj, rfl, hst, hkeep⟩ := hrel
    by_cases hlt : 64 * j + 64 ≤ bs.length
    · obtain ⟨a, _, rfl, _, _⟩ := hv.byteAt' (i := 0) (by omega)
      have hsl : Sl wr _ _ := hv.kept fun a' n c e hlt' => hkeep.block _ hlt' (hne (by omega) a' n c e)
      have hm := hsl.mid (64 * j) (64 * j + 64) (by omega) (by rw [Lib.byteCells_length]; exact hlt)
      rw [Nat.add_sub_cancel_left, ← byteCells_drop, ← byteCells_take] at hm
      have htr : Tab wr := ht.kept (hkeep.block 0 ht.pos (by show ¬ 0 = b; omega))
      have i1 : 64 * (j : Int) + 64 ≤ (bs.length : Int) := by omega
      have i0 : (0 : Int) ≤ (j : Int) := Int.natCast_nonneg _
      have i2 : 64 * (j : Int) + 64 ≤ (cap : Int) := by omega
      have i3 : ¬ cap = 64 * j := by omega
      have i4 : 64 * (j : Int) + 64 ≤ 9223372036854775807 := by omega
      have hsum : 64 * j + 64 - 64 * j = 64 := by omega
      have hll : ((bs.drop (64 * j)).take 64).length = 64 := by rw [List.length_take, List.length_drop]; omega
      clear hsl hv
      go_wp2_with fail
      refine (add_any b _ _ _ hll wr hm htr hst).mono ?_
      rintro e w1 ⟨rfl, hst1, hk1⟩
      have hst2 : StAt w1 b (Sha.blocks Sha.u32 (j + 1) s (bs.map Sha.inn)) := by
        rw [Sha.blocks_succ, ← List.map_drop, ← List.map_take]
        exact hst1
      clear hst1 hm
      go_wp2
      go_roundw
      case rel => exact ⟨j + 1, by omega, by go_num, hst2, hkeep.trans hk1⟩
      case measure => simp [intOf]; omega
    · obtain rfl : j = bs.length / 64 := by omega
      have i1 : ¬ 64 * ((bs.length / 64 : Nat) : Int) + 64 ≤ (bs.length : Int) := by omega
      have i4 : 64 * ((bs.length / 64 : Nat) : Int) + 64 ≤ 9223372036854775807 := by omega
      have i0 : (0 : Int) ≤ ((bs.length / 64 : Nat) : Int) := Int.natCast_nonneg _
      obtain ⟨q, hq⟩ : ∃ q, q = bs.length / 64 := ⟨_, rfl⟩
      rw [← hq] at i1 i4 i0 hst ⊢
      have H := hid hst
      have HQ := hid hq
      clear hst hj hlt hq
      go_wp2
      go_end0
      exact ⟨rfl, by rw [← HQ.out]; exact H.out, hkeep⟩

/-- Eight bytes of a number, the highest first, as far as they are written. -/
def be (x k : Nat) : List UInt8 := (List.range k).map fun i => UInt8.ofNat (x / 2 ^ (8 * (7 - i)))
theorem be_length (x k : Nat) : (be x k).length = k := by simp [be]
theorem be_succ (x k : Nat) : be x (k + 1) = be x k ++ [UInt8.ofNat (x / 2 ^ (8 * (7 - k)))] := by simp [be, List.range_succ]
/-- What stands behind bytes: l of them are left over, n are all. -/
def tailB (l n : Nat) : List UInt8 := 128 :: List.replicate (Sha.zeros l) 0 ++ be (8 * n) 8
theorem tailB_length (l n : Nat) : (tailB l n).length = Sha.zeros l + 9 := by simp [tailB, be_length]

theorem byte_div (x e : Nat) : (x : Int) / 2 ^ e % 256 = ((UInt8.ofNat (x / 2 ^ e)).toNat : Int) := by
  rw [UInt8.toNat_ofNat', Int.natCast_emod, Int.natCast_ediv]
  simp
def sliceLenV : Value → Nat
  | .slice _ n _ => n
  | _ => 0
theorem own_make {w : World} {e : TypeId} (n : Nat) (mc : Array Value) (hm : mc.size = n) (hn : n ≤ maxLen) : (w.alloc (.cells mc e)).ownsRow w.heap.size e 1 (.slice (some ⟨w.heap.size, 0, none⟩) 0 n) 0 [] :=
  ⟨rfl, .inr ⟨w.heap.size, n, mc, rfl, Nat.le_refl _, heap_alloc_new w _, Nat.zero_le _, hn, by rw [hm, Nat.mul_one], rfl⟩⟩

set_option maxRecDepth 100000 in
set_option maxHeartbeats 1000000 in
theorem ending_any (v : Value) (bs : List UInt8) (n : Nat) (hl : bs.length < 64) (hn : n ≤ 1125899906842624) (w : World) (hv : Sl w v (Lib.byteCells bs)) :
    Calls Tryd.prog 32 #[v, .int .u64 (n : Int)] w fun e w' => ∃ v', e = .returned v' ∧ w'.ownsRow w.heap.size 5 1 v' (bs.length + 1 + Sha.zeros bs.length + 8) (Lib.byteCells (bs ++ tailB bs.length n)) ∧ Below w.heap.size w w' := by
  obtain ⟨i0, hi0, hi1, hi2, hi3⟩ := info_parts Tryd.info5
  have hmk := run_make (P := Tryd.prog) w 22 5 i0 (.int .u8 0) Tryd.underlying22 hi0 hi1 .i64 .i64 0 128 (by omega) (by omega) (by rw [hi3]; omega) (by omega)
  obtain ⟨mc, hmc, hms⟩ : ∃ mc, mc = madeCells (Value.int .u8 0).cells ((128 : Int).toNat * i0.size) ∧ mc.size = 128 := ⟨_, rfl, by rw [size_madeCells, hi2]; rfl⟩
  rw [← hmc, show ((0 : Int)).toNat = 0 from rfl, show (128 : Int).toNat = 128 from rfl] at hmk
  have hown0 := own_make (w := w) (e := 5) 128 mc hms (by decide)
  clear hmc hms
  have hbl := hid (Lib.byteCells_length bs)
  have g1 : 0 + (Lib.byteCells bs).length ≤ maxLen := by rw [hbl.out]; unfold maxLen; omega
  have g2 : (0 + (Lib.byteCells bs).length) * 1 ≤ 140737488355328 := by rw [hbl.out]; omega
  obtain ⟨ao, cap, hvf⟩ := hv.form
  subst hvf
  rw [hbl.out] at hv ⊢
  go_enter Tryd.func32, Tryd.ntmps32
  have g3 : 0 + (Lib.byteCells bs).length + 1 ≤ maxLen := by rw [hbl.out]; unfold maxLen; omega
  have g4 : (0 + (Lib.byteCells bs).length + 1) * 1 ≤ 140737488355328 := by rw [hbl.out]; omega
  go_wp2_with (first
    | (refine wpList_append_any _ rfl (.tmp 9) (.tmp 10) _ _ rfl w.heap.size 5 i0 _ 1 1 Tryd.underlying22 hi0 hi1 hi2 hi3 rfl (by omega) _ 0 [] rfl hown0 _ _ _ rfl ((hv.alloc _).src Tryd.underlying22 (byte_one _)) g1 g2 (by simp) ?_; intro v3 w3 hown3 hgrow3 hat3; have hb3 := ((Below.refl w.heap.size w).alloc (Nat.le_refl _) (.cells mc 5)).grown hgrow3 (by simp) (fun j hj => (hown0.lt j hj).1))
    | (refine wpList_append_any _ rfl (.tmp 12) (.tmp 13) _ _ rfl w.heap.size 5 i0 _ 1 1 Tryd.underlying22 hi0 hi1 hi2 hi3 rfl (by omega) _ _ _ rfl (hown3.alloc _) _ 1 [_] rfl (Src.ofSlice _ Tryd.underlying22 ⟨w3.heap.size, 0, none⟩ 1 1 [_] (by rfl) (World.news_of_block (cs := #[_]) (t := 5) (fr := (0, 0)) (heap_alloc_new w3 _)) (by simp [Value.oneCell'])) g3 g4 (by have := hb3.size; simp; omega) ?_; intro v4 w4 hown4 hgrow4 hat4))
  have hb4 : Below w.heap.size w w4 := (hb3.alloc hb3.size _).grown hgrow4 (by have := hb3.size; simp; omega) (fun j hj => (hown3.lt j hj).1)
  rw [List.nil_append, Nat.zero_add, hbl.out] at hown4
  have hown5 : w4.ownsRow w.heap.size 5 1 v4 (bs.length + 1 + 0) (Lib.byteCells (bs ++ 128 :: List.replicate 0 0)) := by
    rw [Lib.byteCells_append]
    exact hown4
  clear hown4 hgrow4 hat4 hb3 hown3 hgrow3 hat3 g1 g2 g3 g4 hv hown0 hmk
  obtain ⟨z, hz⟩ : ∃ z, z = Sha.zeros bs.length := ⟨_, rfl⟩
  have HZ := hid hz
  unfold Sha.zeros at hz
  rw [Nat.mod_eq_of_lt hl] at hz
  go_loopw [5] (fun o wr => ∃ k : Nat, k ≤ z ∧ wr.ownsRow w.heap.size 5 1 o (bs.length + 1 + k) (Lib.byteCells (bs ++ 128 :: List.replicate k 0)) ∧ Below w.heap.size w wr) (fun o _ => 128 - sliceLenV o)
  case atStart => exact ⟨0, by omega, hown5, hb4⟩
  case round =>
    obtain ⟨k, hk, hown, hbel⟩ := hrel
    obtain ⟨ao', cap', rfl⟩ := owns_form hown
    by_cases hlt : k < z
    · have hcond : (((bs.length : Int) + 1 + (k : Int)) % 64 != 56) = true := by simp; omega
      have hsz := hbel.size
      have g3 : bs.length + 1 + k + 1 ≤ maxLen := by unfold maxLen; omega
      have g4 : (bs.length + 1 + k + 1) * 1 ≤ 140737488355328 := by omega
      go_wp2_with (refine wpList_append_any _ rfl (.tmp 19) (.tmp 20) _ _ rfl w.heap.size 5 i0 _ 1 1 Tryd.underlying22 hi0 hi1 hi2 hi3 rfl (by omega) _ _ _ rfl (hown.alloc _) _ 1 [_] rfl (Src.ofSlice _ Tryd.underlying22 ⟨wr.heap.size, 0, none⟩ 1 1 [_] (by rfl) (World.news_of_block (cs := #[_]) (t := 5) (fr := (0, 0)) (heap_alloc_new wr _)) (by simp [Value.oneCell'])) g3 g4 (by simp; omega) ?_; intro v5 w5 hown5 hgrow5 hat5)
      have hb5 : Below w.heap.size w w5 := (hbel.alloc hsz _).grown hgrow5 (by simp; omega) (fun j hj => (hown.lt j hj).1)
      have R : w5.ownsRow w.heap.size 5 1 v5 (bs.length + 1 + (k + 1)) (Lib.byteCells (bs ++ 128 :: List.replicate (k + 1) 0)) := by
        rw [List.replicate_succ', ← List.cons_append, ← List.append_assoc, Lib.byteCells_append]
        exact hown5
      clear hown5 hgrow5 hat5 hown
      obtain ⟨ao5, cap5, rfl⟩ := owns_form R
      go_roundw
      case rel => exact ⟨k + 1, by omega, R, hb5⟩
      case measure => simp [sliceLenV]; omega
    · obtain rfl : k = z := by omega
      have hcond : (((bs.length : Int) + 1 + (k : Int)) % 64 != 56) = false := by simp; omega
      have HZ2 := hid hz
      clear hz hlt hk
      go_wp2
      go_loopw [24, 5] (fun i o wx => ∃ q : Nat, q ≤ 8 ∧ i = .int .i64 (q : Int) ∧ wx.ownsRow w.heap.size 5 1 o (bs.length + 1 + k + q) (Lib.byteCells (bs ++ 128 :: List.replicate k 0 ++ be (8 * n) q)) ∧ Below w.heap.size w wx) (fun i _ _ => 8 - (intOf i).toNat)
      case atStart => exact ⟨0, by omega, rfl, by simpa [be] using hown, hbel⟩
      case round =>
        clear hown hbel
        obtain ⟨q, hq, rfl, hown, hbel⟩ := hrel
        obtain ⟨ao6, cap6, rfl⟩ := owns_form hown
        have hk64 : k < 64 := by rw [HZ2.out]; omega
        by_cases hlt : q < 8
        · have h7 : (0 : Int) ≤ 8 * (7 - (q : Int)) := by omega
          have h8 : 8 * (7 - (q : Int)) ≤ 64 := by omega
          have h9 : (8 * (7 - (q : Int))).toNat = 8 * (7 - q) := by omega
          have hsz := hbel.size
          have g3 : bs.length + 1 + k + q + 1 ≤ maxLen := by unfold maxLen; omega
          have g4 : (bs.length + 1 + k + q + 1) * 1 ≤ 140737488355328 := by omega
          have i1 : (q : Int) < 8 := by omega
          go_wp2_with (refine wpList_append_any _ rfl (.tmp 27) (.tmp 34) _ _ rfl w.heap.size 5 i0 _ 1 1 Tryd.underlying22 hi0 hi1 hi2 hi3 rfl (by omega) _ _ _ rfl (hown.alloc _) _ 1 [_] rfl (Src.ofSlice _ Tryd.underlying22 ⟨wr.heap.size, 0, none⟩ 1 1 [_] (by rfl) (World.news_of_block (cs := #[_]) (t := 5) (fr := (0, 0)) (heap_alloc_new wr _)) (by simp [Value.oneCell'])) g3 g4 (by simp; omega) ?_; intro v5 w5 hown5 hgrow5 hat5)
          have hb5 : Below w.heap.size w w5 := (hbel.alloc hsz _).grown hgrow5 (by simp; omega) (fun j hj => (hown.lt j hj).1)
          have R : w5.ownsRow w.heap.size 5 1 v5 (bs.length + 1 + k + (q + 1)) (Lib.byteCells (bs ++ 128 :: List.replicate k 0 ++ be (8 * n) (q + 1))) := by
            rw [be_succ, ← List.append_assoc, Lib.byteCells_append]
            have e := byte_div (8 * n) (8 * (7 - q))
            push_cast at e
            rw [e] at hown5
            exact hown5
          exact ⟨⟨q + 1, by omega, by go_num, R, hb5⟩, by simp [intOf]; omega⟩
        · obtain rfl : q = 8 := by omega
          have R : wr.ownsRow w.heap.size 5 1 (.slice ao6 (bs.length + 1 + k + 8) cap6) (bs.length + 1 + Sha.zeros bs.length + 8) (Lib.byteCells (bs ++ tailB bs.length n)) := by
            rw [tailB, ← HZ.out, ← List.append_assoc]
            exact hown
          clear hown
          go_wp2
          go_ret
          exact ⟨_, rfl, R, hbel⟩

/-- The words that stand behind are the bytes that stand behind. -/
theorem tail_inn (l n : Nat) (h : l % 64 = n % 64) : (tailB l n).map Sha.inn = Sha.behind Sha.u32 n := by
  have hz : Sha.zeros l = Sha.zeros n := by unfold Sha.zeros; rw [h]
  have e : ∀ x, Sha.inn (UInt8.ofNat x) = Sha.u32.con (x % 256) := by
    intro x
    show UInt32.ofNat (UInt8.ofNat x).toNat = UInt32.ofNat ((x % 256) &&& 4294967295)
    rw [UInt8.toNat_ofNat', Sha.mask_mod]
    congr 1
    omega
  have hb : be (8 * n) 8 = [UInt8.ofNat (8 * n / 2 ^ 56), UInt8.ofNat (8 * n / 2 ^ 48), UInt8.ofNat (8 * n / 2 ^ 40), UInt8.ofNat (8 * n / 2 ^ 32), UInt8.ofNat (8 * n / 2 ^ 24), UInt8.ofNat (8 * n / 2 ^ 16), UInt8.ofNat (8 * n / 2 ^ 8), UInt8.ofNat (8 * n / 2 ^ 0)] := rfl
  unfold tailB Sha.behind
  rw [hz, hb]
  simp only [List.map_append, List.map_cons, List.map_nil, List.map_replicate, e, Nat.pow_zero, Nat.div_one]
  rfl

/-! ### A block of bytes -/
theorem blk8_at {w : World} {b : Nat} {l : List UInt8} {t : TypeId} (h : w.heap[b]? = some (.cells (Lib.byteCells l).toArray t (0, 0))) {i : Nat} {x : UInt8} (hx : l[i]? = some x) : w.cell? ⟨b, i, none⟩ = some (.int .u8 (x.toNat : Int)) :=
  blk_cell h (by simp [Lib.byteCells, hx])
theorem blk8_set {w : World} {b : Nat} {l : List UInt8} {t : TypeId} (h : w.heap[b]? = some (.cells (Lib.byteCells l).toArray t (0, 0))) (i : Nat) (x : UInt8) : (w.setCell ⟨b, i, none⟩ (.int .u8 (x.toNat : Int))).heap[b]? = some (.cells (Lib.byteCells (l.set i x)).toArray t (0, 0)) := by
  rw [blk_set h, List.setIfInBounds_toArray]
  simp [Lib.byteCells, List.map_set]
theorem byteOf_div (x : UInt32) (j : Nat) : (x.toNat : Int) / 2 ^ (24 - 8 * j) % 256 = ((Sha.byteOf x j).toNat : Int) := by
  rw [byte_div, Sha.byteOf, Nat.shiftRight_eq_div_pow]
theorem keyOf_at (s : Sha.St UInt32) {q j : Nat} {x : UInt32} (hx : s.list[q]? = some x) (hj : j < 4) (hq : q < 8) : (Sha.keyOf s)[4 * q + j]? = some (Sha.byteOf x j) := by
  rw [Sha.keyOf_get s (by omega), Sha.keyByte, show (4 * q + j) / 4 = q by omega, show (4 * q + j) % 4 = j by omega, List.getD_eq_getElem?_getD, hx]
  rfl
theorem Tryd.sizeKey : (Tryd.prog.info? 47).map (·.size) = some 32 := by kernel_rfl

set_option maxRecDepth 100000 in
set_option maxHeartbeats 1000000 in
theorem key_any (b : Nat) (s : Sha.St UInt32) (w : World) (hs : StAt w b s) :
    Calls Tryd.prog 33 #[.pointer (some ⟨b, 0, none⟩)] w fun e w' => e = .returned (.agg (Lib.byteCells (Sha.keyOf s)).toArray) ∧ Below w.heap.size w w' := by
  unfold StAt at hs
  have hbl := lt_of_block hs
  obtain ⟨K, hK⟩ : ∃ K, K = Sha.keyOf s := ⟨_, rfl⟩
  have hKl : K.length = 32 := by rw [hK, Sha.keyOf_length]
  have HK := hid hK
  rw [← hK]
  clear hK
  obtain ⟨Z, hZ⟩ : ∃ Z : List UInt8, Z = List.replicate 32 0 := ⟨_, rfl⟩
  have HZ := hid hZ
  clear hZ
  go_enter Tryd.func33, Tryd.ntmps33
  go_wp2
  go_loopw [8] (fun i wr => ∃ q : Nat, q ≤ 8 ∧ i = .int .i64 (q : Int) ∧ wr.heap[w.heap.size]? = some (.cells (Lib.byteCells Z).toArray 47 (0, 0)) ∧ wr.heap[w.heap.size + 1]? = some (.cells (Lib.byteCells (K.take (4 * q) ++ List.replicate (32 - 4 * q) 0)).toArray 47 (0, 0)) ∧ Below w.heap.size w wr) (fun i _ => 8 - (intOf i).toNat)
  case atStart =>
    refine ⟨0, by omega, rfl, ?_, ?_, (Below.refl _ _).alloc (Nat.le_refl _) _ |>.alloc (by simp) _⟩
    · rw [HZ.out]
      exact heap_alloc2_old w _ _
    · exact heap_alloc2_new w _ _
  case round =>
    obtain ⟨q, hq, rfl, hb0, hb1, hbel⟩ := hrel
    by_cases hlt : q < 8
    · obtain ⟨x, hx⟩ : ∃ x, s.list[q]? = some x := ⟨_, List.getElem?_eq_getElem (by rw [list8]; exact hlt)⟩
      have hc := blk32_at ((hbel.block b hbl).trans hs) hx
      have HX := hid hx
      have i1 : (q : Int) < 8 := by omega
      have i0 : (0 : Int) ≤ (q : Int) := Int.natCast_nonneg _
      clear hx
      go_wp2
      go_region
      clear hc
      go_wp2
      go_loopw [14] (fun i wx => ∃ j : Nat, j ≤ 4 ∧ i = .int .i64 (j : Int) ∧ wx.heap[w.heap.size]? = some (.cells (Lib.byteCells Z).toArray 47 (0, 0)) ∧ wx.heap[w.heap.size + 1]? = some (.cells (Lib.byteCells (K.take (4 * q + j) ++ List.replicate (32 - (4 * q + j)) 0)).toArray 47 (0, 0)) ∧ Below w.heap.size w wx) (fun i _ => 4 - (intOf i).toNat)
      case atStart => exact ⟨0, by omega, rfl, hb0, hb1, hbel.drew⟩
      case round =>
        clear hb0 hb1 hbel
        obtain ⟨j, hj, rfl, hb0, hb1, hbel⟩ := hrel
        by_cases hlt : j < 4
        · have hk : K[4 * q + j]? = some (Sha.byteOf x j) := by rw [HK.out]; exact keyOf_at s HX.out hlt (by omega)
          have hc0 : wr.cell? ⟨w.heap.size + 1, 4 * q + j, none⟩ = some (.int .u8 (((0 : UInt8).toNat : Nat) : Int)) := blk8_at hb1 (by rw [List.getElem?_append_right (by rw [List.length_take]; omega), List.length_take, List.getElem?_replicate, if_pos (by omega)])
          have hf0 := blk_free (i := 4 * q + j) hb1
          have hnew := blk8_set hb1 (4 * q + j) (Sha.byteOf x j)
          rw [fill_set K 0 32 (4 * q + j) hk (by omega)] at hnew
          have hold := (Below.heap_setCell wr ⟨w.heap.size + 1, 4 * q + j, none⟩ (.int .u8 ((Sha.byteOf x j).toNat : Int)) w.heap.size (by show ¬ w.heap.size = w.heap.size + 1; omega)).trans hb0
          have HN := hid hnew
          have HO := hid hold
          have j1 : (j : Int) < 4 := by omega
          have j0 : (0 : Int) ≤ (j : Int) := Int.natCast_nonneg _
          have h7 : (0 : Int) ≤ 24 - 8 * (j : Int) := by omega
          have h8 : 24 - 8 * (j : Int) ≤ 32 := by omega
          have h9 : (24 - 8 * (j : Int)).toNat = 24 - 8 * j := by omega
          clear hb0 hb1 hnew hold hk
          go_wp2
          rw [byteOf_div]
          exact ⟨⟨j + 1, by omega, by go_num, HO.out, HN.out, hbel.setCell (p := ⟨w.heap.size + 1, 4 * q + j, none⟩) (by show _ ≤ w.heap.size + 1; omega) _⟩, by simp [intOf]; omega⟩
        · obtain rfl : j = 4 := by omega
          rw [show ((4 : Nat) : Int) = 4 from rfl]
          clear hj hlt
          go_wp2
          exact ⟨⟨q + 1, by omega, by go_num, hb0, hb1, hbel⟩, by simp [intOf]; omega⟩
    · obtain rfl : q = 8 := by omega
      have hb2 : wr.heap[w.heap.size + 1]? = some (.cells (Lib.byteCells K).toArray 47 (0, 0)) := by
        rw [hb1, List.take_of_length_le (by omega), Nat.sub_self, List.replicate_zero, List.append_nil]
      have hKs : (Lib.byteCells K).toArray.size = 32 := by rw [List.size_toArray, Lib.byteCells_length, hKl]
      have hKi : (Tryd.prog.info? 47).map (·.size) = some (Lib.byteCells K).toArray.size := by rw [hKs, Tryd.sizeKey]
      have hZs : (Lib.byteCells Z).toArray.size = 32 := by rw [List.size_toArray, Lib.byteCells_length, HZ.out, List.length_replicate]
      have hK1 : (Lib.byteCells K).toArray.all (·.oneCell') = true := by
        rw [Array.all_eq_true_iff_forall_mem]
        intro v hv
        exact byte_one K v (by simpa using hv)
      rw [show ((8 : Nat) : Int) = 8 from rfl]
      clear hq hlt hb1
      go_wp2_with (first
        | refine wpList_load_row rfl 47 _ rfl (w.heap.size + 1) rfl _ _ _ _ hb2 Tryd.underlying47 rfl hKi ?_
        | (refine wpList_store_all rfl 47 _ _ rfl w.heap.size _ rfl rfl _ _ hb0 32 Tryd.sizeKey hKs hZs hK1 ?_; intro w9 hg9 hk9))
      have hb9 : Below w.heap.size w w9 := hbel.trans (hk9.below hbel.size fun k hk => by show ¬ k = _; omega)
      exact bodyPost_ret (results_cell_row rfl _ _ w.heap.size _ _ _ _ rfl hg9 Tryd.underlying47 rfl hKi) rfl ⟨rfl, hb9⟩
end Go.Proofs.YtjnhgoedhggocaaDoor
