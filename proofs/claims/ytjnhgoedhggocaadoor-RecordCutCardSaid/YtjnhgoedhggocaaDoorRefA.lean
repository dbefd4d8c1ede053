/-
  The document's own answer (rickref01): one block of SHA-256 (block), the rounds' words (firsts).
-/
import Derived.Test.YtjnhgoedhggocaaDoorDigB
namespace Go.Proofs.YtjnhgoedhggocaaDoor
open Go.RowKit

/-- The rounds' words, as words. -/
def FK : List UInt32 := Sha.firsts.map Sha.u32.con
theorem FK_length : FK.length = 64 := by simp [FK, Sha.firsts_length]
theorem FK_get {i c : Nat} (h : Sha.firsts[i]? = some c) : FK[i]? = some (Sha.u32.con c) := by simp [FK, h]

theorem turn_q (x : UInt32) (r : Nat) (h1 : 0 < r) (h2 : r < 32) (w : World) (n : Nat) :
    Calls Tryd.prog 41 #[.int .u32 x.toNat, .int .u64 r] (w.drewN n) fun e w' => e = .returned (.int .u32 (Sha.u32.rot r x).toNat) ∧ ∃ m, w' = w.drewN m :=
  Calls.quiet_of_same ((turn_any x r h1 h2 _).mono fun _ _ ⟨h, e⟩ => ⟨h, e.symm⟩)
theorem rq2 (x : UInt32) (w : World) (n : Nat) : Calls Tryd.prog 41 #[.int .u32 x.toNat, .int .u64 2] (w.drewN n) fun e w' => e = .returned (.int .u32 (Sha.u32.rot 2 x).toNat) ∧ ∃ m, w' = w.drewN m := turn_q x 2 (by decide) (by decide) w n
theorem rq6 (x : UInt32) (w : World) (n : Nat) : Calls Tryd.prog 41 #[.int .u32 x.toNat, .int .u64 6] (w.drewN n) fun e w' => e = .returned (.int .u32 (Sha.u32.rot 6 x).toNat) ∧ ∃ m, w' = w.drewN m := turn_q x 6 (by decide) (by decide) w n
theorem rq7 (x : UInt32) (w : World) (n : Nat) : Calls Tryd.prog 41 #[.int .u32 x.toNat, .int .u64 7] (w.drewN n) fun e w' => e = .returned (.int .u32 (Sha.u32.rot 7 x).toNat) ∧ ∃ m, w' = w.drewN m := turn_q x 7 (by decide) (by decide) w n
theorem rq11 (x : UInt32) (w : World) (n : Nat) : Calls Tryd.prog 41 #[.int .u32 x.toNat, .int .u64 11] (w.drewN n) fun e w' => e = .returned (.int .u32 (Sha.u32.rot 11 x).toNat) ∧ ∃ m, w' = w.drewN m := turn_q x 11 (by decide) (by decide) w n
theorem rq13 (x : UInt32) (w : World) (n : Nat) : Calls Tryd.prog 41 #[.int .u32 x.toNat, .int .u64 13] (w.drewN n) fun e w' => e = .returned (.int .u32 (Sha.u32.rot 13 x).toNat) ∧ ∃ m, w' = w.drewN m := turn_q x 13 (by decide) (by decide) w n
theorem rq17 (x : UInt32) (w : World) (n : Nat) : Calls Tryd.prog 41 #[.int .u32 x.toNat, .int .u64 17] (w.drewN n) fun e w' => e = .returned (.int .u32 (Sha.u32.rot 17 x).toNat) ∧ ∃ m, w' = w.drewN m := turn_q x 17 (by decide) (by decide) w n
theorem rq18 (x : UInt32) (w : World) (n : Nat) : Calls Tryd.prog 41 #[.int .u32 x.toNat, .int .u64 18] (w.drewN n) fun e w' => e = .returned (.int .u32 (Sha.u32.rot 18 x).toNat) ∧ ∃ m, w' = w.drewN m := turn_q x 18 (by decide) (by decide) w n
theorem rq19 (x : UInt32) (w : World) (n : Nat) : Calls Tryd.prog 41 #[.int .u32 x.toNat, .int .u64 19] (w.drewN n) fun e w' => e = .returned (.int .u32 (Sha.u32.rot 19 x).toNat) ∧ ∃ m, w' = w.drewN m := turn_q x 19 (by decide) (by decide) w n
theorem rq22 (x : UInt32) (w : World) (n : Nat) : Calls Tryd.prog 41 #[.int .u32 x.toNat, .int .u64 22] (w.drewN n) fun e w' => e = .returned (.int .u32 (Sha.u32.rot 22 x).toNat) ∧ ∃ m, w' = w.drewN m := turn_q x 22 (by decide) (by decide) w n
theorem rq25 (x : UInt32) (w : World) (n : Nat) : Calls Tryd.prog 41 #[.int .u32 x.toNat, .int .u64 25] (w.drewN n) fun e w' => e = .returned (.int .u32 (Sha.u32.rot 25 x).toNat) ∧ ∃ m, w' = w.drewN m := turn_q x 25 (by decide) (by decide) w n

theorem wadd7 (a b c d e f g : UInt32) : ((a.toNat : Int) + (b.toNat : Int) + (c.toNat : Int) + (d.toNat : Int) + (e.toNat : Int) + (f.toNat : Int) + (g.toNat : Int)) % 4294967296 = ((Sha.u32.add (Sha.u32.add (Sha.u32.add (Sha.u32.add (Sha.u32.add (Sha.u32.add a b) c) d) e) f) g).toNat : Int) := by
  rw [Sha.u32_add, Sha.u32_add, Sha.u32_add, Sha.u32_add, Sha.u32_add, Sha.u32_add, Sha.mask_mod, Sha.mask_mod, Sha.mask_mod, Sha.mask_mod, Sha.mask_mod, Sha.mask_mod]
  omega
theorem wadd15 (a b c d e f : UInt32) : ((a.toNat : Int) + ((b.toNat : Int) + (c.toNat : Int) + (d.toNat : Int) + (e.toNat : Int) + (f.toNat : Int))) % 4294967296 = ((Sha.u32.add a (Sha.u32.add (Sha.u32.add (Sha.u32.add (Sha.u32.add b c) d) e) f)).toNat : Int) := by
  rw [Sha.u32_add, Sha.u32_add, Sha.u32_add, Sha.u32_add, Sha.u32_add, Sha.mask_mod, Sha.mask_mod, Sha.mask_mod, Sha.mask_mod, Sha.mask_mod]
  omega
theorem heap4 (w : World) (A B C D : Obj) : ((((w.alloc A).alloc B).alloc C).alloc D).heap[w.heap.size]? = some A ∧ ((((w.alloc A).alloc B).alloc C).alloc D).heap[w.heap.size + 1]? = some B ∧
    ((((w.alloc A).alloc B).alloc C).alloc D).heap[w.heap.size + 1 + 1]? = some C ∧ ((((w.alloc A).alloc B).alloc C).alloc D).heap[w.heap.size + 1 + 1 + 1]? = some D := by
  have s1 : (w.alloc A).heap.size = w.heap.size + 1 := World.size_alloc ..
  have s2 : ((w.alloc A).alloc B).heap.size = w.heap.size + 1 + 1 := by rw [World.size_alloc, s1]
  have s3 : (((w.alloc A).alloc B).alloc C).heap.size = w.heap.size + 1 + 1 + 1 := by rw [World.size_alloc, s2]
  refine ⟨?_, ?_, ?_, ?_⟩
  · rw [Below.heap_alloc _ _ _ (by omega), Below.heap_alloc _ _ _ (by omega), Below.heap_alloc _ _ _ (by omega)]
    exact heap_alloc_new w A
  · rw [Below.heap_alloc _ _ _ (by omega), Below.heap_alloc _ _ _ (by omega), ← s1]
    exact heap_alloc_new _ B
  · rw [Below.heap_alloc _ _ _ (by omega), ← s2]
    exact heap_alloc_new _ C
  · rw [← s3]
    exact heap_alloc_new _ D

set_option maxRecDepth 100000 in
set_option maxHeartbeats 8000000 in
theorem rblock_any (s : Sha.St UInt32) (v : Value) (bs : List UInt8) (hl : bs.length = 64) (w : World) (hv : Sl w v (Lib.byteCells bs)) :
    Calls Tryd.prog 35 #[.agg (s.list.map W32).toArray, v, .agg (FK.map W32).toArray] w fun e w' => e = .returned (.agg ((Sha.block Sha.u32 s (bs.map Sha.inn)).list.map W32).toArray) ∧ Below w.heap.size w w' := by
  obtain ⟨ao, cap, rfl⟩ := hv.form
  rw [Lib.byteCells_length] at hv ⊢
  rw [hl] at hv ⊢
  obtain ⟨a, _, rfl, _, _⟩ := hv.byteAt' (i := 0) (by omega)
  obtain ⟨L, hL⟩ : ∃ L, L = Sha.words Sha.u32 (bs.map Sha.inn) := ⟨_, rfl⟩
  have hLl : L.length = 16 := by rw [hL]; exact Sha.words_length _ 16 _ (by rw [List.length_map, hl])
  have HL := hid hL
  clear hL
  obtain ⟨Z, hZ⟩ : ∃ Z : List UInt32, Z = List.replicate 8 0 := ⟨_, rfl⟩
  have HZ := hid hZ
  clear hZ
  go_enter Tryd.func35, Tryd.ntmps35
  go_wp2
  go_loopw [8] (fun i wr => ∃ k : Nat, k ≤ 16 ∧ i = .int .i64 (k : Int) ∧ wr.heap[w.heap.size]? = some (.cells (s.list.map W32).toArray 58 (0, 0)) ∧ wr.heap[w.heap.size + 1]? = some (.cells (FK.map W32).toArray 64 (0, 0)) ∧ wr.heap[w.heap.size + 1 + 1]? = some (.cells (Z.map W32).toArray 58 (0, 0)) ∧ wr.heap[w.heap.size + 1 + 1 + 1]? = some (.cells ((L.take k ++ List.replicate (64 - k) 0).map W32).toArray 64 (0, 0)) ∧ Below w.heap.size w wr) (fun i _ => 16 - (intOf i).toNat)
  case atStart =>
    refine ⟨0, by omega, rfl, ?_, ?_, ?_, ?_, (((Below.refl _ _).alloc (Nat.le_refl _) _).alloc (by simp) _ |>.alloc (by simp; omega) _).alloc (by simp; omega) _⟩
    · exact (heap4 w _ _ _ _).1
    · exact (heap4 w _ _ _ _).2.1
    · rw [HZ.out]
      exact (heap4 w _ _ _ _).2.2.1
    · exact (heap4 w _ _ _ _).2.2.2
  case round =>
    obtain ⟨k, hk, rfl, hb0, hb1, hb2, hb3, hbel⟩ := hrel
    by_cases hlt : k < 16
    · have hs := (hv.old hbel)
      obtain ⟨b0, hc0, hg0⟩ := hs.byteIn (i := 4 * k) (by omega)
      obtain ⟨b1, hc1, hg1⟩ := hs.byteIn (i := 4 * k + 1) (by omega)
      obtain ⟨b2, hc2, hg2⟩ := hs.byteIn (i := 4 * k + 2) (by omega)
      obtain ⟨b3, hc3, hg3⟩ := hs.byteIn (i := 4 * k + 3) (by omega)
      rw [← Sha.inn_toNat] at hc0 hc1 hc2 hc3
      rw [addS _ _ (by omega)] at hc1 hc2 hc3
      have i1 : (k : Int) < 16 := by omega
      have i0 : (0 : Int) ≤ (k : Int) := Int.natCast_nonneg _
      have hG : L[k]? = some (Sha.word Sha.u32 (Sha.inn b0) (Sha.inn b1) (Sha.inn b2) (Sha.inn b3)) := by
        rw [HL.out]
        exact Sha.words_get Sha.u32 k _ (by rw [List.getElem?_map, hg0]; rfl) (by rw [List.getElem?_map, hg1]; rfl) (by rw [List.getElem?_map, hg2]; rfl) (by rw [List.getElem?_map, hg3]; rfl)
      have hcs : wr.cell? ⟨w.heap.size + 1 + 1 + 1, k, none⟩ = some (.int .u32 (((0 : UInt32).toNat : Nat) : Int)) := blk32_at hb3 (by rw [List.getElem?_append_right (by rw [List.length_take]; omega), List.length_take, List.getElem?_replicate, if_pos (by omega)])
      have hfs := blk_free (i := k) hb3
      have hnew := blk32_set hb3 k (Sha.word Sha.u32 (Sha.inn b0) (Sha.inn b1) (Sha.inn b2) (Sha.inn b3))
      rw [fill_set L 0 64 k hG (by omega)] at hnew
      have hfar : ∀ j, j ≠ w.heap.size + 1 + 1 + 1 → (wr.setCell ⟨w.heap.size + 1 + 1 + 1, k, none⟩ (.int .u32 ((Sha.word Sha.u32 (Sha.inn b0) (Sha.inn b1) (Sha.inn b2) (Sha.inn b3)).toNat : Int))).heap[j]? = wr.heap[j]? := fun j hj => Below.heap_setCell wr ⟨w.heap.size + 1 + 1 + 1, k, none⟩ _ j (by show ¬ j = _; exact hj)
      have H0 := hid ((hfar w.heap.size (by omega)).trans hb0)
      have H1 := hid ((hfar (w.heap.size + 1) (by omega)).trans hb1)
      have H2 := hid ((hfar (w.heap.size + 1 + 1) (by omega)).trans hb2)
      have HN := hid hnew
      clear hg0 hg1 hg2 hg3 hb3 hb2 hb1 hb0 hnew hfar hG hs
      go_wp2
      go_region
      rw [wword]
      go_wp2
      go_roundw
      case rel => exact ⟨k + 1, by omega, by go_num, H0.out, H1.out, H2.out, HN.out, (hbel.setCell (p := ⟨w.heap.size + 1 + 1 + 1, k, none⟩) (by show _ ≤ w.heap.size + 1 + 1 + 1; omega) _).drew⟩
      case measure => simp [intOf]; omega
    · obtain rfl : k = 16 := by omega
      clear hk hlt
      rw [List.take_of_length_le (by omega)] at hb3
      rw [show ((16 : Nat) : Int) = 16 from rfl]
      go_wp2
      go_loopw [9] (fun i wr => ∃ k : Nat, k ≤ 48 ∧ i = .int .i64 ((k : Int) + 16) ∧ wr.heap[w.heap.size]? = some (.cells (s.list.map W32).toArray 58 (0, 0)) ∧ wr.heap[w.heap.size + 1]? = some (.cells (FK.map W32).toArray 64 (0, 0)) ∧ wr.heap[w.heap.size + 1 + 1]? = some (.cells (Z.map W32).toArray 58 (0, 0)) ∧ wr.heap[w.heap.size + 1 + 1 + 1]? = some (.cells (((Sha.grow Sha.u32 k L.reverse).reverse ++ List.replicate (48 - k) 0).map W32).toArray 64 (0, 0)) ∧ Below w.heap.size w wr) (fun i _ => 64 - (intOf i).toNat)
      case atStart => exact ⟨0, by omega, rfl, hb0, hb1, hb2, by simpa [Sha.grow] using hb3, hbel⟩
      case round =>
        obtain ⟨k, hk, rfl, hb0, hb1, hb2, hb3, hbel⟩ := hrel
        by_cases hlt : k < 48
        · have i1 : (k : Int) < 48 := by omega
          have i0 : (0 : Int) ≤ (k : Int) := Int.natCast_nonneg _
          have hGl := Sha.grow_length Sha.u32 k L.reverse
          rw [List.length_reverse, hLl] at hGl
          have h15 := blk32_at hb3 (rev_get _ (Sha.u32.con 0) (k + 1) 14 (by omega) _)
          obtain ⟨x15, e15⟩ : ∃ x, x = (Sha.grow Sha.u32 k L.reverse).getD 14 (Sha.u32.con 0) := ⟨_, rfl⟩
          rw [← e15] at h15
          have H0 := hid hb0
          have H1 := hid hb1
          have H2 := hid hb2
          have H3 := hid hb3
          have E15 := hid e15
          clear hb0 hb1 hb2 hb3 e15
          go_wp2
          go_quiet (first
            | with_reducible exact rq7 x15 _ _
            | with_reducible exact rq18 x15 _ _)
          obtain ⟨wq, hq, hcq⟩ : ∃ wq, wq = wr.drewN nq ∧ Calm wr wq := ⟨_, rfl, (Calm.refl _).drewN _⟩
          rw [← hq]
          clear hq h15
          have hb3 := H3.out
          rw [← hcq.heap] at hb3
          have h2 := blk32_at hb3 (rev_get _ (Sha.u32.con 0) (k + 14) 1 (by omega) _)
          obtain ⟨x2, e2⟩ : ∃ x, x = (Sha.grow Sha.u32 k L.reverse).getD 1 (Sha.u32.con 0) := ⟨_, rfl⟩
          rw [← e2] at h2
          have E2 := hid e2
          clear e2 hb3
          go_wp2
          go_quiet (first
            | with_reducible exact rq17 x2 _ _
            | with_reducible exact rq19 x2 _ _)
          obtain ⟨wp, hp, hcp⟩ : ∃ wp, wp = wq.drewN nq ∧ Calm wr wp := ⟨_, rfl, hcq.drewN _⟩
          rw [← hp]
          clear hp h2
          have hb0 := H0.out
          have hb1 := H1.out
          have hb2 := H2.out
          have hb3 := H3.out
          rw [← hcp.heap] at hb0 hb1 hb2 hb3
          have hbel' : Below w.heap.size w wp := hbel.trans ((hcp.keep (fun _ => False)).below hbel.size fun _ _ h => h)
          clear H0 H1 H2 H3 hbel hcp hcq
          have h16 := blk32_at hb3 (rev_get _ (Sha.u32.con 0) k 15 (by omega) _)
          have h7 := blk32_at hb3 (rev_get _ (Sha.u32.con 0) (k + 9) 6 (by omega) _)
          have hcs : wp.cell? ⟨w.heap.size + 1 + 1 + 1, k + 16, none⟩ = some (.int .u32 (((0 : UInt32).toNat : Nat) : Int)) := blk32_at hb3 (by rw [List.getElem?_append_right (by rw [List.length_reverse]; omega), List.length_reverse, List.getElem?_replicate, if_pos (by omega)])
          have hfs := blk_free (i := k + 16) hb3
          have hnew := blk32_set hb3 (k + 16) (Sha.nextW Sha.u32 (Sha.grow Sha.u32 k L.reverse))
          rw [show 48 - k = (48 - (k + 1)) + 1 by omega, rev_set _ _ _ _ _ hGl, ← Sha.grow_succ] at hnew
          have hfar : ∀ j, j ≠ w.heap.size + 1 + 1 + 1 → (wp.setCell ⟨w.heap.size + 1 + 1 + 1, k + 16, none⟩ (.int .u32 ((Sha.nextW Sha.u32 (Sha.grow Sha.u32 k L.reverse)).toNat : Int))).heap[j]? = wp.heap[j]? := fun j hj => Below.heap_setCell wp ⟨w.heap.size + 1 + 1 + 1, k + 16, none⟩ _ j (by show ¬ j = _; exact hj)
          have H0 := hid ((hfar w.heap.size (by omega)).trans hb0)
          have H1 := hid ((hfar (w.heap.size + 1) (by omega)).trans hb1)
          have H2 := hid ((hfar (w.heap.size + 1 + 1) (by omega)).trans hb2)
          have HN := hid hnew
          clear hb3 hb2 hb1 hb0 hnew hfar
          obtain ⟨x16, e16⟩ : ∃ x, x = (Sha.grow Sha.u32 k L.reverse).getD 15 (Sha.u32.con 0) := ⟨_, rfl⟩
          obtain ⟨x7, e7⟩ : ∃ x, x = (Sha.grow Sha.u32 k L.reverse).getD 6 (Sha.u32.con 0) := ⟨_, rfl⟩
          rw [← e16] at h16
          rw [← e7] at h7
          have HE := hid (show Sha.nextW Sha.u32 (Sha.grow Sha.u32 k L.reverse) = Sha.u32.add (Sha.u32.add (Sha.u32.add x16 (Sha.lit0 Sha.u32 x15)) x7) (Sha.lit1 Sha.u32 x2) by rw [e16, E15.out, e7, E2.out]; rfl)
          clear e16 e7 hGl
          go_wp2
          go_region
          rw [wlit0, wlit1, wadd4, ← HE.out]
          go_wp2
          go_roundw
          case rel => exact ⟨k + 1, by omega, by go_num, H0.out, H1.out, H2.out, HN.out, (hbel'.setCell (p := ⟨w.heap.size + 1 + 1 + 1, k + 16, none⟩) (by show _ ≤ w.heap.size + 1 + 1 + 1; omega) _).drew⟩
          case measure => simp [intOf]; omega
        · obtain rfl : k = 48 := by omega
          rw [Nat.sub_self, List.replicate_zero, List.append_nil] at hb3
          obtain ⟨G, hG⟩ : ∃ G, G = (Sha.grow Sha.u32 48 L.reverse).reverse := ⟨_, rfl⟩
          have hGl : G.length = 64 := by rw [hG, List.length_reverse, Sha.grow_length, List.length_reverse, hLl]
          rw [← hG] at hb3
          have HG := hid hG
          have hsi : (Tryd.prog.info? 58).map (·.size) = some (s.list.map W32).toArray.size := by rw [cells32_size, list8, Tryd.sizeW8]
          rw [show (((48 : Nat) : Int) + 16) = 64 from rfl]
          clear hlt hk hG hv
          go_wp2_with (first
            | refine wpList_load_row rfl 58 _ rfl w.heap.size rfl _ _ _ _ hb0 Tryd.underlying58 rfl hsi ?_
            | (refine wpList_store_all rfl 58 _ _ rfl wr.heap.size (s.list.map W32).toArray rfl rfl _ _ (heap_alloc_new wr _) 8 Tryd.sizeW8 (by rw [cells32_size, list8]) rfl (cells32_one _) ?_; intro w4 hg4 hk4))
          have hz3 := lt_of_block hb3
          have hz0 := hbel.size
          have hkeep : ∀ j, j < wr.heap.size → w4.heap[j]? = wr.heap[j]? := fun j hj => (hk4.block j (by simp; omega) (by show ¬ j = _; omega)).trans (Below.heap_alloc _ _ _ hj)
          have hb0' := (hkeep w.heap.size (by omega)).trans hb0
          have hb1' := (hkeep (w.heap.size + 1) (by omega)).trans hb1
          have hb2' := (hkeep (w.heap.size + 1 + 1) (by omega)).trans hb2
          have hb3' := (hkeep (w.heap.size + 1 + 1 + 1) (by omega)).trans hb3
          have hbw4 : Below w.heap.size w w4 := (hbel.alloc (by omega) _).trans (hk4.below (by simp; omega) fun j hj => by show ¬ j = _; omega)
          obtain ⟨sb, hsb⟩ : ∃ sb, sb = wr.heap.size := ⟨_, rfl⟩
          rw [← hsb] at hg4 ⊢
          have hsb3 : w.heap.size + 1 + 1 + 1 < sb := by omega
          clear hkeep hk4 hb0 hb1 hb2 hb3 hbel hsb hz3 hz0 hsi
          go_loopw [13] (fun i wx => ∃ k : Nat, k ≤ 64 ∧ i = .int .i64 (k : Int) ∧ ∃ st : Sha.St UInt32, st = Sha.rounds Sha.u32 s (Sha.firsts.take k) (G.take k) ∧ wx.heap[w.heap.size]? = some (.cells (s.list.map W32).toArray 58 (0, 0)) ∧ wx.heap[w.heap.size + 1]? = some (.cells (FK.map W32).toArray 64 (0, 0)) ∧ wx.heap[w.heap.size + 1 + 1]? = some (.cells (Z.map W32).toArray 58 (0, 0)) ∧ wx.heap[w.heap.size + 1 + 1 + 1]? = some (.cells (G.map W32).toArray 64 (0, 0)) ∧ wx.heap[sb]? = some (.cells (st.list.map W32).toArray 58 (0, 0)) ∧ Below w.heap.size w wx) (fun i _ => 64 - (intOf i).toNat)
          case atStart => exact ⟨0, by omega, rfl, s, rfl, hb0', hb1', hb2', hb3', hg4, hbw4⟩
          case round =>
            clear hb0' hb1' hb2' hb3' hg4 hbw4
            obtain ⟨k, hk, rfl, st, hst, hb0, hb1, hb2, hb3, hb4, hbel⟩ := hrel
            by_cases hlt : k < 64
            · obtain ⟨c, hc⟩ : ∃ c, Sha.firsts[k]? = some c := ⟨_, List.getElem?_eq_getElem (by rw [Sha.firsts_length]; exact hlt)⟩
              obtain ⟨x, hx⟩ : ∃ x, G[k]? = some x := ⟨_, List.getElem?_eq_getElem (by rw [hGl]; exact hlt)⟩
              have HST := hid (show Sha.rounds Sha.u32 s (Sha.firsts.take (k + 1)) (G.take (k + 1)) = Sha.round Sha.u32 st c x by
                rw [take_snoc hc, take_snoc hx, Sha.rounds_snoc Sha.u32 (by rw [List.length_take, List.length_take, Sha.firsts_length, hGl]), hst])
              have HCC := hid (blk32_at hb1 (FK_get hc))
              have HXX := hid (blk32_at hb3 hx)
              have i1 : (k : Int) < 64 := by omega
              have i0 : (0 : Int) ≤ (k : Int) := Int.natCast_nonneg _
              have hsg : ¬ IntKind.u32.signed = true := by decide
              have H0 := hid hb0
              have H1 := hid hb1
              have H2 := hid hb2
              have H3 := hid hb3
              have H4 := hid hb4
              clear hc hx hst hb0 hb1 hb2 hb3 hb4
              have c4 : wr.cell? ⟨sb, 4, none⟩ = some (.int .u32 (st.e.toNat : Int)) := blk32_at H4.out rfl
              go_wp2
              go_quiet (first
                | with_reducible exact rq6 st.e _ _
                | with_reducible exact rq11 st.e _ _
                | with_reducible exact rq25 st.e _ _)
              clear c4
              obtain ⟨wa, hq, cwa⟩ : ∃ wq, wq = wr.drewN nq ∧ Calm wr wq := ⟨_, rfl, (Calm.refl _).drewN _⟩
              rw [← hq]
              clear hq
              have c4 : wa.cell? ⟨sb, 4, none⟩ = some (.int .u32 (st.e.toNat : Int)) := cwa.cell (blk32_at H4.out rfl)
              have c5 : wa.cell? ⟨sb, 5, none⟩ = some (.int .u32 (st.f.toNat : Int)) := cwa.cell (blk32_at H4.out rfl)
              have c6 : wa.cell? ⟨sb, 6, none⟩ = some (.int .u32 (st.g.toNat : Int)) := cwa.cell (blk32_at H4.out rfl)
              have c7 : wa.cell? ⟨sb, 7, none⟩ = some (.int .u32 (st.h.toNat : Int)) := cwa.cell (blk32_at H4.out rfl)
              have ck := cwa.cell HCC.out
              have cx := cwa.cell HXX.out
              go_wp2
              go_quiet (fail)
              clear c4 c5 c6 c7 ck cx
              obtain ⟨wb, hq, cwb⟩ : ∃ wq, wq = wa.drewN nq ∧ Calm wr wq := ⟨_, rfl, cwa.drewN _⟩
              rw [← hq]
              clear hq
              have c0 : wb.cell? ⟨sb, 0, none⟩ = some (.int .u32 (st.a.toNat : Int)) := cwb.cell (blk32_at H4.out rfl)
              go_wp2
              go_quiet (first
                | with_reducible exact rq2 st.a _ _
                | with_reducible exact rq13 st.a _ _
                | with_reducible exact rq22 st.a _ _)
              clear c0
              obtain ⟨wc, hq, cwc⟩ : ∃ wq, wq = wb.drewN nq ∧ Calm wr wq := ⟨_, rfl, cwb.drewN _⟩
              rw [← hq]
              clear hq
              have c0 : wc.cell? ⟨sb, 0, none⟩ = some (.int .u32 (st.a.toNat : Int)) := cwc.cell (blk32_at H4.out rfl)
              have c1 : wc.cell? ⟨sb, 1, none⟩ = some (.int .u32 (st.b.toNat : Int)) := cwc.cell (blk32_at H4.out rfl)
              have c2 : wc.cell? ⟨sb, 2, none⟩ = some (.int .u32 (st.c.toNat : Int)) := cwc.cell (blk32_at H4.out rfl)
              have c3 : wc.cell? ⟨sb, 3, none⟩ = some (.int .u32 (st.d.toNat : Int)) := cwc.cell (blk32_at H4.out rfl)
              have c4 : wc.cell? ⟨sb, 4, none⟩ = some (.int .u32 (st.e.toNat : Int)) := cwc.cell (blk32_at H4.out rfl)
              have c5 : wc.cell? ⟨sb, 5, none⟩ = some (.int .u32 (st.f.toNat : Int)) := cwc.cell (blk32_at H4.out rfl)
              have c6 : wc.cell? ⟨sb, 6, none⟩ = some (.int .u32 (st.g.toNat : Int)) := cwc.cell (blk32_at H4.out rfl)
              have c7 : wc.cell? ⟨sb, 7, none⟩ = some (.int .u32 (st.h.toNat : Int)) := cwc.cell (blk32_at H4.out rfl)
              have hb4 := (show wc.heap[sb]? = wr.heap[sb]? by rw [cwc.heap]).trans H4.out
              go_wp2_with (refine wpList_store_all rfl 58 _ _ rfl sb _ rfl rfl _ _ hb4 8 Tryd.sizeW8 rfl (by rw [cells32_size, list8]) (by simp [Value.oneCell']) ?_; intro w5 hg5 hk5)
              rw [wbig1, wpick, wbig0, wmost, wadd7, wadd15] at hg5
              have hfar : ∀ j, j < sb → j < wr.heap.size → w5.heap[j]? = wr.heap[j]? := fun j hj hlt' => (hk5.block j (by rw [cwc.heap]; exact hlt') (by show ¬ j = _; omega)).trans (by rw [cwc.heap])
              have e0 := (hfar _ (by omega) (lt_of_block H0.out)).trans H0.out
              have e1 := (hfar _ (by omega) (lt_of_block H1.out)).trans H1.out
              have e2 := (hfar _ (by omega) (lt_of_block H2.out)).trans H2.out
              have e3 := (hfar _ (by omega) (lt_of_block H3.out)).trans H3.out
              have hbelc : Below w.heap.size w wc := hbel.trans ((cwc.keep (fun _ => False)).below hbel.size fun _ _ h => h)
              have hbel5 : Below w.heap.size w w5 := hbelc.trans (hk5.below hbelc.size fun j hj => by show ¬ j = _; omega)
              exact ⟨⟨k + 1, by omega, by go_num, Sha.round Sha.u32 st c x, HST.out.symm, e0, e1, e2, e3, hg5, hbel5⟩, by simp [intOf]; omega⟩
            · obtain rfl : k = 64 := by omega
              rw [List.take_of_length_le (by rw [Sha.firsts_length]; exact Nat.le_refl _), List.take_of_length_le (by omega)] at hst
              have HST := hid hst
              rw [show ((64 : Nat) : Int) = 64 from rfl]
              clear hst hlt hk hb1 hb3
              go_wp2
              go_loopw [19] (fun i wx => ∃ k : Nat, k ≤ 8 ∧ i = .int .i64 (k : Int) ∧ wx.heap[w.heap.size]? = some (.cells (((Sha.sumSt Sha.u32 s st).list.take k ++ s.list.drop k).map W32).toArray 58 (0, 0)) ∧ wx.heap[w.heap.size + 1 + 1]? = some (.cells (Z.map W32).toArray 58 (0, 0)) ∧ wx.heap[sb]? = some (.cells (st.list.map W32).toArray 58 (0, 0)) ∧ Below w.heap.size w wx) (fun i _ => 8 - (intOf i).toNat)
              case atStart => exact ⟨0, by omega, rfl, hb0, hb2, hb4, hbel⟩
              case round =>
                clear hb0 hb2 hb4 hbel
                obtain ⟨k, hk, rfl, hb0, hb2, hb4, hbel⟩ := hrel
                by_cases hlt : k < 8
                · obtain ⟨y0, hy0⟩ : ∃ x, s.list[k]? = some x := ⟨_, List.getElem?_eq_getElem (by rw [list8]; exact hlt)⟩
                  obtain ⟨y1, hy1⟩ : ∃ x, st.list[k]? = some x := ⟨_, List.getElem?_eq_getElem (by rw [list8]; exact hlt)⟩
                  have hy2 : (Sha.sumSt Sha.u32 s st).list[k]? = some (Sha.u32.add y0 y1) := by rw [sumSt_list, List.getElem?_zipWith, hy0, hy1]
                  have c0 := blk32_at hb0 ((over_get _ _ k (by rw [list8]; omega)).trans hy0)
                  have c1 := blk32_at hb4 hy1
                  have hf0 := blk_free (i := k) hb0
                  have hnew := blk32_set hb0 k (Sha.u32.add y0 y1)
                  rw [over_set _ _ hy2 (by rw [list8]; exact hlt)] at hnew
                  have hfar : ∀ j, j ≠ w.heap.size → (wr.setCell ⟨w.heap.size, k, none⟩ (.int .u32 ((Sha.u32.add y0 y1).toNat : Int))).heap[j]? = wr.heap[j]? := fun j hj => Below.heap_setCell wr ⟨w.heap.size, k, none⟩ _ j (by show ¬ j = _; exact hj)
                  have H2 := hid ((hfar (w.heap.size + 1 + 1) (by omega)).trans hb2)
                  have H4 := hid ((hfar sb (by omega)).trans hb4)
                  have HN := hid hnew
                  have i1 : (k : Int) < 8 := by omega
                  have i0 : (0 : Int) ≤ (k : Int) := Int.natCast_nonneg _
                  clear hb0 hb2 hb4 hnew hfar hy0 hy1 hy2
                  go_wp2
                  go_region
                  rw [wadd]
                  go_wp2
                  go_roundw
                  case rel => exact ⟨k + 1, by omega, by go_num, HN.out, H2.out, H4.out, (hbel.setCell (p := ⟨w.heap.size, k, none⟩) (Nat.le_refl _) _).drew⟩
                  case measure => simp [intOf]; omega
                · obtain rfl : k = 8 := by omega
                  rw [List.take_of_length_le (by rw [list8]; exact Nat.le_refl _), List.drop_of_length_le (by rw [list8]; exact Nat.le_refl _), List.append_nil] at hb0
                  obtain ⟨R, hR⟩ : ∃ R : Sha.St UInt32, R = Sha.sumSt Sha.u32 s st := ⟨_, rfl⟩
                  rw [← hR] at hb0
                  have hRi : (Tryd.prog.info? 58).map (·.size) = some (R.list.map W32).toArray.size := by rw [cells32_size, list8, Tryd.sizeW8]
                  have hfin : R = Sha.block Sha.u32 s (bs.map Sha.inn) := by
                    rw [hR, HST.out, HG.out, HL.out]
                    rfl
                  have HF := hid hfin
                  have hzz := hbel.size
                  rw [show ((8 : Nat) : Int) = 8 from rfl]
                  clear hR hfin hlt hk
                  go_wp2_with (first
                    | refine wpList_load_row rfl 58 _ rfl w.heap.size rfl _ _ _ _ hb0 Tryd.underlying58 rfl hRi ?_
                    | (refine wpList_store_all rfl 58 _ _ rfl (w.heap.size + 1 + 1) (R.list.map W32).toArray rfl rfl _ _ hb2 8 Tryd.sizeW8 (by rw [cells32_size, list8]) (by rw [cells32_size, HZ.out, List.length_replicate]) (cells32_one _) ?_; intro w9 hg9 hk9))
                  have hb9 : Below w.heap.size w w9 := hbel.trans (hk9.below hzz fun j hj => by show ¬ j = _; omega)
                  exact bodyPost_ret (results_cell_row rfl _ _ (w.heap.size + 1 + 1) _ _ _ _ rfl hg9 Tryd.underlying58 rfl hRi) rfl ⟨by rw [HF.out], hb9⟩

theorem wpList_build_to {P : Program} {ops : Array Oper} {rest : List Oper} {o : Oper} {a : Act} {w : World} {Q : Exit → Act → World → Prop} (hg : o.guard = none) (t : TypeId) (parts : Array (Nat × Operand)) (ho : o.op = .build t parts)
    (cells : Array Value) (hf : P.built t (parts.map fun (i, x) => (i, a.eval x)).toList = some cells)
    (h : wpList P ops Q rest (a.put o.dst (.agg cells)) w) : wpList P ops Q (o :: rest) a w :=
  wpList_build hg t parts ho (by rw [hf]; rfl) (by rw [hf]; exact h)

set_option maxRecDepth 100000 in
set_option maxHeartbeats 1000000 in
theorem firsts_any (w : World) :
    Calls Tryd.prog 34 #[] w fun e w' => e = .returned (.agg (FK.map W32).toArray) ∧ Below w.heap.size w w' := by
  go_enter Tryd.func34, Tryd.ntmps34
  go_wp2_with (first
    | refine wpList_build_to rfl 64 _ rfl (FK.map W32).toArray (by kernel_rfl) ?_
    | (refine wpList_store_all rfl 64 _ _ rfl w.heap.size (FK.map W32).toArray rfl rfl _ _ (heap_alloc_new w _) 64 Tryd.sizeW64 (by rw [cells32_size, FK_length]) rfl (cells32_one _) ?_; intro w9 hg9 hk9))
  have hb9 : Below w.heap.size w w9 := ((Below.refl _ _).alloc (Nat.le_refl _) _).trans (hk9.below (by simp) fun j hj => by show ¬ j = _; omega)
  have hFi : (Tryd.prog.info? 64).map (·.size) = some (FK.map W32).toArray.size := by rw [cells32_size, FK_length, Tryd.sizeW64]
  exact bodyPost_ret (results_cell_row rfl _ _ w.heap.size _ _ _ _ rfl hg9 Tryd.underlying64 rfl hFi) rfl ⟨rfl, hb9⟩
end Go.Proofs.YtjnhgoedhggocaaDoor
